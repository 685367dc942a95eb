/- Laws that the last text leans on. -/
import Derived.Test.YtaapnkoooofalaaGreatQ15
import Derived.RangeFuncBound
import Derived.RangeFuncCalls
import Derived.TacticsInMore
import Derived.OwnWalkIn

set_option maxRecDepth 20000
set_option maxHeartbeats 1000000
namespace Go.Proofs.YtaapnkoooofalaaGreat
namespace Tr
open Go
abbrev Rst:=List ByteArray × List ByteArray
def heads (left:List Rst):List ByteArray:=left.flatMap fun q=>q.1.take 1++q.2.take 1
def bh1 (x:ByteArray) (q:Rst):List Rst:=(if q.2.head?=some x then [(q.1,q.2.tail)] else [])++(if q.1.head?=some x then [(q.1.tail,q.2)] else [])
def bh (x:ByteArray) (left:List Rst):List Rst:=left.flatMap (bh1 x)
def Good (n:Nat) (left:List Rst) (L:List (List ByteArray)):Prop:=
  L.Pairwise (fun r s=>row r s<0)∧∀ r,r∈L↔∃ q∈left,r∈mx n q.1 q.2
def Even (n:Nat) (left:List Rst):Prop:=∀ q∈left,q.1.length+q.2.length=n
def UpS (l:List ByteArray):Prop:=l.Pairwise fun x y=>ls x y=true
theorem y3e:∀ (n m:Nat) (a b:List ByteArray),a.length+b.length≤n→a.length+b.length≤m→mx n a b=mx m a b
  | n,m,[],b,_,_=>by rw [z3i,z3i]
  | n,m,x::a,[],_,_=>by rw [z2i,z2i]
  | 0,m,x::a,y::b,h,_=>by simp at h
  | n+1,0,x::a,y::b,_,h=>by simp at h
  | n+1,m+1,x::a,y::b,h1,h2=>by
    simp only [List.length_cons] at h1 h2;simp only [mx];rw [y3e n m a (y::b) (by simp; omega) (by simp; omega),y3e n m (x::a) b (by simp; omega) (by simp; omega)]
theorem z3c {x:ByteArray} {q p:Rst}:p∈bh1 x q↔(q.2=x::p.2∧p.1=q.1)∨(q.1=x::p.1∧p.2=q.2):=by
  obtain ⟨a,b⟩:=q;obtain ⟨c,d⟩:=p;unfold bh1;simp only [List.mem_append]
  have e1:(c,d)∈(if b.head?=some x then [(a,b.tail)] else [])↔b=x::d∧c=a:=by
    cases b with
    | nil=>simp
    | cons y b=>
      by_cases h:y=x
      · subst h;rw [if_pos (by simp)];simp only [List.tail_cons,List.mem_singleton,Prod.mk.injEq,List.cons.injEq,true_and]
        constructor <;> (rintro ⟨rfl,rfl⟩; exact ⟨rfl,rfl⟩)
      · simp [h]
  have e2:(c,d)∈(if a.head?=some x then [(a.tail,b)] else [])↔a=x::c∧d=b:=by
    cases a with
    | nil=>simp
    | cons y a=>
      by_cases h:y=x
      · subst h;rw [if_pos (by simp)];simp only [List.tail_cons,List.mem_singleton,Prod.mk.injEq,List.cons.injEq,true_and]
        constructor <;> (rintro ⟨rfl,rfl⟩; exact ⟨rfl,rfl⟩)
      · simp [h]
  rw [e1,e2]
theorem z9m (n:Nat) (q:Rst) (r:List ByteArray) (h:q.1.length+q.2.length=n+1) :
    r∈mx (n+1) q.1 q.2↔∃ x s,r=x::s∧∃ p∈bh1 x q,s∈mx n p.1 p.2:=by
  obtain ⟨a,b⟩:=q;simp only at h
  cases a with
  | nil=>
    cases b with
    | nil=>simp at h
    | cons y b=>
      rw [z3i]
      constructor
      · intro hr;simp at hr;subst hr;exact ⟨y,b,rfl,([],b),z3c.2 (.inl ⟨rfl,rfl⟩),by rw [z3i]; simp⟩
      · rintro ⟨x,s,rfl,⟨c,d⟩,hp,hs⟩
        rcases z3c.1 hp with ⟨h1,h2⟩ | ⟨h1,h2⟩
        · simp only at h1 h2;subst h2
          cases h1
          rw [z3i] at hs
          simpa using hs
        · simp at h1
  | cons z a=>
    cases b with
    | nil=>
      rw [z2i]
      constructor
      · intro hr;simp at hr;subst hr;refine ⟨z,a,rfl,(a,[]),z3c.2 (.inr ⟨rfl,rfl⟩),?_⟩
        cases a with
        | nil=>rw [z3i]; simp
        | cons t a=>rw [z2i]; simp
      · rintro ⟨x,s,rfl,⟨c,d⟩,hp,hs⟩
        rcases z3c.1 hp with ⟨h1,h2⟩ | ⟨h1,h2⟩
        · simp at h1
        · simp only at h1 h2;subst h2
          cases h1
          cases a with
          | nil=>rw [z3i] at hs; simpa using hs
          | cons t a=>rw [z2i] at hs; simpa using hs
    | cons y b=>
      simp only [mx,List.mem_append,List.mem_map]
      constructor
      · rintro (⟨s,hs,rfl⟩ | ⟨s,hs,rfl⟩)
        · exact ⟨z,s,rfl,(a,y::b),z3c.2 (.inr ⟨rfl,rfl⟩),hs⟩
        · exact ⟨y,s,rfl,(z::a,b),z3c.2 (.inl ⟨rfl,rfl⟩),hs⟩
      · rintro ⟨x,s,rfl,⟨c,d⟩,hp,hs⟩
        rcases z3c.1 hp with ⟨h1,h2⟩ | ⟨h1,h2⟩
        · simp only at h1 h2;subst h2
          cases h1
          exact .inr ⟨s,hs,rfl⟩
        · simp only at h1 h2;subst h2
          cases h1
          exact .inl ⟨s,hs,rfl⟩
theorem x9k {left:List Rst} (h:Even 0 left) (h0:left≠[]):Good 0 left [[]]:=by
  refine ⟨List.pairwise_singleton _ _,fun r=>?_⟩
  constructor
  · intro hr;simp at hr;subst hr;obtain ⟨q,l,rfl⟩:=List.exists_cons_of_ne_nil h0;refine ⟨q,by simp,?_⟩;have:=h q (by simp);obtain ⟨a,b⟩:=q;simp only at this ⊢;obtain rfl:a=[]:=List.eq_nil_of_length_eq_zero (by omega);obtain rfl:b=[]:=List.eq_nil_of_length_eq_zero (by omega);simp [z3i]
  · rintro ⟨q,hq,hr⟩;have:=h q hq;obtain ⟨a,b⟩:=q;simp only at this hr;obtain rfl:a=[]:=List.eq_nil_of_length_eq_zero (by omega);obtain rfl:b=[]:=List.eq_nil_of_length_eq_zero (by omega)
    simpa [z3i] using hr
def Goods (n:Nat) (left:List Rst):List ByteArray→List (List ByteArray)→Prop
  | [],L=>L=[]
  | x::nx,L=>∃ L1 L2,L=L1.map (x::·)++L2∧Good n (bh x left) L1∧Goods n left nx L2
theorem z7e {n:Nat} {left:List Rst} {x:ByteArray} {L1:List (List ByteArray)} (h1:Good n (bh x left) L1):∀ {nx:List ByteArray} {L:List (List ByteArray)},Goods n left nx L→Goods n left (nx++[x]) (L++L1.map (x::·))
  | [],L,h=>by
    have h:L=[]:=h;subst h;exact ⟨L1,[],by simp,h1,rfl⟩
  | y::nx,L,⟨M1,M2,hL,hM,h⟩=>⟨M1,M2++L1.map (x::·),by rw [hL,List.append_assoc],hM,z7e h1 h⟩
theorem z9y {n:Nat} {left:List Rst} (r:List ByteArray):∀ {nx:List ByteArray} {L:List (List ByteArray)},Goods n left nx L→(r∈L↔∃ x∈nx,∃ s,r=x::s∧∃ p∈bh x left,s∈mx n p.1 p.2)
  | [],L,h=>by
    have h:L=[]:=h;subst h;simp
  | y::nx,L,⟨M1,M2,hL,hM,h⟩=>by
    rw [hL,List.mem_append,List.mem_map,z9y r h]
    constructor
    · rintro (⟨s,hs,rfl⟩ | ⟨x,hx,hs⟩)
      · exact ⟨y,by simp,s,rfl,(hM.2 s).1 hs⟩
      · exact ⟨x,by simp [hx],hs⟩
    · rintro ⟨x,hx,s,rfl,hs⟩
      rcases List.mem_cons.1 hx with rfl | hx
      · exact .inl ⟨s,(hM.2 s).2 hs,rfl⟩
      · exact .inr ⟨x,hx,s,rfl,hs⟩
theorem y2q (x:ByteArray) (a b:List ByteArray):row (x::a) (x::b)=row a b:=by rw [z2t,z4t]; rfl
theorem x1c {n:Nat} {left:List Rst}:∀ {nx:List ByteArray} {L:List (List ByteArray)},UpS nx→Goods n left nx L→L.Pairwise (fun r s=>row r s<0)
  | [],L,_,h=>by
    have h:L=[]:=h;subst h;exact List.Pairwise.nil
  | y::nx,L,hu,⟨M1,M2,hL,hM,h⟩=>by
    obtain ⟨hu1,hu2⟩:=List.pairwise_cons.1 hu;rw [hL,List.pairwise_append];refine ⟨?_,x1c hu2 h,?_⟩
    · rw [List.pairwise_map];exact hM.1.imp fun {a b} hab=>by rw [y2q]; exact hab
    · intro r hr s hs;obtain ⟨r',_,rfl⟩:=List.mem_map.1 hr;obtain ⟨x,hx,s',rfl,_⟩:=(z9y s h).1 hs;rw [z2t,hu1 x hx,if_pos rfl];omega
theorem x9l {n:Nat} {left:List Rst} {nx:List ByteArray} {L:List (List ByteArray)} (he:Even (n+1) left) (hu:UpS nx) (hm:∀ x,x∈nx↔x∈heads left) (h:Goods n left nx L):Good (n+1) left L:=by
  refine ⟨x1c hu h,fun r=>?_⟩;rw [z9y r h]
  constructor
  · rintro ⟨x,hx,s,rfl,p,hp,hs⟩;obtain ⟨q,hq,hpq⟩:=List.mem_flatMap.1 hp;exact ⟨q,hq,(z9m n q _ (he q hq)).2 ⟨x,s,rfl,p,hpq,hs⟩⟩
  · rintro ⟨q,hq,hr⟩;obtain ⟨x,s,rfl,p,hp,hs⟩:=(z9m n q r (he q hq)).1 hr;refine ⟨x,(hm x).2 (List.mem_flatMap.2 ⟨q,hq,?_⟩),s,rfl,p,List.mem_flatMap.2 ⟨q,hq,hp⟩,hs⟩
    rcases z3c.1 hp with ⟨h1,_⟩ | ⟨h1,_⟩
    · rw [h1]; simp
    · rw [h1]; simp
theorem heads_ne {n:Nat} {left:List Rst} (he:Even (n+1) left) (h0:left≠[]):heads left≠[]:=by
  obtain ⟨q,l,rfl⟩:=List.exists_cons_of_ne_nil h0;have:=he q (by simp);obtain ⟨a,b⟩:=q;intro h;simp only [heads,List.flatMap_cons,List.append_eq_nil_iff] at h
  cases a with
  | nil=>cases b with
    | nil=>simp at this
    | cons y b=>simp at h
  | cons x a=>simp at h
theorem bh_ne {left:List Rst} {x:ByteArray} (h:x∈heads left):bh x left≠[]:=by
  obtain ⟨q,hq,hx⟩:=List.mem_flatMap.1 h;obtain ⟨a,b⟩:=q;intro h0
  rcases List.mem_append.1 hx with hx | hx
  · cases a with
    | nil=>simp at hx
    | cons y a=>
      simp at hx;subst hx;have:(a,b)∈bh x left:=List.mem_flatMap.2 ⟨_,hq,z3c.2 (.inr ⟨rfl,rfl⟩)⟩;rw [h0] at this
      cases this
  · cases b with
    | nil=>simp at hx
    | cons y b=>
      simp at hx;subst hx;have:(a,b)∈bh x left:=List.mem_flatMap.2 ⟨_,hq,z3c.2 (.inl ⟨rfl,rfl⟩)⟩;rw [h0] at this
      cases this
theorem y1q {n:Nat} {l l':List Rst} {L:List (List ByteArray)} (h:∀ p,p∈l↔p∈l') (hg:Good n l L):Good n l' L:=
  ⟨hg.1,fun r=>(hg.2 r).trans ⟨fun ⟨q,hq,hr⟩=>⟨q,(h q).1 hq,hr⟩,fun ⟨q,hq,hr⟩=>⟨q,(h q).2 hq,hr⟩⟩⟩
theorem y5x {a b:List ByteArray} {n:Nat} (hn:a.length+b.length=n) (hn':n≤19) {L:List (List ByteArray)} (hg:Good n [(a,b)] L) (e:Int) :
    L.map (fun r=>(⟨r,e⟩:Tr))=norm ((mx 19 a b).map fun r=>⟨r,e⟩):=by
  refine z9j ?_ fun t=>?_
  · unfold Up;rw [List.pairwise_map];exact hg.1.imp fun {r s} h=>y0i.2 (.inl h)
  · rw [List.mem_map,List.mem_map]
    have:∀ r,r∈L↔r∈mx 19 a b:=fun r=>by
      rw [hg.2 r,← y3e n 19 a b (by omega) (by omega)];simp
    exact ⟨fun ⟨r,hr,h⟩=>⟨r,(this r).1 hr,h⟩,fun ⟨r,hr,h⟩=>⟨r,(this r).2 hr,h⟩⟩
theorem good_mix {a b:List ByteArray} {n:Nat} (hn:a.length+b.length=n) (hn':n≤19) {L:List (List ByteArray)} (hg:Good n [(a,b)] L):L=mix a b:=by
  have h11:Sg.both 1 1=1:=rfl;unfold mix pr;simp only [h11];rw [← y5x hn hn' hg 1,List.map_map];simp [Function.comp_def]
theorem y8p (a b:List ByteArray) {n:Nat} (hn:a.length+b.length=n) (hn':n≤19):Good n [(a,b)] (mix a b):=by
  have h11:Sg.both 1 1=1:=rfl;have hu:=z4k ((mx 19 a b).map fun r=>(⟨r,1⟩:Tr));have hm:=fun t=>z0s t ((mx 19 a b).map fun r=>(⟨r,1⟩:Tr))
  unfold mix pr;simp only [h11];generalize norm ((mx 19 a b).map fun r=>(⟨r,1⟩:Tr))=N at hu hm ⊢
  have he:∀ t∈N,t.e=1:=fun t ht=>by
    obtain ⟨r,_,rfl⟩:=List.mem_map.1 ((hm t).1 ht)
    rfl
  refine ⟨?_,fun r=>?_⟩
  · rw [List.pairwise_map];refine List.Pairwise.imp_of_mem ?_ hu;intro p q hp hq h
    rcases y0i.1 h with h | ⟨_,h⟩
    · exact h
    · rw [he p hp,he q hq] at h;exact absurd h (Int.lt_irrefl _)
  · rw [List.mem_map,y3e n 19 a b (by omega) (by omega) |> fun e=>(by simp [e]:(∃ q∈[(a,b)],r∈mx n q.1 q.2)↔r∈mx 19 a b)]
    constructor
    · rintro ⟨t,ht,rfl⟩;obtain ⟨r,hr,rfl⟩:=List.mem_map.1 ((hm t).1 ht);exact hr
    · intro hr;exact ⟨⟨r,1⟩,(hm _).2 (List.mem_map.2 ⟨r,hr,rfl⟩),rfl⟩
theorem mix_pr (p q:Tr) (h:p.a.length+q.a.length≤19):(mix p.a q.a).map (fun r=>(⟨r,Sg.both p.e q.e⟩:Tr))=pr p q:=y5x rfl h (y8p p.a q.a rfl h) _
end Tr
namespace Mn
open Go Tr
inductive Mix:List ByteArray→List ByteArray→List ByteArray→Prop
  | nil:Mix [] [] []
  | l {x:ByteArray} {a b r:List ByteArray}:Mix a b r→Mix (x::a) b (x::r)
  | r {y:ByteArray} {a b r:List ByteArray}:Mix a b r→Mix a (y::b) (y::r)
theorem Mix.self_r:∀ b:List ByteArray,Mix [] b b
  | []=>.nil
  | _::b=>.r (Mix.self_r b)
theorem Mix.self_l:∀ b:List ByteArray,Mix b [] b
  | []=>.nil
  | _::b=>.l (Mix.self_l b)
theorem Mix.eq_r {a b r:List ByteArray} (h:Mix a b r):a=[]→r=b:=by
  induction h with
  | nil=>intro _; rfl
  | l _ _=>intro e; cases e
  | r _ ih=>intro e; rw [ih e]
theorem Mix.eq_l {a b r:List ByteArray} (h:Mix a b r):b=[]→r=a:=by
  induction h with
  | nil=>intro _; rfl
  | l _ ih=>intro e; rw [ih e]
  | r _ _=>intro e; cases e
theorem Mix.comm {a b r:List ByteArray} (h:Mix a b r):Mix b a r:=by
  induction h with
  | nil=>exact .nil
  | l _ ih=>exact .r ih
  | r _ ih=>exact .l ih
theorem y1e:∀ (n:Nat) (a b r:List ByteArray),a.length+b.length≤n→(r∈mx n a b↔Mix a b r)
  | n,[],b,r,_=>by
    rw [z3i,List.mem_singleton];exact ⟨fun e=>e ▸ Mix.self_r b,fun h=>h.eq_r rfl⟩
  | n,x::a,[],r,_=>by
    rw [z2i,List.mem_singleton];exact ⟨fun e=>e ▸ Mix.self_l _,fun h=>h.eq_l rfl⟩
  | 0,x::a,y::b,r,h=>by simp at h
  | n+1,x::a,y::b,r,h=>by
    simp only [mx,List.mem_append,List.mem_map];simp only [List.length_cons] at h
    constructor
    · rintro (⟨s,hs,rfl⟩ | ⟨s,hs,rfl⟩)
      · exact .l ((y1e n a (y::b) s (by simp; omega)).1 hs)
      · exact .r ((y1e n (x::a) b s (by simp; omega)).1 hs)
    · intro hm
      cases hm with
      | l h'=>exact .inl ⟨_,(y1e n a (y::b) _ (by simp; omega)).2 h',rfl⟩
      | r h'=>exact .inr ⟨_,(y1e n (x::a) b _ (by simp; omega)).2 h',rfl⟩
theorem z3j {p q t:Tr} (h:p.a.length+q.a.length≤19):t∈pr p q↔Mix p.a q.a t.a∧t.e=Sg.both p.e q.e:=by
  constructor
  · intro ht;have:=x8e ht;exact ⟨(y1e 19 _ _ _ h).1 this.1,this.2⟩
  · rintro ⟨h1,h2⟩;unfold pr;exact (z0s _ _).2 (List.mem_map.2 ⟨t.a,(y1e 19 _ _ _ h).2 h1,by rw [← h2]⟩)
theorem one5 (p q:Tr):one 5 p q=[thn p q]:=by unfold one; rw [if_pos rfl]
theorem one7 (p q:Tr):one 7 p q=pr p q:=by unfold one; rw [if_neg (by decide),if_pos rfl]
theorem one8 (p q:Tr):one 8 p q=[hnd p q]:=by unfold one; rw [if_neg (by decide),if_neg (by decide)]
theorem mem5 {A B:List Tr} {t:Tr}:t∈two 5 A B↔∃ p∈A,∃ q∈B,t=thn p q:=by
  rw [z4s,if_neg (by decide)];simp only [one5,List.mem_singleton]
theorem mem6 {A B:List Tr} {t:Tr}:t∈two 6 A B↔t∈A∨t∈B:=by rw [z4s,if_pos rfl]
theorem mem7 {A B:List Tr} {t:Tr}:t∈two 7 A B↔∃ p∈A,∃ q∈B,t∈pr p q:=by
  rw [z4s,if_neg (by decide)];simp only [one7]
theorem mem8 {A B:List Tr} {t:Tr}:t∈two 8 A B↔∃ p∈A,∃ q∈B,t=hnd p q:=by
  rw [z4s,if_neg (by decide)];simp only [one8,List.mem_singleton]
def bang:Tr:=⟨[],2⟩
theorem z4q {A l:List Tr} (h:Up A) (hm:∀ t,t∈A↔t∈l):norm l=A:=(z9j h hm).symm
theorem z7s (q:Tr):thn tick q=q:=by unfold thn tick; rw [if_pos rfl]; rfl
theorem x1y (q:Tr):hnd bang q=q:=by unfold hnd bang; rw [if_pos rfl]; rfl
theorem unit_l {A:List Tr} (h:Up A):norm (two 5 [tick] A)=A:=z4q h fun t=>by
  simp only [mem5,List.mem_singleton]
  constructor
  · intro ht; exact ⟨tick,rfl,t,ht,(z7s t).symm⟩
  · rintro ⟨p,rfl,q,hq,rfl⟩; rw [z7s]; exact hq
theorem x5i {A:List Tr} (h:Up A):norm (two 8 [bang] A)=A:=z4q h fun t=>by
  simp only [mem8,List.mem_singleton]
  constructor
  · intro ht; exact ⟨bang,rfl,t,ht,(x1y t).symm⟩
  · rintro ⟨p,rfl,q,hq,rfl⟩; rw [x1y]; exact hq
theorem y4l (t:Tr):Up [t]:=List.pairwise_singleton _ _
def want (A:List Tr):List Tr:=A.flatMap fun p=>if p.e=3 then [] else [⟨p.a,1⟩]
theorem y8d {X:List Pr} {t:Tr}:t∈blk X↔∃ x∈X,t∈blk1 x:=List.mem_flatMap
end Mn
namespace Pl
open Go Go.RowKit Rw So Ro
def Ow (w:World) (v:Value) (L:List Nat):Prop:=w.ownsRow 0 3 1 v L.length (Rx.ic L)
theorem Ow.slice {w:World} {v:Value} {L:List Nat} (h:Ow w v L):∃ a c,v=.slice a L.length c:=by
  obtain ⟨_,⟨rfl,h0⟩ | ⟨g,cap,cur,rfl,_⟩⟩:=h
  · exact ⟨none,0,by rw [h0]⟩
  · exact ⟨_,_,rfl⟩
theorem Ow.lt {w:World} {v:Value} {L:List Nat} (h:Ow w v L):∀ g,v.ownBlock=some g→g<w.heap.size:=Ap.z6g h
theorem Ow.turn {M:Nat→Prop} {w w':World} {v:Value} {L:List Nat} (h:Ow w v L) (ht:Turn M w w') (hn:∀ g,v.ownBlock=some g→¬ M g):Ow w' v L:=by
  obtain ⟨hl,h | ⟨g,cap,cur,rfl,hg,hh,h1,h2,h3,h4⟩⟩:=h
  · exact ⟨hl,.inl h⟩
  · refine ⟨hl,.inr ⟨g,cap,cur,rfl,hg,?_,h1,h2,h3,h4⟩⟩;rw [ht.block g (Nat.lt_of_not_le fun hle=>by rw [Array.getElem?_eq_none hle] at hh; cases hh) (hn g rfl)];exact hh
theorem Ow.keep {M:Nat→Prop} {w w':World} {v:Value} {L:List Nat} (h:Ow w v L) (ht:Keep M w w') (hn:∀ g,v.ownBlock=some g→M g):Ow w' v L:=by
  obtain ⟨hl,h | ⟨g,cap,cur,rfl,hg,hh,h1,h2,h3,h4⟩⟩:=h
  · exact ⟨hl,.inl h⟩
  · refine ⟨hl,.inr ⟨g,cap,cur,rfl,hg,?_,h1,h2,h3,h4⟩⟩;rw [ht.block g (hn g rfl)];exact hh
theorem Ow.plc {w:World} {v:Value} {L:List Nat} (h:Ow w v L):Rf.Plc w v L:=Ap.Rd.owned h
theorem Ow.push {w:World} {v x:Value} {L:List Nat} {k:Nat} (h:Ow w v L) (hx:Ap.Rd w 1 x 1 [.int .i64 (k:Int)]) (hl:L.length≤8796093022208) :
    ∃ v' w',(Builtin.append_ #[60,60] 60 #[v,x]).run Tryz.prog w=.ok v' w'∧Ow w' v' (L++[k])∧w.grownBy w' v.ownBlock∧Ap.Fresh w v v':=by
  obtain ⟨i0,hi,hz,hs1,hb8⟩:=info_parts Rx.x8v
  obtain ⟨v',w',h1,h2,h3,_,h5⟩:=Ap.z0t (P:=Tryz.prog) (ty:=60) Tryz.underlying60 hi hz hs1 hb8 (by rfl) (by omega) h (Nat.zero_le _) hx
    (by intro u hu; simp at hu; subst hu; rfl) (by unfold maxLen; omega) (by omega)
  refine ⟨v',w',h1,?_,h3,h5⟩;unfold Ow;have e:Rx.ic (L++[k])=Rx.ic L++[.int .i64 (k:Int)]:=by simp [Rx.ic]
  rw [e,show (L++[k]).length=L.length+1 by simp];exact h2
theorem y7d {w:World} {g cap:Nat} {st:List Nat} (h:Rx.Stk 0 w g cap st) (m:Nat) (hm:m≤st.length):Rx.Stk 0 w g cap (st.take m):=by
  obtain ⟨cur,hg,hb,hmx,hs,hn,ht⟩:=h.parts;refine Rx.Stk.of hg hb hmx hs (by rw [List.length_take]; omega) ?_;have e:(st.take m).length=m:=by rw [List.length_take]; omega
  rw [e];have:=congrArg (List.take m) ht;rw [List.take_take,Nat.min_eq_left hm] at this;rw [this];simp [Rx.ic,List.map_take]
theorem Ow.some {w:World} {v:Value} {L:List Nat} (h:Ow w v L) (h0:0<L.length):∃ g c,v=.slice (some ⟨g,0,none⟩) L.length c∧Rx.Stk 0 w g c L:=by
  have h':=h;obtain ⟨_,⟨_,hz⟩ | ⟨g,cap,cur,rfl,_⟩⟩:=h
  · omega
  · exact ⟨g,cap,rfl,h'⟩
def Told (l:List Nd) (k:Nat) (args:Array Value) (w:World):Prop:=∃ v,args=#[.int .i64 (k:Int),v]∧Rf.Plc w v (ov l k)
def rounds (l:List Nd):Nat:=if one l=true then l.length else 0
structure Two (T:Nat→Prop) (w:World) (va vo:Value) (ab st:List Nat):Prop where
  a:Ow w va ab
  o:Ow w vo st
  ta:∀ g,va.ownBlock=some g→T g
  to:∀ g,vo.ownBlock=some g→T g
  ne:∀ g,va.ownBlock=some g→vo.ownBlock≠some g
theorem x7o (B l0:Nat) (v:Value) (l:List Nd) (w:World) (hc:w.cell? ⟨B,0,none⟩=some v) (hv:Nds w v l) (hl:l.length≤4398046511104) (h0:one l=false) :
    Calls Tryz.prog 231 #[.func (.yield l0) #[] #[],.pointer (some ⟨B,0,none⟩)] w fun e w'=>(∃ y,e=.returned y)∧Below w.heap.size w w':=by
  have HN:=Lib.hid hv;obtain ⟨_,a,cap,rfl,-⟩:=hv;have H0:=Lib.hid h0;clear h0
  go_enter Tryz.func231,Tryz.ntmps231
  go_wp2_with fail;refine (z9u _ l _ HN.out hl).mono ?_;rw [H0.out];rintro e w' ⟨rfl,hb⟩;have HB:=Lib.hid hb;clear hb;go_wp2_with fail;refine bodyPost_ret (results_none rfl _ _ _) rfl ?_;exact ⟨⟨_,rfl⟩,HB.out⟩
end Pl
end Go.Proofs.YtaapnkoooofalaaGreat
