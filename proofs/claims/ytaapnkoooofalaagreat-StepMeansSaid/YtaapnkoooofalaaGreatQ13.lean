/- Laws that the last text leans on. -/
import Derived.Test.YtaapnkoooofalaaGreatQ12

set_option maxRecDepth 20000
set_option maxHeartbeats 800000
namespace Go.Proofs.YtaapnkoooofalaaGreat
namespace Se
open Go Rw So
inductive Tm
  | act (s:ByteArray)
  | skip
  | throw
  | yield
  | over (s:Int)
  | block (a:Tm)
  | fin (s:Int) (c:Tm)
  | seq (a b:Tm)
  | alt (a b:Tm)
  | par (a b:Tm)
  | hand (a b:Tm)
  | pair (a b:Tm)
  | going (a b:Tm)
  | stack (a b:Tm)
deriving DecidableEq
abbrev nAct (s:ByteArray):Nd:=⟨1,s,0⟩
abbrev nOver (s:Int):Nd:=⟨11,⟨#[]⟩,s⟩
abbrev nEnd (s:Int):Nd:=⟨14,⟨#[]⟩,s⟩
def flat:Tm→List Nd
  | .act s=>[nAct s]
  | .skip=>[nOf 2]
  | .throw=>[nOf 3]
  | .yield=>[nOf 4]
  | .over s=>[nOver s]
  | .block a=>nOf 9::flat a
  | .fin s c=>nEnd s::flat c
  | .seq a b=>nOf 5::(flat a++flat b)
  | .alt a b=>nOf 6::(flat a++flat b)
  | .par a b=>nOf 7::(flat a++flat b)
  | .hand a b=>nOf 8::(flat a++flat b)
  | .pair a b=>nOf 10::(flat a++flat b)
  | .going a b=>nOf 12::(flat a++flat b)
  | .stack a b=>nOf 13::(flat a++flat b)
def sz:Tm→Nat
  | .act _=>1
  | .skip=>1
  | .throw=>1
  | .yield=>1
  | .over _=>1
  | .block a=>sz a+1
  | .fin _ c=>sz c+1
  | .seq a b=>sz a+sz b+1
  | .alt a b=>sz a+sz b+1
  | .par a b=>sz a+sz b+1
  | .hand a b=>sz a+sz b+1
  | .pair a b=>sz a+sz b+1
  | .going a b=>sz a+sz b+1
  | .stack a b=>sz a+sz b+1
theorem flat_len:∀ t:Tm,(flat t).length=sz t:=by
  intro t
  induction t <;> simp_all [flat,sz]
theorem z0l (t:Tm):1≤sz t:=by cases t <;> simp [sz]
theorem x9m (t:Tm):flat t≠[]:=fun e=>by
  have h:=flat_len t;have:=z0l t;rw [e] at h;simp at h;omega
theorem z8b {n:Nd} {a:List Nd} (hk:ar n.k=1) (ha:Tre a):Tre (n::a)∧kids (n::a)=[a]:=by
  obtain ⟨d1,t1⟩:=ha
  have s1:S 1 a=some (a.length,max 0 d1):=by
    rw [show (1:Nat)=0+1 from rfl,z2q,z3e];simp only [List.drop_zero,t1,Nat.zero_add]
  have hT:T (n::a)=some (a.length+1,max 0 d1+1):=by
    rw [z2l,if_neg (by omega),hk,show (1:Int).toNat=1 from rfl,s1]
  have ht:Tre (n::a):=⟨_,by rw [hT,List.length_cons]⟩
  refine ⟨ht,?_⟩;obtain ⟨x,hx,_,_⟩:=ht.one hk;obtain ⟨_,_,he⟩:=ht.flat;rw [hx] at he;injection he with _ he;simp at he;rw [hx,he]
theorem z6b {n:Nd} (hk:ar n.k=0):Tre [n]:=⟨1,by rw [z2l,if_neg (by omega),hk]; rfl⟩
theorem z0k:∀ t:Tm,Tre (flat t):=by
  intro t
  induction t with
  | act s=>exact z6b rfl
  | skip=>exact z6b rfl
  | throw=>exact z6b rfl
  | yield=>exact z6b rfl
  | over s=>exact z6b rfl
  | block a ia=>exact (z8b rfl ia).1
  | fin s c ic=>exact (z8b rfl ic).1
  | seq a b ia ib=>exact (z2a rfl ia ib).1
  | alt a b ia ib=>exact (z2a rfl ia ib).1
  | par a b ia ib=>exact (z2a rfl ia ib).1
  | hand a b ia ib=>exact (z2a rfl ia ib).1
  | pair a b ia ib=>exact (z2a rfl ia ib).1
  | going a b ia ib=>exact (z2a rfl ia ib).1
  | stack a b ia ib=>exact (z2a rfl ia ib).1
theorem z5h (a:Tm):kids (flat (.block a))=[flat a]:=(z8b (n:=nOf 9) rfl (z0k a)).2
theorem z8c (s:Int) (c:Tm):kids (flat (.fin s c))=[flat c]:=(z8b (n:=nEnd s) rfl (z0k c)).2
theorem z6j (a b:Tm):kids (flat (.seq a b))=[flat a,flat b]:=(z2a rfl (z0k a) (z0k b)).2
theorem z6m (a b:Tm):kids (flat (.alt a b))=[flat a,flat b]:=(z2a rfl (z0k a) (z0k b)).2
theorem z6k (a b:Tm):kids (flat (.par a b))=[flat a,flat b]:=(z2a rfl (z0k a) (z0k b)).2
theorem z4v (a b:Tm):kids (flat (.hand a b))=[flat a,flat b]:=(z2a rfl (z0k a) (z0k b)).2
theorem z4u (a b:Tm):kids (flat (.pair a b))=[flat a,flat b]:=(z2a rfl (z0k a) (z0k b)).2
theorem z3o (a b:Tm):kids (flat (.going a b))=[flat a,flat b]:=(z2a rfl (z0k a) (z0k b)).2
theorem z3n (a b:Tm):kids (flat (.stack a b))=[flat a,flat b]:=(z2a rfl (z0k a) (z0k b)).2
theorem y3n (a:Tm):k0 (flat (.block a))=flat a:=by unfold k0; rw [z5h]; rfl
theorem k0_fin (s:Int) (a:Tm):k0 (flat (.fin s a))=flat a:=by unfold k0; rw [z8c]; rfl
theorem y1n (a b:Tm):k0 (flat (.seq a b))=flat a:=by unfold k0; rw [z6j]; rfl
theorem y1k (a b:Tm):k1 (flat (.seq a b))=flat b:=by unfold k1; rw [z6j]; rfl
theorem y1p (a b:Tm):k0 (flat (.alt a b))=flat a:=by unfold k0; rw [z6m]; rfl
theorem y1m (a b:Tm):k1 (flat (.alt a b))=flat b:=by unfold k1; rw [z6m]; rfl
theorem y1o (a b:Tm):k0 (flat (.par a b))=flat a:=by unfold k0; rw [z6k]; rfl
theorem y1l (a b:Tm):k1 (flat (.par a b))=flat b:=by unfold k1; rw [z6k]; rfl
theorem y8k (a b:Tm):k0 (flat (.hand a b))=flat a:=by unfold k0; rw [z4v]; rfl
theorem y8i (a b:Tm):k1 (flat (.hand a b))=flat b:=by unfold k1; rw [z4v]; rfl
theorem y8j (a b:Tm):k0 (flat (.pair a b))=flat a:=by unfold k0; rw [z4u]; rfl
theorem y8h (a b:Tm):k1 (flat (.pair a b))=flat b:=by unfold k1; rw [z4u]; rfl
theorem x0y (a b:Tm):k0 (flat (.going a b))=flat a:=by unfold k0; rw [z3o]; rfl
theorem x0w (a b:Tm):k1 (flat (.going a b))=flat b:=by unfold k1; rw [z3o]; rfl
theorem x0x (a b:Tm):k0 (flat (.stack a b))=flat a:=by unfold k0; rw [z3n]; rfl
theorem x0v (a b:Tm):k1 (flat (.stack a b))=flat b:=by unfold k1; rw [z3n]; rfl
def is:Tm→Nat→Bool
  | .act _,s=>s==1||s==3
  | .skip,s=>s==1||s==3
  | .throw,s=>s==1||s==3
  | .yield,s=>s==1||s==3
  | .over _,s=>s==3
  | .block a,s=>if s=1 then is a 2 else if s=3 then is a 4 else false
  | .fin _ c,s=>s==4&&is c 1
  | .seq a b,s=>if s=1 then is a 1&&is b 1 else if s=2 then is a 2&&is b 2 else if s=3 then is a 3&&is b 1 else is a 4&&is b 2
  | .alt a b,s=>if s=1∨s=3 then is a 1&&is b 1 else is a 2&&is b 2
  | .par a b,s=>is a s&&is b s
  | .hand a b,s=>if s=1 then is a 1&&is b 1 else if s=3 then is a 3&&is b 1 else false
  | .pair a b,s=>if s=2∨s=4 then is a 1&&is b 1 else false
  | .going a b,s=>if s=4 then is a 3&&is b 1 else false
  | .stack a b,s=>if s=4 then is a 4&&is b 1 else false
theorem is13:∀ t:Tm,(is t 1=true→is t 3=true)∧(is t 2=true→is t 4=true):=by
  intro t
  induction t <;> simp_all [is]
theorem abs0 {p r:Bool} (h:p=true→r=true):(p||r)=r:=by cases p <;> cases r <;> simp_all
theorem abs1 {p q r:Bool} (h:p=true→r=true):(p&&q||r&&q)=(r&&q):=by cases p <;> cases q <;> cases r <;> simp_all
theorem abs2 {p q r s:Bool} (h:p=true→r=true) (g:q=true→s=true):(p&&q||r&&s)=(r&&s):=by cases p <;> cases q <;> cases r <;> cases s <;> simp_all
theorem z2p:∀ (t:Tm) (s:Nat),s=1∨s=2∨s=3∨s=4→Is s (flat t)=is t s:=by
  intro t
  induction t with
  | act s=>
    intro s' hs
    rcases hs with rfl | rfl | rfl | rfl
    · rw [eq_1_1 (l:=flat (.act s)) rfl]; rfl
    · rw [eq_1_2 (l:=flat (.act s)) rfl]; rfl
    · rw [eq_1_3 (l:=flat (.act s)) rfl]; rfl
    · rw [eq_1_4 (l:=flat (.act s)) rfl]; rfl
  | skip=>
    intro s' hs
    rcases hs with rfl | rfl | rfl | rfl
    · rw [eq_2_1 (l:=flat (.skip)) rfl]; rfl
    · rw [eq_2_2 (l:=flat (.skip)) rfl]; rfl
    · rw [eq_2_3 (l:=flat (.skip)) rfl]; rfl
    · rw [eq_2_4 (l:=flat (.skip)) rfl]; rfl
  | throw=>
    intro s' hs
    rcases hs with rfl | rfl | rfl | rfl
    · rw [eq_3_1 (l:=flat (.throw)) rfl]; rfl
    · rw [eq_3_2 (l:=flat (.throw)) rfl]; rfl
    · rw [eq_3_3 (l:=flat (.throw)) rfl]; rfl
    · rw [eq_3_4 (l:=flat (.throw)) rfl]; rfl
  | yield=>
    intro s' hs
    rcases hs with rfl | rfl | rfl | rfl
    · rw [eq_4_1 (l:=flat (.yield)) rfl]; rfl
    · rw [eq_4_2 (l:=flat (.yield)) rfl]; rfl
    · rw [eq_4_3 (l:=flat (.yield)) rfl]; rfl
    · rw [eq_4_4 (l:=flat (.yield)) rfl]; rfl
  | over s=>
    intro s' hs
    rcases hs with rfl | rfl | rfl | rfl
    · rw [v0d (l:=flat (.over s)) rfl]; rfl
    · rw [eq_11_2 (l:=flat (.over s)) rfl]; rfl
    · rw [eq_11_3 (l:=flat (.over s)) rfl]; rfl
    · rw [v0c (l:=flat (.over s)) rfl]; rfl
  | block a ia=>
    intro s' hs
    rcases hs with rfl | rfl | rfl | rfl
    · rw [eq_9_1 (l:=flat (.block a)) rfl,y3n,ia _ (Or.inr (Or.inl rfl))]; rfl
    · rw [eq_9_2 (l:=flat (.block a)) rfl]; rfl
    · rw [eq_9_3 (l:=flat (.block a)) rfl,y3n,ia _ (Or.inr (Or.inl rfl)),ia _ (Or.inr (Or.inr (Or.inr rfl))),abs0 (is13 a).2]; rfl
    · rw [eq_9_4 (l:=flat (.block a)) rfl]; rfl
  | fin e c ic=>
    intro s' hs
    rcases hs with rfl | rfl | rfl | rfl
    · rw [eq_14_1 (l:=flat (.fin e c)) rfl]; rfl
    · rw [x9v (l:=flat (.fin e c)) rfl]; rfl
    · rw [x9u (l:=flat (.fin e c)) rfl]; rfl
    · rw [x9t (l:=flat (.fin e c)) rfl,k0_fin,ic _ (Or.inl rfl)]; rfl
  | seq a b ia ib=>
    intro s' hs
    rcases hs with rfl | rfl | rfl | rfl
    · rw [eq_5_1 (l:=flat (.seq a b)) rfl,y1n,y1k,ia _ (Or.inl rfl),ib _ (Or.inl rfl)]; rfl
    · rw [eq_5_2 (l:=flat (.seq a b)) rfl,y1n,y1k,ia _ (Or.inr (Or.inl rfl)),ib _ (Or.inr (Or.inl rfl))]; rfl
    · rw [x9s (l:=flat (.seq a b)) rfl,y1n,y1k,ia _ (Or.inl rfl),ia _ (Or.inr (Or.inr (Or.inl rfl))),ib _ (Or.inl rfl),abs1 (is13 a).1]; rfl
    · rw [eq_5_4 (l:=flat (.seq a b)) rfl,y1n,y1k,ia _ (Or.inr (Or.inl rfl)),ia _ (Or.inr (Or.inr (Or.inr rfl))),ib _ (Or.inr (Or.inl rfl)),abs1 (is13 a).2]; rfl
  | alt a b ia ib=>
    intro s' hs
    rcases hs with rfl | rfl | rfl | rfl
    · rw [eq_6_1 (l:=flat (.alt a b)) rfl,y1p,y1m,ia _ (Or.inl rfl),ib _ (Or.inl rfl)]; rfl
    · rw [eq_6_2 (l:=flat (.alt a b)) rfl,y1p,y1m,ia _ (Or.inr (Or.inl rfl)),ib _ (Or.inr (Or.inl rfl))]; rfl
    · rw [eq_6_3 (l:=flat (.alt a b)) rfl,y1p,y1m,ia _ (Or.inl rfl),ib _ (Or.inl rfl),Bool.or_false]; rfl
    · rw [eq_6_4 (l:=flat (.alt a b)) rfl,y1p,y1m,ia _ (Or.inr (Or.inl rfl)),ib _ (Or.inr (Or.inl rfl)),Bool.or_false]; rfl
  | par a b ia ib=>
    intro s' hs
    rcases hs with rfl | rfl | rfl | rfl
    · rw [eq_7_1 (l:=flat (.par a b)) rfl,y1o,y1l,ia _ (Or.inl rfl),ib _ (Or.inl rfl)]; rfl
    · rw [eq_7_2 (l:=flat (.par a b)) rfl,y1o,y1l,ia _ (Or.inr (Or.inl rfl)),ib _ (Or.inr (Or.inl rfl))]; rfl
    · rw [eq_7_3 (l:=flat (.par a b)) rfl,y1o,y1l,ia _ (Or.inl rfl),ia _ (Or.inr (Or.inr (Or.inl rfl))),ib _ (Or.inl rfl),ib _ (Or.inr (Or.inr (Or.inl rfl))),abs2 (is13 a).1 (is13 b).1]; rfl
    · rw [eq_7_4 (l:=flat (.par a b)) rfl,y1o,y1l,ia _ (Or.inr (Or.inl rfl)),ia _ (Or.inr (Or.inr (Or.inr rfl))),ib _ (Or.inr (Or.inl rfl)),ib _ (Or.inr (Or.inr (Or.inr rfl))),abs2 (is13 a).2 (is13 b).2]; rfl
  | hand a b ia ib=>
    intro s' hs
    rcases hs with rfl | rfl | rfl | rfl
    · rw [eq_8_1 (l:=flat (.hand a b)) rfl,y8k,y8i,ia _ (Or.inl rfl),ib _ (Or.inl rfl)]; rfl
    · rw [eq_8_2 (l:=flat (.hand a b)) rfl]; rfl
    · rw [eq_8_3 (l:=flat (.hand a b)) rfl,y8k,y8i,ia _ (Or.inl rfl),ia _ (Or.inr (Or.inr (Or.inl rfl))),ib _ (Or.inl rfl),abs1 (is13 a).1]; rfl
    · rw [eq_8_4 (l:=flat (.hand a b)) rfl]; rfl
  | pair a b ia ib=>
    intro s' hs
    rcases hs with rfl | rfl | rfl | rfl
    · rw [eq_10_1 (l:=flat (.pair a b)) rfl]; rfl
    · rw [v0g (l:=flat (.pair a b)) rfl,y8j,y8h,ia _ (Or.inl rfl),ib _ (Or.inl rfl)]; rfl
    · rw [v0f (l:=flat (.pair a b)) rfl]; rfl
    · rw [v0e (l:=flat (.pair a b)) rfl,y8j,y8h,ia _ (Or.inl rfl),ib _ (Or.inl rfl),Bool.or_false]; rfl
  | going a b ia ib=>
    intro s' hs
    rcases hs with rfl | rfl | rfl | rfl
    · rw [eq_12_1 (l:=flat (.going a b)) rfl]; rfl
    · rw [v0b (l:=flat (.going a b)) rfl]; rfl
    · rw [v0a (l:=flat (.going a b)) rfl]; rfl
    · rw [x9z (l:=flat (.going a b)) rfl,x0y,x0w,ia _ (Or.inr (Or.inr (Or.inl rfl))),ib _ (Or.inl rfl)]; rfl
  | stack a b ia ib=>
    intro s' hs
    rcases hs with rfl | rfl | rfl | rfl
    · rw [eq_13_1 (l:=flat (.stack a b)) rfl]; rfl
    · rw [x9y (l:=flat (.stack a b)) rfl]; rfl
    · rw [x9x (l:=flat (.stack a b)) rfl]; rfl
    · rw [x9w (l:=flat (.stack a b)) rfl,x0x,x0v,ia _ (Or.inr (Or.inr (Or.inr rfl))),ib _ (Or.inl rfl)]; rfl
theorem z4o {x:Nd} (h:rgt x=true) (h1:x.k≠1) (h2:¬ (x.k=11∨x.k=14)):x=nOf x.k:=by
  obtain ⟨k,n,s⟩:=x;have h0:¬ ar k<0:=fun h0=>by unfold rgt at h; rw [if_pos h0] at h; cases h
  rw [z9c n s h0 h1 h2] at h;simp only [Bool.and_eq_true,decide_eq_true_eq,beq_iff_eq] at h;obtain ⟨hn,rfl⟩:=h;rw [z6t hn]
  rfl
theorem x6i {x:Nd} (h:rgt x=true) (h2:x.k=11∨x.k=14):x=⟨x.k,⟨#[]⟩,x.s⟩∧1≤x.s∧x.s≤3:=by
  obtain ⟨k,n,s⟩:=x;rw [z3u n s h2] at h;simp only [Bool.and_eq_true,decide_eq_true_eq] at h;rw [z6t h.1];exact ⟨rfl,h.2⟩
theorem rgt_name {x:Nd} (h:rgt x=true) (h1:x.k=1):x=nAct x.n:=by
  obtain ⟨k,n,s⟩:=x;obtain rfl:k=1:=h1;rw [y2s n s] at h;simp only [Bool.and_eq_true,beq_iff_eq] at h;obtain ⟨⟨_,rfl⟩,_⟩:=h
  rfl
theorem tm_of:∀ (m:Nat) (l:List Nd),l.length≤m→Tre l→l.all rgt=true→∃ t,flat t=l
  | 0,l,h,ht,_=>absurd ht.pos (by omega)
  | m+1,l,h,ht,hr=>by
    obtain ⟨x,hx,he⟩:=ht.flat;have hxr:rgt x=true:=by rw [he,List.all_cons,Bool.and_eq_true] at hr; exact hr.1
    have leaf:ar (hd l)=0→l=[x]:=fun h0=>by
      have hk:kids l=[]:=List.eq_nil_of_length_eq_zero (by rw [ht.kids.1,h0]; rfl);rw [hk] at he;exact he
    have one:ar (hd l)=1→∃ t,l=x::flat t:=fun h1=>by
      obtain ⟨a,hk,ta,la⟩:=ht.one h1;rw [hk] at he;have he:l=x::a:=by rw [he]; simp
      have ra:a.all rgt=true:=by rw [he,List.all_cons,Bool.and_eq_true] at hr; exact hr.2
      obtain ⟨t,rfl⟩:=tm_of m a (by omega) ta ra;exact ⟨t,he⟩
    have two:ar (hd l)=2→∃ t u,l=x::(flat t++flat u):=fun h2=>by
      obtain ⟨a,b,hk,ta,tb,la,lb⟩:=ht.two h2;rw [hk] at he;have he:l=x::(a++b):=by rw [he]; simp
      have rab:a.all rgt=true∧b.all rgt=true:=by
        rw [he,List.all_cons,List.all_append,Bool.and_eq_true,Bool.and_eq_true] at hr;exact hr.2
      obtain ⟨t,rfl⟩:=tm_of m a (by omega) ta rab.1;obtain ⟨u,rfl⟩:=tm_of m b (by omega) tb rab.2;exact ⟨t,u,he⟩
    rcases kinds ht.ar with hk | hk | hk | hk | hk | hk | hk | hk | hk | hk | hk | hk | hk | hk
    · refine ⟨.act x.n,?_⟩;rw [leaf (by rw [hk]; rfl)];exact congrArg (fun y=>[y]) (rgt_name hxr (by rw [← hx]; exact hk)).symm
    · refine ⟨.skip,?_⟩;rw [leaf (by rw [hk]; rfl)];have:=z4o hxr (by omega) (by omega);rw [show x.k=2 by omega] at this;rw [this]
      rfl
    · refine ⟨.throw,?_⟩;rw [leaf (by rw [hk]; rfl)];have:=z4o hxr (by omega) (by omega);rw [show x.k=3 by omega] at this;rw [this]
      rfl
    · refine ⟨.yield,?_⟩;rw [leaf (by rw [hk]; rfl)];have:=z4o hxr (by omega) (by omega);rw [show x.k=4 by omega] at this;rw [this]
      rfl
    · obtain ⟨t,u,e⟩:=two (by rw [hk]; rfl);refine ⟨.seq t u,?_⟩;have:=z4o hxr (by omega) (by omega);rw [show x.k=5 by omega] at this;rw [e,this]
      rfl
    · obtain ⟨t,u,e⟩:=two (by rw [hk]; rfl);refine ⟨.alt t u,?_⟩;have:=z4o hxr (by omega) (by omega);rw [show x.k=6 by omega] at this;rw [e,this]
      rfl
    · obtain ⟨t,u,e⟩:=two (by rw [hk]; rfl);refine ⟨.par t u,?_⟩;have:=z4o hxr (by omega) (by omega);rw [show x.k=7 by omega] at this;rw [e,this]
      rfl
    · obtain ⟨t,u,e⟩:=two (by rw [hk]; rfl);refine ⟨.hand t u,?_⟩;have:=z4o hxr (by omega) (by omega);rw [show x.k=8 by omega] at this;rw [e,this]
      rfl
    · obtain ⟨t,e⟩:=one (by rw [hk]; rfl);refine ⟨.block t,?_⟩;have:=z4o hxr (by omega) (by omega);rw [show x.k=9 by omega] at this;rw [e,this]
      rfl
    · obtain ⟨t,u,e⟩:=two (by rw [hk]; rfl);refine ⟨.pair t u,?_⟩;have:=z4o hxr (by omega) (by omega);rw [show x.k=10 by omega] at this;rw [e,this]
      rfl
    · refine ⟨.over x.s,?_⟩;rw [leaf (by rw [hk]; rfl)];have:=(x6i hxr (by omega)).1;rw [show x.k=11 by omega] at this;exact congrArg (fun y=>[y]) this.symm
    · obtain ⟨t,u,e⟩:=two (by rw [hk]; rfl);refine ⟨.going t u,?_⟩;have:=z4o hxr (by omega) (by omega);rw [show x.k=12 by omega] at this;rw [e,this]
      rfl
    · obtain ⟨t,u,e⟩:=two (by rw [hk]; rfl);refine ⟨.stack t u,?_⟩;have:=z4o hxr (by omega) (by omega);rw [show x.k=13 by omega] at this;rw [e,this]
      rfl
    · obtain ⟨t,e⟩:=one (by rw [hk]; rfl);refine ⟨.fin x.s t,?_⟩;have:=(x6i hxr (by omega)).1;rw [show x.k=14 by omega] at this;rw [e];exact congrArg (fun y=>y::flat t) this.symm
theorem whole_tm {l:List Nd} (h:whole l=true):∃ t,flat t=l:=tm_of l.length l (Nat.le_refl _) (whole_tre h) (x5e h)
end Se
namespace Sx
open Go Go.RowKit Rw So
theorem y3c (l:List Nd) (p:Bool) (v:Value) (w:World) (hv:Nds w v l) (hl:l.length≤1000) (hm:Nms l) :
    Calls Tryz.prog 12 #[v,.bool p] w fun e w'=>e=.returned (.bool (onB l p))∧Below w.heap.size w w':=by
  have HV:=Lib.hid hv;have HC:=Lib.hid (fun w h=>ofP_any l v w h hl hm);have hr:onB l p=if p then pd (of l) else pl (of l):=rfl
  have h4:=of_le l;obtain ⟨z,hzz⟩:∃ z,of l=z:=⟨_,rfl⟩
  rw [hzz] at hr HC h4;rw [hr];obtain ⟨_,a,cap,rfl,-⟩:=hv;clear hm hzz hr
  cases p
  · rw [if_neg (by decide)]
    go_enter Tryz.func12,Tryz.ntmps12
    go_wp2_with fail;refine (HC.out _ HV.out).mono ?_;rintro e w1 ⟨rfl,hb⟩;have HB:=Lib.hid hb;clear hb;go_wp2_with fail;refine (plP z _ h4).mono ?_;rintro e w2 ⟨rfl,rfl⟩;go_wp2_with fail;go_ret;exact ⟨rfl,HB.out⟩
  · rw [if_pos rfl]
    go_enter Tryz.func12,Tryz.ntmps12
    go_wp2_with fail;refine (HC.out _ HV.out).mono ?_;rintro e w1 ⟨rfl,hb⟩;have HB:=Lib.hid hb;clear hb;go_wp2_with fail;refine (pdP z _ h4).mono ?_;rintro e w2 ⟨rfl,rfl⟩;go_wp2_with fail;go_ret;exact ⟨rfl,HB.out⟩

end Sx
namespace Tr
open Go Go.RowKit
def mx:Nat→List ByteArray→List ByteArray→List (List ByteArray)
  | _,[],b=>[b]
  | _,a,[]=>[a]
  | 0,_,_=>[]
  | n+1,x::a,y::b=>(mx n a (y::b)).map (x::·)++(mx n (x::a) b).map (y::·)
theorem z3i (n:Nat) (b:List ByteArray):mx n [] b=[b]:=by cases n <;> rfl
theorem z2i (n:Nat) (x:ByteArray) (a:List ByteArray):mx n (x::a) []=[x::a]:=by cases n <;> rfl
theorem x7s:∀ (n:Nat) (a b:List ByteArray),(mx n a b).length≤2 ^ n
  | n,[],b=>by rw [z3i]; exact Nat.one_le_two_pow
  | n,x::a,[]=>by rw [z2i]; exact Nat.one_le_two_pow
  | 0,x::a,y::b=>by simp [mx]
  | n+1,x::a,y::b=>by
    simp only [mx,List.length_append,List.length_map];have h1:=x7s n a (y::b);have h2:=x7s n (x::a) b;rw [Nat.pow_succ];omega
end Tr
namespace Rf
open Go Rw So
def plk (f:ByteArray→Bool) (l:List Nd) (k:Nat):List Nat:=(List.range k).filter fun i=>l[i]?.any (hit f)
def plc (f:ByteArray→Bool) (l:List Nd):List Nat:=plk f l l.length
end Rf
namespace Se
open Go Rw So
def stk (a d:Tm):Tm:=match a with
  | .fin s c=>.fin s (.seq c d)
  | a=>.stack a d
def sSeq (S:Tm→Tm) (a b:Tm):Tm:=match a with
  | .over s=>if s=1 then S b else .over s
  | .fin s c=>if s=1 then stk (S b) c else .fin s c
  | a=>.seq a b
def sHand (S:Tm→Tm) (a b:Tm):Tm:=match a with
  | .over s=>if s=2 then S b else .over s
  | a=>.hand a b
def sPar (a b:Tm):Tm:=match a,b with
  | .over s,.over t=>.over (Sg.both s t)
  | .fin s c,.fin t d=>.fin (Sg.both s t) (.par c d)
  | a,b=>.par a b
def sBlock (S:Tm→Tm) (a:Tm):Tm:=match a with
  | .fin s c=>if s=1 then .over 1 else if s=2 then S c else .block (.fin s c)
  | a=>.block a
def sGoing (a b:Tm):Tm:=match a with
  | .over s=>if s=1 then .fin 1 b else .fin s .skip
  | a=>.going a b
def se:Nat→Tm→Tm
  | 0,t=>t
  | f+1,t=>match t with
    | .skip=>.over 1
    | .throw=>.over 2
    | .seq a b=>sSeq (se f) (se f a) b
    | .hand a b=>sHand (se f) (se f a) b
    | .par a b=>sPar (se f a) (se f b)
    | .block a=>sBlock (se f) (se f a)
    | .going a b=>sGoing (se f a) b
    | .stack a b=>stk (se f a) b
    | t=>t
theorem stk_sz (a d:Tm):sz (stk a d)=sz a+sz d+1:=by
  cases a <;> simp [stk,sz]
  omega
theorem se_sz:∀ (f:Nat) (t:Tm),sz (se f t)≤sz t:=by
  intro f
  induction f with
  | zero=>intro t; exact Nat.le_refl _
  | succ f ih=>
    intro t
    cases t with
    | seq a b=>
      show sz (sSeq (se f) (se f a) b)≤_
      have h1:=ih a;have h2:=ih b;generalize se f a=x at h1 ⊢
      cases x <;> simp only [sSeq,sz] at h1 ⊢ <;> repeat' split
      all_goals try simp only [stk_sz,sz]
      all_goals omega
    | hand a b=>
      show sz (sHand (se f) (se f a) b)≤_
      have h1:=ih a;have h2:=ih b;generalize se f a=x at h1 ⊢
      cases x <;> simp only [sHand,sz] at h1 ⊢ <;> repeat' split
      all_goals try simp only [sz]
      all_goals omega
    | par a b=>
      show sz (sPar (se f a) (se f b))≤_
      have h1:=ih a;have h2:=ih b;generalize se f a=x at h1 ⊢;generalize se f b=y at h2 ⊢
      cases x <;> simp only [sPar,sz] at h1 ⊢
      all_goals try omega
      all_goals cases y <;> simp only [sz] at h2 ⊢ <;> omega
    | block a=>
      show sz (sBlock (se f) (se f a))≤_
      have h1:=ih a;generalize se f a=x at h1 ⊢
      cases x with
      | fin s c=>
        have h2:=ih c;simp only [sBlock,sz] at h1 ⊢
        repeat' split
        all_goals try simp only [sz]
        all_goals omega
      | _=>simp only [sBlock,sz] at h1 ⊢; omega
    | going a b=>
      show sz (sGoing (se f a) b)≤_
      have h1:=ih a;have:=z0l b;generalize se f a=x at h1 ⊢
      cases x <;> simp only [sGoing,sz] at h1 ⊢ <;> repeat' split
      all_goals try simp only [sz]
      all_goals omega
    | stack a b=>
      show sz (stk (se f a) b)≤_
      rw [stk_sz];have h1:=ih a;simp only [sz];omega
    | _=>exact Nat.le_refl _
theorem se_fuel:∀ (f:Nat) (t:Tm),sz t≤f→se (f+1) t=se f t:=by
  intro f
  induction f with
  | zero=>intro t h; have:=z0l t; omega
  | succ f ih=>
    intro t h
    cases t with
    | seq a b=>
      simp only [sz] at h
      show sSeq (se (f+1)) (se (f+1) a) b=sSeq (se f) (se f a) b
      rw [ih a (by omega)];unfold sSeq;rw [ih b (by omega)]
    | hand a b=>
      simp only [sz] at h
      show sHand (se (f+1)) (se (f+1) a) b=sHand (se f) (se f a) b
      rw [ih a (by omega)];unfold sHand;rw [ih b (by omega)]
    | par a b=>
      simp only [sz] at h
      show sPar (se (f+1) a) (se (f+1) b)=sPar (se f a) (se f b)
      rw [ih a (by omega),ih b (by omega)]
    | block a=>
      simp only [sz] at h
      show sBlock (se (f+1)) (se (f+1) a)=sBlock (se f) (se f a)
      rw [ih a (by omega)];have h1:=se_sz f a;generalize se f a=x at h1
      cases x with
      | fin s c=>
        simp only [sz] at h1;simp only [sBlock,ih c (by omega)]
      | _=>rfl
    | going a b=>
      simp only [sz] at h
      show sGoing (se (f+1) a) b=sGoing (se f a) b
      rw [ih a (by omega)]
    | stack a b=>
      simp only [sz] at h
      show stk (se (f+1) a) b=stk (se f a) b
      rw [ih a (by omega)]
    | _=>rfl
def S (t:Tm):Tm:=se (sz t) t
theorem se_S (f:Nat) (t:Tm) (h:sz t≤f):se f t=S t:=by
  have:∀ g,se (sz t+g) t=S t:=by
    intro g
    induction g with
    | zero=>rfl
    | succ g ih=>rw [← Nat.add_assoc,se_fuel _ _ (by omega),ih]
  have h':=this (f-sz t);rw [show sz t+(f-sz t)=f by omega] at h';exact h'
theorem S_sz (t:Tm):sz (S t)≤sz t:=se_sz _ _
theorem S_act (s:ByteArray):S (.act s)=.act s:=rfl
theorem x2f:S .skip=.over 1:=rfl
theorem y4h:S .throw=.over 2:=rfl
theorem v1o:S .yield=.yield:=rfl
theorem S_over (s:Int):S (.over s)=.over s:=rfl
theorem S_fin (s:Int) (c:Tm):S (.fin s c)=.fin s c:=rfl
theorem S_alt (a b:Tm):S (.alt a b)=.alt a b:=rfl
theorem S_pair (a b:Tm):S (.pair a b)=.pair a b:=rfl
theorem y9o (a b:Tm):S (.seq a b)=sSeq S (S a) b:=by
  show sSeq (se (sz a+sz b)) (se (sz a+sz b) a) b=_
  rw [se_S _ a (by omega)];unfold sSeq;rw [se_S _ b (by omega)]
theorem y0m (a b:Tm):S (.hand a b)=sHand S (S a) b:=by
  show sHand (se (sz a+sz b)) (se (sz a+sz b) a) b=_
  rw [se_S _ a (by omega)];unfold sHand;rw [se_S _ b (by omega)]
theorem y9p (a b:Tm):S (.par a b)=sPar (S a) (S b):=by
  show sPar (se (sz a+sz b) a) (se (sz a+sz b) b)=_
  rw [se_S _ a (by omega),se_S _ b (by omega)]
theorem z5x (a:Tm):S (.block a)=sBlock S (S a):=by
  show sBlock (se (sz a)) (se (sz a) a)=_
  rw [se_S _ a (by omega)];have h:=S_sz a;generalize S a=x at h
  cases x with
  | fin s c=>
    simp only [sz] at h;simp only [sBlock,se_S _ c (show sz c≤sz a by omega)]
  | _=>rfl
theorem z5w (a b:Tm):S (.going a b)=sGoing (S a) b:=by
  show sGoing (se (sz a+sz b) a) b=_
  rw [se_S _ a (by omega)]
theorem z5v (a b:Tm):S (.stack a b)=stk (S a) b:=by
  show stk (se (sz a+sz b) a) b=_
  rw [se_S _ a (by omega)]
theorem x4w {P:Tm→Prop} (h:∀ t,(∀ u,sz u<sz t→P u)→P t):∀ t,P t:=by
  have:∀ (n:Nat) (t:Tm),sz t≤n→P t:=by
    intro n
    induction n with
    | zero=>intro t h; have:=z0l t; omega
    | succ n ih=>intro t ht; exact h t fun u hu=>ih u (by omega)
  exact fun t=>this _ t (Nat.le_refl _)
theorem stk_is {a d:Tm} (ha:is a 4=true) (hd:is d 1=true):is (stk a d) 4=true:=by
  cases a <;> simp_all [stk,is]
theorem S_is:∀ t:Tm,(is t 3=true→is (S t) 3=true)∧(is t 4=true→is (S t) 4=true):=by
  apply x4w
  intro t ih
  cases t with
  | seq a b=>
    have ia:=ih a (by simp [sz]; omega);have ib:=ih b (by simp [sz]; omega);have j:=is13 b;rw [y9o];generalize S a=x at ia ⊢
    constructor
    · intro h;simp [is] at h;have i1:=ia.1 h.1;have i2:=ib.1 (j.1 h.2)
      cases x <;> simp only [sSeq] <;> (try split) <;> simp_all [is]
    · intro h;simp [is] at h;have i1:=ia.2 h.1;have i2:=ib.2 (j.2 h.2)
      cases x with
      | fin s c=>
        simp only [sSeq];simp [is] at i1
        split
        · exact stk_is i2 i1
        · simpa [is] using i1
      | _=>simp_all [is,sSeq]
  | hand a b=>
    have ia:=ih a (by simp [sz]; omega);have ib:=ih b (by simp [sz]; omega);have j:=is13 b;rw [y0m];generalize S a=x at ia ⊢
    constructor
    · intro h;simp [is] at h;have i1:=ia.1 h.1;have i2:=ib.1 (j.1 h.2)
      cases x <;> simp only [sHand] <;> (try split) <;> simp_all [is]
    · intro h;simp [is] at h
  | par a b=>
    have ia:=ih a (by simp [sz]; omega);have ib:=ih b (by simp [sz]; omega);rw [y9p];generalize S a=x at ia ⊢;generalize S b=y at ib ⊢
    constructor
    · intro h;simp [is] at h;have i1:=ia.1 h.1;have i2:=ib.1 h.2
      cases x <;> (try (simp [is] at i1; done)) <;> simp only [sPar] <;> (try (simp_all [is]; done))
      cases y <;> simp_all [is]
    · intro h;simp [is] at h;have i1:=ia.2 h.1;have i2:=ib.2 h.2
      cases x <;> (try (simp [is] at i1; done)) <;> simp only [sPar] <;> (try (simp_all [is]; done))
      cases y <;> simp_all [is]
  | block a=>
    have ia:=ih a (by simp [sz]);have hs:=S_sz a;rw [z5x];generalize S a=x at ia hs ⊢
    constructor
    · intro h;simp [is] at h;have i1:=ia.2 h
      cases x with
      | fin s c=>
        simp [is] at i1;simp only [sBlock]
        split
        · rfl
        · split
          · simp only [sz] at hs;exact (ih c (by simp [sz]; omega)).1 ((is13 c).1 i1)
          · simp [is,i1]
      | _=>simp_all [is,sBlock]
    · intro h;simp [is] at h
  | going a b=>
    have ia:=ih a (by simp [sz]; omega);rw [z5w];generalize S a=x at ia ⊢
    constructor
    · intro h;simp [is] at h
    · intro h;simp [is] at h;have i1:=ia.1 h.1
      cases x <;> simp only [sGoing] <;> (try split) <;> simp_all [is]
  | stack a b=>
    have ia:=ih a (by simp [sz]; omega);rw [z5v]
    constructor
    · intro h;simp [is] at h
    · intro h;simp [is] at h;exact stk_is (ia.2 h.1) h.2
  | _=>simp_all [S_act,x2f,y4h,v1o,S_over,S_fin,S_alt,S_pair,is]
def isOver:Tm→Bool
  | .over _=>true
  | _=>false
def isFin:Tm→Bool
  | .fin _ _=>true
  | _=>false
def isGone:Tm→Bool
  | .fin s _=>s==1||s==2
  | _=>false
def Nf:Tm→Prop
  | .skip=>False
  | .throw=>False
  | .seq a _=>Nf a∧isOver a=false∧isFin a=false
  | .hand a _=>Nf a∧isOver a=false
  | .par a b=>Nf a∧Nf b∧(isOver a&&isOver b)=false∧(isFin a&&isFin b)=false
  | .block a=>Nf a∧isGone a=false
  | .going a _=>Nf a∧isOver a=false
  | .stack a _=>Nf a∧isFin a=false
  | _=>True
theorem stk_nf {a d:Tm} (ha:Nf a):Nf (stk a d):=by
  cases a <;> simp_all [stk,Nf,isOver,isFin]
theorem S_nf:∀ t:Tm,Nf (S t):=by
  apply x4w
  intro t ih
  cases t with
  | seq a b=>
    have ia:=ih a (by simp [sz]; omega);have ib:=ih b (by simp [sz]; omega);rw [y9o];generalize S a=x at ia ⊢
    cases x <;> simp only [sSeq] <;> (try split) <;> first | exact ib | exact stk_nf ib | simp_all [Nf,isOver,isFin,isGone]
  | hand a b=>
    have ia:=ih a (by simp [sz]; omega);have ib:=ih b (by simp [sz]; omega);rw [y0m];generalize S a=x at ia ⊢
    cases x <;> simp only [sHand] <;> (try split) <;> first | exact ib | simp_all [Nf,isOver,isFin,isGone]
  | par a b=>
    have ia:=ih a (by simp [sz]; omega);have ib:=ih b (by simp [sz]; omega);rw [y9p];generalize S a=x at ia ⊢;generalize S b=y at ib ⊢
    cases x <;> simp only [sPar] <;> (try (simp_all [Nf,isOver,isFin,isGone]; done))
    all_goals cases y <;> simp_all [Nf,isOver,isFin,isGone]
  | block a=>
    have ia:=ih a (by simp [sz]);have hs:=S_sz a;rw [z5x];generalize S a=x at ia hs ⊢
    cases x with
    | fin s c=>
      simp only [sBlock]
      split
      · simp [Nf]
      · split
        · simp only [sz] at hs;exact ih c (by simp [sz]; omega)
        · simp_all [Nf,isGone]
    | _=>simp_all [Nf,sBlock,isGone]
  | going a b=>
    have ia:=ih a (by simp [sz]; omega);rw [z5w];generalize S a=x at ia ⊢
    cases x <;> simp only [sGoing] <;> (try split) <;> simp_all [Nf,isOver,isFin,isGone]
  | stack a b=>
    have ia:=ih a (by simp [sz]; omega);rw [z5v];exact stk_nf ia
  | _=>simp_all [S_act,x2f,y4h,v1o,S_over,S_fin,S_alt,S_pair,Nf]
theorem nf_S:∀ t:Tm,Nf t→S t=t:=by
  intro t
  induction t with
  | seq a b ia ib=>
    intro h;rw [y9o,ia h.1];obtain ⟨h1,h2,h3⟩:=h
    cases a <;> simp_all [sSeq,isOver,isFin]
  | hand a b ia ib=>
    intro h;rw [y0m,ia h.1];obtain ⟨h1,h2⟩:=h
    cases a <;> simp_all [sHand,isOver]
  | par a b ia ib=>
    intro h;rw [y9p,ia h.1,ib h.2.1];obtain ⟨h1,h2,h3,h4⟩:=h
    cases a <;> simp only [sPar]
    all_goals cases b <;> simp_all [isOver,isFin]
  | block a ia=>
    intro h;rw [z5x,ia h.1];obtain ⟨h1,h2⟩:=h
    cases a with
    | fin s c=>
      simp [isGone] at h2;simp [sBlock,h2]
    | _=>rfl
  | going a b ia ib=>
    intro h;rw [z5w,ia h.1];obtain ⟨h1,h2⟩:=h
    cases a <;> simp_all [sGoing,isOver]
  | stack a b ia ib=>
    intro h;rw [z5v,ia h.1];obtain ⟨h1,h2⟩:=h
    cases a <;> simp_all [stk,isFin]
  | skip=>intro h; exact h.elim
  | throw=>intro h; exact h.elim
  | _=>intro _; rfl
theorem S_twice (t:Tm):S (S t)=S t:=nf_S _ (S_nf t)
end Se
namespace Tr
open Go Go.RowKit

end Tr
namespace Rf
open Go Go.RowKit Rw
def Strs (w:World) (v:Value) (l:List ByteArray):Prop:=Ap.Rd w 1 v l.length (l.map .string)
def AtS (w:World) (b off:Nat) (l:List ByteArray):Prop:=∀ k,(h:k<l.length)→w.cell? ⟨b,off+k,none⟩=some (.string l[k])
def Got (w wr:World) (v:Value) (l:List Nd):Prop:=wr.ownsRow w.heap.size 36 3 v l.length (cls l)∧Below w.heap.size w wr
end Rf
namespace Se
open Go Go.RowKit Rw So
def kd (t:Tm):Int:=hd (flat t)
def sgl:List Nd→Int
  | []=>0
  | n::_=>n.s
def sg (t:Tm):Int:=sgl (flat t)
theorem at0 {l:List Nd} (h:0<l.length):l[0].k=hd l∧l[0].s=sgl l:=by
  cases l with
  | nil=>simp at h
  | cons n r=>exact ⟨rfl,rfl⟩
theorem form {w:World} {v:Value} {t:Tm} (hv:Nds w v (flat t)):∃ b o c,v=.slice (some ⟨b,o,none⟩) (sz t) c∧sz t≤c∧b<w.heap.size∧(∀ w',Below w.heap.size w w'→w'.cell? ⟨b,o,none⟩=some (.int .i64 (kd t))∧w'.cell? ⟨b,o+2,none⟩=some (.int .i64 (sg t)))∧At w b o (flat t):=by
  rcases hv.form with ⟨_,hl⟩ | ⟨b,o,c,rfl,hc,hat⟩
  · exact absurd (by simp_all) (x9m t)
  · rw [flat_len] at hc ⊢;have hp:=z0l t;have hl:=flat_len t;obtain ⟨h1,_,h3⟩:=hat 0 (by omega);rw [Nat.zero_mul,Nat.add_zero] at h1 h3;have lt:=Ap.z0a h1;refine ⟨b,o,c,rfl,hc,lt,fun w' hb=>?_,hat⟩;obtain ⟨g1,g2⟩:=at0 (l:=flat t) (by omega);rw [hb.cell (p:=⟨b,o,none⟩) lt,hb.cell (p:=⟨b,o+2,none⟩) lt,h1,h3,g1,g2];exact ⟨rfl,rfl⟩
theorem z2r {w:World} {b o c:Nat} {s:Int} {t:Tm} (hat:At w b o (flat (.fin s t))) (hc:sz (.fin s t)≤c):Nds w (.slice (some ⟨b,o+3,none⟩) (sz t) (c-1)) (flat t):=by
  have h:=z3x hat 1 (sz t) (c-1) (by rw [flat_len]; simp [sz]; omega) (by simp [sz] at hc; omega)
  have e:((flat (.fin s t)).drop 1).take (sz t)=flat t:=by
    show ((nEnd s::flat t).drop 1).take (sz t)=_
    rw [List.drop_succ_cons,List.drop_zero,← flat_len t,List.take_length]
  rw [e] at h;exact h
end Se
end Go.Proofs.YtaapnkoooofalaaGreat
