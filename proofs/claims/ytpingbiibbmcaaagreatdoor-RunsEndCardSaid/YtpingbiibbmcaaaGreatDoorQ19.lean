/- Laws that the last text leans on. -/
import Derived.RangeFuncBound
import Derived.RangeFuncCalls
import Derived.TacticsInMore
import Derived.OwnWalkIn
import Derived.Test.YtpingbiibbmcaaaGreatDoorQ18

set_option maxRecDepth 20000
set_option maxHeartbeats 1000000
namespace Go.Proofs.YtpingbiibbmcaaaGreatDoor
namespace Mn
open Go Tr
inductive Mix:List ByteArray→List ByteArray→List ByteArray→Prop
  | nil:Mix [] [] []
  | l {x:ByteArray} {a b r:List ByteArray}:Mix a b r→Mix (x::a) b (x::r)
  | r {y:ByteArray} {a b r:List ByteArray}:Mix a b r→Mix a (y::b) (y::r)
theorem Mix.self_r:∀ b:List ByteArray,Mix [] b b
  | []=>.nil
  | _::b=>.r (Mix.self_r b)
theorem Mix.self_l:∀ b:List ByteArray,Mix b [] b
  | []=>.nil
  | _::b=>.l (Mix.self_l b)
theorem Mix.eq_r {a b r:List ByteArray} (h:Mix a b r):a=[]→r=b:=by
  induction h with
  | nil=>intro _; rfl
  | l _ _=>intro e; cases e
  | r _ ih=>intro e; rw [ih e]
theorem Mix.eq_l {a b r:List ByteArray} (h:Mix a b r):b=[]→r=a:=by
  induction h with
  | nil=>intro _; rfl
  | l _ ih=>intro e; rw [ih e]
  | r _ _=>intro e; cases e
theorem Mix.comm {a b r:List ByteArray} (h:Mix a b r):Mix b a r:=by
  induction h with
  | nil=>exact .nil
  | l _ ih=>exact .r ih
  | r _ ih=>exact .l ih
theorem y1q:∀ (n:Nat) (a b r:List ByteArray),a.length+b.length≤n→(r∈mx n a b↔Mix a b r)
  | n,[],b,r,_=>by
    rw [x2b,List.mem_singleton];exact ⟨fun e=>e ▸ Mix.self_r b,fun h=>h.eq_r rfl⟩
  | n,x::a,[],r,_=>by
    rw [z8f,List.mem_singleton];exact ⟨fun e=>e ▸ Mix.self_l _,fun h=>h.eq_l rfl⟩
  | 0,x::a,y::b,r,h=>by simp at h
  | n+1,x::a,y::b,r,h=>by
    simp only [mx,List.mem_append,List.mem_map];simp only [List.length_cons] at h
    constructor
    · rintro (⟨s,hs,rfl⟩ | ⟨s,hs,rfl⟩)
      · exact .l ((y1q n a (y::b) s (by simp; omega)).1 hs)
      · exact .r ((y1q n (x::a) b s (by simp; omega)).1 hs)
    · intro hm
      cases hm with
      | l h'=>exact .inl ⟨_,(y1q n a (y::b) _ (by simp; omega)).2 h',rfl⟩
      | r h'=>exact .inr ⟨_,(y1q n (x::a) b _ (by simp; omega)).2 h',rfl⟩
theorem z3i {p q t:Tr} (h:p.a.length+q.a.length≤19):t∈pr p q↔Mix p.a q.a t.a∧t.e=Sg.both p.e q.e:=by
  constructor
  · intro ht;have:=v1a ht;exact ⟨(y1q 19 _ _ _ h).1 this.1,this.2⟩
  · rintro ⟨h1,h2⟩;unfold pr;exact (z0s _ _).2 (List.mem_map.2 ⟨t.a,(y1q 19 _ _ _ h).2 h1,by rw [← h2]⟩)
theorem one5 (p q:Tr):one 5 p q=[thn p q]:=by unfold one; rw [if_pos rfl]
theorem one7 (p q:Tr):one 7 p q=pr p q:=by unfold one; rw [if_neg (by decide),if_pos rfl]
theorem one8 (p q:Tr):one 8 p q=[hnd p q]:=by unfold one; rw [if_neg (by decide),if_neg (by decide)]
theorem mem5 {A B:List Tr} {t:Tr}:t∈two 5 A B↔∃ p∈A,∃ q∈B,t=thn p q:=by
  rw [z4l,if_neg (by decide)];simp only [one5,List.mem_singleton]
theorem mem6 {A B:List Tr} {t:Tr}:t∈two 6 A B↔t∈A∨t∈B:=by rw [z4l,if_pos rfl]
theorem mem7 {A B:List Tr} {t:Tr}:t∈two 7 A B↔∃ p∈A,∃ q∈B,t∈pr p q:=by
  rw [z4l,if_neg (by decide)];simp only [one7]
theorem mem8 {A B:List Tr} {t:Tr}:t∈two 8 A B↔∃ p∈A,∃ q∈B,t=hnd p q:=by
  rw [z4l,if_neg (by decide)];simp only [one8,List.mem_singleton]
def bang:Tr:=⟨[],2⟩
theorem z3w {A l:List Tr} (h:Up A) (hm:∀ t,t∈A↔t∈l):norm l=A:=(y9e h hm).symm
theorem z7w (q:Tr):thn tick q=q:=by unfold thn tick; rw [if_pos rfl]; rfl
theorem x3n (q:Tr):hnd bang q=q:=by unfold hnd bang; rw [if_pos rfl]; rfl
theorem unit_l {A:List Tr} (h:Up A):norm (two 5 [tick] A)=A:=z3w h fun t=>by
  simp only [mem5,List.mem_singleton]
  constructor
  · intro ht; exact ⟨tick,rfl,t,ht,(z7w t).symm⟩
  · rintro ⟨p,rfl,q,hq,rfl⟩; rw [z7w]; exact hq
theorem x7n {A:List Tr} (h:Up A):norm (two 8 [bang] A)=A:=z3w h fun t=>by
  simp only [mem8,List.mem_singleton]
  constructor
  · intro ht; exact ⟨bang,rfl,t,ht,(x3n t).symm⟩
  · rintro ⟨p,rfl,q,hq,rfl⟩; rw [x3n]; exact hq
theorem y5e (t:Tr):Up [t]:=List.pairwise_singleton _ _
def want (A:List Tr):List Tr:=A.flatMap fun p=>if p.e=3 then [] else [⟨p.a,1⟩]
theorem y9k {X:List Pr} {t:Tr}:t∈blk X↔∃ x∈X,t∈blk1 x:=List.mem_flatMap
end Mn
namespace Pl
open Go Go.RowKit Rw YtpingbiibbmcaaaGreatDoor.So Ro
def Ow (w:World) (v:Value) (L:List Nat):Prop:=w.ownsRow 0 3 1 v L.length (Rx.ic L)
theorem Ow.slice {w:World} {v:Value} {L:List Nat} (h:Ow w v L):∃ a c,v=.slice a L.length c:=by
  obtain ⟨_,⟨rfl,h0⟩ | ⟨g,cap,cur,rfl,_⟩⟩:=h
  · exact ⟨none,0,by rw [h0]⟩
  · exact ⟨_,_,rfl⟩
theorem Ow.lt {w:World} {v:Value} {L:List Nat} (h:Ow w v L):∀ g,v.ownBlock=some g→g<w.heap.size:=Ap.y6b h
theorem Ow.turn {M:Nat→Prop} {w w':World} {v:Value} {L:List Nat} (h:Ow w v L) (ht:Turn M w w') (hn:∀ g,v.ownBlock=some g→¬ M g):Ow w' v L:=by
  obtain ⟨hl,h | ⟨g,cap,cur,rfl,hg,hh,h1,h2,h3,h4⟩⟩:=h
  · exact ⟨hl,.inl h⟩
  · refine ⟨hl,.inr ⟨g,cap,cur,rfl,hg,?_,h1,h2,h3,h4⟩⟩;rw [ht.block g (Nat.lt_of_not_le fun hle=>by rw [Array.getElem?_eq_none hle] at hh; cases hh) (hn g rfl)];exact hh
theorem Ow.keep {M:Nat→Prop} {w w':World} {v:Value} {L:List Nat} (h:Ow w v L) (ht:Keep M w w') (hn:∀ g,v.ownBlock=some g→M g):Ow w' v L:=by
  obtain ⟨hl,h | ⟨g,cap,cur,rfl,hg,hh,h1,h2,h3,h4⟩⟩:=h
  · exact ⟨hl,.inl h⟩
  · refine ⟨hl,.inr ⟨g,cap,cur,rfl,hg,?_,h1,h2,h3,h4⟩⟩;rw [ht.block g (hn g rfl)];exact hh
theorem Ow.plc {w:World} {v:Value} {L:List Nat} (h:Ow w v L):Rf.Plc w v L:=Ap.Rd.owned h
theorem Ow.push {w:World} {v x:Value} {L:List Nat} {k:Nat} (h:Ow w v L) (hx:Ap.Rd w 1 x 1 [.int .i64 (k:Int)]) (hl:L.length≤8796093022208) :
    ∃ v' w',(Builtin.append_ #[23,23] 23 #[v,x]).run Tryz.prog w=.ok v' w'∧Ow w' v' (L++[k])∧w.grownBy w' v.ownBlock∧Ap.Fresh w v v':=by
  obtain ⟨i0,hi,hz,hs1,hb8⟩:=info_parts Rx.v1u
  obtain ⟨v',w',h1,h2,h3,_,h5⟩:=Ap.z0t (P:=Tryz.prog) (ty:=23) Tryz.underlying23 hi hz hs1 hb8 (by rfl) (by omega) h (Nat.zero_le _) hx
    (by intro u hu; simp at hu; subst hu; rfl) (by unfold maxLen; omega) (by omega)
  refine ⟨v',w',h1,?_,h3,h5⟩;unfold Ow;have e:Rx.ic (L++[k])=Rx.ic L++[.int .i64 (k:Int)]:=by simp [Rx.ic]
  rw [e,show (L++[k]).length=L.length+1 by simp];exact h2
theorem y8c {w:World} {g cap:Nat} {st:List Nat} (h:Rx.Stk 0 w g cap st) (m:Nat) (hm:m≤st.length):Rx.Stk 0 w g cap (st.take m):=by
  obtain ⟨cur,hg,hb,hmx,hs,hn,ht⟩:=h.parts;refine Rx.Stk.of hg hb hmx hs (by rw [List.length_take]; omega) ?_;have e:(st.take m).length=m:=by rw [List.length_take]; omega
  rw [e];have:=congrArg (List.take m) ht;rw [List.take_take,Nat.min_eq_left hm] at this;rw [this];simp [Rx.ic,List.map_take]
theorem Ow.some {w:World} {v:Value} {L:List Nat} (h:Ow w v L) (h0:0<L.length):∃ g c,v=.slice (some ⟨g,0,none⟩) L.length c∧Rx.Stk 0 w g c L:=by
  have h':=h;obtain ⟨_,⟨_,hz⟩ | ⟨g,cap,cur,rfl,_⟩⟩:=h
  · omega
  · exact ⟨g,cap,rfl,h'⟩
def Told (l:List Nd) (k:Nat) (args:Array Value) (w:World):Prop:=∃ v,args=#[.int .i64 (k:Int),v]∧Rf.Plc w v (ov l k)
def rounds (l:List Nd):Nat:=if one l=true then l.length else 0
structure Two (T:Nat→Prop) (w:World) (va vo:Value) (ab st:List Nat):Prop where
  a:Ow w va ab
  o:Ow w vo st
  ta:∀ g,va.ownBlock=some g→T g
  tq:∀ g,vo.ownBlock=some g→T g
  ne:∀ g,va.ownBlock=some g→vo.ownBlock≠some g
theorem v0k (B l0:Nat) (v:Value) (l:List Nd) (w:World) (hc:w.cell? ⟨B,0,none⟩=some v) (hv:Nds w v l) (hl:l.length≤4398046511104) (h0:one l=false) :
    Calls Tryz.prog 319 #[.func (.yield l0) #[] #[],.pointer (some ⟨B,0,none⟩)] w fun e w'=>(∃ y,e=.returned y)∧Below w.heap.size w w':=by
  have HN:=Lib.hid hv;obtain ⟨_,a,cap,rfl,-⟩:=hv;have H0:=Lib.hid h0;clear h0
  go_enter Tryz.func319,Tryz.ntmps319
  go_wp2_with fail;refine (y0b _ l _ HN.out hl).mono ?_;rw [H0.out];rintro e w' ⟨rfl,hb⟩;have HB:=Lib.hid hb;clear hb;go_wp2_with fail;refine bodyPost_ret (results_none rfl _ _ _) rfl ?_;exact ⟨⟨_,rfl⟩,HB.out⟩
end Pl
namespace Se
open Go Go.RowKit Rw YtpingbiibbmcaaaGreatDoor.So
theorem x7o (base:Nat) (kk g:Int) (d:Tm) (vA:Value) (vB:Value) (w:World) (hA:NdO base w vA (.over g)) (hB:Nds w vB (flat d)) (PB:Hid (PS d)) (hbs:base≤w.heap.size) (hl:sz (.over g)+sz d≤900) :
    Calls Tryz.prog 209 #[.agg #[.int .i64 kk,.string ⟨#[]⟩,.int .i64 0],.int .i64 g,vA,vB] w (OutB base (S d) w):=by
  have HL:Hid (sz (.over g)+sz d≤900):=Lib.hid hl;have HB:=Lib.hid hbs;have AA:=Lib.hid (fun w1 (hb:Below w.heap.size w w1)=>hA.below hb);obtain ⟨bA,oA,cA,rfl,hcA,hltA,hwA,hatA⟩:=z1w hA.nds;obtain ⟨nA,hnA⟩:∃ n,sz (.over g)=n+1:=⟨sz (.over g)-1,by have:=z0e (.over g); omega⟩
  rw [hnA] at hcA AA ⊢;clear hnA;have g3A:(1:Int)≤(nA:Int)+1:=by omega
  rw [show kd (.over g)=11 from rfl,show sg (.over g)=g from rfl,show nmT (.over g)=⟨#[]⟩ from rfl] at hwA;have AB:=Lib.hid (fun w1 (hb:Below w.heap.size w w1)=>hB.below hb);obtain ⟨_,adB,cdB,rfl,-⟩:=id hB;have qe0:∀ w,(binOp .eql 68 (.agg #[.int .i64 11,.string ⟨#[]⟩,.int .i64 g]) (.agg #[.int .i64 11,.string ⟨#[]⟩,.int .i64 g])).run Tryz.prog w=.ok (.bool true) w:=fun w=>by rw [eq_bare]; exact congrArg (fun x=>Result.ok (Value.bool x) w) (decide_eq_true rfl)
  unfold OutB;clear hl hbs hatA hA hB
  go_enter Tryz.func209,Tryz.ntmps209
  go_wp2_with fail;have BW0:=z0b w (.cells #[.int .i64 kk,.string ⟨#[]⟩,.int .i64 0] 68);have BC:=z0m w kk 0 ⟨#[]⟩ 68;generalize w.alloc (.cells #[.int .i64 kk,.string ⟨#[]⟩,.int .i64 0] 68)=W at BW0 BC ⊢;have BW:=Lib.hid BW0
  have SW:Hid (∀ w',Below W.heap.size W w'→w'.cell? ⟨bA,oA,none⟩=some (.int .i64 11)∧w'.cell? ⟨bA,oA+1,none⟩=some (.string ⟨#[]⟩)∧w'.cell? ⟨bA,oA+2,none⟩=some (.int .i64 g)∧w'.cell? ⟨w.heap.size,0,none⟩=some (.int .i64 kk)∧w'.cell? ⟨w.heap.size,1,none⟩=some (.string ⟨#[]⟩)∧w'.cell? ⟨w.heap.size,2,none⟩=some (.int .i64 0)):=Lib.hid fun w1 hb=>by
    obtain ⟨x0,x1,x2⟩:=hwA w1 (BW.out.trans (hb.mono BW.out.size));obtain ⟨x3,x4,x5⟩:=BC w1 hb;exact ⟨x0,x1,x2,x3,x4,x5⟩
  clear BW0 BC hwA
  go_region_held3 (fun w'=>w'.cell? ⟨bA,oA,none⟩=some (.int .i64 11)∧w'.cell? ⟨bA,oA+1,none⟩=some (.string ⟨#[]⟩)∧w'.cell? ⟨bA,oA+2,none⟩=some (.int .i64 g)∧w'.cell? ⟨w.heap.size,0,none⟩=some (.int .i64 kk)∧w'.cell? ⟨w.heap.size,1,none⟩=some (.string ⟨#[]⟩)∧w'.cell? ⟨w.heap.size,2,none⟩=some (.int .i64 0)) (first | exact SW.out _ ((Below.refl W.heap.size W)).drew | exact SW.out _ (D1.out).drew | exact SW.out _ (Below.refl W.heap.size W) | exact SW.out _ D1.out | exact SW.out _ (Below.alloc (Below.refl W.heap.size W) ((Below.refl W.heap.size W)).size _) | exact SW.out _ (Below.alloc D1.out (D1.out).size _) | exact SW.out _ (Below.alloc (Below.refl W.heap.size W) ((Below.refl W.heap.size W)).size _).drew | exact SW.out _ (Below.alloc D1.out (D1.out).size _).drew | fail) (first
    | (go_at_call 208
       (with_reducible refine (z1e g _).mono ?_)
       rintro e w1 ⟨rfl,hb1⟩;have D1:=Lib.hid ((((Below.refl W.heap.size W)).drew).trans (hb1.mono (((Below.refl W.heap.size W)).drew).size));clear hb1)
    | fail)
  go_wp2_with fail;refine (PB.out _ _ (AB.out _ (BW.out.trans ((D1.out).mono BW.out.size)))).mono ?_;rintro e w2 ⟨y2,rfl,hn2,hb2⟩;obtain ⟨_,ay2,cy2,rfl,-⟩:=id hn2;have D2:=Lib.hid ((D1.out).trans (hb2.mono (D1.out).size));have N2:=Lib.hid hn2;clear hn2 hb2;go_wp2_with fail;go_ret;exact ⟨_,rfl,N2.out.more (Nat.le_trans HB.out (Nat.le_trans BW.out.size D1.out.size)),BW.out.trans ((D2.out).mono BW.out.size)⟩
theorem y5f (base:Nat) (kk g s:Int) (d:Tm) (vA:Value) (vB:Value) (w:World) (hA:NdO base w vA (.over s)) (hB:Nds w vB (flat d)) (hs:s≠g) (hbs:base≤w.heap.size) (hl:sz (.over s)+sz d≤900) :
    Calls Tryz.prog 209 #[.agg #[.int .i64 kk,.string ⟨#[]⟩,.int .i64 0],.int .i64 g,vA,vB] w (OutB base (.over s) w):=by
  have HL:Hid (sz (.over s)+sz d≤900):=Lib.hid hl;have HB:=Lib.hid hbs;have AA:=Lib.hid (fun w1 (hb:Below w.heap.size w w1)=>hA.below hb);obtain ⟨bA,oA,cA,rfl,hcA,hltA,hwA,hatA⟩:=z1w hA.nds;obtain ⟨nA,hnA⟩:∃ n,sz (.over s)=n+1:=⟨sz (.over s)-1,by have:=z0e (.over s); omega⟩
  rw [hnA] at hcA AA ⊢;clear hnA;have g3A:(1:Int)≤(nA:Int)+1:=by omega
  rw [show kd (.over s)=11 from rfl,show sg (.over s)=s from rfl,show nmT (.over s)=⟨#[]⟩ from rfl] at hwA;have AB:=Lib.hid (fun w1 (hb:Below w.heap.size w w1)=>hB.below hb);obtain ⟨_,adB,cdB,rfl,-⟩:=id hB;have qe0:∀ w,(binOp .eql 68 (.agg #[.int .i64 11,.string ⟨#[]⟩,.int .i64 s]) (.agg #[.int .i64 11,.string ⟨#[]⟩,.int .i64 g])).run Tryz.prog w=.ok (.bool false) w:=fun w=>by rw [eq_bare]; exact congrArg (fun x=>Result.ok (Value.bool x) w) (decide_eq_false (fun e=>absurd (congrArg Nd.s e) hs))
  have qe1:∀ w,(binOp .eql 68 (.agg #[.int .i64 11,.string ⟨#[]⟩,.int .i64 s]) (.agg #[.int .i64 14,.string ⟨#[]⟩,.int .i64 1])).run Tryz.prog w=.ok (.bool false) w:=fun w=>by rw [eq_bare]; exact congrArg (fun x=>Result.ok (Value.bool x) w) (decide_eq_false (fun e=>absurd (congrArg Nd.k e) (by simp)))
  unfold OutB;clear hl hbs hatA hA hB
  go_enter Tryz.func209,Tryz.ntmps209
  go_wp2_with fail;have BW0:=z0b w (.cells #[.int .i64 kk,.string ⟨#[]⟩,.int .i64 0] 68);have BC:=z0m w kk 0 ⟨#[]⟩ 68;generalize w.alloc (.cells #[.int .i64 kk,.string ⟨#[]⟩,.int .i64 0] 68)=W at BW0 BC ⊢;have BW:=Lib.hid BW0
  have SW:Hid (∀ w',Below W.heap.size W w'→w'.cell? ⟨bA,oA,none⟩=some (.int .i64 11)∧w'.cell? ⟨bA,oA+1,none⟩=some (.string ⟨#[]⟩)∧w'.cell? ⟨bA,oA+2,none⟩=some (.int .i64 s)∧w'.cell? ⟨w.heap.size,0,none⟩=some (.int .i64 kk)∧w'.cell? ⟨w.heap.size,1,none⟩=some (.string ⟨#[]⟩)∧w'.cell? ⟨w.heap.size,2,none⟩=some (.int .i64 0)):=Lib.hid fun w1 hb=>by
    obtain ⟨x0,x1,x2⟩:=hwA w1 (BW.out.trans (hb.mono BW.out.size));obtain ⟨x3,x4,x5⟩:=BC w1 hb;exact ⟨x0,x1,x2,x3,x4,x5⟩
  clear BW0 BC hwA
  go_region_held3 (fun w'=>w'.cell? ⟨bA,oA,none⟩=some (.int .i64 11)∧w'.cell? ⟨bA,oA+1,none⟩=some (.string ⟨#[]⟩)∧w'.cell? ⟨bA,oA+2,none⟩=some (.int .i64 s)∧w'.cell? ⟨w.heap.size,0,none⟩=some (.int .i64 kk)∧w'.cell? ⟨w.heap.size,1,none⟩=some (.string ⟨#[]⟩)∧w'.cell? ⟨w.heap.size,2,none⟩=some (.int .i64 0)) (first | exact SW.out _ ((Below.refl W.heap.size W)).drew | exact SW.out _ (D1.out).drew | exact SW.out _ (Below.refl W.heap.size W) | exact SW.out _ D1.out | exact SW.out _ (Below.alloc (Below.refl W.heap.size W) ((Below.refl W.heap.size W)).size _) | exact SW.out _ (Below.alloc D1.out (D1.out).size _) | exact SW.out _ (Below.alloc (Below.refl W.heap.size W) ((Below.refl W.heap.size W)).size _).drew | exact SW.out _ (Below.alloc D1.out (D1.out).size _).drew | fail) (first
    | (go_at_call 208
       (with_reducible refine (z1e g _).mono ?_)
       rintro e w1 ⟨rfl,hb1⟩;have D1:=Lib.hid ((((Below.refl W.heap.size W)).drew).trans (hb1.mono (((Below.refl W.heap.size W)).drew).size));clear hb1)
    | fail)
  go_wp2_with fail
  go_region_held3 (fun w'=>w'.cell? ⟨bA,oA,none⟩=some (.int .i64 11)∧w'.cell? ⟨bA,oA+1,none⟩=some (.string ⟨#[]⟩)∧w'.cell? ⟨bA,oA+2,none⟩=some (.int .i64 s)∧w'.cell? ⟨w.heap.size,0,none⟩=some (.int .i64 kk)∧w'.cell? ⟨w.heap.size,1,none⟩=some (.string ⟨#[]⟩)∧w'.cell? ⟨w.heap.size,2,none⟩=some (.int .i64 0)) (first | exact SW.out _ (D1.out).drew | exact SW.out _ (D2.out).drew | exact SW.out _ D1.out | exact SW.out _ D2.out | exact SW.out _ (Below.alloc D1.out (D1.out).size _) | exact SW.out _ (Below.alloc D2.out (D2.out).size _) | exact SW.out _ (Below.alloc D1.out (D1.out).size _).drew | exact SW.out _ (Below.alloc D2.out (D2.out).size _).drew | fail) (first
    | (go_at_call 273
       (with_reducible refine (z1d 1 _).mono ?_)
       rintro e w2 ⟨rfl,hb2⟩;have D2:=Lib.hid (((D1.out).drew).trans (hb2.mono ((D1.out).drew).size));clear hb2)
    | fail)
  go_wp2_with fail;go_ret;exact ⟨_,rfl,AA.out _ (BW.out.trans ((D2.out).mono BW.out.size)),BW.out.trans ((D2.out).mono BW.out.size)⟩
theorem y1g (base:Nat) (kk g:Int) (t a d:Tm) (vA:Value) (vB:Value) (w:World) (hA:NdO base w vA a) (hB:Nds w vB (flat d)) (qA11:kd a≠11) (qA14:kd a≠14) (ht:Hid (flat t=⟨kk,⟨#[]⟩,0⟩::(flat a++flat d))) (hz:sz t≤1000) (hbs:base≤w.heap.size) (hl:sz a+sz d≤900) :
    Calls Tryz.prog 209 #[.agg #[.int .i64 kk,.string ⟨#[]⟩,.int .i64 0],.int .i64 g,vA,vB] w (OutB base (t) w):=by
  have HL:Hid (sz a+sz d≤900):=Lib.hid hl;have HB:=Lib.hid hbs;have AA:=Lib.hid (fun w1 (hb:Below w.heap.size w w1)=>hA.below hb);obtain ⟨bA,oA,cA,rfl,hcA,hltA,hwA,hatA⟩:=z1w hA.nds;obtain ⟨nA,hnA⟩:∃ n,sz a=n+1:=⟨sz a-1,by have:=z0e a; omega⟩
  rw [hnA] at hcA AA ⊢;clear hnA;have g3A:(1:Int)≤(nA:Int)+1:=by omega
  have fA11:(kd a==11)=false:=by rw [beq_eq_false_iff_ne]; exact qA11
  have fA14:(kd a==14)=false:=by rw [beq_eq_false_iff_ne]; exact qA14
  obtain ⟨kA,hkA⟩:∃ k,kd a=k:=⟨_,rfl⟩
  obtain ⟨sA,hsA⟩:∃ s,sg a=s:=⟨_,rfl⟩
  obtain ⟨mA,hmA⟩:∃ m,nmT a=m:=⟨_,rfl⟩
  rw [hkA] at hwA fA11 qA11 fA14 qA14;rw [hsA,hmA] at hwA;clear hkA hsA hmA;have AB:=Lib.hid (fun w1 (hb:Below w.heap.size w w1)=>hB.below hb);obtain ⟨_,adB,cdB,rfl,-⟩:=id hB;have qe0:∀ w,(binOp .eql 68 (.agg #[.int .i64 kA,.string mA,.int .i64 sA]) (.agg #[.int .i64 11,.string ⟨#[]⟩,.int .i64 g])).run Tryz.prog w=.ok (.bool false) w:=fun w=>by rw [eq_bare]; exact congrArg (fun x=>Result.ok (Value.bool x) w) (decide_eq_false (fun e=>absurd (congrArg Nd.k e) qA11))
  have qe1:∀ w,(binOp .eql 68 (.agg #[.int .i64 kA,.string mA,.int .i64 sA]) (.agg #[.int .i64 14,.string ⟨#[]⟩,.int .i64 1])).run Tryz.prog w=.ok (.bool false) w:=fun w=>by rw [eq_bare]; exact congrArg (fun x=>Result.ok (Value.bool x) w) (decide_eq_false (fun e=>absurd (congrArg Nd.k e) qA14))
  unfold OutB;clear hl hbs qA11 qA14 hatA hA hB
  go_enter Tryz.func209,Tryz.ntmps209
  go_wp2_with fail;have BW0:=z0b w (.cells #[.int .i64 kk,.string ⟨#[]⟩,.int .i64 0] 68);have BC:=z0m w kk 0 ⟨#[]⟩ 68;generalize w.alloc (.cells #[.int .i64 kk,.string ⟨#[]⟩,.int .i64 0] 68)=W at BW0 BC ⊢;have BW:=Lib.hid BW0
  have SW:Hid (∀ w',Below W.heap.size W w'→w'.cell? ⟨bA,oA,none⟩=some (.int .i64 kA)∧w'.cell? ⟨bA,oA+1,none⟩=some (.string mA)∧w'.cell? ⟨bA,oA+2,none⟩=some (.int .i64 sA)∧w'.cell? ⟨w.heap.size,0,none⟩=some (.int .i64 kk)∧w'.cell? ⟨w.heap.size,1,none⟩=some (.string ⟨#[]⟩)∧w'.cell? ⟨w.heap.size,2,none⟩=some (.int .i64 0)):=Lib.hid fun w1 hb=>by
    obtain ⟨x0,x1,x2⟩:=hwA w1 (BW.out.trans (hb.mono BW.out.size));obtain ⟨x3,x4,x5⟩:=BC w1 hb;exact ⟨x0,x1,x2,x3,x4,x5⟩
  clear BW0 BC hwA
  go_region_held3 (fun w'=>w'.cell? ⟨bA,oA,none⟩=some (.int .i64 kA)∧w'.cell? ⟨bA,oA+1,none⟩=some (.string mA)∧w'.cell? ⟨bA,oA+2,none⟩=some (.int .i64 sA)∧w'.cell? ⟨w.heap.size,0,none⟩=some (.int .i64 kk)∧w'.cell? ⟨w.heap.size,1,none⟩=some (.string ⟨#[]⟩)∧w'.cell? ⟨w.heap.size,2,none⟩=some (.int .i64 0)) (first | exact SW.out _ ((Below.refl W.heap.size W)).drew | exact SW.out _ (D1.out).drew | exact SW.out _ (Below.refl W.heap.size W) | exact SW.out _ D1.out | exact SW.out _ (Below.alloc (Below.refl W.heap.size W) ((Below.refl W.heap.size W)).size _) | exact SW.out _ (Below.alloc D1.out (D1.out).size _) | exact SW.out _ (Below.alloc (Below.refl W.heap.size W) ((Below.refl W.heap.size W)).size _).drew | exact SW.out _ (Below.alloc D1.out (D1.out).size _).drew | fail) (first
    | (go_at_call 208
       (with_reducible refine (z1e g _).mono ?_)
       rintro e w1 ⟨rfl,hb1⟩;have D1:=Lib.hid ((((Below.refl W.heap.size W)).drew).trans (hb1.mono (((Below.refl W.heap.size W)).drew).size));clear hb1)
    | fail)
  go_wp2_with fail
  go_region_held3 (fun w'=>w'.cell? ⟨bA,oA,none⟩=some (.int .i64 kA)∧w'.cell? ⟨bA,oA+1,none⟩=some (.string mA)∧w'.cell? ⟨bA,oA+2,none⟩=some (.int .i64 sA)∧w'.cell? ⟨w.heap.size,0,none⟩=some (.int .i64 kk)∧w'.cell? ⟨w.heap.size,1,none⟩=some (.string ⟨#[]⟩)∧w'.cell? ⟨w.heap.size,2,none⟩=some (.int .i64 0)) (first | exact SW.out _ (D1.out).drew | exact SW.out _ (D2.out).drew | exact SW.out _ D1.out | exact SW.out _ D2.out | exact SW.out _ (Below.alloc D1.out (D1.out).size _) | exact SW.out _ (Below.alloc D2.out (D2.out).size _) | exact SW.out _ (Below.alloc D1.out (D1.out).size _).drew | exact SW.out _ (Below.alloc D2.out (D2.out).size _).drew | fail) (first
    | (go_at_call 273
       (with_reducible refine (z1d 1 _).mono ?_)
       rintro e w2 ⟨rfl,hb2⟩;have D2:=Lib.hid (((D1.out).drew).trans (hb2.mono ((D1.out).drew).size));clear hb2)
    | fail)
  go_wp2_with fail;refine (mkP2 base kk 0 t a d ht.out _ _ _ _ (AA.out _ (BW.out.trans ((D2.out).mono BW.out.size))).nds (AB.out _ (BW.out.trans ((D2.out).mono BW.out.size))) hz (Nat.le_trans HB.out (Nat.le_trans BW.out.size D2.out.size))).mono ?_;rintro e w3 ⟨y3,rfl,hn3,hb3⟩;obtain ⟨_,ay3,cy3,rfl,-⟩:=id hn3;have D3:=Lib.hid ((D2.out).trans (hb3.mono (D2.out).size));have N3:=Lib.hid hn3;clear hn3 hb3;go_wp2_with fail;go_ret;exact ⟨_,rfl,N3.out,BW.out.trans ((D3.out).mono BW.out.size)⟩
theorem x7p (base:Nat) (s:Int) (c d:Tm) (vA:Value) (vB:Value) (w:World) (hA:NdO base w vA (.fin s c)) (hB:Nds w vB (flat d)) (hs:s≠1) (hbs:base≤w.heap.size) (hl:sz (.fin s c)+sz d≤900) :
    Calls Tryz.prog 209 #[.agg #[.int .i64 5,.string ⟨#[]⟩,.int .i64 0],.int .i64 1,vA,vB] w (OutB base (.fin s c) w):=by
  have HL:Hid (sz (.fin s c)+sz d≤900):=Lib.hid hl;have HB:=Lib.hid hbs;have AA:=Lib.hid (fun w1 (hb:Below w.heap.size w w1)=>hA.below hb);obtain ⟨bA,oA,cA,rfl,hcA,hltA,hwA,hatA⟩:=z1w hA.nds;have TA:=Lib.hid (fun w1 (hb:Below w.heap.size w w1)=>(z0w hatA hcA).below hb);have hzA:sz (.fin s c)=sz c+1:=rfl;rw [hzA] at hcA AA ⊢;obtain ⟨nA,hnA⟩:∃ n,sz c=n:=⟨_,rfl⟩
  have hqA:=z0e c;rw [hnA] at hcA TA AA hqA ⊢;have g2A:¬ cA=1:=by omega
  clear hnA hzA;have g3A:(1:Int)≤(nA:Int)+1:=by omega
  rw [show kd (.fin s c)=14 from rfl,show sg (.fin s c)=s from rfl,show nmT (.fin s c)=⟨#[]⟩ from rfl] at hwA;have AB:=Lib.hid (fun w1 (hb:Below w.heap.size w w1)=>hB.below hb);obtain ⟨_,adB,cdB,rfl,-⟩:=id hB;have qe0:∀ w,(binOp .eql 68 (.agg #[.int .i64 14,.string ⟨#[]⟩,.int .i64 s]) (.agg #[.int .i64 11,.string ⟨#[]⟩,.int .i64 1])).run Tryz.prog w=.ok (.bool false) w:=fun w=>by rw [eq_bare]; exact congrArg (fun x=>Result.ok (Value.bool x) w) (decide_eq_false (fun e=>absurd (congrArg Nd.k e) (by simp)))
  have qe1:∀ w,(binOp .eql 68 (.agg #[.int .i64 14,.string ⟨#[]⟩,.int .i64 s]) (.agg #[.int .i64 14,.string ⟨#[]⟩,.int .i64 1])).run Tryz.prog w=.ok (.bool false) w:=fun w=>by rw [eq_bare]; exact congrArg (fun x=>Result.ok (Value.bool x) w) (decide_eq_false (fun e=>absurd (congrArg Nd.s e) hs))
  unfold OutB;clear hl hbs hatA hA hB
  go_enter Tryz.func209,Tryz.ntmps209
  go_wp2_with fail;have BW0:=z0b w (.cells #[.int .i64 5,.string ⟨#[]⟩,.int .i64 0] 68);have BC:=z0m w 5 0 ⟨#[]⟩ 68;generalize w.alloc (.cells #[.int .i64 5,.string ⟨#[]⟩,.int .i64 0] 68)=W at BW0 BC ⊢;have BW:=Lib.hid BW0
  have SW:Hid (∀ w',Below W.heap.size W w'→w'.cell? ⟨bA,oA,none⟩=some (.int .i64 14)∧w'.cell? ⟨bA,oA+1,none⟩=some (.string ⟨#[]⟩)∧w'.cell? ⟨bA,oA+2,none⟩=some (.int .i64 s)∧w'.cell? ⟨w.heap.size,0,none⟩=some (.int .i64 5)∧w'.cell? ⟨w.heap.size,1,none⟩=some (.string ⟨#[]⟩)∧w'.cell? ⟨w.heap.size,2,none⟩=some (.int .i64 0)):=Lib.hid fun w1 hb=>by
    obtain ⟨x0,x1,x2⟩:=hwA w1 (BW.out.trans (hb.mono BW.out.size));obtain ⟨x3,x4,x5⟩:=BC w1 hb;exact ⟨x0,x1,x2,x3,x4,x5⟩
  clear BW0 BC hwA
  go_region_held3 (fun w'=>w'.cell? ⟨bA,oA,none⟩=some (.int .i64 14)∧w'.cell? ⟨bA,oA+1,none⟩=some (.string ⟨#[]⟩)∧w'.cell? ⟨bA,oA+2,none⟩=some (.int .i64 s)∧w'.cell? ⟨w.heap.size,0,none⟩=some (.int .i64 5)∧w'.cell? ⟨w.heap.size,1,none⟩=some (.string ⟨#[]⟩)∧w'.cell? ⟨w.heap.size,2,none⟩=some (.int .i64 0)) (first | exact SW.out _ ((Below.refl W.heap.size W)).drew | exact SW.out _ (D1.out).drew | exact SW.out _ (Below.refl W.heap.size W) | exact SW.out _ D1.out | exact SW.out _ (Below.alloc (Below.refl W.heap.size W) ((Below.refl W.heap.size W)).size _) | exact SW.out _ (Below.alloc D1.out (D1.out).size _) | exact SW.out _ (Below.alloc (Below.refl W.heap.size W) ((Below.refl W.heap.size W)).size _).drew | exact SW.out _ (Below.alloc D1.out (D1.out).size _).drew | fail) (first
    | (go_at_call 208
       (with_reducible refine (z1e 1 _).mono ?_)
       rintro e w1 ⟨rfl,hb1⟩;have D1:=Lib.hid ((((Below.refl W.heap.size W)).drew).trans (hb1.mono (((Below.refl W.heap.size W)).drew).size));clear hb1)
    | fail)
  go_wp2_with fail
  go_region_held3 (fun w'=>w'.cell? ⟨bA,oA,none⟩=some (.int .i64 14)∧w'.cell? ⟨bA,oA+1,none⟩=some (.string ⟨#[]⟩)∧w'.cell? ⟨bA,oA+2,none⟩=some (.int .i64 s)∧w'.cell? ⟨w.heap.size,0,none⟩=some (.int .i64 5)∧w'.cell? ⟨w.heap.size,1,none⟩=some (.string ⟨#[]⟩)∧w'.cell? ⟨w.heap.size,2,none⟩=some (.int .i64 0)) (first | exact SW.out _ (D1.out).drew | exact SW.out _ (D2.out).drew | exact SW.out _ D1.out | exact SW.out _ D2.out | exact SW.out _ (Below.alloc D1.out (D1.out).size _) | exact SW.out _ (Below.alloc D2.out (D2.out).size _) | exact SW.out _ (Below.alloc D1.out (D1.out).size _).drew | exact SW.out _ (Below.alloc D2.out (D2.out).size _).drew | fail) (first
    | (go_at_call 273
       (with_reducible refine (z1d 1 _).mono ?_)
       rintro e w2 ⟨rfl,hb2⟩;have D2:=Lib.hid (((D1.out).drew).trans (hb2.mono ((D1.out).drew).size));clear hb2)
    | fail)
  go_wp2_with fail;go_ret;exact ⟨_,rfl,AA.out _ (BW.out.trans ((D2.out).mono BW.out.size)),BW.out.trans ((D2.out).mono BW.out.size)⟩
theorem x4a (base:Nat) (c d:Tm) (vA:Value) (vB:Value) (w:World) (hA:NdO base w vA (.fin 1 c)) (hB:Nds w vB (flat d)) (PB:Hid (PS d)) (hbs:base≤w.heap.size) (hl:sz (.fin 1 c)+sz d≤900) :
    Calls Tryz.prog 209 #[.agg #[.int .i64 5,.string ⟨#[]⟩,.int .i64 0],.int .i64 1,vA,vB] w (OutB base (stk (S d) c) w):=by
  have HL:Hid (sz (.fin 1 c)+sz d≤900):=Lib.hid hl;have HB:=Lib.hid hbs;have AA:=Lib.hid (fun w1 (hb:Below w.heap.size w w1)=>hA.below hb);obtain ⟨bA,oA,cA,rfl,hcA,hltA,hwA,hatA⟩:=z1w hA.nds;have TA:=Lib.hid (fun w1 (hb:Below w.heap.size w w1)=>(z0w hatA hcA).below hb);have hzA:sz (.fin 1 c)=sz c+1:=rfl;rw [hzA] at hcA AA ⊢;obtain ⟨nA,hnA⟩:∃ n,sz c=n:=⟨_,rfl⟩
  have hqA:=z0e c;rw [hnA] at hcA TA AA hqA ⊢;have g2A:¬ cA=1:=by omega
  clear hnA hzA;have g3A:(1:Int)≤(nA:Int)+1:=by omega
  rw [show kd (.fin 1 c)=14 from rfl,show sg (.fin 1 c)=1 from rfl,show nmT (.fin 1 c)=⟨#[]⟩ from rfl] at hwA;have AB:=Lib.hid (fun w1 (hb:Below w.heap.size w w1)=>hB.below hb);obtain ⟨_,adB,cdB,rfl,-⟩:=id hB;have qe0:∀ w,(binOp .eql 68 (.agg #[.int .i64 14,.string ⟨#[]⟩,.int .i64 1]) (.agg #[.int .i64 11,.string ⟨#[]⟩,.int .i64 1])).run Tryz.prog w=.ok (.bool false) w:=fun w=>by rw [eq_bare]; exact congrArg (fun x=>Result.ok (Value.bool x) w) (decide_eq_false (fun e=>absurd (congrArg Nd.k e) (by simp)))
  have qe1:∀ w,(binOp .eql 68 (.agg #[.int .i64 14,.string ⟨#[]⟩,.int .i64 1]) (.agg #[.int .i64 14,.string ⟨#[]⟩,.int .i64 1])).run Tryz.prog w=.ok (.bool true) w:=fun w=>by rw [eq_bare]; exact congrArg (fun x=>Result.ok (Value.bool x) w) (decide_eq_true rfl)
  unfold OutB;clear hl hbs hatA hA hB
  go_enter Tryz.func209,Tryz.ntmps209
  go_wp2_with fail;have BW0:=z0b w (.cells #[.int .i64 5,.string ⟨#[]⟩,.int .i64 0] 68);have BC:=z0m w 5 0 ⟨#[]⟩ 68;generalize w.alloc (.cells #[.int .i64 5,.string ⟨#[]⟩,.int .i64 0] 68)=W at BW0 BC ⊢;have BW:=Lib.hid BW0
  have SW:Hid (∀ w',Below W.heap.size W w'→w'.cell? ⟨bA,oA,none⟩=some (.int .i64 14)∧w'.cell? ⟨bA,oA+1,none⟩=some (.string ⟨#[]⟩)∧w'.cell? ⟨bA,oA+2,none⟩=some (.int .i64 1)∧w'.cell? ⟨w.heap.size,0,none⟩=some (.int .i64 5)∧w'.cell? ⟨w.heap.size,1,none⟩=some (.string ⟨#[]⟩)∧w'.cell? ⟨w.heap.size,2,none⟩=some (.int .i64 0)):=Lib.hid fun w1 hb=>by
    obtain ⟨x0,x1,x2⟩:=hwA w1 (BW.out.trans (hb.mono BW.out.size));obtain ⟨x3,x4,x5⟩:=BC w1 hb;exact ⟨x0,x1,x2,x3,x4,x5⟩
  clear BW0 BC hwA
  go_region_held3 (fun w'=>w'.cell? ⟨bA,oA,none⟩=some (.int .i64 14)∧w'.cell? ⟨bA,oA+1,none⟩=some (.string ⟨#[]⟩)∧w'.cell? ⟨bA,oA+2,none⟩=some (.int .i64 1)∧w'.cell? ⟨w.heap.size,0,none⟩=some (.int .i64 5)∧w'.cell? ⟨w.heap.size,1,none⟩=some (.string ⟨#[]⟩)∧w'.cell? ⟨w.heap.size,2,none⟩=some (.int .i64 0)) (first | exact SW.out _ ((Below.refl W.heap.size W)).drew | exact SW.out _ (D1.out).drew | exact SW.out _ (Below.refl W.heap.size W) | exact SW.out _ D1.out | exact SW.out _ (Below.alloc (Below.refl W.heap.size W) ((Below.refl W.heap.size W)).size _) | exact SW.out _ (Below.alloc D1.out (D1.out).size _) | exact SW.out _ (Below.alloc (Below.refl W.heap.size W) ((Below.refl W.heap.size W)).size _).drew | exact SW.out _ (Below.alloc D1.out (D1.out).size _).drew | fail) (first
    | (go_at_call 208
       (with_reducible refine (z1e 1 _).mono ?_)
       rintro e w1 ⟨rfl,hb1⟩;have D1:=Lib.hid ((((Below.refl W.heap.size W)).drew).trans (hb1.mono (((Below.refl W.heap.size W)).drew).size));clear hb1)
    | fail)
  go_wp2_with fail
  go_region_held3 (fun w'=>w'.cell? ⟨bA,oA,none⟩=some (.int .i64 14)∧w'.cell? ⟨bA,oA+1,none⟩=some (.string ⟨#[]⟩)∧w'.cell? ⟨bA,oA+2,none⟩=some (.int .i64 1)∧w'.cell? ⟨w.heap.size,0,none⟩=some (.int .i64 5)∧w'.cell? ⟨w.heap.size,1,none⟩=some (.string ⟨#[]⟩)∧w'.cell? ⟨w.heap.size,2,none⟩=some (.int .i64 0)) (first | exact SW.out _ (D1.out).drew | exact SW.out _ (D2.out).drew | exact SW.out _ D1.out | exact SW.out _ D2.out | exact SW.out _ (Below.alloc D1.out (D1.out).size _) | exact SW.out _ (Below.alloc D2.out (D2.out).size _) | exact SW.out _ (Below.alloc D1.out (D1.out).size _).drew | exact SW.out _ (Below.alloc D2.out (D2.out).size _).drew | fail) (first
    | (go_at_call 273
       (with_reducible refine (z1d 1 _).mono ?_)
       rintro e w2 ⟨rfl,hb2⟩;have D2:=Lib.hid (((D1.out).drew).trans (hb2.mono ((D1.out).drew).size));clear hb2)
    | fail)
  go_wp2_with fail
  go_region_held3 (fun w'=>w'.cell? ⟨bA,oA,none⟩=some (.int .i64 14)∧w'.cell? ⟨bA,oA+1,none⟩=some (.string ⟨#[]⟩)∧w'.cell? ⟨bA,oA+2,none⟩=some (.int .i64 1)∧w'.cell? ⟨w.heap.size,0,none⟩=some (.int .i64 5)∧w'.cell? ⟨w.heap.size,1,none⟩=some (.string ⟨#[]⟩)∧w'.cell? ⟨w.heap.size,2,none⟩=some (.int .i64 0)) (first | exact SW.out _ (D2.out).drew | exact SW.out _ (D3.out).drew | exact SW.out _ (D4.out).drew | exact SW.out _ D2.out | exact SW.out _ D3.out | exact SW.out _ D4.out | exact SW.out _ (Below.alloc D2.out (D2.out).size _) | exact SW.out _ (Below.alloc D3.out (D3.out).size _) | exact SW.out _ (Below.alloc D4.out (D4.out).size _) | exact SW.out _ (Below.alloc D2.out (D2.out).size _).drew | exact SW.out _ (Below.alloc D3.out (D3.out).size _).drew | exact SW.out _ (Below.alloc D4.out (D4.out).size _).drew | fail) (first
    | (go_at_call 96
       (with_reducible refine (PB.out _ _ (AB.out _ (BW.out.trans ((D2.out.drew).mono BW.out.size)))).mono ?_)
       rintro e w3 ⟨y3,rfl,hn3,hb3⟩;obtain ⟨_,ay3,cy3,rfl,-⟩:=id hn3;have D3:=Lib.hid (((D2.out).drew).trans (hb3.mono ((D2.out).drew).size));have N3:=Lib.hid hn3;clear hn3 hb3)
    | (go_at_call 213
       (with_reducible refine (z7n base (S d) c _ _ _ N3.out.nds (TA.out _ (BW.out.trans (D3.out.mono BW.out.size))) (Nat.le_trans HB.out (Nat.le_trans BW.out.size D3.out.size)) (by have:=HL.out; have:=S_sz d; simp only [sz] at *; omega)).mono ?_)
       rintro e w4 ⟨y4,rfl,hn4,hb4⟩;obtain ⟨_,ay4,cy4,rfl,-⟩:=id hn4;have D4:=Lib.hid ((D3.out).trans (hb4.mono (D3.out).size));have N4:=Lib.hid hn4;clear hn4 hb4)
    | fail)
  go_wp2_with fail;go_ret;exact ⟨_,rfl,N4.out,BW.out.trans ((D4.out).mono BW.out.size)⟩
theorem x4b (base:Nat) (a d:Tm) (va vd:Value) (w:World) (ha:NdO base w va a) (hd:Nds w vd (flat d)) (PB:PS d) (hb:base≤w.heap.size) (hl:sz a+sz d≤900) :
    Calls Tryz.prog 209 #[.agg #[.int .i64 5,.string ⟨#[]⟩,.int .i64 0],.int .i64 1,va,vd] w (OutB base (sSeq S a d) w):=by
  by_cases g11:kd a=11
  · obtain ⟨s,rfl⟩:=kd11 g11
    by_cases hs:s=1
    · subst hs;exact x7o base 5 1 d va vd w ha hd (Lib.hid PB) hb hl
    · have e:sSeq S (.over s) d=.over s:=by simp [sSeq,hs]
      rw [e];exact y5f base 5 1 s d va vd w ha hd hs hb hl
  · by_cases g14:kd a=14
    · obtain ⟨s,c,rfl⟩:=kd14 g14
      by_cases hs:s=1
      · subst hs;exact x4a base c d va vd w ha hd (Lib.hid PB) hb hl
      · have e:sSeq S (.fin s c) d=.fin s c:=by simp [sSeq,hs]
        rw [e];exact x7p base s c d va vd w ha hd hs hb hl
    · have e:sSeq S a d=.seq a d:=by cases a <;> first | rfl | exact absurd rfl g11 | exact absurd rfl g14
      rw [e];exact y1g base 5 1 (.seq a d) a d va vd w ha hd g11 g14 (Lib.hid rfl) (by simp only [sz]; omega) hb hl
theorem x3z (base:Nat) (a d:Tm) (va vd:Value) (w:World) (ha:NdO base w va a) (hd:Nds w vd (flat d)) (PB:PS d) (g14:kd a≠14) (hb:base≤w.heap.size) (hl:sz a+sz d≤900) :
    Calls Tryz.prog 209 #[.agg #[.int .i64 8,.string ⟨#[]⟩,.int .i64 0],.int .i64 2,va,vd] w (OutB base (sHand S a d) w):=by
  by_cases g11:kd a=11
  · obtain ⟨s,rfl⟩:=kd11 g11
    by_cases hs:s=2
    · subst hs;exact x7o base 8 2 d va vd w ha hd (Lib.hid PB) hb hl
    · have e:sHand S (.over s) d=.over s:=by simp [sHand,hs]
      rw [e];exact y5f base 8 2 s d va vd w ha hd hs hb hl
  · have e:sHand S a d=.hand a d:=by cases a <;> first | rfl | exact absurd rfl g11 | exact absurd rfl g14
    rw [e];exact y1g base 8 2 (.hand a d) a d va vd w ha hd g11 g14 (Lib.hid rfl) (by simp only [sz]; omega) hb hl
end Se
end Go.Proofs.YtpingbiibbmcaaaGreatDoor
