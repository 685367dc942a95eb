/- Laws that the last text leans on. -/
import Derived.Test.YtpingbiibbmcaaaGreatDoorQ20

set_option maxRecDepth 20000
namespace Go.Proofs.YtpingbiibbmcaaaGreatDoor
namespace Mn
open Go Tr Rw YtpingbiibbmcaaaGreatDoor.So
def nm (l:List Nd):ByteArray:=match l with | []=>⟨#[]⟩ | n::_=>n.n
def sg (l:List Nd):Int:=match l with | []=>0 | n::_=>n.s
def stepT (t:List Nd→List Tr) (p:List Nd→List Pr) (l:List Nd):List Tr:=
  if hd l=1 then [⟨[nm l],1⟩] else if hd l=2 then [tick] else if hd l=3 then [bang] else if hd l=4 then [tick,⟨[],3⟩] else if hd l=11 then [⟨[],sg l⟩]
  else if hd l=9 then norm (blk (p (k0 l))) else norm (two (hd l) (t (k0 l)) (t (k1 l)))
def stepP (t:List Nd→List Tr) (p:List Nd→List Pr) (l:List Nd):List Pr:=
  if hd l=10 then pnorm (going (t (k0 l)) (t (k1 l))++[way]) else if hd l=12 then pnorm (going (t (k0 l)) (t (k1 l))) else if hd l=13 then pnorm (stack (p (k0 l)) (t (k1 l)))
  else if hd l=14 then pnorm (fin (sg l) (t (k0 l))) else pnorm (twoP (hd l) (p (k0 l)) (p (k1 l)))
def mF:Nat→(List Nd→List Tr) × (List Nd→List Pr)
  | 0=>(fun _=>[],fun _=>[])
  | f+1=>(stepT (mF f).1 (mF f).2,stepP (mF f).1 (mF f).2)
theorem z8t {t t':List Nd→List Tr} {p p':List Nd→List Pr} (l:List Nd) (h:∀ i,t ((kids l).getD i [])=t' ((kids l).getD i [])) (g:∀ i,p ((kids l).getD i [])=p' ((kids l).getD i [])):stepT t p l=stepT t' p' l:=by
  unfold stepT k0 k1;simp only [h,g]
theorem z8u {t t':List Nd→List Tr} {p p':List Nd→List Pr} (l:List Nd) (h:∀ i,t ((kids l).getD i [])=t' ((kids l).getD i [])) (g:∀ i,p ((kids l).getD i [])=p' ((kids l).getD i [])):stepP t p l=stepP t' p' l:=by
  unfold stepP k0 k1;simp only [h,g]
theorem z9y:∀ f:Nat,(mF f).1 []=[]∧(mF f).2 []=[]
  | 0=>⟨rfl,rfl⟩
  | f+1=>by
    obtain ⟨h1,h2⟩:=z9y f;have e0:k0 []=[]:=rfl;have e1:k1 []=[]:=rfl
    constructor
    · show stepT (mF f).1 (mF f).2 []=[]
      unfold stepT;rw [e0,e1,h1]
      rfl
    · show stepP (mF f).1 (mF f).2 []=[]
      unfold stepP;rw [e0,e1,h2]
      rfl
theorem z6y:∀ (f:Nat) (l:List Nd),l.length≤f→(mF (f+1)).1 l=(mF f).1 l∧(mF (f+1)).2 l=(mF f).2 l
  | 0,l,h=>by
    have:l=[]:=List.eq_nil_of_length_eq_zero (by omega);subst this;rw [(z9y 1).1,(z9y 1).2];exact ⟨rfl,rfl⟩
  | f+1,l,h=>by
    by_cases h0:0<l.length
    · have hk:∀ i,((kids l).getD i []).length≤f:=fun i=>by have:=z3p l i h0; omega
      exact ⟨z8t l (fun i=>(z6y f _ (hk i)).1) (fun i=>(z6y f _ (hk i)).2),z8u l (fun i=>(z6y f _ (hk i)).1) (fun i=>(z6y f _ (hk i)).2)⟩
    · have:l=[]:=List.eq_nil_of_length_eq_zero (by omega);subst this;rw [(z9y _).1,(z9y _).2,(z9y _).1,(z9y _).2];exact ⟨rfl,rfl⟩
def Mt (l:List Nd):List Tr:=(mF l.length).1 l
def Mp (l:List Nd):List Pr:=(mF l.length).2 l
theorem mF_M (f:Nat) (l:List Nd) (h:l.length≤f):(mF f).1 l=Mt l∧(mF f).2 l=Mp l:=by
  have:∀ g,(mF (l.length+g)).1 l=Mt l∧(mF (l.length+g)).2 l=Mp l:=by
    intro g
    induction g with
    | zero=>exact ⟨rfl,rfl⟩
    | succ g ih=>rw [← Nat.add_assoc,(z6y _ _ (by omega)).1,(z6y _ _ (by omega)).2]; exact ih
  have h':=this (f-l.length);rw [show l.length+(f-l.length)=f by omega] at h';exact h'
theorem M_eq {l:List Nd} (h:0<l.length):Mt l=stepT Mt Mp l∧Mp l=stepP Mt Mp l:=by
  obtain ⟨n,hn⟩:∃ n,l.length=n+1:=⟨l.length-1,by omega⟩
  have hk:∀ i,((kids l).getD i []).length≤n:=fun i=>by have:=z3p l i h; omega
  unfold Mt Mp;rw [hn];exact ⟨z8t l (fun i=>(mF_M n _ (hk i)).1) (fun i=>(mF_M n _ (hk i)).2),z8u l (fun i=>(mF_M n _ (hk i)).1) (fun i=>(mF_M n _ (hk i)).2)⟩
def acF (f:ByteArray→Bool) (l:List Nd):Nat:=l.countP fun x=>decide (x.k=1)&&f x.n
abbrev acs (l:List Nd):Nat:=acF all l
theorem x7d (f:ByteArray→Bool) (l m:List Nd):acF f (l++m)=acF f l+acF f m:=List.countP_append
theorem x3u (f:ByteArray→Bool) (x:Nd) (l:List Nd) (h:x.k≠1):acF f (x::l)=acF f l:=by
  unfold acF;rw [List.countP_cons];simp [h]
theorem acs_cnt (l:List Nd):acs l=cnt l [1]:=by
  unfold acs acF cnt
  congr 1
  funext x
  simp [all]
theorem cut2 {l:List Nd} (h:Tre l) (h2:ar (hd l)=2):∃ a b,kids l=[a,b]∧k0 l=a∧k1 l=b∧Tre a∧Tre b∧a.length+b.length+1=l.length∧(∀ f,acF f l=acF f a+acF f b)∧(l.all rgt=true→a.all rgt=true∧b.all rgt=true):=by
  obtain ⟨x,hx,he⟩:=h.flat;obtain ⟨a,b,hk,t1,t2,s1,s2⟩:=h.two h2;rw [hk] at he;have he':l=x::(a++b):=by rw [he]; simp
  refine ⟨a,b,hk,by unfold k0; rw [hk]; rfl,by unfold k1; rw [hk]; rfl,t1,t2,by rw [he']; simp,fun f=>?_,fun hr=>?_⟩
  · have h1:x.k≠1:=fun e=>by rw [hx,e] at h2; exact absurd h2 (by decide)
    rw [he',x3u f x _ h1,x7d]
  · rw [he'] at hr;simp only [List.all_cons,List.all_append,Bool.and_eq_true] at hr;exact hr.2
theorem cut1 {l:List Nd} (h:Tre l) (h1:ar (hd l)=1):∃ a,kids l=[a]∧k0 l=a∧Tre a∧a.length+1=l.length∧(∀ f,acF f l=acF f a)∧(l.all rgt=true→a.all rgt=true):=by
  obtain ⟨x,hx,he⟩:=h.flat;obtain ⟨a,hk,t1,s1⟩:=h.one h1;rw [hk] at he;have he':l=x::a:=by rw [he]; simp
  refine ⟨a,hk,by unfold k0; rw [hk]; rfl,t1,by rw [he']; simp,fun f=>?_,fun hr=>?_⟩
  · have h1:x.k≠1:=fun e=>by rw [hx,e] at h1; exact absurd h1 (by decide)
    rw [he',x3u f x _ h1]
  · rw [he'] at hr;simp only [List.all_cons,Bool.and_eq_true] at hr;exact hr.2
theorem cut0 {l:List Nd} (h:Tre l) (h0:ar (hd l)=0):∃ x,l=[x]∧hd l=x.k:=by
  obtain ⟨x,hx,he⟩:=h.flat;have hk:kids l=[]:=List.eq_nil_of_length_eq_zero (by rw [h.kids.1,h0]; rfl);rw [hk] at he;exact ⟨x,he,hx⟩
theorem shape3 {l:List Nd} (ht:Tre l) (h:Is 3 l=true) :
    (ar (hd l)=0∧(hd l=1∨hd l=2∨hd l=3∨hd l=4∨hd l=11))∨(hd l=9∧Is 4 (k0 l)=true)∨((hd l=5∨hd l=6∨hd l=7∨hd l=8)∧Is 3 (k0 l)=true∧Is 3 (k1 l)=true∧(hd l=8→Is 1 (k1 l)=true)):=by
  have e:=v2r (l:=l)
  rcases kinds ht.ar with hk | hk | hk | hk | hk | hk | hk | hk | hk | hk | hk | hk | hk | hk
  · exact .inl ⟨by rw [hk]; rfl,by omega⟩
  · exact .inl ⟨by rw [hk]; rfl,by omega⟩
  · exact .inl ⟨by rw [hk]; rfl,by omega⟩
  · exact .inl ⟨by rw [hk]; rfl,by omega⟩
  · rw [v2r hk] at h;simp only [Bool.or_eq_true,Bool.and_eq_true] at h;exact .inr (.inr ⟨by omega,h.elim (fun h=>z0n h.1) (fun h=>h.1),h.elim (fun h=>z0n h.2) (fun h=>z0n h.2),fun h8=>by omega⟩)
  · rw [eq_6_3 hk] at h;simp only [Bool.or_false,Bool.and_eq_true] at h;exact .inr (.inr ⟨by omega,z0n h.1,z0n h.2,fun h8=>by omega⟩)
  · rw [eq_7_3 hk] at h;simp only [Bool.or_eq_true,Bool.and_eq_true] at h;exact .inr (.inr ⟨by omega,h.elim (fun h=>z0n h.1) (fun h=>h.1),h.elim (fun h=>z0n h.2) (fun h=>h.2),fun h8=>by omega⟩)
  · rw [eq_8_3 hk] at h;simp only [Bool.or_eq_true,Bool.and_eq_true] at h;exact .inr (.inr ⟨by omega,h.elim (fun h=>z0n h.1) (fun h=>h.1),h.elim (fun h=>z0n h.2) (fun h=>z0n h.2),fun _=>h.elim (fun h=>h.2) (fun h=>h.2)⟩)
  · rw [eq_9_3 hk] at h;simp only [Bool.or_eq_true] at h;exact .inr (.inl ⟨hk,h.elim z1k id⟩)
  · rw [v3e hk] at h; cases h
  · exact .inl ⟨by rw [hk]; rfl,by omega⟩
  · rw [v2z hk] at h; cases h
  · rw [v2w hk] at h; cases h
  · rw [v2t hk] at h; cases h
theorem shape4 {l:List Nd} (ht:Tre l) (h:Is 4 l=true) :
    ((hd l=5∨hd l=6∨hd l=7)∧Is 4 (k0 l)=true∧Is 4 (k1 l)=true)∨((hd l=10∨hd l=12)∧Is 3 (k0 l)=true∧Is 1 (k1 l)=true)∨(hd l=13∧Is 4 (k0 l)=true∧Is 1 (k1 l)=true)∨(hd l=14∧Is 1 (k0 l)=true):=by
  rcases kinds ht.ar with hk | hk | hk | hk | hk | hk | hk | hk | hk | hk | hk | hk | hk | hk
  · rw [eq_1_4 hk] at h; cases h
  · rw [eq_2_4 hk] at h; cases h
  · rw [eq_3_4 hk] at h; cases h
  · rw [eq_4_4 hk] at h; cases h
  · rw [eq_5_4 hk] at h;simp only [Bool.or_eq_true,Bool.and_eq_true] at h;exact .inl ⟨by omega,h.elim (fun h=>z1k h.1) (fun h=>h.1),h.elim (fun h=>z1k h.2) (fun h=>z1k h.2)⟩
  · rw [eq_6_4 hk] at h;simp only [Bool.or_false,Bool.and_eq_true] at h;exact .inl ⟨by omega,z1k h.1,z1k h.2⟩
  · rw [eq_7_4 hk] at h;simp only [Bool.or_eq_true,Bool.and_eq_true] at h;exact .inl ⟨by omega,h.elim (fun h=>z1k h.1) (fun h=>h.1),h.elim (fun h=>z1k h.2) (fun h=>h.2)⟩
  · rw [eq_8_4 hk] at h; cases h
  · rw [eq_9_4 hk] at h; cases h
  · rw [v3d hk] at h;simp only [Bool.or_false,Bool.and_eq_true] at h;exact .inr (.inl ⟨by omega,z0n h.1,h.2⟩)
  · rw [v3b hk] at h; cases h
  · rw [v2y hk] at h;simp only [Bool.false_or,Bool.and_eq_true] at h;exact .inr (.inl ⟨by omega,h.1,h.2⟩)
  · rw [v2v hk] at h;simp only [Bool.false_or,Bool.and_eq_true] at h;exact .inr (.inr (.inl ⟨hk,h.1,h.2⟩))
  · rw [v2s hk] at h;simp only [Bool.false_or] at h;exact .inr (.inr (.inr ⟨hk,h⟩))
theorem shape1 {l:List Nd} (ht:Tre l) (h:Is 1 l=true) :
    (hd l=1∨hd l=2∨hd l=3∨hd l=4)∨(hd l=9∧Is 2 (k0 l)=true)∨((hd l=5∨hd l=6∨hd l=7∨hd l=8)∧Is 1 (k0 l)=true∧Is 1 (k1 l)=true):=by
  rcases shape3 ht (z0n h) with ⟨_,hk⟩ | ⟨hk,_⟩ | ⟨hk,_⟩
  · rcases hk with hk | hk | hk | hk | hk
    · exact .inl (by omega)
    · exact .inl (by omega)
    · exact .inl (by omega)
    · exact .inl (by omega)
    · rw [v3c hk] at h; cases h
  · rw [eq_9_1 hk] at h;exact .inr (.inl ⟨hk,h⟩)
  · refine .inr (.inr ⟨hk,?_⟩);rw [← Bool.and_eq_true]
    rcases hk with hk | hk | hk | hk
    · rw [← eq_5_1 hk]; exact h
    · rw [← eq_6_1 hk]; exact h
    · rw [← eq_7_1 hk]; exact h
    · rw [← eq_8_1 hk]; exact h
theorem shape2 {l:List Nd} (ht:Tre l) (h:Is 2 l=true) :
    (hd l=10∧Is 1 (k0 l)=true∧Is 1 (k1 l)=true)∨((hd l=5∨hd l=6∨hd l=7)∧Is 2 (k0 l)=true∧Is 2 (k1 l)=true):=by
  rcases shape4 ht (z1k h) with ⟨hk,_⟩ | ⟨hk,_⟩ | ⟨hk,_⟩ | ⟨hk,_⟩
  · refine .inr ⟨hk,?_⟩;rw [← Bool.and_eq_true]
    rcases hk with hk | hk | hk
    · rw [← eq_5_2 hk]; exact h
    · rw [← eq_6_2 hk]; exact h
    · rw [← eq_7_2 hk]; exact h
  · rcases hk with hk | hk
    · refine .inl ⟨hk,?_⟩;rw [← Bool.and_eq_true,← v3f hk];exact h
    · rw [v3a hk] at h; cases h
  · rw [v2x hk] at h; cases h
  · rw [v2u hk] at h; cases h
theorem y8d {t:List Nd→List Tr} {p:List Nd→List Pr} {l:List Nd} (h:hd l=9):stepT t p l=norm (blk (p (k0 l))):=by unfold stepT; rw [h]; rfl
theorem z6s {t:List Nd→List Tr} {p:List Nd→List Pr} {l:List Nd} (h:hd l=5∨hd l=6∨hd l=7∨hd l=8):stepT t p l=norm (two (hd l) (t (k0 l)) (t (k1 l))):=by
  unfold stepT
  rcases h with h | h | h | h <;> rw [h] <;> rfl
theorem y2n {t:List Nd→List Tr} {p:List Nd→List Pr} {l:List Nd} (h:hd l=10):stepP t p l=pnorm (going (t (k0 l)) (t (k1 l))++[way]):=by unfold stepP; rw [h]; rfl
theorem x1k {t:List Nd→List Tr} {p:List Nd→List Pr} {l:List Nd} (h:hd l=12):stepP t p l=pnorm (going (t (k0 l)) (t (k1 l))):=by unfold stepP; rw [h]; rfl
theorem x1j {t:List Nd→List Tr} {p:List Nd→List Pr} {l:List Nd} (h:hd l=13):stepP t p l=pnorm (stack (p (k0 l)) (t (k1 l))):=by unfold stepP; rw [h]; rfl
theorem x1i {t:List Nd→List Tr} {p:List Nd→List Pr} {l:List Nd} (h:hd l=14):stepP t p l=pnorm (fin (sg l) (t (k0 l))):=by unfold stepP; rw [h]; rfl
theorem z8v {t:List Nd→List Tr} {p:List Nd→List Pr} {l:List Nd} (h:hd l=5∨hd l=6∨hd l=7):stepP t p l=pnorm (twoP (hd l) (p (k0 l)) (p (k1 l))):=by
  unfold stepP
  rcases h with h | h | h <;> rw [h] <;> rfl
structure GT (l:List Nd):Prop where
  len:(Mt l).length≤K l.length (acs l)
  cnt:∀ f,CT f (acF f l) (Mt l)
  up:Up (Mt l)
  sg:l.all rgt=true→ST (Mt l)
structure GP (l:List Nd):Prop where
  len:(Mp l).length≤K l.length (acs l)
  cnt:∀ f,CP f (acF f l) (Mp l)
  up:PUp (Mp l)
  sg:l.all rgt=true→SP (Mp l)
theorem two_up (p q:Tr) (h:cmp p q<0):Up [p,q]:=List.pairwise_cons.2 ⟨fun t ht=>by rw [List.mem_singleton] at ht; rw [ht]; exact h,List.pairwise_singleton _ _⟩
theorem rgt_sg {x:Nd} (h:rgt x=true) (hk:x.k=11∨x.k=14):Sgn x.s:=by
  obtain ⟨k,n,s⟩:=x;rw [z3a n s hk] at h;simp only [Bool.and_eq_true,decide_eq_true_eq] at h;unfold Sgn
  show s=1∨s=2∨s=3
  omega
theorem good:∀ (m:Nat) (l:List Nd),l.length≤m→Tre l→(Is 3 l=true→GT l)∧(Is 4 l=true→GP l)
  | 0,l,h,ht=>absurd ht.pos (by omega)
  | m+1,l,h,ht=>by
    obtain ⟨eT,eP⟩:=M_eq ht.pos
    constructor
    · intro hi
      rcases shape3 ht hi with ⟨h0,hk⟩ | ⟨hk,hi⟩ | ⟨hk,hi,hj,_⟩
      · obtain ⟨x,rfl,hx⟩:=cut0 ht h0
        have one:∀ t:Tr,Mt [x]=[t]→(∀ f,t.a.countP f≤acF f [x])→([x].all rgt=true→Sgn t.e)→GT [x]:=fun t e h1 h2=>
          ⟨by rw [e]; exact K_pos _ _,fun f u hu=>by rw [e,List.mem_singleton] at hu; rw [hu]; exact h1 f,by rw [e]; exact y5e t,fun hr u hu=>by rw [e,List.mem_singleton] at hu; rw [hu]; exact h2 hr⟩
        rcases hk with hk | hk | hk | hk | hk
        · refine one ⟨[x.n],1⟩ (by rw [eT]; unfold stepT; rw [hk]; rfl) (fun f=>?_) fun _=>sgn1
          have h1:x.k=1:=by rw [← hx]; exact hk
          simp [acF,h1]
        · exact one tick (by rw [eT]; unfold stepT; rw [hk]; rfl) (fun f=>Nat.zero_le _) fun _=>sgn1
        · exact one bang (by rw [eT]; unfold stepT; rw [hk]; rfl) (fun f=>Nat.zero_le _) fun _=>Or.inr (Or.inl rfl)
        · have e:Mt [x]=[tick,⟨[],3⟩]:=by rw [eT]; unfold stepT; rw [hk]; rfl
          refine ⟨by rw [e]; show 2≤K 1 _; unfold K; have:=y4d (acs [x]); omega,fun f u hu=>?_,by rw [e]; exact two_up _ _ (by decide),fun _ u hu=>?_⟩
          · rw [e] at hu
            rcases List.mem_cons.1 hu with rfl | hu
            · exact Nat.zero_le _
            · rw [List.mem_singleton] at hu; rw [hu]; exact Nat.zero_le _
          · rw [e] at hu
            rcases List.mem_cons.1 hu with rfl | hu
            · exact sgn1
            · rw [List.mem_singleton] at hu; rw [hu]; exact sgn3
        · refine one ⟨[],x.s⟩ (by rw [eT]; unfold stepT; rw [hk]; rfl) (fun f=>Nat.zero_le _) fun hr=>?_
          simp only [List.all_cons,List.all_nil,Bool.and_true] at hr;exact rgt_sg hr (.inl (by rw [← hx]; exact hk))
      · obtain ⟨a,hkk,e0,ta,hl,hc,hr⟩:=cut1 ht (by rw [hk]; rfl);rw [e0] at hi;have ga:=(good m a (by omega) ta).2 hi;rw [y8d hk,e0] at eT;refine ⟨?_,fun f=>?_,by rw [eT]; exact z8o _,fun h=>by rw [eT]; exact (blk_st (ga.sg (hr h))).norm⟩
        · rw [eT,← hl];refine Nat.le_trans (z2w _) (Nat.le_trans (blk_len ga.len) ?_);unfold acs;rw [hc all];exact Nat.le_refl _
        · rw [eT,hc f]; exact (blk_ct (ga.cnt f)).norm
      · obtain ⟨a,b,hkk,e0,e1,ta,tb,hl,hc,hr⟩:=cut2 ht (by rcases hk with hk | hk | hk | hk <;> rw [hk] <;> rfl);rw [e0] at hi;rw [e1] at hj;have ga:=(good m a (by omega) ta).1 hi;have gb:=(good m b (by omega) tb).1 hj;rw [z6s hk,e0,e1] at eT;refine ⟨?_,fun f=>?_,by rw [eT]; exact z8o _,fun h=>by rw [eT]; exact (two_st (ga.sg (hr h).1) (gb.sg (hr h).2)).norm⟩
        · rw [eT,← hl];refine Nat.le_trans (z2w _) (Nat.le_trans (two_len (ga.cnt all) (gb.cnt all) ga.len gb.len) ?_);unfold acs;rw [hc all];exact Nat.le_refl _
        · rw [eT,hc f]; exact (two_ct (ga.cnt f) (gb.cnt f)).norm
    · intro hi
      rcases shape4 ht hi with ⟨hk,hi,hj⟩ | ⟨hk,hi,hj⟩ | ⟨hk,hi,hj⟩ | ⟨hk,hi⟩
      · obtain ⟨a,b,hkk,e0,e1,ta,tb,hl,hc,hr⟩:=cut2 ht (by rcases hk with hk | hk | hk <;> rw [hk] <;> rfl);rw [e0] at hi;rw [e1] at hj;have ga:=(good m a (by omega) ta).2 hi;have gb:=(good m b (by omega) tb).2 hj;rw [z8v hk,e0,e1] at eP;refine ⟨?_,fun f=>?_,by rw [eP]; exact z3c _,fun h=>by rw [eP]; exact (twoP_sp (ga.sg (hr h).1) (gb.sg (hr h).2)).norm⟩
        · rw [eP,← hl];refine Nat.le_trans (z1t _) (Nat.le_trans (twoP_len (ga.cnt all) (gb.cnt all) ga.len gb.len) ?_);unfold acs;rw [hc all];exact Nat.le_refl _
        · rw [eP,hc f]; exact (twoP_cp (ga.cnt f) (gb.cnt f)).norm
      · obtain ⟨a,b,hkk,e0,e1,ta,tb,hl,hc,hr⟩:=cut2 ht (by rcases hk with hk | hk <;> rw [hk] <;> rfl);rw [e0] at hi;rw [e1] at hj;have ga:=(good m a (by omega) ta).1 hi;have gb:=(good m b (by omega) tb).1 (z0n hj)
        rcases hk with hk | hk
        · rw [y2n hk,e0,e1] at eP;refine ⟨?_,fun f=>?_,by rw [eP]; exact z3c _,fun h=>by rw [eP]; exact (way_sp (x2w (ga.sg (hr h).1) (gb.sg (hr h).2))).norm⟩
          · rw [eP,← hl];refine Nat.le_trans (z1t _) (Nat.le_trans (way_len (y6q ga.len gb.len)) ?_);unfold acs;rw [hc all];exact Nat.le_refl _
          · rw [eP,hc f]; exact (way_cp (x2x (ga.cnt f) (gb.cnt f))).norm
        · rw [x1k hk,e0,e1] at eP;refine ⟨?_,fun f=>?_,by rw [eP]; exact z3c _,fun h=>by rw [eP]; exact (x2w (ga.sg (hr h).1) (gb.sg (hr h).2)).norm⟩
          · rw [eP,← hl];refine Nat.le_trans (z1t _) (Nat.le_trans (y6q ga.len gb.len) ?_);unfold acs;rw [hc all];exact z5m (by omega) (Nat.le_refl _)
          · rw [eP,hc f]; exact (x2x (ga.cnt f) (gb.cnt f)).norm
      · obtain ⟨a,b,hkk,e0,e1,ta,tb,hl,hc,hr⟩:=cut2 ht (by rw [hk]; rfl);rw [e0] at hi;rw [e1] at hj;have ga:=(good m a (by omega) ta).2 hi;have gb:=(good m b (by omega) tb).1 (z0n hj);rw [x1j hk,e0,e1] at eP;refine ⟨?_,fun f=>?_,by rw [eP]; exact z3c _,fun h=>by rw [eP]; exact (stack_sp (ga.sg (hr h).1) (gb.sg (hr h).2)).norm⟩
        · rw [eP,← hl];refine Nat.le_trans (z1t _) (Nat.le_trans (x8a ga.len gb.len) ?_);unfold acs;rw [hc all];exact z5m (by omega) (Nat.le_refl _)
        · rw [eP,hc f]; exact (stack_cp (ga.cnt f) (gb.cnt f)).norm
      · obtain ⟨a,hkk,e0,ta,hl,hc,hr⟩:=cut1 ht (by rw [hk]; rfl);rw [e0] at hi;have ga:=(good m a (by omega) ta).1 (z0n hi);rw [x1i hk,e0] at eP
        have hsg:l.all rgt=true→Sgn (sg l):=fun h=>by
          obtain ⟨x,hx,he⟩:=ht.flat;rw [he] at h ⊢;simp only [List.all_cons,Bool.and_eq_true] at h;exact rgt_sg h.1 (.inr (by rw [← hx]; exact hk))
        refine ⟨?_,fun f=>?_,by rw [eP]; exact z3c _,fun h=>by rw [eP]; exact (fin_sp (hsg h) (ga.sg (hr h))).norm⟩
        · rw [eP,← hl];refine Nat.le_trans (z1t _) ?_;unfold fin;rw [List.length_map];refine Nat.le_trans ga.len ?_;unfold acs;rw [hc all];exact z5m (by omega) (Nat.le_refl _)
        · rw [eP,hc f]; exact (fin_cp (ga.cnt f)).norm
theorem gt {l:List Nd} (ht:Tre l) (h:Is 3 l=true):GT l:=(good l.length l (Nat.le_refl _) ht).1 h
theorem gp {l:List Nd} (ht:Tre l) (h:Is 4 l=true):GP l:=(good l.length l (Nat.le_refl _) ht).2 h
theorem live:∀ (m:Nat) (l:List Nd),l.length≤m→Tre l→acs l≤19→(Is 1 l=true→LT (Mt l))∧(Is 2 l=true→LP (Mp l))
  | 0,l,h,ht,_=>absurd ht.pos (by omega)
  | m+1,l,h,ht,h19=>by
    obtain ⟨eT,eP⟩:=M_eq ht.pos
    constructor
    · intro hi
      rcases shape1 ht hi with hk | ⟨hk,hi⟩ | ⟨hk,hi,hj⟩
      · rcases hk with hk | hk | hk | hk
        · exact ⟨⟨[nm l],1⟩,by rw [eT]; unfold stepT; rw [hk]; exact List.mem_singleton.2 rfl,.inl rfl⟩
        · exact ⟨tick,by rw [eT]; unfold stepT; rw [hk]; exact List.mem_singleton.2 rfl,.inl rfl⟩
        · exact ⟨bang,by rw [eT]; unfold stepT; rw [hk]; exact List.mem_singleton.2 rfl,.inr rfl⟩
        · exact ⟨tick,by rw [eT]; unfold stepT; rw [hk]; exact List.mem_cons_self,.inl rfl⟩
      · obtain ⟨a,hkk,e0,ta,hl,hc,hr⟩:=cut1 ht (by rw [hk]; rfl);rw [e0] at hi;have:=hc all;have la:=(live m a (by omega) ta (by unfold acs at h19 ⊢; omega)).2 hi;rw [eT,y8d hk,e0];exact (blk_lt la).norm
      · obtain ⟨a,b,hkk,e0,e1,ta,tb,hl,hc,hr⟩:=cut2 ht (by rcases hk with hk | hk | hk | hk <;> rw [hk] <;> rfl);rw [e0] at hi;rw [e1] at hj;have:=hc all;unfold acs at h19;have la:=(live m a (by omega) ta (by unfold acs; omega)).1 hi;have lb:=(live m b (by omega) tb (by unfold acs; omega)).1 hj;rw [eT,z6s hk,e0,e1];exact (two_lt ((gt ta (z0n hi)).cnt all) ((gt tb (z0n hj)).cnt all) (by omega) la lb).norm
    · intro hi
      rcases shape2 ht hi with ⟨hk,hi,hj⟩ | ⟨hk,hi,hj⟩
      · obtain ⟨a,b,hkk,e0,e1,ta,tb,hl,hc,hr⟩:=cut2 ht (by rw [hk]; rfl);rw [e0] at hi;rw [e1] at hj;have:=hc all;unfold acs at h19;have la:=(live m a (by omega) ta (by unfold acs; omega)).1 hi;have lb:=(live m b (by omega) tb (by unfold acs; omega)).1 hj;rw [eP,y2n hk,e0,e1];exact ((going_lp la lb).more).norm
      · obtain ⟨a,b,hkk,e0,e1,ta,tb,hl,hc,hr⟩:=cut2 ht (by rcases hk with hk | hk | hk <;> rw [hk] <;> rfl);rw [e0] at hi;rw [e1] at hj;have:=hc all;unfold acs at h19;have la:=(live m a (by omega) ta (by unfold acs; omega)).2 hi;have lb:=(live m b (by omega) tb (by unfold acs; omega)).2 hj;rw [eP,z8v hk,e0,e1];exact (twoP_lp ((gp ta (z1k hi)).cnt all) ((gp tb (z1k hj)).cnt all) (by omega) la lb).norm
theorem live1 {l:List Nd} (ht:Tre l) (h:acs l≤19) (hi:Is 1 l=true):LT (Mt l):=(live l.length l (Nat.le_refl _) ht h).1 hi
end Mn
namespace Se
open Go Go.RowKit Rw YtpingbiibbmcaaaGreatDoor.So
theorem z1s (w:World) (g o:Nat) (x:Value) (p:Addr) (h:p.block≠g):(w.setCell ⟨g,o,none⟩ x).cell? p=w.cell? p:=
  World.cell?_of_block (Below.heap_setCell _ _ _ _ h)
theorem z2r {ok:Nat→Prop} {w:World} {v x:Value} {n size g o:Nat} {cs:List Value} (h:Ap.RdO ok w size v n cs) (hg:∀ k,ok k→k≠g):Ap.RdO ok (w.setCell ⟨g,o,none⟩ x) size v n cs:=by
  obtain ⟨hl,a,cap,hv,hc,hn,hcell⟩:=h;refine ⟨hl,a,cap,hv,hc,hn,fun h0=>?_⟩;obtain ⟨b,off,ha,ho,hlt,hj⟩:=hcell h0;refine ⟨b,off,ha,ho,by simp [World.setCell]; exact hlt,fun j u hu=>?_⟩;rw [z1s _ _ _ _ _ (hg b ho)];exact hj j u hu
def BoxN (w:World) (B:Nat) (k s:Int) (nm:ByteArray):Prop:=w.cell? ⟨B,0,none⟩=some (.int .i64 k)∧w.cell? ⟨B,1,none⟩=some (.string nm)∧w.cell? ⟨B,2,none⟩=some (.int .i64 s)
theorem BoxN.lt {w:World} {B:Nat} {k s:Int} {nm:ByteArray} (h:BoxN w B k s nm):B<w.heap.size:=Ap.z0a h.1
theorem BoxN.below {w w':World} {B:Nat} {k s:Int} {nm:ByteArray} (h:BoxN w B k s nm) (hb:Below w.heap.size w w'):BoxN w' B k s nm:=by
  have hl:=h.lt;unfold BoxN;rw [hb.cell (p:=⟨B,0,none⟩) hl,hb.cell (p:=⟨B,1,none⟩) hl,hb.cell (p:=⟨B,2,none⟩) hl];exact h
theorem BoxN.set {w:World} {B g o:Nat} {k s:Int} {nm:ByteArray} {x:Value} (h:BoxN w B k s nm) (hg:B≠g):BoxN (w.setCell ⟨g,o,none⟩ x) B k s nm:=by
  unfold BoxN;rw [z1s _ _ _ _ ⟨B,0,none⟩ hg,z1s _ _ _ _ ⟨B,1,none⟩ hg,z1s _ _ _ _ ⟨B,2,none⟩ hg];exact h
theorem y4q {w:World} {B:Nat} {u0 u1 u2:Value} {k z:Int} {nm:ByteArray} (h0:w.cell? ⟨B,0,none⟩=some u0) (h1:w.cell? ⟨B,1,none⟩=some u1) (h2:w.cell? ⟨B,2,none⟩=some u2) :
    BoxN (((w.setCell ⟨B,0,none⟩ (.int .i64 k)).setCell ⟨B,1,none⟩ (.string nm)).setCell ⟨B,2,none⟩ (.int .i64 z)) B k z nm:=by
  refine ⟨?_,?_,?_⟩ <;> simp [go_sem,h0,h1,h2]
def RwsO (ok:Nat→Prop) (w:World) (v:Value) (ls:List (List Nd)):Prop:=∃ cs,Ap.RdO ok w 1 v ls.length cs∧(∀ i (h:i<ls.length),∃ a,cs[i]?=some a∧Ap.RdO ok w 3 a ls[i].length (cls ls[i]))
theorem rwC_of {w:World}:∀ {cs:List Value} {ls:List (List Nd)},cs.length=ls.length→(∀ i (h:i<ls.length),∃ a,cs[i]?=some a∧Nds w a ls[i])→RwC w cs ls
  | [],[],_,_=>trivial
  | a::cs,l::ls,hl,h=>by
    refine ⟨?_,rwC_of (by simpa using hl) fun i hi=>?_⟩
    · obtain ⟨a',h1,h2⟩:=h 0 (by simp);simp at h1;subst h1;exact h2
    · obtain ⟨a',h1,h2⟩:=h (i+1) (by simp; omega);exact ⟨a',by simpa using h1,by simpa using h2⟩
  | [],_::_,h,_=>by simp at h
  | _::_,[],h,_=>by simp at h
theorem RwsO.rws {ok:Nat→Prop} {w:World} {v:Value} {ls:List (List Nd)} (h:RwsO ok w v ls):Rws w v ls:=by
  obtain ⟨cs,h1,h2⟩:=h;refine ⟨cs,h1.rd,rwC_of (by have:=h1.1; omega) fun i hi=>?_⟩;obtain ⟨a,ha,hr⟩:=h2 i hi;exact ⟨a,ha,hr.rd⟩
theorem RwsO.below {ok:Nat→Prop} {w w':World} {v:Value} {ls:List (List Nd)} (h:RwsO ok w v ls) (hb:Below w.heap.size w w'):RwsO ok w' v ls:=by
  obtain ⟨cs,h1,h2⟩:=h;refine ⟨cs,h1.below hb,fun i hi=>?_⟩;obtain ⟨a,ha,hr⟩:=h2 i hi;exact ⟨a,ha,hr.below hb⟩
theorem RwsO.set {ok:Nat→Prop} {w:World} {v x:Value} {g o:Nat} {ls:List (List Nd)} (h:RwsO ok w v ls) (hg:∀ k,ok k→k≠g):RwsO ok (w.setCell ⟨g,o,none⟩ x) v ls:=by
  obtain ⟨cs,h1,h2⟩:=h;refine ⟨cs,z2r h1 hg,fun i hi=>?_⟩;obtain ⟨a,ha,hr⟩:=h2 i hi;exact ⟨a,ha,z2r hr hg⟩
def Kd (base B:Nat) (w:World) (v:Value) (ls:List (List Nd)):Prop:=
  RwsO (fun k=>base≤k∧k≠B) w v ls∧(0<ls.length→∃ g c,v=.slice (some ⟨g,0,none⟩) ls.length c∧base≤g∧g≠B∧g<w.heap.size∧(∀ j,w.frozen? ⟨g,j,none⟩=false)∧
    ∀ i (h:i<ls.length),∃ a,w.cell? ⟨g,i,none⟩=some a∧Ap.RdO (fun k=>base≤k∧k≠B∧k≠g) w 3 a ls[i].length (cls ls[i]))
theorem z2p (w:World) (g o:Nat) (x:Value) (p:Addr):(w.setCell ⟨g,o,none⟩ x).frozen? p=w.frozen? p:=by simp [go_sem]
theorem Kd.below {base B:Nat} {w w':World} {v:Value} {ls:List (List Nd)} (h:Kd base B w v ls) (hb:Below w.heap.size w w'):Kd base B w' v ls:=by
  obtain ⟨h1,h2⟩:=h;refine ⟨h1.below hb,fun h0=>?_⟩;obtain ⟨g,c,hv,hg,hB,hl,hf,hc⟩:=h2 h0;refine ⟨g,c,hv,hg,hB,Nat.lt_of_lt_of_le hl hb.size,fun j=>by rw [hb.frozen (p:=⟨g,j,none⟩) hl]; exact hf j,fun i hi=>?_⟩;obtain ⟨a,ha,hr⟩:=hc i hi;exact ⟨a,by rw [hb.cell (p:=⟨g,i,none⟩) hl]; exact ha,hr.below hb⟩
theorem Kd.setB {base B o:Nat} {w:World} {v x:Value} {ls:List (List Nd)} (h:Kd base B w v ls):Kd base B (w.setCell ⟨B,o,none⟩ x) v ls:=by
  obtain ⟨h1,h2⟩:=h;refine ⟨h1.set fun k hk=>hk.2,fun h0=>?_⟩;obtain ⟨g,c,hv,hg,hB,hl,hf,hc⟩:=h2 h0;refine ⟨g,c,hv,hg,hB,by simp [World.setCell]; exact hl,fun j=>by rw [z2p]; exact hf j,fun i hi=>?_⟩;obtain ⟨a,ha,hr⟩:=hc i hi;exact ⟨a,by rw [z1s _ _ _ _ ⟨g,i,none⟩ hB]; exact ha,z2r hr fun k hk=>hk.2.1⟩
theorem Kd.base {base base' B B':Nat} {w:World} {v:Value} {ls:List (List Nd)} (h:Kd base B w v ls) (hb:base'≤base) (hB:∀ k,base≤k→k<w.heap.size→k≠B'):Kd base' B' w v ls:=by
  obtain ⟨⟨cs,h1,h1'⟩,h2⟩:=h;refine ⟨⟨cs,Ap.RdO.imp h1 fun k hl hk=>⟨Nat.le_trans hb hk.1,hB k hk.1 hl⟩,fun i hi=>?_⟩,fun h0=>?_⟩
  · obtain ⟨a,ha,hr⟩:=h1' i hi;exact ⟨a,ha,Ap.RdO.imp hr fun k hl hk=>⟨Nat.le_trans hb hk.1,hB k hk.1 hl⟩⟩
  · obtain ⟨g,c,hv,hg,_,hl,hf,hc⟩:=h2 h0;refine ⟨g,c,hv,Nat.le_trans hb hg,hB g hg hl,hl,hf,fun i hi=>?_⟩;obtain ⟨a,ha,hr⟩:=hc i hi;exact ⟨a,ha,Ap.RdO.imp hr fun k hl hk=>⟨Nat.le_trans hb hk.1,hB k hk.1 hl,hk.2.2⟩⟩
theorem y8z {base:Nat} {out:Option Nat} {w:World}:∀ {cs:List Value} {ls:List (List Nd)},Rx.OwnK base out w cs ls→∀ i (h:i<ls.length),∃ a,cs[i]?=some a∧w.ownsRow base 68 3 a ls[i].length (cls ls[i])∧∀ g,a.ownBlock=some g→some g≠out
  | [],[],_,i,h=>by simp at h
  | a::_,_::_,hr,0,_=>⟨a,rfl,hr.1⟩
  | _::cs,_::ls,hr,i+1,h=>by
    obtain ⟨a,h1,h2⟩:=y8z hr.2 i (by simpa using h);exact ⟨a,by simpa using h1,by simpa using h2⟩
  | [],_::_,h,_,_=>h.elim
  | _::_,[],h,_,_=>h.elim
theorem y6j {ls:List (List Nd)} {w w':World} {v:Value} {cs:List Value} {B:Nat} (hown:w'.ownsRow w.heap.size 22 1 v ls.length cs) (hk:Rx.OwnK w.heap.size v.ownBlock w' cs ls) (hB:B<w.heap.size∨w'.heap.size≤B):Kd w.heap.size B w' v ls:=by
  have hne:∀ k,w.heap.size≤k→k<w'.heap.size→k≠B:=fun k h1 h2 e=>by omega
  refine ⟨⟨cs,Ap.RdO.imp (Ap.RdO.fresh hown) fun k hl hk=>⟨hk,hne k hk hl⟩,fun i hi=>?_⟩,fun h0=>?_⟩
  · obtain ⟨a,ha,ho,_⟩:=y8z hk i hi;exact ⟨a,ha,Ap.RdO.imp (Ap.RdO.fresh ho) fun k hl hk=>⟨hk,hne k hk hl⟩⟩
  · obtain ⟨hlen,⟨rfl,h00⟩ | ⟨g,cap,cur,rfl,hg,hh,hnc,hcm,hcs,htk⟩⟩:=id hown
    · omega
    · have hgl:g<w'.heap.size:=(Array.getElem?_eq_some_iff.1 hh).1;refine ⟨g,cap,rfl,hg,hne g hg hgl,hgl,fun j=>by simp [World.frozen?,hh,go_sem],fun i hi=>?_⟩;obtain ⟨a,ha,ho,hno⟩:=y8z hk i hi;refine ⟨a,?_,?_⟩
      · rw [← htk,Nat.mul_one,List.getElem?_take_of_lt hi] at ha;simp only [World.cell?,hh];rw [← ha];simp [go_sem]
      · exact Ap.RdO.imp (Rx.v0a ho hno).1 fun k hl hk=>⟨hk.1,hne k hk.1 hl,fun e=>hk.2 (by rw [e]; rfl)⟩
theorem Kd.two {base B:Nat} {w:World} {v:Value} {l m:List Nd} (h:Kd base B w v [l,m]):∃ g c y0 y1,v=.slice (some ⟨g,0,none⟩) 2 c∧base≤g∧g≠B∧g<w.heap.size∧(∀ j,w.frozen? ⟨g,j,none⟩=false)∧w.cell? ⟨g,0,none⟩=some y0∧w.cell? ⟨g,1,none⟩=some y1∧
    Ap.RdO (fun k=>base≤k∧k≠B∧k≠g) w 3 y0 l.length (cls l)∧Ap.RdO (fun k=>base≤k∧k≠B∧k≠g) w 3 y1 m.length (cls m):=by
  obtain ⟨g,c,hv,hg,hB,hl,hf,hc⟩:=h.2 (by simp);obtain ⟨y0,q0,r0⟩:=hc 0 (by simp);obtain ⟨y1,q1,r1⟩:=hc 1 (by simp);exact ⟨g,c,y0,y1,hv,hg,hB,hl,hf,q0,q1,r0,r1⟩
theorem Kd.one {base B:Nat} {w:World} {v:Value} {l:List Nd} (h:Kd base B w v [l]):∃ g c y0,v=.slice (some ⟨g,0,none⟩) 1 c∧base≤g∧g≠B∧g<w.heap.size∧(∀ j,w.frozen? ⟨g,j,none⟩=false)∧w.cell? ⟨g,0,none⟩=some y0∧
    Ap.RdO (fun k=>base≤k∧k≠B∧k≠g) w 3 y0 l.length (cls l):=by
  obtain ⟨g,c,hv,hg,hB,hl,hf,hc⟩:=h.2 (by simp);obtain ⟨y0,q0,r0⟩:=hc 0 (by simp);exact ⟨g,c,y0,hv,hg,hB,hl,hf,q0,r0⟩
theorem z0p {w:World} {g o:Nat} {x u:Value} (h:w.cell? ⟨g,o,none⟩=some u):(w.setCell ⟨g,o,none⟩ x).cell? ⟨g,o,none⟩=some x:=by simp [go_sem,h]
theorem z0v {w:World} {g o o':Nat} {x:Value} (h:o≠o'):(w.setCell ⟨g,o,none⟩ x).cell? ⟨g,o',none⟩=w.cell? ⟨g,o',none⟩:=by
  simp only [World.cell?,World.setCell,Array.getElem?_modify,if_true]
  cases hx:w.heap[g]? with
  | none=>rfl
  | some x=>cases x <;> simp [h]
end Se
end Go.Proofs.YtpingbiibbmcaaaGreatDoor
