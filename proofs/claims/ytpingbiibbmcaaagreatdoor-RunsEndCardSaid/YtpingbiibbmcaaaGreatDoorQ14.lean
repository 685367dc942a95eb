/- Laws that the last text leans on. -/
import Derived.Test.YtpingbiibbmcaaaGreatDoorQ13

set_option maxRecDepth 20000
namespace Go.Proofs.YtpingbiibbmcaaaGreatDoor
namespace Se
open Go Rw YtpingbiibbmcaaaGreatDoor.So
def stk (a d:Tm):Tm:=match a with
  | .fin s c=>.fin s (.seq c d)
  | a=>.stack a d
def sSeq (S:Tm→Tm) (a b:Tm):Tm:=match a with
  | .over s=>if s=1 then S b else .over s
  | .fin s c=>if s=1 then stk (S b) c else .fin s c
  | a=>.seq a b
def sHand (S:Tm→Tm) (a b:Tm):Tm:=match a with
  | .over s=>if s=2 then S b else .over s
  | a=>.hand a b
def sPar (a b:Tm):Tm:=match a,b with
  | .over s,.over t=>.over (Sg.both s t)
  | .fin s c,.fin t d=>.fin (Sg.both s t) (.par c d)
  | a,b=>.par a b
def sBlock (S:Tm→Tm) (a:Tm):Tm:=match a with
  | .fin s c=>if s=1 then .over 1 else if s=2 then S c else .block (.fin s c)
  | a=>.block a
def sGoing (a b:Tm):Tm:=match a with
  | .over s=>if s=1 then .fin 1 b else .fin s .skip
  | a=>.going a b
def se:Nat→Tm→Tm
  | 0,t=>t
  | f+1,t=>match t with
    | .skip=>.over 1
    | .throw=>.over 2
    | .seq a b=>sSeq (se f) (se f a) b
    | .hand a b=>sHand (se f) (se f a) b
    | .par a b=>sPar (se f a) (se f b)
    | .block a=>sBlock (se f) (se f a)
    | .going a b=>sGoing (se f a) b
    | .stack a b=>stk (se f a) b
    | t=>t
theorem stk_sz (a d:Tm):sz (stk a d)=sz a+sz d+1:=by
  cases a <;> simp [stk,sz]
  omega
theorem se_sz:∀ (f:Nat) (t:Tm),sz (se f t)≤sz t:=by
  intro f
  induction f with
  | zero=>intro t; exact Nat.le_refl _
  | succ f ih=>
    intro t
    cases t with
    | seq a b=>
      show sz (sSeq (se f) (se f a) b)≤_
      have h1:=ih a;have h2:=ih b;generalize se f a=x at h1 ⊢
      cases x <;> simp only [sSeq,sz] at h1 ⊢ <;> repeat' split
      all_goals try simp only [stk_sz,sz]
      all_goals omega
    | hand a b=>
      show sz (sHand (se f) (se f a) b)≤_
      have h1:=ih a;have h2:=ih b;generalize se f a=x at h1 ⊢
      cases x <;> simp only [sHand,sz] at h1 ⊢ <;> repeat' split
      all_goals try simp only [sz]
      all_goals omega
    | par a b=>
      show sz (sPar (se f a) (se f b))≤_
      have h1:=ih a;have h2:=ih b;generalize se f a=x at h1 ⊢;generalize se f b=y at h2 ⊢
      cases x <;> simp only [sPar,sz] at h1 ⊢
      all_goals try omega
      all_goals cases y <;> simp only [sz] at h2 ⊢ <;> omega
    | block a=>
      show sz (sBlock (se f) (se f a))≤_
      have h1:=ih a;generalize se f a=x at h1 ⊢
      cases x with
      | fin s c=>
        have h2:=ih c;simp only [sBlock,sz] at h1 ⊢
        repeat' split
        all_goals try simp only [sz]
        all_goals omega
      | _=>simp only [sBlock,sz] at h1 ⊢; omega
    | going a b=>
      show sz (sGoing (se f a) b)≤_
      have h1:=ih a;have:=z0e b;generalize se f a=x at h1 ⊢
      cases x <;> simp only [sGoing,sz] at h1 ⊢ <;> repeat' split
      all_goals try simp only [sz]
      all_goals omega
    | stack a b=>
      show sz (stk (se f a) b)≤_
      rw [stk_sz];have h1:=ih a;simp only [sz];omega
    | _=>exact Nat.le_refl _
theorem se_fuel:∀ (f:Nat) (t:Tm),sz t≤f→se (f+1) t=se f t:=by
  intro f
  induction f with
  | zero=>intro t h; have:=z0e t; omega
  | succ f ih=>
    intro t h
    cases t with
    | seq a b=>
      simp only [sz] at h
      show sSeq (se (f+1)) (se (f+1) a) b=sSeq (se f) (se f a) b
      rw [ih a (by omega)];unfold sSeq;rw [ih b (by omega)]
    | hand a b=>
      simp only [sz] at h
      show sHand (se (f+1)) (se (f+1) a) b=sHand (se f) (se f a) b
      rw [ih a (by omega)];unfold sHand;rw [ih b (by omega)]
    | par a b=>
      simp only [sz] at h
      show sPar (se (f+1) a) (se (f+1) b)=sPar (se f a) (se f b)
      rw [ih a (by omega),ih b (by omega)]
    | block a=>
      simp only [sz] at h
      show sBlock (se (f+1)) (se (f+1) a)=sBlock (se f) (se f a)
      rw [ih a (by omega)];have h1:=se_sz f a;generalize se f a=x at h1
      cases x with
      | fin s c=>
        simp only [sz] at h1;simp only [sBlock,ih c (by omega)]
      | _=>rfl
    | going a b=>
      simp only [sz] at h
      show sGoing (se (f+1) a) b=sGoing (se f a) b
      rw [ih a (by omega)]
    | stack a b=>
      simp only [sz] at h
      show stk (se (f+1) a) b=stk (se f a) b
      rw [ih a (by omega)]
    | _=>rfl
def S (t:Tm):Tm:=se (sz t) t
theorem se_S (f:Nat) (t:Tm) (h:sz t≤f):se f t=S t:=by
  have:∀ g,se (sz t+g) t=S t:=by
    intro g
    induction g with
    | zero=>rfl
    | succ g ih=>rw [← Nat.add_assoc,se_fuel _ _ (by omega),ih]
  have h':=this (f-sz t);rw [show sz t+(f-sz t)=f by omega] at h';exact h'
theorem S_sz (t:Tm):sz (S t)≤sz t:=se_sz _ _
theorem S_act (s:ByteArray):S (.act s)=.act s:=rfl
theorem y7s:S .skip=.over 1:=rfl
theorem y0x:S .throw=.over 2:=rfl
theorem x1d:S .yield=.yield:=rfl
theorem v4i (s:Int):S (.over s)=.over s:=rfl
theorem S_fin (s:Int) (c:Tm):S (.fin s c)=.fin s c:=rfl
theorem S_alt (a b:Tm):S (.alt a b)=.alt a b:=rfl
theorem v4h (a b:Tm):S (.pair a b)=.pair a b:=rfl
theorem y4x (a b:Tm):S (.seq a b)=sSeq S (S a) b:=by
  show sSeq (se (sz a+sz b)) (se (sz a+sz b) a) b=_
  rw [se_S _ a (by omega)];unfold sSeq;rw [se_S _ b (by omega)]
theorem z6r (a b:Tm):S (.hand a b)=sHand S (S a) b:=by
  show sHand (se (sz a+sz b)) (se (sz a+sz b) a) b=_
  rw [se_S _ a (by omega)];unfold sHand;rw [se_S _ b (by omega)]
theorem y4y (a b:Tm):S (.par a b)=sPar (S a) (S b):=by
  show sPar (se (sz a+sz b) a) (se (sz a+sz b) b)=_
  rw [se_S _ a (by omega),se_S _ b (by omega)]
theorem z4f (a:Tm):S (.block a)=sBlock S (S a):=by
  show sBlock (se (sz a)) (se (sz a) a)=_
  rw [se_S _ a (by omega)];have h:=S_sz a;generalize S a=x at h
  cases x with
  | fin s c=>
    simp only [sz] at h;simp only [sBlock,se_S _ c (show sz c≤sz a by omega)]
  | _=>rfl
theorem z4e (a b:Tm):S (.going a b)=sGoing (S a) b:=by
  show sGoing (se (sz a+sz b) a) b=_
  rw [se_S _ a (by omega)]
theorem z4d (a b:Tm):S (.stack a b)=stk (S a) b:=by
  show stk (se (sz a+sz b) a) b=_
  rw [se_S _ a (by omega)]
theorem y7t {P:Tm→Prop} (h:∀ t,(∀ u,sz u<sz t→P u)→P t):∀ t,P t:=by
  have:∀ (n:Nat) (t:Tm),sz t≤n→P t:=by
    intro n
    induction n with
    | zero=>intro t h; have:=z0e t; omega
    | succ n ih=>intro t ht; exact h t fun u hu=>ih u (by omega)
  exact fun t=>this _ t (Nat.le_refl _)
theorem stk_is {a d:Tm} (ha:is a 4=true) (hd:is d 1=true):is (stk a d) 4=true:=by
  cases a <;> simp_all [stk,is]
theorem S_is:∀ t:Tm,(is t 3=true→is (S t) 3=true)∧(is t 4=true→is (S t) 4=true):=by
  apply y7t
  intro t ih
  cases t with
  | seq a b=>
    have ia:=ih a (by simp [sz]; omega);have ib:=ih b (by simp [sz]; omega);have j:=is13 b;rw [y4x];generalize S a=x at ia ⊢
    constructor
    · intro h;simp [is] at h;have i1:=ia.1 h.1;have i2:=ib.1 (j.1 h.2)
      cases x <;> simp only [sSeq] <;> (try split) <;> simp_all [is]
    · intro h;simp [is] at h;have i1:=ia.2 h.1;have i2:=ib.2 (j.2 h.2)
      cases x with
      | fin s c=>
        simp only [sSeq];simp [is] at i1
        split
        · exact stk_is i2 i1
        · simpa [is] using i1
      | _=>simp_all [is,sSeq]
  | hand a b=>
    have ia:=ih a (by simp [sz]; omega);have ib:=ih b (by simp [sz]; omega);have j:=is13 b;rw [z6r];generalize S a=x at ia ⊢
    constructor
    · intro h;simp [is] at h;have i1:=ia.1 h.1;have i2:=ib.1 (j.1 h.2)
      cases x <;> simp only [sHand] <;> (try split) <;> simp_all [is]
    · intro h;simp [is] at h
  | par a b=>
    have ia:=ih a (by simp [sz]; omega);have ib:=ih b (by simp [sz]; omega);rw [y4y];generalize S a=x at ia ⊢;generalize S b=y at ib ⊢
    constructor
    · intro h;simp [is] at h;have i1:=ia.1 h.1;have i2:=ib.1 h.2
      cases x <;> (try (simp [is] at i1; done)) <;> simp only [sPar] <;> (try (simp_all [is]; done))
      cases y <;> simp_all [is]
    · intro h;simp [is] at h;have i1:=ia.2 h.1;have i2:=ib.2 h.2
      cases x <;> (try (simp [is] at i1; done)) <;> simp only [sPar] <;> (try (simp_all [is]; done))
      cases y <;> simp_all [is]
  | block a=>
    have ia:=ih a (by simp [sz]);have hs:=S_sz a;rw [z4f];generalize S a=x at ia hs ⊢
    constructor
    · intro h;simp [is] at h;have i1:=ia.2 h
      cases x with
      | fin s c=>
        simp [is] at i1;simp only [sBlock]
        split
        · rfl
        · split
          · simp only [sz] at hs;exact (ih c (by simp [sz]; omega)).1 ((is13 c).1 i1)
          · simp [is,i1]
      | _=>simp_all [is,sBlock]
    · intro h;simp [is] at h
  | going a b=>
    have ia:=ih a (by simp [sz]; omega);rw [z4e];generalize S a=x at ia ⊢
    constructor
    · intro h;simp [is] at h
    · intro h;simp [is] at h;have i1:=ia.1 h.1
      cases x <;> simp only [sGoing] <;> (try split) <;> simp_all [is]
  | stack a b=>
    have ia:=ih a (by simp [sz]; omega);rw [z4d]
    constructor
    · intro h;simp [is] at h
    · intro h;simp [is] at h;exact stk_is (ia.2 h.1) h.2
  | _=>simp_all [S_act,y7s,y0x,x1d,v4i,S_fin,S_alt,v4h,is]
def isOver:Tm→Bool
  | .over _=>true
  | _=>false
def isFin:Tm→Bool
  | .fin _ _=>true
  | _=>false
def isGone:Tm→Bool
  | .fin s _=>s==1||s==2
  | _=>false
def Nf:Tm→Prop
  | .skip=>False
  | .throw=>False
  | .seq a _=>Nf a∧isOver a=false∧isFin a=false
  | .hand a _=>Nf a∧isOver a=false
  | .par a b=>Nf a∧Nf b∧(isOver a&&isOver b)=false∧(isFin a&&isFin b)=false
  | .block a=>Nf a∧isGone a=false
  | .going a _=>Nf a∧isOver a=false
  | .stack a _=>Nf a∧isFin a=false
  | _=>True
theorem stk_nf {a d:Tm} (ha:Nf a):Nf (stk a d):=by
  cases a <;> simp_all [stk,Nf,isOver,isFin]
theorem S_nf:∀ t:Tm,Nf (S t):=by
  apply y7t
  intro t ih
  cases t with
  | seq a b=>
    have ia:=ih a (by simp [sz]; omega);have ib:=ih b (by simp [sz]; omega);rw [y4x];generalize S a=x at ia ⊢
    cases x <;> simp only [sSeq] <;> (try split) <;> first | exact ib | exact stk_nf ib | simp_all [Nf,isOver,isFin,isGone]
  | hand a b=>
    have ia:=ih a (by simp [sz]; omega);have ib:=ih b (by simp [sz]; omega);rw [z6r];generalize S a=x at ia ⊢
    cases x <;> simp only [sHand] <;> (try split) <;> first | exact ib | simp_all [Nf,isOver,isFin,isGone]
  | par a b=>
    have ia:=ih a (by simp [sz]; omega);have ib:=ih b (by simp [sz]; omega);rw [y4y];generalize S a=x at ia ⊢;generalize S b=y at ib ⊢
    cases x <;> simp only [sPar] <;> (try (simp_all [Nf,isOver,isFin,isGone]; done))
    all_goals cases y <;> simp_all [Nf,isOver,isFin,isGone]
  | block a=>
    have ia:=ih a (by simp [sz]);have hs:=S_sz a;rw [z4f];generalize S a=x at ia hs ⊢
    cases x with
    | fin s c=>
      simp only [sBlock]
      split
      · simp [Nf]
      · split
        · simp only [sz] at hs;exact ih c (by simp [sz]; omega)
        · simp_all [Nf,isGone]
    | _=>simp_all [Nf,sBlock,isGone]
  | going a b=>
    have ia:=ih a (by simp [sz]; omega);rw [z4e];generalize S a=x at ia ⊢
    cases x <;> simp only [sGoing] <;> (try split) <;> simp_all [Nf,isOver,isFin,isGone]
  | stack a b=>
    have ia:=ih a (by simp [sz]; omega);rw [z4d];exact stk_nf ia
  | _=>simp_all [S_act,y7s,y0x,x1d,v4i,S_fin,S_alt,v4h,Nf]
theorem nf_S:∀ t:Tm,Nf t→S t=t:=by
  intro t
  induction t with
  | seq a b ia ib=>
    intro h;rw [y4x,ia h.1];obtain ⟨h1,h2,h3⟩:=h
    cases a <;> simp_all [sSeq,isOver,isFin]
  | hand a b ia ib=>
    intro h;rw [z6r,ia h.1];obtain ⟨h1,h2⟩:=h
    cases a <;> simp_all [sHand,isOver]
  | par a b ia ib=>
    intro h;rw [y4y,ia h.1,ib h.2.1];obtain ⟨h1,h2,h3,h4⟩:=h
    cases a <;> simp only [sPar]
    all_goals cases b <;> simp_all [isOver,isFin]
  | block a ia=>
    intro h;rw [z4f,ia h.1];obtain ⟨h1,h2⟩:=h
    cases a with
    | fin s c=>
      simp [isGone] at h2;simp [sBlock,h2]
    | _=>rfl
  | going a b ia ib=>
    intro h;rw [z4e,ia h.1];obtain ⟨h1,h2⟩:=h
    cases a <;> simp_all [sGoing,isOver]
  | stack a b ia ib=>
    intro h;rw [z4d,ia h.1];obtain ⟨h1,h2⟩:=h
    cases a <;> simp_all [stk,isFin]
  | skip=>intro h; exact h.elim
  | throw=>intro h; exact h.elim
  | _=>intro _; rfl
theorem S_twice (t:Tm):S (S t)=S t:=nf_S _ (S_nf t)
end Se
namespace Tr
open Go Go.RowKit

end Tr
namespace Rf
open Go Go.RowKit Rw
def Strs (w:World) (v:Value) (l:List ByteArray):Prop:=Ap.Rd w 1 v l.length (l.map .string)
def AtS (w:World) (b off:Nat) (l:List ByteArray):Prop:=∀ k,(h:k<l.length)→w.cell? ⟨b,off+k,none⟩=some (.string l[k])
theorem bytes_eq {s t:ByteArray} (h:s=t):(s.toList==t.toList)=true:=by rw [h]; simp
theorem bytes_ne {s t:ByteArray} (h:¬ s=t):(s.toList==t.toList)=false:=by
  rw [ByteArray.toList_eq t];exact z1o fun e=>h (by rw [e])
def Got (w wr:World) (v:Value) (l:List Nd):Prop:=wr.ownsRow w.heap.size 68 3 v l.length (cls l)∧Below w.heap.size w wr
end Rf
namespace Se
open Go Go.RowKit Rw YtpingbiibbmcaaaGreatDoor.So
def OutN (t:Tm) (w:World) (e:Ending) (w':World):Prop:=∃ y,e=.returned y∧Nds w' y (flat t)∧Below w.heap.size w w'
def kd (t:Tm):Int:=hd (flat t)
def sgl:List Nd→Int
  | []=>0
  | n::_=>n.s
def sg (t:Tm):Int:=sgl (flat t)
theorem at0 {l:List Nd} (h:0<l.length):l[0].k=hd l∧l[0].s=sgl l:=by
  cases l with
  | nil=>simp at h
  | cons n r=>exact ⟨rfl,rfl⟩
theorem form {w:World} {v:Value} {t:Tm} (hv:Nds w v (flat t)):∃ b o c,v=.slice (some ⟨b,o,none⟩) (sz t) c∧sz t≤c∧b<w.heap.size∧(∀ w',Below w.heap.size w w'→w'.cell? ⟨b,o,none⟩=some (.int .i64 (kd t))∧w'.cell? ⟨b,o+2,none⟩=some (.int .i64 (sg t)))∧At w b o (flat t):=by
  rcases hv.form with ⟨_,hl⟩ | ⟨b,o,c,rfl,hc,hat⟩
  · exact absurd (by simp_all) (v2k t)
  · rw [flat_len] at hc ⊢;have hp:=z0e t;have hl:=flat_len t;obtain ⟨h1,_,h3⟩:=hat 0 (by omega);rw [Nat.zero_mul,Nat.add_zero] at h1 h3;have lt:=Ap.z0a h1;refine ⟨b,o,c,rfl,hc,lt,fun w' hb=>?_,hat⟩;obtain ⟨g1,g2⟩:=at0 (l:=flat t) (by omega);rw [hb.cell (p:=⟨b,o,none⟩) lt,hb.cell (p:=⟨b,o+2,none⟩) lt,h1,h3,g1,g2];exact ⟨rfl,rfl⟩
theorem z0w {w:World} {b o c:Nat} {s:Int} {t:Tm} (hat:At w b o (flat (.fin s t))) (hc:sz (.fin s t)≤c):Nds w (.slice (some ⟨b,o+3,none⟩) (sz t) (c-1)) (flat t):=by
  have h:=z3d hat 1 (sz t) (c-1) (by rw [flat_len]; simp [sz]; omega) (by simp [sz] at hc; omega)
  have e:((flat (.fin s t)).drop 1).take (sz t)=flat t:=by
    show ((nEnd s::flat t).drop 1).take (sz t)=_
    rw [List.drop_succ_cons,List.drop_zero,← flat_len t,List.take_length]
  rw [e] at h;exact h
theorem z1a (k s:Int) (w:World):Calls Tryz.prog 242 #[.int .i64 k,.int .i64 s] w fun e w'=>e=.returned (.agg #[.int .i64 k,.string ⟨#[]⟩,.int .i64 s])∧Below w.heap.size w w':=by
  go_enter Tryz.func242,Tryz.ntmps242
  go_wp2_with fail;refine bodyPost_ret (v:=.agg #[.int .i64 k,.string ⟨#[]⟩,.int .i64 s]) (by simp [results,Tryz.results242,go_sem]) rfl ⟨rfl,?_⟩;exact z0b w _
theorem v0o (w:World) (x:Nd) (ty:TypeId):Nds (w.alloc (.cells #[.int .i64 x.k,.string x.n,.int .i64 x.s] ty)) (.slice (some ⟨w.heap.size,0,none⟩) 1 1) [x]:=by
  refine ⟨rfl,_,1,rfl,Nat.le_refl _,fun h=>(by cases h),fun _=>⟨w.heap.size,0,rfl,fun j u hu=>?_⟩⟩
  match j,hu with
  | 0,hu=>simp [cls,cl] at hu; subst hu; simp
  | 1,hu=>simp [cls,cl] at hu; subst hu; simp
  | 2,hu=>simp [cls,cl] at hu; subst hu; simp
  | j+3,hu=>simp [cls,cl] at hu
theorem z6a (s:Int) (w:World):Calls Tryz.prog 185 #[.int .i64 s] w (OutN (.over s) w):=by
  unfold OutN
  go_enter Tryz.func185,Tryz.ntmps185
  go_wp2_with fail;refine (z1a 11 s _).mono ?_;rintro e w1 ⟨rfl,hb1⟩;have B1:=Lib.hid hb1;clear hb1;go_wp2_with fail;go_ret;exact ⟨_,rfl,v0o w1 (nOver s) _,B1.out.alloc B1.out.size _⟩
theorem z8k (s:Int) (v:Value) (c:Tm) (w:World) (hv:Nds w v (flat c)) (hl:sz c≤1000):Calls Tryz.prog 243 #[.int .i64 s,v] w (OutN (.fin s c) w):=by
  unfold OutN;have HV:=Lib.hid hv;clear hv
  go_enter Tryz.func243,Tryz.ntmps243
  go_wp2_with fail;refine (z1a 14 s _).mono ?_;rintro e w1 ⟨rfl,hb1⟩;have B1:=Lib.hid hb1;clear hb1;go_wp2_with fail;refine (y3j (nEnd s) v (flat c) w1 (HV.out.below B1.out) (by rw [flat_len]; omega)).mono ?_;rintro e w2 ⟨y,rfl,hown,hb2⟩;have O2:=Lib.hid hown;have B2:=Lib.hid hb2;clear hown hb2;go_wp2_with fail;go_ret;exact ⟨_,rfl,Ap.Rd.owned O2.out,B1.out.trans (B2.out.mono B1.out.size)⟩
theorem mk2R (k:Int) (mk:Tm→Tm→Tm) (h:∀ a b,flat (mk a b)=nOf k::(flat a++flat b)) (va vb:Value) (a b:Tm) (w:World) (ha:Nds w va (flat a)) (hb:Nds w vb (flat b)) (hl:sz a+sz b≤100000) :
    Calls Tryz.prog 132 #[.agg #[.int .i64 k,.string ⟨#[]⟩,.int .i64 0],va,vb] w (OutN (mk a b) w):=by
  refine (twoR_any (nOf k) va vb (flat a) (flat b) w ha hb (by rw [flat_len]; omega) (by rw [flat_len]; omega)).mono ?_;rintro e w1 ⟨y,rfl,hn,hb⟩;exact ⟨y,rfl,by rw [h]; exact hn,hb⟩
theorem mk1R (va:Value) (a:Tm) (w:World) (ha:Nds w va (flat a)) (hl:sz a≤100000) :
    Calls Tryz.prog 133 #[.agg #[.int .i64 9,.string ⟨#[]⟩,.int .i64 0],va] w (OutN (.block a) w):=by
  refine (y3j (nOf 9) va (flat a) w ha (by rw [flat_len]; omega)).mono ?_;rintro e w1 ⟨y,rfl,hn,hb⟩;exact ⟨y,rfl,Ap.Rd.owned hn,hb⟩
theorem nds_skip (w:World) (ty:TypeId):Nds (w.alloc (.cells #[.int .i64 2,.string ⟨#[]⟩,.int .i64 0] ty)) (.slice (some ⟨w.heap.size,0,none⟩) 1 1) (flat .skip):=v0o w (nOf 2) ty
end Se
namespace Se
open Go Rw YtpingbiibbmcaaaGreatDoor.So
def rg (t:Tm):Bool:=(flat t).all rgt
theorem z3b (a:Tm):rg (.block a)=rg a:=by
  show ((nOf 9::flat a).all rgt)=_
  rw [List.all_cons,show rgt (nOf 9)=true by decide +kernel]
  rfl
theorem z5l (s:Int) (c:Tm):rg (.fin s c)=(rgt (nEnd s)&&rg c):=by
  show ((nEnd s::flat c).all rgt)=_
  rw [List.all_cons]
  rfl
theorem z9h {k:Int} {t a b:Tm} (e:flat t=nOf k::(flat a++flat b)) (hk:rgt (nOf k)=true):rg t=(rg a&&rg b):=by
  unfold rg;rw [e,List.all_cons,List.all_append,hk]
  rfl
theorem z7p (a b:Tm):rg (.seq a b)=(rg a&&rg b):=z9h (k:=5) rfl (by decide +kernel)
theorem rg_alt (a b:Tm):rg (.alt a b)=(rg a&&rg b):=z9h (k:=6) rfl (by decide +kernel)
theorem z5k (a b:Tm):rg (.par a b)=(rg a&&rg b):=z9h (k:=7) rfl (by decide +kernel)
theorem z5o (a b:Tm):rg (.hand a b)=(rg a&&rg b):=z9h (k:=8) rfl (by decide +kernel)
theorem rg_pair (a b:Tm):rg (.pair a b)=(rg a&&rg b):=z9h (k:=10) rfl (by decide +kernel)
theorem z3u (a b:Tm):rg (.going a b)=(rg a&&rg b):=z9h (k:=12) rfl (by decide +kernel)
theorem z3t (a b:Tm):rg (.stack a b)=(rg a&&rg b):=z9h (k:=13) rfl (by decide +kernel)
theorem x8u:rg .skip=true:=by decide +kernel
theorem z9i (s:Int):rg (.over s)=(decide (1≤s)&&decide (s≤3)):=by
  show ([nOver s].all rgt)=_
  rw [List.all_cons,z3a _ _ (.inl rfl),show decide (ByteArray.size ⟨#[]⟩=0)=true from rfl,Bool.true_and,List.all_nil,Bool.and_true]
theorem z4z (s:Int):rgt (nEnd s)=(decide (1≤s)&&decide (s≤3)):=by
  rw [z3a _ _ (.inr rfl),show decide (ByteArray.size ⟨#[]⟩=0)=true from rfl,Bool.true_and]
theorem v3u {s t:Int} (hs:1≤s∧s≤3) (ht:1≤t∧t≤3):1≤Sg.both s t∧Sg.both s t≤3:=by
  have h1:s=1∨s=2∨s=3:=by omega
  have h2:t=1∨t=2∨t=3:=by omega
  rcases h1 with rfl | rfl | rfl <;> rcases h2 with rfl | rfl | rfl <;> decide
theorem stk_rg {a d:Tm} (ha:rg a=true) (hd:rg d=true):rg (stk a d)=true:=by
  cases a <;> simp_all [stk,z3t,z5l,z7p]
theorem S_rg:∀ t:Tm,rg t=true→rg (S t)=true:=by
  apply y7t
  intro t ih h
  cases t with
  | act s=>exact h
  | skip=>decide +kernel
  | throw=>decide +kernel
  | yield=>exact h
  | over s=>exact h
  | fin s c=>exact h
  | alt a b=>exact h
  | pair a b=>exact h
  | seq a b=>
    rw [z7p,Bool.and_eq_true] at h;have ia:=ih a (by simp [sz]; omega) h.1;have ib:=ih b (by simp [sz]; omega) h.2;rw [y4x];generalize S a=x at ia
    cases x <;> simp only [sSeq] <;> (try split) <;> simp_all [z7p,z5l,stk_rg]
  | hand a b=>
    rw [z5o,Bool.and_eq_true] at h;have ia:=ih a (by simp [sz]; omega) h.1;have ib:=ih b (by simp [sz]; omega) h.2;rw [z6r];generalize S a=x at ia
    cases x <;> simp only [sHand] <;> (try split) <;> simp_all [z5o]
  | par a b=>
    rw [z5k,Bool.and_eq_true] at h;have ia:=ih a (by simp [sz]; omega) h.1;have ib:=ih b (by simp [sz]; omega) h.2;rw [y4y];generalize S a=x at ia ⊢;generalize S b=y at ib ⊢
    cases x <;> simp only [sPar] <;> (try (simp_all [z5k]; done))
    · cases y <;> simp only [] <;> (try (simp_all [z5k]; done))
      simp only [z9i,Bool.and_eq_true,decide_eq_true_eq] at ia ib ⊢;exact v3u ia ib
    · cases y <;> simp only [] <;> (try (simp_all [z5k]; done))
      simp only [z5l,z5k,z4z,Bool.and_eq_true,decide_eq_true_eq] at ia ib ⊢;exact ⟨v3u ia.1 ib.1,ia.2,ib.2⟩
  | block a=>
    rw [z3b] at h;have ia:=ih a (by simp [sz]) h;have hs:=S_sz a;rw [z4f];generalize S a=x at ia hs
    cases x with
    | fin s c=>
      simp only [sBlock];simp only [sz] at hs;have ic:=ih c (by simp [sz]; omega)
      repeat' split
      · decide +kernel
      · rw [z5l,Bool.and_eq_true] at ia;exact ic ia.2
      · rw [z3b]; exact ia
    | _=>simpa [sBlock,z3b] using ia
  | going a b=>
    rw [z3u,Bool.and_eq_true] at h;have ia:=ih a (by simp [sz]; omega) h.1;rw [z4e];generalize S a=x at ia
    cases x <;> simp only [sGoing] <;> (try split) <;> simp_all [z3u,z5l,z9i,z4z,x8u]
  | stack a b=>
    rw [z3t,Bool.and_eq_true] at h;have ia:=ih a (by simp [sz]; omega) h.1;rw [z4d];exact stk_rg ia h.2
theorem y1d (t:Tm):whole (flat t)=(rg t&&decide (sz t≤200)):=by
  unfold whole rg;rw [flat_len,(z0i t).size,flat_len];have:=z0e t;simp [show 1≤sz t from this]
def Goes (t:Tm):Prop:=rg t=true∧sz t≤200∧(is t 3=true∨is t 4=true)
theorem Goes.S {t:Tm} (h:Goes t):Goes (S t):=⟨S_rg t h.1,Nat.le_trans (S_sz t) h.2.1,h.2.2.imp (S_is t).1 (S_is t).2⟩
theorem of_flat {t:Tm} (h:rg t=true) (hz:sz t≤200):of (flat t)=if is t 1 then 1 else if is t 2 then 2 else if is t 3 then 3 else if is t 4 then 4 else 0:=by
  unfold of first
  rw [y1d,h,decide_eq_true hz,z2k t 1 (by omega),z2k t 2 (by omega),z2k t 3 (by omega),z2k t 4 (by omega)]
  rfl
theorem y6l {t:Tm}:¬ (is t 3=true∧is t 4=true):=by
  rw [← z2k t 3 (by omega),← z2k t 4 (by omega)];exact apart _ (flat t) (Nat.le_refl _)
theorem z2u {t:Tm} (h:rg t=true) (hz:sz t≤200) (p:Bool):onB (flat t) p=if p then is t 4 else is t 3:=by
  have n:=y6l (t:=t);have j:=is13 t;unfold onB;rw [of_flat h hz]
  cases h1:is t 1 <;> cases h2:is t 2 <;> cases h3:is t 3 <;> cases h4:is t 4 <;> cases p <;> simp_all
theorem z5q {l:List Nd} (h:of l≠0):∃ t,flat t=l∧Goes t:=by
  have hw:whole l=true:=by
    cases hw:whole l with
    | true=>rfl
    | false=>exact absurd (of_not hw) h
  obtain ⟨t,rfl⟩:=whole_tm hw;rw [y1d,Bool.and_eq_true,decide_eq_true_eq] at hw;refine ⟨t,rfl,hw.1,hw.2,?_⟩;rw [of_flat hw.1 hw.2] at h;have j:=is13 t
  cases h1:is t 1 <;> cases h2:is t 2 <;> cases h3:is t 3 <;> cases h4:is t 4 <;> simp_all
theorem Goes.of {t:Tm} (h:Goes t):of (flat t)≠0:=by
  rw [of_flat h.1 h.2.1];have h3:=h.2.2;have j:=is13 t
  cases h1:is t 1 <;> cases h2:is t 2 <;> cases h3:is t 3 <;> cases h4:is t 4 <;> simp_all
def waits:Tm→Bool
  | .act _=>true
  | .alt _ _=>true
  | .yield=>true
  | .pair _ _=>true
  | .seq a _=>waits a
  | .hand a _=>waits a
  | .going a _=>waits a
  | .stack a _=>waits a
  | .block a=>waits a
  | .par a b=>waits a||waits b
  | _=>false
def isQuery:Tm→Bool
  | .fin s _=>s==3
  | _=>false
def stuck:Tm→Bool
  | .block a=>isQuery a||stuck a
  | .seq a _=>stuck a
  | .hand a _=>stuck a
  | .going a _=>stuck a
  | .stack a _=>stuck a
  | .par a b=>stuck a||stuck b
  | _=>false
theorem y3i {a:Tm} (h:isOver a=true):is a 4=false:=by cases a <;> simp_all [isOver,is]
theorem y6x {a:Tm} (h:isFin a=true):is a 3=false:=by cases a <;> simp_all [isFin,is]
theorem nf_ends:∀ t:Tm,Nf t→rg t=true→(is t 3=true∨is t 4=true)→waits t=true∨isOver t=true∨isFin t=true∨stuck t=true:=by
  intro t
  induction t with
  | act s=>intros; exact .inl rfl
  | skip=>intro h; exact h.elim
  | throw=>intro h; exact h.elim
  | yield=>intros; exact .inl rfl
  | over s=>intros; exact .inr (.inl rfl)
  | fin s c=>intros; exact .inr (.inr (.inl rfl))
  | alt a b=>intros; exact .inl rfl
  | pair a b=>intros; exact .inl rfl
  | seq a b ia ib=>
    intro h hr hi;rw [z7p,Bool.and_eq_true] at hr;have hj:is a 3=true∨is a 4=true:=by simp [is] at hi; exact hi.imp (·.1) (·.1)
    have:=ia h.1 hr.1 hj;rw [h.2.1,h.2.2] at this
    simpa [waits,stuck,isOver,isFin] using this
  | hand a b ia ib=>
    intro h hr hi;rw [z5o,Bool.and_eq_true] at hr;have hj:is a 3=true:=by simp [is] at hi; exact hi.1
    have:=ia h.1 hr.1 (.inl hj);have hf:isFin a=false:=by cases hf:isFin a with | false=>rfl | true=>rw [y6x hf] at hj; cases hj
    rw [h.2,hf] at this
    simpa [waits,stuck,isOver,isFin] using this
  | par a b ia ib=>
    intro h hr hi;rw [z5k,Bool.and_eq_true] at hr;obtain ⟨h1,h2,h3,h4⟩:=h;have hj:(is a 3=true∧is b 3=true)∨(is a 4=true∧is b 4=true):=by simpa [is] using hi
    have ga:=ia h1 hr.1 (hj.imp (·.1) (·.1));have gb:=ib h2 hr.2 (hj.imp (·.2) (·.2));simp only [waits,stuck,isOver,isFin,Bool.or_eq_true]
    rcases ga with g | g | g | g
    · exact .inl (.inl g)
    · have a3:is a 3=true:=hj.elim (·.1) fun h=>by rw [y3i g] at h; cases h.1
      have b3:is b 3=true:=hj.elim (·.2) fun h=>absurd ⟨a3,h.1⟩ y6l
      rcases gb with k | k | k | k
      · exact .inl (.inr k)
      · rw [g,k] at h3; cases h3
      · rw [y6x k] at b3; cases b3
      · exact .inr (.inr (.inr (.inr k)))
    · have a4:is a 4=true:=hj.elim (fun h=>by rw [y6x g] at h; cases h.1) (·.1);have b4:is b 4=true:=hj.elim (fun h=>absurd ⟨h.1,a4⟩ y6l) (·.2)
      rcases gb with k | k | k | k
      · exact .inl (.inr k)
      · rw [y3i k] at b4; cases b4
      · rw [g,k] at h4; cases h4
      · exact .inr (.inr (.inr (.inr k)))
    · exact .inr (.inr (.inr (.inl g)))
  | block a ia=>
    intro h hr hi;rw [z3b] at hr;have hj:is a 4=true:=by simpa [is] using hi
    have g:=ia h.1 hr (.inr hj);have ho:isOver a=false:=by cases ho:isOver a with | false=>rfl | true=>rw [y3i ho] at hj; cases hj
    have hq:isFin a=true→isQuery a=true:=by
      intro hf
      cases a with
      | fin s c=>
        have h5:=h.2;rw [z5l,Bool.and_eq_true,z4z] at hr;simp [isGone] at h5 hr;simp [isQuery];omega
      | _=>cases hf
    simp only [waits,stuck,isOver,isFin,Bool.or_eq_true]
    rcases g with g | g | g | g
    · exact .inl g
    · rw [ho] at g; cases g
    · exact .inr (.inr (.inr (.inl (hq g))))
    · exact .inr (.inr (.inr (.inr g)))
  | going a b ia ib=>
    intro h hr hi;rw [z3u,Bool.and_eq_true] at hr;have hj:is a 3=true:=by simp [is] at hi; exact hi.1
    have:=ia h.1 hr.1 (.inl hj);have hf:isFin a=false:=by cases hf:isFin a with | false=>rfl | true=>rw [y6x hf] at hj; cases hj
    rw [h.2,hf] at this
    simpa [waits,stuck,isOver,isFin] using this
  | stack a b ia ib=>
    intro h hr hi;rw [z3t,Bool.and_eq_true] at hr;have hj:is a 4=true:=by simp [is] at hi; exact hi.1
    have:=ia h.1 hr.1 (.inr hj);have ho:isOver a=false:=by cases ho:isOver a with | false=>rfl | true=>rw [y3i ho] at hj; cases hj
    rw [h.2,ho] at this
    simpa [waits,stuck,isOver,isFin] using this
def ct (f:Nd→Bool) (t:Tm):Nat:=(flat t).countP f
def Plain (f:Nd→Bool):Prop:=(∀ s,f (nOver s)=false)∧(∀ s,f (nEnd s)=false)∧f (nOf 2)=false∧f (nOf 5)=false∧f (nOf 7)=false∧f (nOf 12)=false∧f (nOf 13)=false
theorem y0p {f:Nd→Bool} {n:Nd} {t a b:Tm} (e:flat t=n::(flat a++flat b)):ct f t=ct f a+ct f b+if f n then 1 else 0:=by
  unfold ct;rw [e,List.countP_cons,List.countP_append]
theorem ct_one {f:Nd→Bool} {n:Nd} {t a:Tm} (e:flat t=n::flat a):ct f t=ct f a+if f n then 1 else 0:=by
  unfold ct;rw [e,List.countP_cons]
theorem v3l (f:Nd→Bool) (a b:Tm):ct f (.seq a b)=ct f a+ct f b+if f (nOf 5) then 1 else 0:=y0p rfl
theorem y7e (f:Nd→Bool) (a b:Tm):ct f (.par a b)=ct f a+ct f b+if f (nOf 7) then 1 else 0:=y0p rfl
theorem ct_hand (f:Nd→Bool) (a b:Tm):ct f (.hand a b)=ct f a+ct f b+if f (nOf 8) then 1 else 0:=y0p rfl
theorem x3h (f:Nd→Bool) (a b:Tm):ct f (.going a b)=ct f a+ct f b+if f (nOf 12) then 1 else 0:=y0p rfl
theorem x3g (f:Nd→Bool) (a b:Tm):ct f (.stack a b)=ct f a+ct f b+if f (nOf 13) then 1 else 0:=y0p rfl
theorem z4a (f:Nd→Bool) (a:Tm):ct f (.block a)=ct f a+if f (nOf 9) then 1 else 0:=ct_one rfl
theorem z7s (f:Nd→Bool) (s:Int) (c:Tm):ct f (.fin s c)=ct f c+if f (nEnd s) then 1 else 0:=ct_one rfl
theorem ct_over {f:Nd→Bool} (hf:Plain f) (s:Int):ct f (.over s)=0:=by
  show [nOver s].countP f=0
  simp [hf.1 s]
theorem ct_skip {f:Nd→Bool} (hf:Plain f):ct f .skip=0:=by
  show [nOf 2].countP f=0
  simp [hf.2.2.1]
theorem stk_ct {f:Nd→Bool} (hf:Plain f) (a d:Tm):ct f (stk a d)=ct f a+ct f d:=by
  obtain ⟨h1,h2,h3,h4,h5,h6,h7⟩:=hf
  cases a <;> simp only [stk,x3g,z7s,v3l,h7,h2,h4] <;> simp
theorem S_ct {f:Nd→Bool} (hf:Plain f):∀ t:Tm,ct f (S t)≤ct f t:=by
  have hst:=stk_ct hf;have hov:=ct_over hf;have hsk:=ct_skip hf;have hf':=hf;obtain ⟨h1,h2,h3,h4,h5,h6,h7⟩:=hf
  apply y7t
  intro t ih
  cases t with
  | act s=>exact Nat.le_refl _
  | skip=>rw [y7s,hov]; exact Nat.zero_le _
  | throw=>rw [y0x,hov]; exact Nat.zero_le _
  | yield=>exact Nat.le_refl _
  | over s=>exact Nat.le_refl _
  | fin s c=>exact Nat.le_refl _
  | alt a b=>exact Nat.le_refl _
  | pair a b=>exact Nat.le_refl _
  | seq a b=>
    have ia:=ih a (by simp [sz]; omega);have ib:=ih b (by simp [sz]; omega);rw [y4x,v3l,h4];generalize S a=x at ia
    cases x <;> simp only [sSeq] <;> (try split) <;> simp only [hov,v3l,z7s,hst,h2,h4] at ia ⊢ <;> simp only [Bool.false_eq_true,if_false] at ia ⊢ <;> omega
  | hand a b=>
    have ia:=ih a (by simp [sz]; omega);have ib:=ih b (by simp [sz]; omega);rw [z6r];generalize S a=x at ia
    cases x <;> simp only [sHand] <;> (try split) <;> simp only [hov,ct_hand] at ia ⊢ <;> omega
  | par a b=>
    have ia:=ih a (by simp [sz]; omega);have ib:=ih b (by simp [sz]; omega);rw [y4y,y7e,h5];generalize S a=x at ia ⊢;generalize S b=y at ib ⊢
    cases x <;> simp only [sPar] <;> (try simp only [y7e,h5] at ia) <;> (try (simp only [y7e,h5] <;> omega))
    · cases y <;> simp only [] <;> simp only [hov,y7e,h5] at ia ib ⊢ <;> omega
    · cases y <;> simp only [] <;> simp only [z7s,y7e,h2,h5] at ia ib ⊢ <;> simp only [Bool.false_eq_true,if_false] at ia ib ⊢ <;> omega
  | block a=>
    have ia:=ih a (by simp [sz]);have hs:=S_sz a;rw [z4f];generalize S a=x at ia hs
    cases x with
    | fin s c=>
      simp only [sBlock];simp only [sz] at hs;have ic:=ih c (by simp [sz]; omega);rw [z7s,h2] at ia;simp only [Bool.false_eq_true,if_false] at ia
      split
      · simp only [hov,z4a]; omega
      · split
        · simp only [z4a]; omega
        · simp only [z4a,z7s,h2,Bool.false_eq_true,if_false]; omega
    | _=>(try simp only [z4a] at ia); simp only [sBlock,z4a]; omega
  | going a b=>
    have ia:=ih a (by simp [sz]; omega);rw [z4e,x3h,h6];generalize S a=x at ia
    cases x <;> simp only [sGoing] <;> (try split) <;> simp only [hov,hsk,x3h,z7s,h2,h6] at ia ⊢ <;> (try simp only [Bool.false_eq_true,if_false]) <;> omega
  | stack a b=>
    have ia:=ih a (by simp [sz]; omega);rw [z4d,x3g,h7,hst];omega
end Se
namespace Tr
open Go Go.RowKit

end Tr
namespace Rf
open Go Go.RowKit Rw

end Rf
end Go.Proofs.YtpingbiibbmcaaaGreatDoor
