/- Plain: what comes of a tree of itself; it is not longer, it is of the kind that it was, and nothing more comes of it. What may be refused: plain. Places, marks; all names of some; all marks are the whole rewritten. The document's mixed at any two rows. Plain: whole trees, what is settled is whole; what it has; where it ends. The document's node, over, end; trees in memory. Rows of texts, and nodes appended in a call's own row: what the walks of layer 8 need. The document's Par: the walk. The document's first: the walks. The document's 'in' and 'may' of layer 8. All traces of two, and all rows of two: what they are. The document's par, block, Tree, Settle: the walks. The document's Rewrite of layer 8. Rows mixed: that order does not matter, and that each row has the actions of both in their order. The program's side: what it makes of nodes and trees; over, end, goOn. The document's Mark and Places of layer 8. What is made of the traces, or the pairs, of two: plain; how many they are, which actions they have, how they end. -/
import Derived.Test.YtdkaoiomndkbjaaDoorQ08
import Derived.Test.YtdkaoiomndkbjaaDoorQ02
import Derived.Test.YtdkaoiomndkbjaaDoorQ07
import Derived.Test.YtdkaoiomndkbjaaDoorQ04
import Derived.Test.YtdkaoiomndkbjaaDoorQ03
import Derived.Deep.RegionHeld3
import Derived.Deep.QuietTactic
import Derived.BigQuiet
import Derived.StillTailTactics
import Derived.Test.YtdkaoiomndkbjaaDoorQ05
import Derived.Test.YtdkaoiomndkbjaaDoorQ06

namespace Go.Proofs.YtdkaoiomndkbjaaDoor.Se
open Go Rw So
def stk (a d : Tm) : Tm := match a with
  | .fin s c => .fin s (.seq c d)
  | a => .stack a d
def sSeq (S : Tm → Tm) (a b : Tm) : Tm := match a with
  | .over s => if s = 1 then S b else .over s
  | .fin s c => if s = 1 then stk (S b) c else .fin s c
  | a => .seq a b
def sHand (S : Tm → Tm) (a b : Tm) : Tm := match a with
  | .over s => if s = 2 then S b else .over s
  | a => .hand a b
def sPar (a b : Tm) : Tm := match a, b with
  | .over s, .over t => .over (Sg.both s t)
  | .fin s c, .fin t d => .fin (Sg.both s t) (.par c d)
  | a, b => .par a b
def sBlock (S : Tm → Tm) (a : Tm) : Tm := match a with
  | .fin s c => if s = 1 then .over 1 else if s = 2 then S c else .block (.fin s c)
  | a => .block a
def sGoing (a b : Tm) : Tm := match a with
  | .over s => if s = 1 then .fin 1 b else .fin s .skip
  | a => .going a b
def se : Nat → Tm → Tm
  | 0, t => t
  | f + 1, t => match t with
    | .skip => .over 1
    | .throw => .over 2
    | .seq a b => sSeq (se f) (se f a) b
    | .hand a b => sHand (se f) (se f a) b
    | .par a b => sPar (se f a) (se f b)
    | .block a => sBlock (se f) (se f a)
    | .going a b => sGoing (se f a) b
    | .stack a b => stk (se f a) b
    | t => t
theorem stk_sz (a d : Tm) : sz (stk a d) = sz a + sz d + 1 := by
  cases a <;> simp [stk, sz]
  omega
theorem se_sz : ∀ (f : Nat) (t : Tm), sz (se f t) ≤ sz t := by
  intro f
  induction f with
  | zero => intro t; exact Nat.le_refl _
  | succ f ih =>
    intro t
    cases t with
    | seq a b =>
      show sz (sSeq (se f) (se f a) b) ≤ _
      have h1 := ih a
      have h2 := ih b
      generalize se f a = x at h1 ⊢
      cases x <;> simp only [sSeq, sz] at h1 ⊢ <;> repeat' split
      all_goals try simp only [stk_sz, sz]
      all_goals omega
    | hand a b =>
      show sz (sHand (se f) (se f a) b) ≤ _
      have h1 := ih a
      have h2 := ih b
      generalize se f a = x at h1 ⊢
      cases x <;> simp only [sHand, sz] at h1 ⊢ <;> repeat' split
      all_goals try simp only [sz]
      all_goals omega
    | par a b =>
      show sz (sPar (se f a) (se f b)) ≤ _
      have h1 := ih a
      have h2 := ih b
      generalize se f a = x at h1 ⊢
      generalize se f b = y at h2 ⊢
      cases x <;> simp only [sPar, sz] at h1 ⊢
      all_goals try omega
      all_goals cases y <;> simp only [sz] at h2 ⊢ <;> omega
    | block a =>
      show sz (sBlock (se f) (se f a)) ≤ _
      have h1 := ih a
      generalize se f a = x at h1 ⊢
      cases x with
      | fin s c =>
        have h2 := ih c
        simp only [sBlock, sz] at h1 ⊢
        repeat' split
        all_goals try simp only [sz]
        all_goals omega
      | _ => simp only [sBlock, sz] at h1 ⊢; omega
    | going a b =>
      show sz (sGoing (se f a) b) ≤ _
      have h1 := ih a
      have := sz_pos b
      generalize se f a = x at h1 ⊢
      cases x <;> simp only [sGoing, sz] at h1 ⊢ <;> repeat' split
      all_goals try simp only [sz]
      all_goals omega
    | stack a b =>
      show sz (stk (se f a) b) ≤ _
      rw [stk_sz]
      have h1 := ih a
      simp only [sz]
      omega
    | _ => exact Nat.le_refl _
theorem se_fuel : ∀ (f : Nat) (t : Tm), sz t ≤ f → se (f + 1) t = se f t := by
  intro f
  induction f with
  | zero => intro t h; have := sz_pos t; omega
  | succ f ih =>
    intro t h
    cases t with
    | seq a b =>
      simp only [sz] at h
      show sSeq (se (f + 1)) (se (f + 1) a) b = sSeq (se f) (se f a) b
      rw [ih a (by omega)]
      unfold sSeq
      rw [ih b (by omega)]
    | hand a b =>
      simp only [sz] at h
      show sHand (se (f + 1)) (se (f + 1) a) b = sHand (se f) (se f a) b
      rw [ih a (by omega)]
      unfold sHand
      rw [ih b (by omega)]
    | par a b =>
      simp only [sz] at h
      show sPar (se (f + 1) a) (se (f + 1) b) = sPar (se f a) (se f b)
      rw [ih a (by omega), ih b (by omega)]
    | block a =>
      simp only [sz] at h
      show sBlock (se (f + 1)) (se (f + 1) a) = sBlock (se f) (se f a)
      rw [ih a (by omega)]
      have h1 := se_sz f a
      generalize se f a = x at h1
      cases x with
      | fin s c =>
        simp only [sz] at h1
        simp only [sBlock, ih c (by omega)]
      | _ => rfl
    | going a b =>
      simp only [sz] at h
      show sGoing (se (f + 1) a) b = sGoing (se f a) b
      rw [ih a (by omega)]
    | stack a b =>
      simp only [sz] at h
      show stk (se (f + 1) a) b = stk (se f a) b
      rw [ih a (by omega)]
    | _ => rfl
def S (t : Tm) : Tm := se (sz t) t
theorem se_S (f : Nat) (t : Tm) (h : sz t ≤ f) : se f t = S t := by
  have : ∀ g, se (sz t + g) t = S t := by
    intro g
    induction g with
    | zero => rfl
    | succ g ih => rw [← Nat.add_assoc, se_fuel _ _ (by omega), ih]
  have h' := this (f - sz t)
  rw [show sz t + (f - sz t) = f by omega] at h'
  exact h'
theorem S_sz (t : Tm) : sz (S t) ≤ sz t := se_sz _ _
theorem S_act (s : ByteArray) : S (.act s) = .act s := rfl
theorem S_skip : S .skip = .over 1 := rfl
theorem S_throw : S .throw = .over 2 := rfl
theorem S_yield : S .yield = .yield := rfl
theorem S_over (s : Int) : S (.over s) = .over s := rfl
theorem S_fin (s : Int) (c : Tm) : S (.fin s c) = .fin s c := rfl
theorem S_alt (a b : Tm) : S (.alt a b) = .alt a b := rfl
theorem S_pair (a b : Tm) : S (.pair a b) = .pair a b := rfl
theorem S_seq (a b : Tm) : S (.seq a b) = sSeq S (S a) b := by
  show sSeq (se (sz a + sz b)) (se (sz a + sz b) a) b = _
  rw [se_S _ a (by omega)]
  unfold sSeq
  rw [se_S _ b (by omega)]
theorem S_hand (a b : Tm) : S (.hand a b) = sHand S (S a) b := by
  show sHand (se (sz a + sz b)) (se (sz a + sz b) a) b = _
  rw [se_S _ a (by omega)]
  unfold sHand
  rw [se_S _ b (by omega)]
theorem S_par (a b : Tm) : S (.par a b) = sPar (S a) (S b) := by
  show sPar (se (sz a + sz b) a) (se (sz a + sz b) b) = _
  rw [se_S _ a (by omega), se_S _ b (by omega)]
theorem S_block (a : Tm) : S (.block a) = sBlock S (S a) := by
  show sBlock (se (sz a)) (se (sz a) a) = _
  rw [se_S _ a (by omega)]
  have h := S_sz a
  generalize S a = x at h
  cases x with
  | fin s c =>
    simp only [sz] at h
    simp only [sBlock, se_S _ c (show sz c ≤ sz a by omega)]
  | _ => rfl
theorem S_going (a b : Tm) : S (.going a b) = sGoing (S a) b := by
  show sGoing (se (sz a + sz b) a) b = _
  rw [se_S _ a (by omega)]
theorem S_stack (a b : Tm) : S (.stack a b) = stk (S a) b := by
  show stk (se (sz a + sz b) a) b = _
  rw [se_S _ a (by omega)]
theorem S_ind {P : Tm → Prop} (h : ∀ t, (∀ u, sz u < sz t → P u) → P t) : ∀ t, P t := by
  have : ∀ (n : Nat) (t : Tm), sz t ≤ n → P t := by
    intro n
    induction n with
    | zero => intro t h; have := sz_pos t; omega
    | succ n ih => intro t ht; exact h t fun u hu => ih u (by omega)
  exact fun t => this _ t (Nat.le_refl _)
theorem stk_is {a d : Tm} (ha : is a 4 = true) (hd : is d 1 = true) : is (stk a d) 4 = true := by
  cases a <;> simp_all [stk, is]
theorem S_is : ∀ t : Tm, (is t 3 = true → is (S t) 3 = true) ∧ (is t 4 = true → is (S t) 4 = true) := by
  apply S_ind
  intro t ih
  cases t with
  | seq a b =>
    have ia := ih a (by simp [sz]; omega)
    have ib := ih b (by simp [sz]; omega)
    have j := is13 b
    rw [S_seq]
    generalize S a = x at ia ⊢
    constructor
    · intro h
      simp [is] at h
      have i1 := ia.1 h.1
      have i2 := ib.1 (j.1 h.2)
      cases x <;> simp only [sSeq] <;> (try split) <;> simp_all [is]
    · intro h
      simp [is] at h
      have i1 := ia.2 h.1
      have i2 := ib.2 (j.2 h.2)
      cases x with
      | fin s c =>
        simp only [sSeq]
        simp [is] at i1
        split
        · exact stk_is i2 i1
        · simpa [is] using i1
      | _ => simp_all [is, sSeq]
  | hand a b =>
    have ia := ih a (by simp [sz]; omega)
    have ib := ih b (by simp [sz]; omega)
    have j := is13 b
    rw [S_hand]
    generalize S a = x at ia ⊢
    constructor
    · intro h
      simp [is] at h
      have i1 := ia.1 h.1
      have i2 := ib.1 (j.1 h.2)
      cases x <;> simp only [sHand] <;> (try split) <;> simp_all [is]
    · intro h
      simp [is] at h
  | par a b =>
    have ia := ih a (by simp [sz]; omega)
    have ib := ih b (by simp [sz]; omega)
    rw [S_par]
    generalize S a = x at ia ⊢
    generalize S b = y at ib ⊢
    constructor
    · intro h
      simp [is] at h
      have i1 := ia.1 h.1
      have i2 := ib.1 h.2
      cases x <;> (try (simp [is] at i1; done)) <;> simp only [sPar] <;> (try (simp_all [is]; done))
      cases y <;> simp_all [is]
    · intro h
      simp [is] at h
      have i1 := ia.2 h.1
      have i2 := ib.2 h.2
      cases x <;> (try (simp [is] at i1; done)) <;> simp only [sPar] <;> (try (simp_all [is]; done))
      cases y <;> simp_all [is]
  | block a =>
    have ia := ih a (by simp [sz])
    have hs := S_sz a
    rw [S_block]
    generalize S a = x at ia hs ⊢
    constructor
    · intro h
      simp [is] at h
      have i1 := ia.2 h
      cases x with
      | fin s c =>
        simp [is] at i1
        simp only [sBlock]
        split
        · rfl
        · split
          · simp only [sz] at hs
            exact (ih c (by simp [sz]; omega)).1 ((is13 c).1 i1)
          · simp [is, i1]
      | _ => simp_all [is, sBlock]
    · intro h
      simp [is] at h
  | going a b =>
    have ia := ih a (by simp [sz]; omega)
    rw [S_going]
    generalize S a = x at ia ⊢
    constructor
    · intro h
      simp [is] at h
    · intro h
      simp [is] at h
      have i1 := ia.1 h.1
      cases x <;> simp only [sGoing] <;> (try split) <;> simp_all [is]
  | stack a b =>
    have ia := ih a (by simp [sz]; omega)
    rw [S_stack]
    constructor
    · intro h
      simp [is] at h
    · intro h
      simp [is] at h
      exact stk_is (ia.2 h.1) h.2
  | _ => simp_all [S_act, S_skip, S_throw, S_yield, S_over, S_fin, S_alt, S_pair, is]
def isOver : Tm → Bool
  | .over _ => true
  | _ => false
def isFin : Tm → Bool
  | .fin _ _ => true
  | _ => false
def isGone : Tm → Bool
  | .fin s _ => s == 1 || s == 2
  | _ => false
def Nf : Tm → Prop
  | .skip => False
  | .throw => False
  | .seq a _ => Nf a ∧ isOver a = false ∧ isFin a = false
  | .hand a _ => Nf a ∧ isOver a = false
  | .par a b => Nf a ∧ Nf b ∧ (isOver a && isOver b) = false ∧ (isFin a && isFin b) = false
  | .block a => Nf a ∧ isGone a = false
  | .going a _ => Nf a ∧ isOver a = false
  | .stack a _ => Nf a ∧ isFin a = false
  | _ => True
theorem stk_nf {a d : Tm} (ha : Nf a) : Nf (stk a d) := by
  cases a <;> simp_all [stk, Nf, isOver, isFin]
theorem S_nf : ∀ t : Tm, Nf (S t) := by
  apply S_ind
  intro t ih
  cases t with
  | seq a b =>
    have ia := ih a (by simp [sz]; omega)
    have ib := ih b (by simp [sz]; omega)
    rw [S_seq]
    generalize S a = x at ia ⊢
    cases x <;> simp only [sSeq] <;> (try split) <;> first | exact ib | exact stk_nf ib | simp_all [Nf, isOver, isFin, isGone]
  | hand a b =>
    have ia := ih a (by simp [sz]; omega)
    have ib := ih b (by simp [sz]; omega)
    rw [S_hand]
    generalize S a = x at ia ⊢
    cases x <;> simp only [sHand] <;> (try split) <;> first | exact ib | simp_all [Nf, isOver, isFin, isGone]
  | par a b =>
    have ia := ih a (by simp [sz]; omega)
    have ib := ih b (by simp [sz]; omega)
    rw [S_par]
    generalize S a = x at ia ⊢
    generalize S b = y at ib ⊢
    cases x <;> simp only [sPar] <;> (try (simp_all [Nf, isOver, isFin, isGone]; done))
    all_goals cases y <;> simp_all [Nf, isOver, isFin, isGone]
  | block a =>
    have ia := ih a (by simp [sz])
    have hs := S_sz a
    rw [S_block]
    generalize S a = x at ia hs ⊢
    cases x with
    | fin s c =>
      simp only [sBlock]
      split
      · simp [Nf]
      · split
        · simp only [sz] at hs
          exact ih c (by simp [sz]; omega)
        · simp_all [Nf, isGone]
    | _ => simp_all [Nf, sBlock, isGone]
  | going a b =>
    have ia := ih a (by simp [sz]; omega)
    rw [S_going]
    generalize S a = x at ia ⊢
    cases x <;> simp only [sGoing] <;> (try split) <;> simp_all [Nf, isOver, isFin, isGone]
  | stack a b =>
    have ia := ih a (by simp [sz]; omega)
    rw [S_stack]
    exact stk_nf ia
  | _ => simp_all [S_act, S_skip, S_throw, S_yield, S_over, S_fin, S_alt, S_pair, Nf]
theorem nf_S : ∀ t : Tm, Nf t → S t = t := by
  intro t
  induction t with
  | seq a b ia ib =>
    intro h
    rw [S_seq, ia h.1]
    obtain ⟨h1, h2, h3⟩ := h
    cases a <;> simp_all [sSeq, isOver, isFin]
  | hand a b ia ib =>
    intro h
    rw [S_hand, ia h.1]
    obtain ⟨h1, h2⟩ := h
    cases a <;> simp_all [sHand, isOver]
  | par a b ia ib =>
    intro h
    rw [S_par, ia h.1, ib h.2.1]
    obtain ⟨h1, h2, h3, h4⟩ := h
    cases a <;> simp only [sPar]
    all_goals cases b <;> simp_all [isOver, isFin]
  | block a ia =>
    intro h
    rw [S_block, ia h.1]
    obtain ⟨h1, h2⟩ := h
    cases a with
    | fin s c =>
      simp [isGone] at h2
      simp [sBlock, h2]
    | _ => rfl
  | going a b ia ib =>
    intro h
    rw [S_going, ia h.1]
    obtain ⟨h1, h2⟩ := h
    cases a <;> simp_all [sGoing, isOver]
  | stack a b ia ib =>
    intro h
    rw [S_stack, ia h.1]
    obtain ⟨h1, h2⟩ := h
    cases a <;> simp_all [stk, isFin]
  | skip => intro h; exact h.elim
  | throw => intro h; exact h.elim
  | _ => intro _; rfl
end Go.Proofs.YtdkaoiomndkbjaaDoor.Se

namespace Go.Proofs.YtdkaoiomndkbjaaDoor.Rf
open Go Rw So
def plk (f : ByteArray → Bool) (l : List Nd) (k : Nat) : List Nat := (List.range k).filter fun i => l[i]?.any (hit f)
def plc (f : ByteArray → Bool) (l : List Nd) : List Nat := plk f l l.length
end Go.Proofs.YtdkaoiomndkbjaaDoor.Rf

namespace Go.Proofs.YtdkaoiomndkbjaaDoor.Tr
open Go Go.RowKit
set_option maxRecDepth 20000
end Go.Proofs.YtdkaoiomndkbjaaDoor.Tr

namespace Go.Proofs.YtdkaoiomndkbjaaDoor.Se
open Go Rw So
def rg (t : Tm) : Bool := (flat t).all rgt
theorem rg_block (a : Tm) : rg (.block a) = rg a := by
  show ((nOf 9 :: flat a).all rgt) = _
  rw [List.all_cons, show rgt (nOf 9) = true by decide +kernel]
  rfl
theorem rg_fin (s : Int) (c : Tm) : rg (.fin s c) = (rgt (nEnd s) && rg c) := by
  show ((nEnd s :: flat c).all rgt) = _
  rw [List.all_cons]
  rfl
theorem rg_two {k : Int} {t a b : Tm} (e : flat t = nOf k :: (flat a ++ flat b)) (hk : rgt (nOf k) = true) : rg t = (rg a && rg b) := by
  unfold rg
  rw [e, List.all_cons, List.all_append, hk]
  rfl
theorem rg_seq (a b : Tm) : rg (.seq a b) = (rg a && rg b) := rg_two (k := 5) rfl (by decide +kernel)
theorem rg_par (a b : Tm) : rg (.par a b) = (rg a && rg b) := rg_two (k := 7) rfl (by decide +kernel)
theorem rg_hand (a b : Tm) : rg (.hand a b) = (rg a && rg b) := rg_two (k := 8) rfl (by decide +kernel)
theorem rg_going (a b : Tm) : rg (.going a b) = (rg a && rg b) := rg_two (k := 12) rfl (by decide +kernel)
theorem rg_stack (a b : Tm) : rg (.stack a b) = (rg a && rg b) := rg_two (k := 13) rfl (by decide +kernel)
theorem rg_skip : rg .skip = true := by decide +kernel
theorem rg_over (s : Int) : rg (.over s) = (decide (1 ≤ s) && decide (s ≤ 3)) := by
  show ([nOver s].all rgt) = _
  rw [List.all_cons, rgt_sign _ _ (.inl rfl), show decide (ByteArray.size ⟨#[]⟩ = 0) = true from rfl, Bool.true_and, List.all_nil, Bool.and_true]
theorem rgt_nEnd (s : Int) : rgt (nEnd s) = (decide (1 ≤ s) && decide (s ≤ 3)) := by
  rw [rgt_sign _ _ (.inr rfl), show decide (ByteArray.size ⟨#[]⟩ = 0) = true from rfl, Bool.true_and]
theorem stk_rg {a d : Tm} (ha : rg a = true) (hd : rg d = true) : rg (stk a d) = true := by
  cases a <;> simp_all [stk, rg_stack, rg_fin, rg_seq]
theorem whole_flat (t : Tm) : whole (flat t) = (rg t && decide (sz t ≤ 200)) := by
  unfold whole rg
  rw [flat_len, (tre_flat t).size, flat_len]
  have := sz_pos t
  simp [show 1 ≤ sz t from this]
def Goes (t : Tm) : Prop := rg t = true ∧ sz t ≤ 200 ∧ (is t 3 = true ∨ is t 4 = true)
theorem of_flat {t : Tm} (h : rg t = true) (hz : sz t ≤ 200) : of (flat t) = if is t 1 then 1 else if is t 2 then 2 else if is t 3 then 3 else if is t 4 then 4 else 0 := by
  unfold of first
  rw [whole_flat, h, decide_eq_true hz, is_flat t 1 (by omega), is_flat t 2 (by omega), is_flat t 3 (by omega), is_flat t 4 (by omega)]
  rfl
theorem is_not {t : Tm} : ¬ (is t 3 = true ∧ is t 4 = true) := by
  rw [← is_flat t 3 (by omega), ← is_flat t 4 (by omega)]
  exact apart _ (flat t) (Nat.le_refl _)
theorem on_flat {t : Tm} (h : rg t = true) (hz : sz t ≤ 200) (p : Bool) : onB (flat t) p = if p then is t 4 else is t 3 := by
  have n := is_not (t := t)
  have j := is13 t
  unfold onB
  rw [of_flat h hz]
  cases h1 : is t 1 <;> cases h2 : is t 2 <;> cases h3 : is t 3 <;> cases h4 : is t 4 <;> cases p <;> simp_all
theorem goes_of {l : List Nd} (h : of l ≠ 0) : ∃ t, flat t = l ∧ Goes t := by
  have hw : whole l = true := by
    cases hw : whole l with
    | true => rfl
    | false => exact absurd (of_not hw) h
  obtain ⟨t, rfl⟩ := whole_tm hw
  rw [whole_flat, Bool.and_eq_true, decide_eq_true_eq] at hw
  refine ⟨t, rfl, hw.1, hw.2, ?_⟩
  rw [of_flat hw.1 hw.2] at h
  have j := is13 t
  cases h1 : is t 1 <;> cases h2 : is t 2 <;> cases h3 : is t 3 <;> cases h4 : is t 4 <;> simp_all
theorem Goes.of {t : Tm} (h : Goes t) : of (flat t) ≠ 0 := by
  rw [of_flat h.1 h.2.1]
  have h3 := h.2.2
  have j := is13 t
  cases h1 : is t 1 <;> cases h2 : is t 2 <;> cases h3 : is t 3 <;> cases h4 : is t 4 <;> simp_all
def waits : Tm → Bool
  | .act _ => true
  | .alt _ _ => true
  | .yield => true
  | .pair _ _ => true
  | .seq a _ => waits a
  | .hand a _ => waits a
  | .going a _ => waits a
  | .stack a _ => waits a
  | .block a => waits a
  | .par a b => waits a || waits b
  | _ => false
def ct (f : Nd → Bool) (t : Tm) : Nat := (flat t).countP f
end Go.Proofs.YtdkaoiomndkbjaaDoor.Se

namespace Go.Proofs.YtdkaoiomndkbjaaDoor.Se
open Go Go.RowKit Rw So
set_option maxRecDepth 20000
def kd (t : Tm) : Int := hd (flat t)
def sgl : List Nd → Int
  | [] => 0
  | n :: _ => n.s
def sg (t : Tm) : Int := sgl (flat t)
theorem at0 {l : List Nd} (h : 0 < l.length) : l[0].k = hd l ∧ l[0].s = sgl l := by
  cases l with
  | nil => simp at h
  | cons n r => exact ⟨rfl, rfl⟩
theorem form {w : World} {v : Value} {t : Tm} (hv : Nds w v (flat t)) : ∃ b o c, v = .slice (some ⟨b, o, none⟩) (sz t) c ∧ sz t ≤ c ∧ b < w.heap.size ∧ (∀ w', Below w.heap.size w w' → w'.cell? ⟨b, o, none⟩ = some (.int .i64 (kd t)) ∧ w'.cell? ⟨b, o + 2, none⟩ = some (.int .i64 (sg t))) ∧ At w b o (flat t) := by
  rcases hv.form with ⟨_, hl⟩ | ⟨b, o, c, rfl, hc, hat⟩
  · exact absurd (by simp_all) (flat_ne t)
  · rw [flat_len] at hc ⊢
    have hp := sz_pos t
    have hl := flat_len t
    obtain ⟨h1, _, h3⟩ := hat 0 (by omega)
    rw [Nat.zero_mul, Nat.add_zero] at h1 h3
    have lt := Ap.cell_lt h1
    refine ⟨b, o, c, rfl, hc, lt, fun w' hb => ?_, hat⟩
    obtain ⟨g1, g2⟩ := at0 (l := flat t) (by omega)
    rw [hb.cell (p := ⟨b, o, none⟩) lt, hb.cell (p := ⟨b, o + 2, none⟩) lt, h1, h3, g1, g2]
    exact ⟨rfl, rfl⟩
theorem tail_fin {w : World} {b o c : Nat} {s : Int} {t : Tm} (hat : At w b o (flat (.fin s t))) (hc : sz (.fin s t) ≤ c) : Nds w (.slice (some ⟨b, o + 3, none⟩) (sz t) (c - 1)) (flat t) := by
  have h := part_nds hat 1 (sz t) (c - 1) (by rw [flat_len]; simp [sz]; omega) (by simp [sz] at hc; omega)
  have e : ((flat (.fin s t)).drop 1).take (sz t) = flat t := by
    show ((nEnd s :: flat t).drop 1).take (sz t) = _
    rw [List.drop_succ_cons, List.drop_zero, ← flat_len t, List.take_length]
  rw [e] at h
  exact h
end Go.Proofs.YtdkaoiomndkbjaaDoor.Se

namespace Go.Proofs.YtdkaoiomndkbjaaDoor.Rf
open Go Go.RowKit Rw
set_option maxRecDepth 20000
def Strs (w : World) (v : Value) (l : List ByteArray) : Prop := Ap.Rd w 1 v l.length (l.map .string)
def AtS (w : World) (b off : Nat) (l : List ByteArray) : Prop := ∀ k, (h : k < l.length) → w.cell? ⟨b, off + k, none⟩ = some (.string l[k])
def Got (w wr : World) (v : Value) (l : List Nd) : Prop := wr.ownsRow w.heap.size 37 3 v l.length (cls l) ∧ Below w.heap.size w wr
end Go.Proofs.YtdkaoiomndkbjaaDoor.Rf

namespace Go.Proofs.YtdkaoiomndkbjaaDoor.Tr
open Go Go.RowKit
set_option maxRecDepth 20000
theorem below2 (w : World) (x y : Obj) : Below w.heap.size w ((w.alloc x).alloc y) := ((Below.refl _ _).alloc (Nat.le_refl _) x).alloc (by simp) y
end Go.Proofs.YtdkaoiomndkbjaaDoor.Tr

namespace Go.Proofs.YtdkaoiomndkbjaaDoor.Se
open Go Go.RowKit Rw So
set_option maxRecDepth 20000
theorem kd14 {a : Tm} (h : kd a = 14) : ∃ s c, a = .fin s c := by
  cases a <;> first | exact ⟨_, _, rfl⟩ | simp [kd, flat, hd, nOf] at h
theorem kd11 {a : Tm} (h : kd a = 11) : ∃ s, a = .over s := by
  cases a <;> first | exact ⟨_, rfl⟩ | simp [kd, flat, hd, nOf] at h
theorem stk_other {a d : Tm} (h : kd a ≠ 14) : stk a d = .stack a d := by
  cases a <;> first | rfl | exact absurd rfl h
end Go.Proofs.YtdkaoiomndkbjaaDoor.Se

namespace Go.Proofs.YtdkaoiomndkbjaaDoor.Rf
open Go Go.RowKit Rw
set_option maxRecDepth 20000
end Go.Proofs.YtdkaoiomndkbjaaDoor.Rf

namespace Go.Proofs.YtdkaoiomndkbjaaDoor.Tr
open Go Go.RowKit
set_option maxRecDepth 20000
def pr (p q : Tr) : List Tr := norm ((mx 19 p.a q.a).map fun r => ⟨r, Sg.both p.e q.e⟩)
end Go.Proofs.YtdkaoiomndkbjaaDoor.Tr

namespace Go.Proofs.YtdkaoiomndkbjaaDoor.Se
open Go Go.RowKit Rw So
set_option maxRecDepth 20000
theorem sPar_11 {s : Int} {d : Tm} (h : kd d ≠ 11) : sPar (.over s) d = .par (.over s) d := by cases d <;> first | rfl | exact absurd rfl h
theorem sPar_14 {s : Int} {c d : Tm} (h : kd d ≠ 14) : sPar (.fin s c) d = .par (.fin s c) d := by cases d <;> first | rfl | exact absurd rfl h
theorem sPar_no {a d : Tm} (h1 : kd a ≠ 11) (h2 : kd a ≠ 14) : sPar a d = .par a d := by cases a <;> first | rfl | exact absurd rfl h1 | exact absurd rfl h2
theorem not14 {a : Tm} (h : is a 3 = true) : kd a ≠ 14 := fun e => by
  obtain ⟨s, c, rfl⟩ := kd14 e
  simp [is] at h
end Go.Proofs.YtdkaoiomndkbjaaDoor.Se

namespace Go.Proofs.YtdkaoiomndkbjaaDoor.Rf
open Go Go.RowKit Rw
set_option maxRecDepth 20000
end Go.Proofs.YtdkaoiomndkbjaaDoor.Rf

namespace Go.Proofs.YtdkaoiomndkbjaaDoor.Tr
open Go
theorem sub_self : ∀ a : List ByteArray, sub a a = true
  | [] => rfl
  | x :: a => by rw [sub, if_pos rfl]; exact sub_self a
end Go.Proofs.YtdkaoiomndkbjaaDoor.Tr

namespace Go.Proofs.YtdkaoiomndkbjaaDoor.Se
open Go Go.RowKit Rw So
set_option maxRecDepth 20000
def NdO (base : Nat) (w : World) (v : Value) (t : Tm) : Prop := Ap.RdO (fun g => base ≤ g) w 3 v (flat t).length (cls (flat t))
theorem NdO.nds {base : Nat} {w : World} {v : Value} {t : Tm} (h : NdO base w v t) : Nds w v (flat t) := Ap.RdO.rd h
theorem NdO.below {base : Nat} {w w' : World} {v : Value} {t : Tm} (h : NdO base w v t) (hb : Below w.heap.size w w') : NdO base w' v t := Ap.RdO.below h hb
theorem NdO.more {base base' : Nat} {w : World} {v : Value} {t : Tm} (h : NdO base w v t) (hb : base' ≤ base) : NdO base' w v t := Ap.RdO.imp h fun _ _ h => Nat.le_trans hb h
def OutB (base : Nat) (t : Tm) (w : World) (e : Ending) (w' : World) : Prop := ∃ y, e = .returned y ∧ NdO base w' y t ∧ Below w.heap.size w w'
def nml : List Nd → ByteArray
  | [] => ⟨#[]⟩
  | n :: _ => n.n
def nmT (t : Tm) : ByteArray := nml (flat t)
theorem at0n {l : List Nd} (h : 0 < l.length) : l[0].n = nml l := by
  cases l with
  | nil => simp at h
  | cons n r => rfl
theorem form3 {w : World} {v : Value} {t : Tm} (hv : Nds w v (flat t)) : ∃ b o c, v = .slice (some ⟨b, o, none⟩) (sz t) c ∧ sz t ≤ c ∧ b < w.heap.size ∧ (∀ w', Below w.heap.size w w' → w'.cell? ⟨b, o, none⟩ = some (.int .i64 (kd t)) ∧ w'.cell? ⟨b, o + 1, none⟩ = some (.string (nmT t)) ∧ w'.cell? ⟨b, o + 2, none⟩ = some (.int .i64 (sg t))) ∧ At w b o (flat t) := by
  obtain ⟨b, o, c, rfl, hc, hlt, hw, hat⟩ := form hv
  refine ⟨b, o, c, rfl, hc, hlt, fun w' hb => ⟨(hw w' hb).1, ?_, (hw w' hb).2⟩, hat⟩
  have hp := sz_pos t
  have hl := flat_len t
  have h2 := (hat 0 (by omega)).2.1
  rw [Nat.zero_mul, Nat.add_zero] at h2
  rw [hb.cell (p := ⟨b, o + 1, none⟩) hlt, h2]
  rw [at0n (by omega)]
  rfl
theorem eq_ndP (x y : Nd) (w : World) : (binOp .eql 37 (.agg #[.int .i64 x.k, .string x.n, .int .i64 x.s]) (.agg #[.int .i64 y.k, .string y.n, .int .i64 y.s])).run Tryd.prog w = .ok (.bool (decide (x = y))) w := by
  rw [run_eql_struct, show (10000 : Nat) = 9998 + 2 from rfl, eql_nd]
  rfl
theorem eq_bare (k s j r : Int) (n : ByteArray) (w : World) : (binOp .eql 37 (.agg #[.int .i64 k, .string n, .int .i64 s]) (.agg #[.int .i64 j, .string ⟨#[]⟩, .int .i64 r])).run Tryd.prog w = .ok (.bool (decide ((⟨k, n, s⟩ : Nd) = ⟨j, ⟨#[]⟩, r⟩))) w := eq_ndP ⟨k, n, s⟩ ⟨j, ⟨#[]⟩, r⟩ w
theorem overP_any (s : Int) (w : World) : Calls Tryd.prog 79 #[.int .i64 s] w fun e w' => e = .returned (.agg #[.int .i64 11, .string ⟨#[]⟩, .int .i64 s]) ∧ Below w.heap.size w w' := by
  go_enter Tryd.func79, Tryd.ntmps79
  go_wp2_with fail
  refine bodyPost_ret (v := .agg #[.int .i64 11, .string ⟨#[]⟩, .int .i64 s]) (by simp [results, Tryd.results79, go_sem]) rfl ⟨rfl, ?_⟩
  exact below1 w _
theorem endP_any (s : Int) (w : World) : Calls Tryd.prog 92 #[.int .i64 s] w fun e w' => e = .returned (.agg #[.int .i64 14, .string ⟨#[]⟩, .int .i64 s]) ∧ Below w.heap.size w w' := by
  go_enter Tryd.func92, Tryd.ntmps92
  go_wp2_with fail
  refine bodyPost_ret (v := .agg #[.int .i64 14, .string ⟨#[]⟩, .int .i64 s]) (by simp [results, Tryd.results92, go_sem]) rfl ⟨rfl, ?_⟩
  exact below1 w _
def goK (k : Int) : Int := if k = 7 then 2 else if k = 5 ∨ k = 8 ∨ k = 9 ∨ k = 12 ∨ k = 13 then 1 else 0
set_option maxHeartbeats 2000000 in
theorem goOn_any (t : Tm) (w : World) : Calls Tryd.prog 64 #[.int .i64 (kd t)] w fun e w' => e = .returned (.int .i64 (goK (kd t))) ∧ w = w' := by
  have hk := kinds (tre_flat t).ar
  change kd t = 1 ∨ kd t = 2 ∨ kd t = 3 ∨ kd t = 4 ∨ kd t = 5 ∨ kd t = 6 ∨ kd t = 7 ∨ kd t = 8 ∨ kd t = 9 ∨ kd t = 10 ∨ kd t = 11 ∨ kd t = 12 ∨ kd t = 13 ∨ kd t = 14 at hk
  generalize kd t = k at hk
  rcases hk with rfl | rfl | rfl | rfl | rfl | rfl | rfl | rfl | rfl | rfl | rfl | rfl | rfl | rfl
  all_goals go_enter Tryd.func64, Tryd.ntmps64
  all_goals go_wp2_with fail
  all_goals go_ret
  all_goals exact ⟨rfl, rfl⟩
theorem rws_two {w : World} {y1 y2 : Value} {l1 l2 : List Nd} (h1 : Nds w y1 l1) (h2 : Nds w y2 l2) (ty : TypeId) : Rws (w.alloc (.cells #[y1, y2] ty)) (.slice (some ⟨w.heap.size, 0, none⟩) 2 2) [l1, l2] := by
  refine ⟨[y1, y2], ⟨rfl, _, 2, rfl, Nat.le_refl _, fun h => (by cases h), fun _ => ⟨w.heap.size, 0, rfl, fun j u hu => ?_⟩⟩, h1.below (below1 w _), h2.below (below1 w _), trivial⟩
  match j, hu with
  | 0, hu => simp at hu; subst hu; simp
  | 1, hu => simp at hu; subst hu; simp
  | j + 2, hu => simp at hu
theorem rws_one {w : World} {y1 : Value} {l1 : List Nd} (h1 : Nds w y1 l1) (ty : TypeId) : Rws (w.alloc (.cells #[y1] ty)) (.slice (some ⟨w.heap.size, 0, none⟩) 1 1) [l1] := by
  refine ⟨[y1], ⟨rfl, _, 1, rfl, Nat.le_refl _, fun h => (by cases h), fun _ => ⟨w.heap.size, 0, rfl, fun j u hu => ?_⟩⟩, h1.below (below1 w _), trivial⟩
  match j, hu with
  | 0, hu => simp at hu; subst hu; simp
  | j + 1, hu => simp at hu
theorem rws_none (w : World) : Rws w (.slice none 0 0) [] := ⟨[], ⟨rfl, none, 0, rfl, Nat.le_refl _, fun _ => ⟨rfl, rfl⟩, fun h => absurd h (Nat.lt_irrefl 0)⟩, trivial⟩
theorem mkP (base : Nat) (x : Nd) (ls : List (List Nd)) (t : Tm) (h : flat t = x :: ls.flatten) (v : Value) (w : World) (hv : Rws w v ls) (hl : ls.length ≤ 2) (hs : sz t ≤ 1000) (hb : base ≤ w.heap.size) :
    Calls Tryd.prog 78 #[.agg #[.int .i64 x.k, .string x.n, .int .i64 x.s], v] w (OutB base t w) := by
  have e := flat_len t
  rw [h, List.length_cons] at e
  refine (Rx.makeP_any x v ls w hv (by omega) (by omega)).mono ?_
  rintro e w1 ⟨y, rfl, hn, hb1⟩
  refine ⟨y, rfl, ?_, hb1⟩
  unfold NdO
  rw [h]
  exact Ap.RdO.imp hn fun _ _ h => Nat.le_trans hb h
theorem mkP0 (base : Nat) (k s : Int) (t : Tm) (h : flat t = [⟨k, ⟨#[]⟩, s⟩]) (w : World) (hb : base ≤ w.heap.size) :
    Calls Tryd.prog 78 #[.agg #[.int .i64 k, .string ⟨#[]⟩, .int .i64 s], .slice none 0 0] w (OutB base t w) :=
  mkP base ⟨k, ⟨#[]⟩, s⟩ [] t h _ w (rws_none w) (by simp) (by have := flat_len t; rw [h] at this; simp at this; omega) hb
theorem mkP1 (base : Nat) (k s : Int) (t a : Tm) (h : flat t = ⟨k, ⟨#[]⟩, s⟩ :: flat a) (v : Value) (w : World) (ty : TypeId) (ha : Nds w v (flat a)) (hs : sz t ≤ 1000) (hb : base ≤ w.heap.size) :
    Calls Tryd.prog 78 #[.agg #[.int .i64 k, .string ⟨#[]⟩, .int .i64 s], .slice (some ⟨w.heap.size, 0, none⟩) 1 1] (w.alloc (.cells #[v] ty)) (OutB base t w) := by
  refine (mkP base ⟨k, ⟨#[]⟩, s⟩ [flat a] t (by rw [h]; simp) _ _ (rws_one ha ty) (by simp) hs (by simp; omega)).mono ?_
  rintro e w1 ⟨y, rfl, hn, hb1⟩
  exact ⟨y, rfl, hn, (below1 w _).trans (hb1.mono (below1 w _).size)⟩
theorem mkP2 (base : Nat) (k s : Int) (t a b : Tm) (h : flat t = ⟨k, ⟨#[]⟩, s⟩ :: (flat a ++ flat b)) (v u : Value) (w : World) (ty : TypeId) (ha : Nds w v (flat a)) (hu : Nds w u (flat b)) (hs : sz t ≤ 1000) (hb : base ≤ w.heap.size) :
    Calls Tryd.prog 78 #[.agg #[.int .i64 k, .string ⟨#[]⟩, .int .i64 s], .slice (some ⟨w.heap.size, 0, none⟩) 2 2] (w.alloc (.cells #[v, u] ty)) (OutB base t w) := by
  refine (mkP base ⟨k, ⟨#[]⟩, s⟩ [flat a, flat b] t (by rw [h]; simp) _ _ (rws_two ha hu ty) (by simp) hs (by simp; omega)).mono ?_
  rintro e w1 ⟨y, rfl, hn, hb1⟩
  exact ⟨y, rfl, hn, (below1 w _).trans (hb1.mono (below1 w _).size)⟩
theorem mkP2d (base : Nat) (k s : Int) (t a b : Tm) (h : flat t = ⟨k, ⟨#[]⟩, s⟩ :: (flat a ++ flat b)) (v u : Value) (w : World) (ty : TypeId) (ha : Nds w v (flat a)) (hu : Nds w u (flat b)) (hs : sz t ≤ 1000) (hb : base ≤ w.heap.size) :
    Calls Tryd.prog 78 #[.agg #[.int .i64 k, .string ⟨#[]⟩, .int .i64 s], .slice (some ⟨w.heap.size, 0, none⟩) 2 2] (w.alloc (.cells #[v, u] ty)).drew (OutB base t w) := by
  refine (mkP base ⟨k, ⟨#[]⟩, s⟩ [flat a, flat b] t (by rw [h]; simp) _ _ ((rws_two ha hu ty).below (Below.refl _ _).drew) (by simp) hs (by simp; omega)).mono ?_
  rintro e w1 ⟨y, rfl, hn, hb1⟩
  exact ⟨y, rfl, hn, (below1 w _).drew.trans (hb1.mono (below1 w _).drew.size)⟩
theorem mkPr (base : Nat) (k s : Int) (t a b : Tm) (h : flat t = ⟨k, ⟨#[]⟩, s⟩ :: (flat a ++ flat b)) (v : Value) (w : World) (hv : Rws w v [flat a, flat b]) (hs : sz t ≤ 1000) (hb : base ≤ w.heap.size) :
    Calls Tryd.prog 78 #[.agg #[.int .i64 k, .string ⟨#[]⟩, .int .i64 s], v] w (OutB base t w) := mkP base ⟨k, ⟨#[]⟩, s⟩ [flat a, flat b] t (by rw [h]; simp) v w hv (by simp) hs hb
theorem box_cells (w : World) (k s : Int) (nm : ByteArray) (ty : TypeId) : ∀ w1, Below (w.alloc (.cells #[.int .i64 k, .string nm, .int .i64 s] ty)).heap.size (w.alloc (.cells #[.int .i64 k, .string nm, .int .i64 s] ty)) w1 → w1.cell? ⟨w.heap.size, 0, none⟩ = some (.int .i64 k) ∧ w1.cell? ⟨w.heap.size, 1, none⟩ = some (.string nm) ∧ w1.cell? ⟨w.heap.size, 2, none⟩ = some (.int .i64 s) := by
  intro w1 hb
  rw [hb.cell (p := ⟨w.heap.size, 0, none⟩) (by simp), hb.cell (p := ⟨w.heap.size, 1, none⟩) (by simp), hb.cell (p := ⟨w.heap.size, 2, none⟩) (by simp)]
  simp [go_sem]
abbrev PS (t : Tm) : Prop := ∀ (v : Value) (w : World), Nds w v (flat t) → Calls Tryd.prog 51 #[v] w (OutB w.heap.size (S t) w)
end Go.Proofs.YtdkaoiomndkbjaaDoor.Se

namespace Go.Proofs.YtdkaoiomndkbjaaDoor.Rf
open Go Go.RowKit Rw
set_option maxRecDepth 20000
def GotI (w wr : World) (v : Value) (P : List Nat) : Prop := wr.ownsRow w.heap.size 3 1 v P.length (P.map fun (i : Nat) => .int .i64 (i : Int)) ∧ Below w.heap.size w wr
def Plc (w : World) (v : Value) (P : List Nat) : Prop := Ap.Rd w 1 v P.length (P.map fun (i : Nat) => .int .i64 (i : Int))
theorem Plc.below {w w' : World} {v : Value} {P : List Nat} (h : Plc w v P) (hb : Below w.heap.size w w') : Plc w' v P := Ap.Rd.below h hb
def AtP (w : World) (b off : Nat) (P : List Nat) : Prop := ∀ k, (h : k < P.length) → w.cell? ⟨b, off + k, none⟩ = some (.int .i64 (P[k] : Int))
theorem Plc.form {w : World} {v : Value} {P : List Nat} (h : Plc w v P) : (P = [] ∧ ∃ a cap, v = .slice a 0 cap) ∨ ∃ b off cap, v = .slice (some ⟨b, off, none⟩) P.length cap ∧ AtP w b off P := by
  obtain ⟨_, a, cap, rfl, hle, _, hcell⟩ := h
  by_cases h0 : 0 < P.length
  · obtain ⟨b, off, rfl, hj⟩ := hcell h0
    exact Or.inr ⟨b, off, cap, rfl, fun k hk => hj _ _ (by rw [List.getElem?_map, List.getElem?_eq_getElem hk]; rfl)⟩
  · have : P = [] := List.eq_nil_of_length_eq_zero (by omega)
    subst this
    exact Or.inl ⟨rfl, a, cap, rfl⟩
end Go.Proofs.YtdkaoiomndkbjaaDoor.Rf

namespace Go.Proofs.YtdkaoiomndkbjaaDoor.Mn
open Go Tr
def hnd (p q : Tr) : Tr := if p.e = 2 then ⟨p.a ++ q.a, q.e⟩ else p
def one (k : Int) (p q : Tr) : List Tr := if k = 5 then [thn p q] else if k = 7 then pr p q else [hnd p q]
def two (k : Int) (A B : List Tr) : List Tr := if k = 6 then A ++ B else A.flatMap fun p => B.flatMap (one k p)
def blk1 (x : Pr) : List Tr := if x.p.e = 1 then [x.p] else if x.p.e = 2 then [⟨x.p.a ++ x.q.a, x.q.e⟩] else []
def blk (X : List Pr) : List Tr := X.flatMap blk1
def tick : Tr := ⟨[], 1⟩
def way : Pr := ⟨⟨[], 3⟩, tick⟩
def going1 (B : List Tr) (p : Tr) : List Pr := if p.e = 1 then B.map (Pr.mk p) else [⟨p, tick⟩]
def going (A B : List Tr) : List Pr := A.flatMap (going1 B)
def seq1 (Y : List Pr) (x : Pr) : List Pr := if x.p.e = 1 then Y.map fun y => ⟨thn x.p y.p, thn y.q x.q⟩ else [x]
def seq (X Y : List Pr) : List Pr := X.flatMap (seq1 Y)
def par1 (x y : Pr) : List Pr := (pr x.p y.p).flatMap fun p => (pr x.q y.q).map (Pr.mk p)
def par (X Y : List Pr) : List Pr := X.flatMap fun x => Y.flatMap (par1 x)
def stack1 (C : List Tr) (x : Pr) : List Pr := C.map fun c => ⟨x.p, thn x.q c⟩
def stack (X : List Pr) (C : List Tr) : List Pr := X.flatMap (stack1 C)
def fin (e : Int) (C : List Tr) : List Pr := C.map (Pr.mk ⟨[], e⟩)
def twoP (k : Int) (X Y : List Pr) : List Pr := if k = 5 then seq X Y else if k = 7 then par X Y else X ++ Y
def fac : Nat → Nat
  | 0 => 1
  | n + 1 => (n + 1) * fac n
def bin : Nat → Nat → Nat
  | 0, _ => 1
  | _ + 1, 0 => 1
  | i + 1, j + 1 => bin i (j + 1) + bin (i + 1) j
theorem bin_pos : ∀ i j, 1 ≤ bin i j
  | 0, _ => by rw [bin]; exact Nat.le_refl _
  | _ + 1, 0 => by rw [bin]; exact Nat.le_refl _
  | i + 1, j + 1 => by rw [bin]; have := bin_pos i (j + 1); omega
theorem bin_l : ∀ i j, bin i j ≤ bin (i + 1) j
  | 0, j => by rw [bin]; exact bin_pos _ _
  | i + 1, 0 => by rw [bin, bin]; exact Nat.le_refl _
  | i + 1, j + 1 => by rw [bin.eq_3 (i + 1) j]; omega
theorem bin_r : ∀ i j, bin i j ≤ bin i (j + 1)
  | 0, j => by rw [bin, bin]; exact Nat.le_refl _
  | i + 1, 0 => by rw [bin]; exact bin_pos _ _
  | i + 1, j + 1 => by rw [bin.eq_3 i (j + 1)]; omega
theorem bin_ml (i j : Nat) : ∀ d, bin i j ≤ bin (i + d) j
  | 0 => Nat.le_refl _
  | d + 1 => Nat.le_trans (bin_ml i j d) (bin_l (i + d) j)
theorem bin_mr (i j : Nat) : ∀ d, bin i j ≤ bin i (j + d)
  | 0 => Nat.le_refl _
  | d + 1 => Nat.le_trans (bin_mr i j d) (bin_r i (j + d))
theorem bin_mono {i j i' j' : Nat} (h1 : i ≤ i') (h2 : j ≤ j') : bin i j ≤ bin i' j' := by
  obtain ⟨d, rfl⟩ := Nat.exists_eq_add_of_le h1
  obtain ⟨e, rfl⟩ := Nat.exists_eq_add_of_le h2
  exact Nat.le_trans (bin_ml i j d) (bin_mr (i + d) j e)
def K (n a : Nat) : Nat := 2 ^ n * fac a
def CT (f : ByteArray → Bool) (a : Nat) (A : List Tr) : Prop := ∀ t ∈ A, t.a.countP f ≤ a
def CP (f : ByteArray → Bool) (a : Nat) (X : List Pr) : Prop := ∀ x ∈ X, x.p.a.countP f + x.q.a.countP f ≤ a
theorem thn_cnt (f : ByteArray → Bool) (p q : Tr) : (thn p q).a.countP f ≤ p.a.countP f + q.a.countP f := by
  unfold thn
  split
  · simp [List.countP_append]
  · omega
theorem hnd_cnt (f : ByteArray → Bool) (p q : Tr) : (hnd p q).a.countP f ≤ p.a.countP f + q.a.countP f := by
  unfold hnd
  split
  · simp [List.countP_append]
  · omega
theorem mem_two {k : Int} {A B : List Tr} {t : Tr} : t ∈ two k A B ↔ if k = 6 then t ∈ A ∨ t ∈ B else ∃ p ∈ A, ∃ q ∈ B, t ∈ one k p q := by
  unfold two
  split
  · exact List.mem_append
  · simp only [List.mem_flatMap]
theorem way_cp {f : ByteArray → Bool} {X : List Pr} {a : Nat} (h : CP f a X) : CP f a (X ++ [way]) := fun x hx => by
  rcases List.mem_append.1 hx with hx | hx
  · exact h x hx
  · rw [List.mem_singleton] at hx
    rw [hx]
    exact Nat.zero_le _
theorem mem_par1 {x y z : Pr} : z ∈ par1 x y ↔ z.p ∈ pr x.p y.p ∧ z.q ∈ pr x.q y.q := by
  unfold par1
  simp only [List.mem_flatMap, List.mem_map]
  constructor
  · rintro ⟨p, hp, q, hq, rfl⟩
    exact ⟨hp, hq⟩
  · rintro ⟨hp, hq⟩
    exact ⟨z.p, hp, z.q, hq, rfl⟩
theorem fin_cp {f : ByteArray → Bool} {e : Int} {C : List Tr} {a : Nat} (h : CT f a C) : CP f a (fin e C) := fun z hz => by
  obtain ⟨c, hc, rfl⟩ := List.mem_map.1 hz
  have := h c hc
  show 0 + c.a.countP f ≤ a
  omega
abbrev all : ByteArray → Bool := fun _ => true
def Sgn (e : Int) : Prop := e = 1 ∨ e = 2 ∨ e = 3
def ST (A : List Tr) : Prop := ∀ t ∈ A, Sgn t.e
def SP (X : List Pr) : Prop := ∀ x ∈ X, Sgn x.p.e ∧ Sgn x.q.e
theorem sgn_both {a b : Int} (h1 : Sgn a) (h2 : Sgn b) : Sgn (Sg.both a b) := by
  rcases h1 with rfl | rfl | rfl <;> rcases h2 with rfl | rfl | rfl <;> first | exact Or.inl rfl | exact Or.inr (Or.inl rfl) | exact Or.inr (Or.inr rfl)
theorem sgn_thn {p q : Tr} (h1 : Sgn p.e) (h2 : Sgn q.e) : Sgn (thn p q).e := by
  unfold thn
  split
  · exact h2
  · exact h1
theorem sgn1 : Sgn 1 := Or.inl rfl
theorem sgn3 : Sgn 3 := Or.inr (Or.inr rfl)
theorem way_sp {X : List Pr} (h : SP X) : SP (X ++ [way]) := fun x hx => by
  rcases List.mem_append.1 hx with hx | hx
  · exact h x hx
  · rw [List.mem_singleton] at hx
    rw [hx]
    exact ⟨sgn3, sgn1⟩
theorem stack_sp {X : List Pr} {C : List Tr} (h1 : SP X) (h2 : ST C) : SP (stack X C) := fun z hz => by
  obtain ⟨x, hx, hz⟩ := List.mem_flatMap.1 hz
  obtain ⟨c, hc, rfl⟩ := List.mem_map.1 hz
  exact ⟨(h1 x hx).1, sgn_thn (h1 x hx).2 (h2 c hc)⟩
theorem fin_sp {e : Int} {C : List Tr} (he : Sgn e) (h : ST C) : SP (fin e C) := fun z hz => by
  obtain ⟨c, hc, rfl⟩ := List.mem_map.1 hz
  exact ⟨he, h c hc⟩
def LT (A : List Tr) : Prop := ∃ t ∈ A, t.e = 1 ∨ t.e = 2
def LP (X : List Pr) : Prop := ∃ x ∈ X, (x.p.e = 1 ∨ x.p.e = 2) ∧ (x.q.e = 1 ∨ x.q.e = 2)
end Go.Proofs.YtdkaoiomndkbjaaDoor.Mn
