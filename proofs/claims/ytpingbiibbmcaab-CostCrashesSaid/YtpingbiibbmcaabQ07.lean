/- Plain: what comes of a tree of itself; it is not longer, it is of the kind that it was, and nothing more comes of it. The document's mixed at any two rows. Plain: whole trees, what is settled is whole; what it has; where it ends. The document's node, over, end; trees in memory. The document's Par: the walk. The document's first: the walks. All traces of two, and all rows of two: what they are. The document's par, block, Tree, Settle: the walks. Rows mixed: that order does not matter, and that each row has the actions of both in their order. The program's side: what it makes of nodes and trees; over, end, goOn. What is made of the traces, or the pairs, of two: plain; how many they are, which actions they have, how they end. The program's stacked, inBlock, going: the walks. The statements' own act and few: the walks. What is put together of three hangs not on how; what does nothing changes nothing; a block of a pair: plain. The program's inTurn: the walks. The program's beside: the walks. What trees mean: plain. The kids of a tree in a row of the call's own, and a box beside it: what a store keeps. Plain: what is settled means what it meant. The program's comes: the walks. Plain: which places wait, what will end by a throw, what is beside a place. The program's settled: the walks (nothing goes on). The program's settled: the walks (Seq, Hand, Going). Plain: the moves of a tree, and what stands there behind each, ahead of settling; what a tree means is what its moves make. The program's settled: the walks (Stack, Block, Par, all). Plain: what was begun never comes to a stop ahead of its end. Settle, the document's and the program's; Settled, Begin: the walks. Plain: what a tree costs: how many moves at most, or at least; each move leaves fewer. What Settle tells of any row; what follows of that. The program's Ended at any row: the walk. The document's costs: the walks. Plain: what is beside a place, and whether a block is above it. The statements' own first look at package settle: the walk. The document's Of, Most, Least, Crashed: the walks. Plain: the moves of a tree are those of its places that wait, in order; what stands there then. Plain: which places of a row wait, whether it will end by a throw, what is beside a place, whether it may give way. Plain: another tree in the place of one that waits. The document's Settled, on, in, Ints, and rows of integers of a call's own: the walks. Plain: trees at places of a row; which nodes go on, told node by node; the nodes above a place, and what is beside it. -/
import Derived.Test.YtpingbiibbmcaabQ06
import Derived.Test.YtpingbiibbmcaabQ02
import Derived.Test.YtpingbiibbmcaabQ05
import Derived.Test.YtpingbiibbmcaabQ03
import Derived.Deep.RegionHeld3
import Derived.StillTailTactics
import Derived.Test.YtpingbiibbmcaabQ04
import Derived.Deep.DeepCutAuto
import Derived.BigQuiet
import Derived.Deep.QuietTactic

namespace Go.Proofs.Ytpingbiibbmcaab.Se
open Go Go.Proofs.Ytpingbiibbmcaab.Rw Go.Proofs.Ytpingbiibbmcaab.So

/-- A Stack of these, settled. -/
def stk (a d : Tm) : Tm := match a with
  | .fin s c => .fin s (.seq c d)
  | a => .stack a d
/-- A Seq, a Hand, a Par, a Block, a Going of what is settled; S: what comes of others. -/
def sSeq (S : Tm → Tm) (a b : Tm) : Tm := match a with
  | .over s => if s = 1 then S b else .over s
  | .fin s c => if s = 1 then stk (S b) c else .fin s c
  | a => .seq a b
def sHand (S : Tm → Tm) (a b : Tm) : Tm := match a with
  | .over s => if s = 2 then S b else .over s
  | a => .hand a b
def sPar (a b : Tm) : Tm := match a, b with
  | .over s, .over t => .over (Sg.both s t)
  | .fin s c, .fin t d => .fin (Sg.both s t) (.par c d)
  | a, b => .par a b
def sBlock (S : Tm → Tm) (a : Tm) : Tm := match a with
  | .fin s c => if s = 1 then .over 1 else if s = 2 then S c else .block (.fin s c)
  | a => .block a
def sGoing (a b : Tm) : Tm := match a with
  | .over s => if s = 1 then .fin 1 b else .fin s .skip
  | a => .going a b
/-- What comes of a tree; the number is fuel. -/
def se : Nat → Tm → Tm
  | 0, t => t
  | f + 1, t => match t with
    | .skip => .over 1
    | .throw => .over 2
    | .seq a b => sSeq (se f) (se f a) b
    | .hand a b => sHand (se f) (se f a) b
    | .par a b => sPar (se f a) (se f b)
    | .block a => sBlock (se f) (se f a)
    | .going a b => sGoing (se f a) b
    | .stack a b => stk (se f a) b
    | t => t
theorem stk_sz (a d : Tm) : sz (stk a d) = sz a + sz d + 1 := by
  cases a <;> simp [stk, sz]
  omega
theorem se_sz : ∀ (f : Nat) (t : Tm), sz (se f t) ≤ sz t := by
  intro f
  induction f with
  | zero => intro t; exact Nat.le_refl _
  | succ f ih =>
    intro t
    cases t with
    | seq a b =>
      show sz (sSeq (se f) (se f a) b) ≤ _
      have h1 := ih a
      have h2 := ih b
      generalize se f a = x at h1 ⊢
      cases x <;> simp only [sSeq, sz] at h1 ⊢ <;> repeat' split
      all_goals try simp only [stk_sz, sz]
      all_goals omega
    | hand a b =>
      show sz (sHand (se f) (se f a) b) ≤ _
      have h1 := ih a
      have h2 := ih b
      generalize se f a = x at h1 ⊢
      cases x <;> simp only [sHand, sz] at h1 ⊢ <;> repeat' split
      all_goals try simp only [sz]
      all_goals omega
    | par a b =>
      show sz (sPar (se f a) (se f b)) ≤ _
      have h1 := ih a
      have h2 := ih b
      generalize se f a = x at h1 ⊢
      generalize se f b = y at h2 ⊢
      cases x <;> simp only [sPar, sz] at h1 ⊢
      all_goals try omega
      all_goals cases y <;> simp only [sz] at h2 ⊢ <;> omega
    | block a =>
      show sz (sBlock (se f) (se f a)) ≤ _
      have h1 := ih a
      generalize se f a = x at h1 ⊢
      cases x with
      | fin s c =>
        have h2 := ih c
        simp only [sBlock, sz] at h1 ⊢
        repeat' split
        all_goals try simp only [sz]
        all_goals omega
      | _ => simp only [sBlock, sz] at h1 ⊢; omega
    | going a b =>
      show sz (sGoing (se f a) b) ≤ _
      have h1 := ih a
      have := sz_pos b
      generalize se f a = x at h1 ⊢
      cases x <;> simp only [sGoing, sz] at h1 ⊢ <;> repeat' split
      all_goals try simp only [sz]
      all_goals omega
    | stack a b =>
      show sz (stk (se f a) b) ≤ _
      rw [stk_sz]
      have h1 := ih a
      simp only [sz]
      omega
    | _ => exact Nat.le_refl _
theorem se_fuel : ∀ (f : Nat) (t : Tm), sz t ≤ f → se (f + 1) t = se f t := by
  intro f
  induction f with
  | zero => intro t h; have := sz_pos t; omega
  | succ f ih =>
    intro t h
    cases t with
    | seq a b =>
      simp only [sz] at h
      show sSeq (se (f + 1)) (se (f + 1) a) b = sSeq (se f) (se f a) b
      rw [ih a (by omega)]
      unfold sSeq
      rw [ih b (by omega)]
    | hand a b =>
      simp only [sz] at h
      show sHand (se (f + 1)) (se (f + 1) a) b = sHand (se f) (se f a) b
      rw [ih a (by omega)]
      unfold sHand
      rw [ih b (by omega)]
    | par a b =>
      simp only [sz] at h
      show sPar (se (f + 1) a) (se (f + 1) b) = sPar (se f a) (se f b)
      rw [ih a (by omega), ih b (by omega)]
    | block a =>
      simp only [sz] at h
      show sBlock (se (f + 1)) (se (f + 1) a) = sBlock (se f) (se f a)
      rw [ih a (by omega)]
      have h1 := se_sz f a
      generalize se f a = x at h1
      cases x with
      | fin s c =>
        simp only [sz] at h1
        simp only [sBlock, ih c (by omega)]
      | _ => rfl
    | going a b =>
      simp only [sz] at h
      show sGoing (se (f + 1) a) b = sGoing (se f a) b
      rw [ih a (by omega)]
    | stack a b =>
      simp only [sz] at h
      show stk (se (f + 1) a) b = stk (se f a) b
      rw [ih a (by omega)]
    | _ => rfl
/-- What comes of a tree. -/
def S (t : Tm) : Tm := se (sz t) t
theorem se_S (f : Nat) (t : Tm) (h : sz t ≤ f) : se f t = S t := by
  have : ∀ g, se (sz t + g) t = S t := by
    intro g
    induction g with
    | zero => rfl
    | succ g ih => rw [← Nat.add_assoc, se_fuel _ _ (by omega), ih]
  have h' := this (f - sz t)
  rw [show sz t + (f - sz t) = f by omega] at h'
  exact h'
theorem S_sz (t : Tm) : sz (S t) ≤ sz t := se_sz _ _
theorem S_act (s : ByteArray) : S (.act s) = .act s := rfl
theorem S_skip : S .skip = .over 1 := rfl
theorem S_throw : S .throw = .over 2 := rfl
theorem S_yield : S .yield = .yield := rfl
theorem S_over (s : Int) : S (.over s) = .over s := rfl
theorem S_fin (s : Int) (c : Tm) : S (.fin s c) = .fin s c := rfl
theorem S_alt (a b : Tm) : S (.alt a b) = .alt a b := rfl
theorem S_pair (a b : Tm) : S (.pair a b) = .pair a b := rfl
theorem S_seq (a b : Tm) : S (.seq a b) = sSeq S (S a) b := by
  show sSeq (se (sz a + sz b)) (se (sz a + sz b) a) b = _
  rw [se_S _ a (by omega)]
  unfold sSeq
  rw [se_S _ b (by omega)]
theorem S_hand (a b : Tm) : S (.hand a b) = sHand S (S a) b := by
  show sHand (se (sz a + sz b)) (se (sz a + sz b) a) b = _
  rw [se_S _ a (by omega)]
  unfold sHand
  rw [se_S _ b (by omega)]
theorem S_par (a b : Tm) : S (.par a b) = sPar (S a) (S b) := by
  show sPar (se (sz a + sz b) a) (se (sz a + sz b) b) = _
  rw [se_S _ a (by omega), se_S _ b (by omega)]
theorem S_block (a : Tm) : S (.block a) = sBlock S (S a) := by
  show sBlock (se (sz a)) (se (sz a) a) = _
  rw [se_S _ a (by omega)]
  have h := S_sz a
  generalize S a = x at h
  cases x with
  | fin s c =>
    simp only [sz] at h
    simp only [sBlock, se_S _ c (show sz c ≤ sz a by omega)]
  | _ => rfl
theorem S_going (a b : Tm) : S (.going a b) = sGoing (S a) b := by
  show sGoing (se (sz a + sz b) a) b = _
  rw [se_S _ a (by omega)]
theorem S_stack (a b : Tm) : S (.stack a b) = stk (S a) b := by
  show stk (se (sz a + sz b) a) b = _
  rw [se_S _ a (by omega)]
/-- The way by which all of S is gone through. -/
theorem S_ind {P : Tm → Prop} (h : ∀ t, (∀ u, sz u < sz t → P u) → P t) : ∀ t, P t := by
  have : ∀ (n : Nat) (t : Tm), sz t ≤ n → P t := by
    intro n
    induction n with
    | zero => intro t h; have := sz_pos t; omega
    | succ n ih => intro t ht; exact h t fun u hu => ih u (by omega)
  exact fun t => this _ t (Nat.le_refl _)
theorem stk_is {a d : Tm} (ha : is a 4 = true) (hd : is d 1 = true) : is (stk a d) 4 = true := by
  cases a <;> simp_all [stk, is]
/-- Has it ended? Has it ended, and can be taken back? So that its block goes on? -/
def isOver : Tm → Bool
  | .over _ => true
  | _ => false
def isFin : Tm → Bool
  | .fin _ _ => true
  | _ => false
def isGone : Tm → Bool
  | .fin s _ => s == 1 || s == 2
  | _ => false
/-- Of what nothing more comes. -/
def Nf : Tm → Prop
  | .skip => False
  | .throw => False
  | .seq a _ => Nf a ∧ isOver a = false ∧ isFin a = false
  | .hand a _ => Nf a ∧ isOver a = false
  | .par a b => Nf a ∧ Nf b ∧ (isOver a && isOver b) = false ∧ (isFin a && isFin b) = false
  | .block a => Nf a ∧ isGone a = false
  | .going a _ => Nf a ∧ isOver a = false
  | .stack a _ => Nf a ∧ isFin a = false
  | _ => True
theorem stk_nf {a d : Tm} (ha : Nf a) : Nf (stk a d) := by
  cases a <;> simp_all [stk, Nf, isOver, isFin]
theorem S_nf : ∀ t : Tm, Nf (S t) := by
  apply S_ind
  intro t ih
  cases t with
  | seq a b =>
    have ia := ih a (by simp [sz]; omega)
    have ib := ih b (by simp [sz]; omega)
    rw [S_seq]
    generalize S a = x at ia ⊢
    cases x <;> simp only [sSeq] <;> (try split) <;> first | exact ib | exact stk_nf ib | simp_all [Nf, isOver, isFin, isGone]
  | hand a b =>
    have ia := ih a (by simp [sz]; omega)
    have ib := ih b (by simp [sz]; omega)
    rw [S_hand]
    generalize S a = x at ia ⊢
    cases x <;> simp only [sHand] <;> (try split) <;> first | exact ib | simp_all [Nf, isOver, isFin, isGone]
  | par a b =>
    have ia := ih a (by simp [sz]; omega)
    have ib := ih b (by simp [sz]; omega)
    rw [S_par]
    generalize S a = x at ia ⊢
    generalize S b = y at ib ⊢
    cases x <;> simp only [sPar] <;> (try (simp_all [Nf, isOver, isFin, isGone]; done))
    all_goals cases y <;> simp_all [Nf, isOver, isFin, isGone]
  | block a =>
    have ia := ih a (by simp [sz])
    have hs := S_sz a
    rw [S_block]
    generalize S a = x at ia hs ⊢
    cases x with
    | fin s c =>
      simp only [sBlock]
      split
      · simp [Nf]
      · split
        · simp only [sz] at hs
          exact ih c (by simp [sz]; omega)
        · simp_all [Nf, isGone]
    | _ => simp_all [Nf, sBlock, isGone]
  | going a b =>
    have ia := ih a (by simp [sz]; omega)
    rw [S_going]
    generalize S a = x at ia ⊢
    cases x <;> simp only [sGoing] <;> (try split) <;> simp_all [Nf, isOver, isFin, isGone]
  | stack a b =>
    have ia := ih a (by simp [sz]; omega)
    rw [S_stack]
    exact stk_nf ia
  | _ => simp_all [S_act, S_skip, S_throw, S_yield, S_over, S_fin, S_alt, S_pair, Nf]
theorem nf_S : ∀ t : Tm, Nf t → S t = t := by
  intro t
  induction t with
  | seq a b ia ib =>
    intro h
    rw [S_seq, ia h.1]
    obtain ⟨h1, h2, h3⟩ := h
    cases a <;> simp_all [sSeq, isOver, isFin]
  | hand a b ia ib =>
    intro h
    rw [S_hand, ia h.1]
    obtain ⟨h1, h2⟩ := h
    cases a <;> simp_all [sHand, isOver]
  | par a b ia ib =>
    intro h
    rw [S_par, ia h.1, ib h.2.1]
    obtain ⟨h1, h2, h3, h4⟩ := h
    cases a <;> simp only [sPar]
    all_goals cases b <;> simp_all [isOver, isFin]
  | block a ia =>
    intro h
    rw [S_block, ia h.1]
    obtain ⟨h1, h2⟩ := h
    cases a with
    | fin s c =>
      simp [isGone] at h2
      simp [sBlock, h2]
    | _ => rfl
  | going a b ia ib =>
    intro h
    rw [S_going, ia h.1]
    obtain ⟨h1, h2⟩ := h
    cases a <;> simp_all [sGoing, isOver]
  | stack a b ia ib =>
    intro h
    rw [S_stack, ia h.1]
    obtain ⟨h1, h2⟩ := h
    cases a <;> simp_all [stk, isFin]
  | skip => intro h; exact h.elim
  | throw => intro h; exact h.elim
  | _ => intro _; rfl
theorem S_twice (t : Tm) : S (S t) = S t := nf_S _ (S_nf t)
end Go.Proofs.Ytpingbiibbmcaab.Se

namespace Go.Proofs.Ytpingbiibbmcaab.Tr
open Go Go.RowKit
set_option maxRecDepth 20000

end Go.Proofs.Ytpingbiibbmcaab.Tr

namespace Go.Proofs.Ytpingbiibbmcaab.Se
open Go Go.Proofs.Ytpingbiibbmcaab.Rw Go.Proofs.Ytpingbiibbmcaab.So

/-- All nodes are right. -/
def rg (t : Tm) : Bool := (flat t).all rgt
theorem rg_block (a : Tm) : rg (.block a) = rg a := by
  show ((nOf 9 :: flat a).all rgt) = _
  rw [List.all_cons, show rgt (nOf 9) = true by decide +kernel]
  rfl
theorem rg_fin (s : Int) (c : Tm) : rg (.fin s c) = (rgt (nEnd s) && rg c) := by
  show ((nEnd s :: flat c).all rgt) = _
  rw [List.all_cons]
  rfl
theorem rg_two {k : Int} {t a b : Tm} (e : flat t = nOf k :: (flat a ++ flat b)) (hk : rgt (nOf k) = true) : rg t = (rg a && rg b) := by
  unfold rg
  rw [e, List.all_cons, List.all_append, hk]
  rfl
theorem rg_seq (a b : Tm) : rg (.seq a b) = (rg a && rg b) := rg_two (k := 5) rfl (by decide +kernel)
theorem rg_alt (a b : Tm) : rg (.alt a b) = (rg a && rg b) := rg_two (k := 6) rfl (by decide +kernel)
theorem rg_par (a b : Tm) : rg (.par a b) = (rg a && rg b) := rg_two (k := 7) rfl (by decide +kernel)
theorem rg_hand (a b : Tm) : rg (.hand a b) = (rg a && rg b) := rg_two (k := 8) rfl (by decide +kernel)
theorem rg_pair (a b : Tm) : rg (.pair a b) = (rg a && rg b) := rg_two (k := 10) rfl (by decide +kernel)
theorem rg_going (a b : Tm) : rg (.going a b) = (rg a && rg b) := rg_two (k := 12) rfl (by decide +kernel)
theorem rg_stack (a b : Tm) : rg (.stack a b) = (rg a && rg b) := rg_two (k := 13) rfl (by decide +kernel)
theorem rg_skip : rg .skip = true := by decide +kernel
theorem rg_over (s : Int) : rg (.over s) = (decide (1 ≤ s) && decide (s ≤ 3)) := by
  show ([nOver s].all rgt) = _
  rw [List.all_cons, rgt_sign _ _ (.inl rfl), show decide (ByteArray.size ⟨#[]⟩ = 0) = true from rfl, Bool.true_and, List.all_nil, Bool.and_true]
theorem rgt_nEnd (s : Int) : rgt (nEnd s) = (decide (1 ≤ s) && decide (s ≤ 3)) := by
  rw [rgt_sign _ _ (.inr rfl), show decide (ByteArray.size ⟨#[]⟩ = 0) = true from rfl, Bool.true_and]
theorem stk_rg {a d : Tm} (ha : rg a = true) (hd : rg d = true) : rg (stk a d) = true := by
  cases a <;> simp_all [stk, rg_stack, rg_fin, rg_seq]
theorem whole_flat (t : Tm) : whole (flat t) = (rg t && decide (sz t ≤ 200)) := by
  unfold whole rg
  rw [flat_len, (tre_flat t).size, flat_len]
  have := sz_pos t
  simp [show 1 ≤ sz t from this]
/-- A tree that goes on, plain or paired, and its row is whole. -/
def Goes (t : Tm) : Prop := rg t = true ∧ sz t ≤ 200 ∧ (is t 3 = true ∨ is t 4 = true)
theorem of_flat {t : Tm} (h : rg t = true) (hz : sz t ≤ 200) : of (flat t) = if is t 1 then 1 else if is t 2 then 2 else if is t 3 then 3 else if is t 4 then 4 else 0 := by
  unfold of first
  rw [whole_flat, h, decide_eq_true hz, is_flat t 1 (by omega), is_flat t 2 (by omega), is_flat t 3 (by omega), is_flat t 4 (by omega)]
  rfl
theorem is_not {t : Tm} : ¬ (is t 3 = true ∧ is t 4 = true) := by
  rw [← is_flat t 3 (by omega), ← is_flat t 4 (by omega)]
  exact apart _ (flat t) (Nat.le_refl _)
/-- A row that is of a sort is a tree that goes on. -/
theorem goes_of {l : List Nd} (h : of l ≠ 0) : ∃ t, flat t = l ∧ Goes t := by
  have hw : whole l = true := by
    cases hw : whole l with
    | true => rfl
    | false => exact absurd (of_not hw) h
  obtain ⟨t, rfl⟩ := whole_tm hw
  rw [whole_flat, Bool.and_eq_true, decide_eq_true_eq] at hw
  refine ⟨t, rfl, hw.1, hw.2, ?_⟩
  rw [of_flat hw.1 hw.2] at h
  have j := is13 t
  cases h1 : is t 1 <;> cases h2 : is t 2 <;> cases h3 : is t 3 <;> cases h4 : is t 4 <;> simp_all
theorem Goes.of {t : Tm} (h : Goes t) : of (flat t) ≠ 0 := by
  rw [of_flat h.1 h.2.1]
  have h3 := h.2.2
  have j := is13 t
  cases h1 : is t 1 <;> cases h2 : is t 2 <;> cases h3 : is t 3 <;> cases h4 : is t 4 <;> simp_all
/-- Is something to be done, or chosen, where it goes on? Has a block's inside given way? -/
def waits : Tm → Bool
  | .act _ => true
  | .alt _ _ => true
  | .yield => true
  | .pair _ _ => true
  | .seq a _ => waits a
  | .hand a _ => waits a
  | .going a _ => waits a
  | .stack a _ => waits a
  | .block a => waits a
  | .par a b => waits a || waits b
  | _ => false
theorem over_is {a : Tm} (h : isOver a = true) : is a 4 = false := by cases a <;> simp_all [isOver, is]
theorem fin_is {a : Tm} (h : isFin a = true) : is a 3 = false := by cases a <;> simp_all [isFin, is]
/-- How many nodes f counts: those of what is settled are not more, if f counts none that settling makes. -/
def ct (f : Nd → Bool) (t : Tm) : Nat := (flat t).countP f
theorem ct_two {f : Nd → Bool} {n : Nd} {t a b : Tm} (e : flat t = n :: (flat a ++ flat b)) : ct f t = ct f a + ct f b + if f n then 1 else 0 := by
  unfold ct
  rw [e, List.countP_cons, List.countP_append]
theorem ct_one {f : Nd → Bool} {n : Nd} {t a : Tm} (e : flat t = n :: flat a) : ct f t = ct f a + if f n then 1 else 0 := by
  unfold ct
  rw [e, List.countP_cons]
theorem ct_seq (f : Nd → Bool) (a b : Tm) : ct f (.seq a b) = ct f a + ct f b + if f (nOf 5) then 1 else 0 := ct_two rfl
theorem ct_par (f : Nd → Bool) (a b : Tm) : ct f (.par a b) = ct f a + ct f b + if f (nOf 7) then 1 else 0 := ct_two rfl
theorem ct_hand (f : Nd → Bool) (a b : Tm) : ct f (.hand a b) = ct f a + ct f b + if f (nOf 8) then 1 else 0 := ct_two rfl
theorem ct_going (f : Nd → Bool) (a b : Tm) : ct f (.going a b) = ct f a + ct f b + if f (nOf 12) then 1 else 0 := ct_two rfl
theorem ct_stack (f : Nd → Bool) (a b : Tm) : ct f (.stack a b) = ct f a + ct f b + if f (nOf 13) then 1 else 0 := ct_two rfl
theorem ct_block (f : Nd → Bool) (a : Tm) : ct f (.block a) = ct f a + if f (nOf 9) then 1 else 0 := ct_one rfl
theorem ct_fin (f : Nd → Bool) (s : Int) (c : Tm) : ct f (.fin s c) = ct f c + if f (nEnd s) then 1 else 0 := ct_one rfl
end Go.Proofs.Ytpingbiibbmcaab.Se

namespace Go.Proofs.Ytpingbiibbmcaab.Se
open Go Go.RowKit Go.Proofs.Ytpingbiibbmcaab.Rw Go.Proofs.Ytpingbiibbmcaab.So
set_option maxRecDepth 20000

/-- The kind, and the sign, of a tree's first node. -/
def kd (t : Tm) : Int := hd (flat t)
def sgl : List Nd → Int
  | [] => 0
  | n :: _ => n.s
def sg (t : Tm) : Int := sgl (flat t)
theorem at0 {l : List Nd} (h : 0 < l.length) : l[0].k = hd l ∧ l[0].s = sgl l := by
  cases l with
  | nil => simp at h
  | cons n r => exact ⟨rfl, rfl⟩
theorem form {w : World} {v : Value} {t : Tm} (hv : Nds w v (flat t)) : ∃ b o c, v = .slice (some ⟨b, o, none⟩) (sz t) c ∧ sz t ≤ c ∧ b < w.heap.size ∧ (∀ w', Below w.heap.size w w' → w'.cell? ⟨b, o, none⟩ = some (.int .i64 (kd t)) ∧ w'.cell? ⟨b, o + 2, none⟩ = some (.int .i64 (sg t))) ∧ At w b o (flat t) := by
  rcases hv.form with ⟨_, hl⟩ | ⟨b, o, c, rfl, hc, hat⟩
  · exact absurd (by simp_all) (flat_ne t)
  · rw [flat_len] at hc ⊢
    have hp := sz_pos t
    have hl := flat_len t
    obtain ⟨h1, _, h3⟩ := hat 0 (by omega)
    rw [Nat.zero_mul, Nat.add_zero] at h1 h3
    have lt := Ap.cell_lt h1
    refine ⟨b, o, c, rfl, hc, lt, fun w' hb => ?_, hat⟩
    obtain ⟨g1, g2⟩ := at0 (l := flat t) (by omega)
    rw [hb.cell (p := ⟨b, o, none⟩) lt, hb.cell (p := ⟨b, o + 2, none⟩) lt, h1, h3, g1, g2]
    exact ⟨rfl, rfl⟩
end Go.Proofs.Ytpingbiibbmcaab.Se

namespace Go.Proofs.Ytpingbiibbmcaab.Tr
open Go Go.RowKit
set_option maxRecDepth 20000

theorem below2 (w : World) (x y : Obj) : Below w.heap.size w ((w.alloc x).alloc y) := ((Below.refl _ _).alloc (Nat.le_refl _) x).alloc (by simp) y
end Go.Proofs.Ytpingbiibbmcaab.Tr

namespace Go.Proofs.Ytpingbiibbmcaab.Se
open Go Go.RowKit Go.Proofs.Ytpingbiibbmcaab.Rw Go.Proofs.Ytpingbiibbmcaab.So
set_option maxRecDepth 20000

end Go.Proofs.Ytpingbiibbmcaab.Se

namespace Go.Proofs.Ytpingbiibbmcaab.Tr
open Go Go.RowKit
set_option maxRecDepth 20000

/-- All traces of two, side by side. -/
def pr (p q : Tr) : List Tr := norm ((mx 19 p.a q.a).map fun r => ⟨r, Sg.both p.e q.e⟩)
end Go.Proofs.Ytpingbiibbmcaab.Tr

namespace Go.Proofs.Ytpingbiibbmcaab.Se
open Go Go.RowKit Go.Proofs.Ytpingbiibbmcaab.Rw Go.Proofs.Ytpingbiibbmcaab.So
set_option maxRecDepth 20000

end Go.Proofs.Ytpingbiibbmcaab.Se

namespace Go.Proofs.Ytpingbiibbmcaab.Tr
open Go

end Go.Proofs.Ytpingbiibbmcaab.Tr

namespace Go.Proofs.Ytpingbiibbmcaab.Se
open Go Go.RowKit Go.Proofs.Ytpingbiibbmcaab.Rw Go.Proofs.Ytpingbiibbmcaab.So
set_option maxRecDepth 20000

def nml : List Nd → ByteArray
  | [] => ⟨#[]⟩
  | n :: _ => n.n
end Go.Proofs.Ytpingbiibbmcaab.Se

namespace Go.Proofs.Ytpingbiibbmcaab.Mn
open Go Tr

/-- One, and where it throws another one behind. -/
def hnd (p q : Tr) : Tr := if p.e = 2 then ⟨p.a ++ q.a, q.e⟩ else p
/-- What a node of a kind makes of two traces. -/
def one (k : Int) (p q : Tr) : List Tr := if k = 5 then [thn p q] else if k = 7 then pr p q else [hnd p q]
def two (k : Int) (A B : List Tr) : List Tr := if k = 6 then A ++ B else A.flatMap fun p => B.flatMap (one k p)
/-- What a block does where this pair is in it. -/
def blk1 (x : Pr) : List Tr := if x.p.e = 1 then [x.p] else if x.p.e = 2 then [⟨x.p.a ++ x.q.a, x.q.e⟩] else []
def blk (X : List Pr) : List Tr := X.flatMap blk1
def tick : Tr := ⟨[], 1⟩
/-- What has not begun gives way. -/
def way : Pr := ⟨⟨[], 3⟩, tick⟩
def going1 (B : List Tr) (p : Tr) : List Pr := if p.e = 1 then B.map (Pr.mk p) else [⟨p, tick⟩]
def going (A B : List Tr) : List Pr := A.flatMap (going1 B)
def seq1 (Y : List Pr) (x : Pr) : List Pr := if x.p.e = 1 then Y.map fun y => ⟨thn x.p y.p, thn y.q x.q⟩ else [x]
def seq (X Y : List Pr) : List Pr := X.flatMap (seq1 Y)
def par1 (x y : Pr) : List Pr := (pr x.p y.p).flatMap fun p => (pr x.q y.q).map (Pr.mk p)
def par (X Y : List Pr) : List Pr := X.flatMap fun x => Y.flatMap (par1 x)
def stack1 (C : List Tr) (x : Pr) : List Pr := C.map fun c => ⟨x.p, thn x.q c⟩
def stack (X : List Pr) (C : List Tr) : List Pr := X.flatMap (stack1 C)
def fin (e : Int) (C : List Tr) : List Pr := C.map (Pr.mk ⟨[], e⟩)
/-- How many. -/
def fac : Nat → Nat
  | 0 => 1
  | n + 1 => (n + 1) * fac n
theorem flat_len {α β : Type} (f : α → List β) (m : Nat) : ∀ l : List α, (∀ x ∈ l, (f x).length ≤ m) → (l.flatMap f).length ≤ l.length * m
  | [], _ => by simp
  | x :: l, h => by
    rw [List.flatMap_cons, List.length_append, List.length_cons, Nat.add_mul, Nat.one_mul, Nat.add_comm]
    exact Nat.add_le_add (flat_len f m l fun y hy => h y (by simp [hy])) (h x (by simp))

/-- The most that n nodes with a actions make. -/
def K (n a : Nat) : Nat := 2 ^ n * fac a
theorem mem_two {k : Int} {A B : List Tr} {t : Tr} : t ∈ two k A B ↔ if k = 6 then t ∈ A ∨ t ∈ B else ∃ p ∈ A, ∃ q ∈ B, t ∈ one k p q := by
  unfold two
  split
  · exact List.mem_append
  · simp only [List.mem_flatMap]
abbrev all : ByteArray → Bool := fun _ => true
end Go.Proofs.Ytpingbiibbmcaab.Mn

namespace Go.Proofs.Ytpingbiibbmcaab.Se
open Go Go.RowKit Go.Proofs.Ytpingbiibbmcaab.Rw Go.Proofs.Ytpingbiibbmcaab.So
set_option maxRecDepth 20000

end Go.Proofs.Ytpingbiibbmcaab.Se

namespace Go.Proofs.Ytpingbiibbmcaab.Se
open Go Go.RowKit Go.Proofs.Ytpingbiibbmcaab.Rw Go.Proofs.Ytpingbiibbmcaab.So
set_option maxRecDepth 20000

end Go.Proofs.Ytpingbiibbmcaab.Se

namespace Go.Proofs.Ytpingbiibbmcaab.Mn
open Go Tr

/-- A row that has the actions of both, each in order. -/
inductive Mix : List ByteArray → List ByteArray → List ByteArray → Prop
  | nil : Mix [] [] []
  | l {x : ByteArray} {a b r : List ByteArray} : Mix a b r → Mix (x :: a) b (x :: r)
  | r {y : ByteArray} {a b r : List ByteArray} : Mix a b r → Mix a (y :: b) (y :: r)
theorem one5 (p q : Tr) : one 5 p q = [thn p q] := by unfold one; rw [if_pos rfl]
theorem mem5 {A B : List Tr} {t : Tr} : t ∈ two 5 A B ↔ ∃ p ∈ A, ∃ q ∈ B, t = thn p q := by
  rw [mem_two, if_neg (by decide)]
  simp only [one5, List.mem_singleton]
/-- What a block of a pair does: what the first one does, but for giving way. -/
def want (A : List Tr) : List Tr := A.flatMap fun p => if p.e = 3 then [] else [⟨p.a, 1⟩]
end Go.Proofs.Ytpingbiibbmcaab.Mn

namespace Go.Proofs.Ytpingbiibbmcaab.Se
open Go Go.RowKit Go.Proofs.Ytpingbiibbmcaab.Rw Go.Proofs.Ytpingbiibbmcaab.So
set_option maxRecDepth 20000

end Go.Proofs.Ytpingbiibbmcaab.Se

namespace Go.Proofs.Ytpingbiibbmcaab.Se
open Go Go.RowKit Go.Proofs.Ytpingbiibbmcaab.Rw Go.Proofs.Ytpingbiibbmcaab.So
set_option maxRecDepth 20000

end Go.Proofs.Ytpingbiibbmcaab.Se

namespace Go.Proofs.Ytpingbiibbmcaab.Mn
open Go Tr Rw So

def nm (l : List Nd) : ByteArray := match l with | [] => ⟨#[]⟩ | n :: _ => n.n
def sg (l : List Nd) : Int := match l with | [] => 0 | n :: _ => n.s
end Go.Proofs.Ytpingbiibbmcaab.Mn

namespace Go.Proofs.Ytpingbiibbmcaab.Se
open Go Go.RowKit Go.Proofs.Ytpingbiibbmcaab.Rw Go.Proofs.Ytpingbiibbmcaab.So
set_option maxRecDepth 20000

theorem cell_set_ne (w : World) (g o : Nat) (x : Value) (p : Addr) (h : p.block ≠ g) : (w.setCell ⟨g, o, none⟩ x).cell? p = w.cell? p :=
  World.cell?_of_block (Below.heap_setCell _ _ _ _ h)
theorem frozen_set (w : World) (g o : Nat) (x : Value) (p : Addr) : (w.setCell ⟨g, o, none⟩ x).frozen? p = w.frozen? p := by simp [go_sem]
end Go.Proofs.Ytpingbiibbmcaab.Se

namespace Go.Proofs.Ytpingbiibbmcaab.Se
open Go Go.Proofs.Ytpingbiibbmcaab.Rw Go.Proofs.Ytpingbiibbmcaab.So Go.Proofs.Ytpingbiibbmcaab.Tr Go.Proofs.Ytpingbiibbmcaab.Mn

end Go.Proofs.Ytpingbiibbmcaab.Se

namespace Go.Proofs.Ytpingbiibbmcaab.Se
open Go Go.RowKit Go.Proofs.Ytpingbiibbmcaab.Rw Go.Proofs.Ytpingbiibbmcaab.So
set_option maxRecDepth 20000

end Go.Proofs.Ytpingbiibbmcaab.Se

namespace Go.Proofs.Ytpingbiibbmcaab.Do
open Go Go.Proofs.Ytpingbiibbmcaab.Rw Go.Proofs.Ytpingbiibbmcaab.So Go.Proofs.Ytpingbiibbmcaab.Se Go.Proofs.Ytpingbiibbmcaab.Tr Go.Proofs.Ytpingbiibbmcaab.Mn

/-- The places that wait, of a tree that stands at a place. -/
def wt : Tm → Nat → List Nat
  | .act _, i => [i]
  | .yield, i => [i]
  | .alt _ _, i => [i]
  | .pair _ _, i => [i]
  | .seq a _, i => wt a (i + 1)
  | .hand a _, i => wt a (i + 1)
  | .going a _, i => wt a (i + 1)
  | .stack a _, i => wt a (i + 1)
  | .block a, i => wt a (i + 1)
  | .par a b, i => wt a (i + 1) ++ wt b (i + 1 + sz a)
  | _, _ => []
/-- Will it end by a throw? -/
def bangT : Tm → Bool
  | .over s => s == 2
  | .fin s _ => s == 2
  | .seq a _ => bangT a
  | .going a _ => bangT a
  | .stack a _ => bangT a
  | .par a b => bangT a || bangT b
  | _ => false
end Go.Proofs.Ytpingbiibbmcaab.Do

namespace Go.Proofs.Ytpingbiibbmcaab.Se
open Go Go.RowKit Go.Proofs.Ytpingbiibbmcaab.Rw Go.Proofs.Ytpingbiibbmcaab.So
set_option maxRecDepth 20000

end Go.Proofs.Ytpingbiibbmcaab.Se

namespace Go.Proofs.Ytpingbiibbmcaab.Se
open Go Go.RowKit Go.Proofs.Ytpingbiibbmcaab.Rw Go.Proofs.Ytpingbiibbmcaab.So
set_option maxRecDepth 20000

end Go.Proofs.Ytpingbiibbmcaab.Se

namespace Go.Proofs.Ytpingbiibbmcaab.Sp
open Go Go.Proofs.Ytpingbiibbmcaab.Rw Go.Proofs.Ytpingbiibbmcaab.So Go.Proofs.Ytpingbiibbmcaab.Se Go.Proofs.Ytpingbiibbmcaab.Tr Go.Proofs.Ytpingbiibbmcaab.Mn Go.Proofs.Ytpingbiibbmcaab.Do

/-- A move: its place, how, its action, if that is one, and what the tree is then. -/
structure Mo where
  p : Nat
  h : Int
  l : Option ByteArray
  r : Tm
def upm (f : Tm → Tm) (m : Mo) : Mo := ⟨m.p, m.h, m.l, f m.r⟩
/-- The moves of a tree that stands at a place, in order; d: one that waits outside of its blocks may give way. -/
def mvs : Bool → Tm → Nat → List Mo
  | _, .act s, i => [⟨i, 1, some s, .over 1⟩]
  | _, .alt a b, i => [⟨i, 2, none, a⟩, ⟨i, 3, none, b⟩]
  | d, .yield, i => ⟨i, 4, none, .over 1⟩ :: if d then [⟨i, 5, none, .over 3⟩] else []
  | d, .pair a b, i => ⟨i, 4, none, .going a b⟩ :: if d then [⟨i, 5, none, .fin 3 .skip⟩] else []
  | d, .seq a b, i => (mvs d a (i + 1)).map (upm (.seq · b))
  | d, .hand a b, i => (mvs d a (i + 1)).map (upm (.hand · b))
  | d, .going a b, i => (mvs d a (i + 1)).map (upm (.going · b))
  | d, .stack a b, i => (mvs d a (i + 1)).map (upm (.stack · b))
  | _, .block a, i => (mvs false a (i + 1)).map (upm .block)
  | d, .par a b, i => (mvs (d || bangT b) a (i + 1)).map (upm (.par · b)) ++ (mvs (d || bangT a) b (i + 1 + sz a)).map (upm (.par a ·))
  | _, _, _ => []
def lb (o : Option ByteArray) : Nat := match o with | none => 0 | some _ => 1
end Go.Proofs.Ytpingbiibbmcaab.Sp

namespace Go.Proofs.Ytpingbiibbmcaab.Se
open Go Go.RowKit Go.Proofs.Ytpingbiibbmcaab.Rw Go.Proofs.Ytpingbiibbmcaab.So
set_option maxRecDepth 20000

end Go.Proofs.Ytpingbiibbmcaab.Se

namespace Go.Proofs.Ytpingbiibbmcaab.Sp
open Go Go.Proofs.Ytpingbiibbmcaab.Rw Go.Proofs.Ytpingbiibbmcaab.So Go.Proofs.Ytpingbiibbmcaab.Se Go.Proofs.Ytpingbiibbmcaab.Tr Go.Proofs.Ytpingbiibbmcaab.Mn Go.Proofs.Ytpingbiibbmcaab.Do

/-- Has it given way, outside of its blocks, where nothing throws? -/
def gv : Tm → Bool
  | .over s => s == 3
  | .fin s _ => s == 3
  | .seq a _ => gv a
  | .hand a _ => gv a && !bangT a
  | .going a _ => gv a
  | .stack a _ => gv a
  | .par a b => gv a || gv b
  | _ => false
/-- What is in a block has given way just where it will be taken back. -/
def J : Tm → Bool
  | .seq a _ => J a
  | .hand a _ => J a
  | .going a _ => J a
  | .stack a _ => J a
  | .par a b => J a && J b
  | .block a => J a && (!gv a || bangT a)
  | _ => true
theorem stk_bang (a d : Tm) : bangT (stk a d) = bangT a := by cases a <;> rfl
theorem stk_gv (a d : Tm) : gv (stk a d) = gv a := by cases a <;> rfl
theorem stk_J (a d : Tm) : J (stk a d) = J a := by cases a <;> rfl
theorem seq_cs (S : Tm → Tm) (x b : Tm) : (∃ s, x = .over s) ∨ (∃ s c, x = .fin s c) ∨ sSeq S x b = .seq x b := by
  cases x with
  | over s => exact .inl ⟨s, rfl⟩
  | fin s c => exact .inr (.inl ⟨s, c, rfl⟩)
  | _ => exact .inr (.inr rfl)
theorem hand_cs (S : Tm → Tm) (x b : Tm) : (∃ s, x = .over s) ∨ sHand S x b = .hand x b := by
  cases x with
  | over s => exact .inl ⟨s, rfl⟩
  | _ => exact .inr rfl
theorem block_cs (S : Tm → Tm) (x : Tm) : (∃ s c, x = .fin s c) ∨ sBlock S x = .block x := by
  cases x with
  | fin s c => exact .inl ⟨s, c, rfl⟩
  | _ => exact .inr rfl
theorem going_cs (x b : Tm) : (∃ s, x = .over s) ∨ sGoing x b = .going x b := by
  cases x with
  | over s => exact .inl ⟨s, rfl⟩
  | _ => exact .inr rfl
/-- What may come of a term: settled, of a kind, and blocks are as they should. -/
structure Run (t : Tm) : Prop where
  nf : Nf t
  rg : Se.rg t = true
  is3 : is t 3 = true
  j : J t = true
end Go.Proofs.Ytpingbiibbmcaab.Sp

namespace Go.Proofs.Ytpingbiibbmcaab.Se
open Go Go.RowKit Go.Proofs.Ytpingbiibbmcaab.Rw Go.Proofs.Ytpingbiibbmcaab.So
set_option maxRecDepth 20000

end Go.Proofs.Ytpingbiibbmcaab.Se

namespace Go.Proofs.Ytpingbiibbmcaab.Co
open Go Go.Proofs.Ytpingbiibbmcaab.Rw Go.Proofs.Ytpingbiibbmcaab.So Go.Proofs.Ytpingbiibbmcaab.Se Go.Proofs.Ytpingbiibbmcaab.Do Go.Proofs.Ytpingbiibbmcaab.Sp

/-- How many moves at most (of an Alt the greater one); at least (the lesser one). -/
def mo : Tm → Nat
  | .act _ => 1
  | .yield => 1
  | .alt a b => 1 + max (mo a) (mo b)
  | .pair a b => mo a + mo b + 1
  | .seq a b => mo a + mo b
  | .par a b => mo a + mo b
  | .hand a b => mo a + mo b
  | .going a b => mo a + mo b
  | .stack a b => mo a + mo b
  | .block a => mo a
  | .fin _ c => mo c
  | _ => 0
def le : Tm → Nat
  | .act _ => 1
  | .yield => 1
  | .alt a b => 1 + min (le a) (le b)
  | .pair a b => le a + le b + 1
  | .seq a b => le a + le b
  | .par a b => le a + le b
  | .hand a b => le a + le b
  | .going a b => le a + le b
  | .stack a b => le a + le b
  | .block a => le a
  | .fin _ c => le c
  | _ => 0
theorem le_mo : ∀ t : Tm, le t ≤ mo t := by
  intro t
  induction t <;> simp only [le, mo] <;> omega
/-- How many Acts, Alts, Yields and Pairs. -/
def ch (t : Tm) : Nat := ct (fun x => decide (x.k = 1) || decide (x.k = 4) || decide (x.k = 6) || decide (x.k = 10)) t
theorem mo_ch : ∀ t : Tm, mo t ≤ ch t := by
  intro t
  unfold ch
  induction t with
  | act s => exact Nat.le_refl 1
  | yield => exact Nat.le_refl 1
  | skip => exact Nat.zero_le _
  | throw => exact Nat.zero_le _
  | over s => exact Nat.zero_le _
  | fin s c ic => rw [ct_fin]; simp only [mo]; omega
  | block a ia => rw [ct_block]; simp only [mo]; omega
  | seq a b ia ib => rw [ct_seq]; simp only [mo]; omega
  | par a b ia ib => rw [ct_par]; simp only [mo]; omega
  | hand a b ia ib => rw [ct_hand]; simp only [mo]; omega
  | going a b ia ib => rw [ct_going]; simp only [mo]; omega
  | stack a b ia ib => rw [ct_stack]; simp only [mo]; omega
  | alt a b ia ib => rw [ct_two (t := .alt a b) (n := nOf 6) rfl]; simp only [mo, show (decide ((nOf 6).k = 1) || decide ((nOf 6).k = 4) || decide ((nOf 6).k = 6) || decide ((nOf 6).k = 10)) = true from rfl, if_true]; omega
  | pair a b ia ib => rw [ct_two (t := .pair a b) (n := nOf 10) rfl]; simp only [mo, show (decide ((nOf 10).k = 1) || decide ((nOf 10).k = 4) || decide ((nOf 10).k = 6) || decide ((nOf 10).k = 10)) = true from rfl, if_true]; omega
theorem ch_sz (t : Tm) : ch t ≤ sz t := by
  rw [← Se.flat_len]
  exact List.countP_le_length
end Go.Proofs.Ytpingbiibbmcaab.Co

namespace Go.Proofs.Ytpingbiibbmcaab.Se
open Go Go.RowKit Go.Proofs.Ytpingbiibbmcaab.Rw Go.Proofs.Ytpingbiibbmcaab.So
set_option maxRecDepth 20000

/-- A row is of one tree. -/
theorem flat_inj : ∀ t u : Tm, flat t = flat u → t = u := by
  intro t
  induction t with
  | act s =>
    intro u h
    have hk : kd u = 1 := by unfold kd; rw [← h]; rfl
    cases u <;> try (simp [kd, flat, hd, nOf] at hk; done)
    · have e := congrArg nml h
      exact congrArg Tm.act e
  | skip =>
    intro u h
    have hk : kd u = 2 := by unfold kd; rw [← h]; rfl
    cases u <;> try (simp [kd, flat, hd, nOf] at hk; done)
    · rfl
  | throw =>
    intro u h
    have hk : kd u = 3 := by unfold kd; rw [← h]; rfl
    cases u <;> try (simp [kd, flat, hd, nOf] at hk; done)
    · rfl
  | yield =>
    intro u h
    have hk : kd u = 4 := by unfold kd; rw [← h]; rfl
    cases u <;> try (simp [kd, flat, hd, nOf] at hk; done)
    · rfl
  | over s =>
    intro u h
    have hk : kd u = 11 := by unfold kd; rw [← h]; rfl
    cases u <;> try (simp [kd, flat, hd, nOf] at hk; done)
    · have e := congrArg sgl h
      exact congrArg Tm.over e
  | block a ia =>
    intro u h
    have hk : kd u = 9 := by unfold kd; rw [← h]; rfl
    cases u <;> try (simp [kd, flat, hd, nOf] at hk; done)
    · have e := congrArg kids h
      rw [kids_block, kids_block] at e
      injection e with e _
      rw [ia _ e]
  | fin s c ic =>
    intro u h
    have hk : kd u = 14 := by unfold kd; rw [← h]; rfl
    cases u <;> try (simp [kd, flat, hd, nOf] at hk; done)
    · have e := congrArg kids h
      have e2 : s = _ := congrArg sgl h
      rw [kids_fin, kids_fin] at e
      injection e with e _
      rw [ic _ e, e2]
      rfl
  | seq a b ia ib =>
    intro u h
    have hk : kd u = 5 := by unfold kd; rw [← h]; rfl
    cases u <;> try (simp [kd, flat, hd, nOf] at hk; done)
    · have e := congrArg kids h
      rw [kids_seq, kids_seq] at e
      injection e with e1 e
      injection e with e2 _
      rw [ia _ e1, ib _ e2]
  | alt a b ia ib =>
    intro u h
    have hk : kd u = 6 := by unfold kd; rw [← h]; rfl
    cases u <;> try (simp [kd, flat, hd, nOf] at hk; done)
    · have e := congrArg kids h
      rw [kids_alt, kids_alt] at e
      injection e with e1 e
      injection e with e2 _
      rw [ia _ e1, ib _ e2]
  | par a b ia ib =>
    intro u h
    have hk : kd u = 7 := by unfold kd; rw [← h]; rfl
    cases u <;> try (simp [kd, flat, hd, nOf] at hk; done)
    · have e := congrArg kids h
      rw [kids_par, kids_par] at e
      injection e with e1 e
      injection e with e2 _
      rw [ia _ e1, ib _ e2]
  | hand a b ia ib =>
    intro u h
    have hk : kd u = 8 := by unfold kd; rw [← h]; rfl
    cases u <;> try (simp [kd, flat, hd, nOf] at hk; done)
    · have e := congrArg kids h
      rw [kids_hand, kids_hand] at e
      injection e with e1 e
      injection e with e2 _
      rw [ia _ e1, ib _ e2]
  | pair a b ia ib =>
    intro u h
    have hk : kd u = 10 := by unfold kd; rw [← h]; rfl
    cases u <;> try (simp [kd, flat, hd, nOf] at hk; done)
    · have e := congrArg kids h
      rw [kids_pair, kids_pair] at e
      injection e with e1 e
      injection e with e2 _
      rw [ia _ e1, ib _ e2]
  | going a b ia ib =>
    intro u h
    have hk : kd u = 12 := by unfold kd; rw [← h]; rfl
    cases u <;> try (simp [kd, flat, hd, nOf] at hk; done)
    · have e := congrArg kids h
      rw [kids_going, kids_going] at e
      injection e with e1 e
      injection e with e2 _
      rw [ia _ e1, ib _ e2]
  | stack a b ia ib =>
    intro u h
    have hk : kd u = 13 := by unfold kd; rw [← h]; rfl
    cases u <;> try (simp [kd, flat, hd, nOf] at hk; done)
    · have e := congrArg kids h
      rw [kids_stack, kids_stack] at e
      injection e with e1 e
      injection e with e2 _
      rw [ia _ e1, ib _ e2]
/-- What comes of a row. -/
noncomputable def st (l : List Nd) : List Nd := if h : of l = 0 then [] else flat (S (goes_of h).choose)
theorem st_no {l : List Nd} (h : of l = 0) : st l = [] := dif_pos h
theorem st_go {t : Tm} (h : Goes t) : st (flat t) = flat (S t) := by
  have h0 := h.of
  unfold st
  rw [dif_neg h0]
  rw [flat_inj _ _ (goes_of h0).choose_spec.1]
/-- A row that comes of another one. -/
theorem st_some {l : List Nd} (h : st l ≠ []) : ∃ t, flat t = l ∧ Goes t ∧ st l = flat (S t) := by
  by_cases h0 : of l = 0
  · exact absurd (st_no h0) h
  · obtain ⟨t, rfl, hg⟩ := goes_of h0
    exact ⟨t, rfl, hg, st_go hg⟩
theorem nms_goes {t : Tm} (h : rg t = true) : Nms (flat t) := by
  intro x hx
  have hr : rgt x = true := (List.all_eq_true.1 h) x hx
  obtain ⟨k, n, s⟩ := x
  show n.size ≤ _
  by_cases h1 : k = 1
  · subst h1
    rw [rgt_act] at hr
    simp only [Bool.and_eq_true, decide_eq_true_eq] at hr
    omega
  · by_cases h2 : k = 11 ∨ k = 14
    · rw [rgt_sign n s h2] at hr
      simp only [Bool.and_eq_true, decide_eq_true_eq] at hr
      omega
    · have h0 : ¬ ar k < 0 := fun h0 => by unfold rgt at hr; rw [if_pos h0] at hr; cases hr
      rw [rgt_other n s h0 h1 h2] at hr
      simp only [Bool.and_eq_true, decide_eq_true_eq] at hr
      omega
end Go.Proofs.Ytpingbiibbmcaab.Se

namespace Go.Proofs.Ytpingbiibbmcaab.Se
open Go Go.RowKit Go.Proofs.Ytpingbiibbmcaab.Rw Go.Proofs.Ytpingbiibbmcaab.So
set_option maxRecDepth 20000

end Go.Proofs.Ytpingbiibbmcaab.Se

namespace Go.Proofs.Ytpingbiibbmcaab.Co
open Go Go.RowKit Go.Proofs.Ytpingbiibbmcaab.Rw Go.Proofs.Ytpingbiibbmcaab.So Go.Proofs.Ytpingbiibbmcaab.Se Go.Proofs.Ytpingbiibbmcaab.Do Go.Proofs.Ytpingbiibbmcaab.Sp
set_option maxRecDepth 20000

/-- What a tree costs: the least, or the most. -/
def cst (b : Bool) (t : Tm) : Nat := if b then le t else mo t
theorem cst_sz (b : Bool) (t : Tm) : cst b t ≤ sz t := by
  have h1 := le_mo t
  have h2 := mo_ch t
  have h3 := ch_sz t
  unfold cst
  split <;> omega
end Go.Proofs.Ytpingbiibbmcaab.Co

namespace Go.Proofs.Ytpingbiibbmcaab.Do
open Go Go.Proofs.Ytpingbiibbmcaab.Rw Go.Proofs.Ytpingbiibbmcaab.So Go.Proofs.Ytpingbiibbmcaab.Se

/-- Those beside a place, from the innermost one outward, up to the innermost block; and whether there is one. -/
def pth : Tm → Nat → Nat → List Tm × Bool
  | .par a b, i, p => if i = p then ([], false) else if p < i + 1 + sz a then (if (pth a (i + 1) p).2 then pth a (i + 1) p else ((pth a (i + 1) p).1 ++ [b], false)) else (if (pth b (i + 1 + sz a) p).2 then pth b (i + 1 + sz a) p else ((pth b (i + 1 + sz a) p).1 ++ [a], false))
  | .block a, i, p => if i = p then ([], false) else ((pth a (i + 1) p).1, true)
  | .seq a b, i, p => if i = p then ([], false) else if p < i + 1 + sz a then pth a (i + 1) p else pth b (i + 1 + sz a) p
  | .alt a b, i, p => if i = p then ([], false) else if p < i + 1 + sz a then pth a (i + 1) p else pth b (i + 1 + sz a) p
  | .hand a b, i, p => if i = p then ([], false) else if p < i + 1 + sz a then pth a (i + 1) p else pth b (i + 1 + sz a) p
  | .pair a b, i, p => if i = p then ([], false) else if p < i + 1 + sz a then pth a (i + 1) p else pth b (i + 1 + sz a) p
  | .going a b, i, p => if i = p then ([], false) else if p < i + 1 + sz a then pth a (i + 1) p else pth b (i + 1 + sz a) p
  | .stack a b, i, p => if i = p then ([], false) else if p < i + 1 + sz a then pth a (i + 1) p else pth b (i + 1 + sz a) p
  | .fin _ c, i, p => if i = p then ([], false) else pth c (i + 1) p
  | _, _, _ => ([], false)
end Go.Proofs.Ytpingbiibbmcaab.Do

namespace Go.Proofs.Ytpingbiibbmcaab.Se
open Go Go.RowKit Go.Proofs.Ytpingbiibbmcaab.Rw Go.Proofs.Ytpingbiibbmcaab.So
set_option maxRecDepth 20000

/-- A row of nodes in a block that is new. -/
theorem nds_new (w : World) (l : List Nd) (ty : TypeId) : Nds (w.alloc (.cells (cls l).toArray ty)) (.slice (some ⟨w.heap.size, 0, none⟩) l.length l.length) l := by
  refine ⟨cls_len l, some ⟨w.heap.size, 0, none⟩, l.length, rfl, Nat.le_refl _, fun h => (by cases h), fun _ => ⟨w.heap.size, 0, rfl, fun j u hu => ?_⟩⟩
  rw [Nat.zero_add, World.cell?_alloc_new]
  simpa using hu
end Go.Proofs.Ytpingbiibbmcaab.Se

namespace Go.Proofs.Ytpingbiibbmcaab.Co
open Go Go.RowKit Go.Proofs.Ytpingbiibbmcaab.Rw Go.Proofs.Ytpingbiibbmcaab.So Go.Proofs.Ytpingbiibbmcaab.Se Go.Proofs.Ytpingbiibbmcaab.Do Go.Proofs.Ytpingbiibbmcaab.Sp
set_option maxRecDepth 20000

/-- The least, or the most, of a row; 0 of what goes on in no way. -/
noncomputable def cr (b : Bool) (l : List Nd) : Nat := if h : of l = 0 then 0 else cst b (goes_of h).choose
theorem cr_no {l : List Nd} (b : Bool) (h : of l = 0) : cr b l = 0 := dif_pos h
theorem cr_go {t : Tm} (b : Bool) (h : Goes t) : cr b (flat t) = cst b t := by
  have h0 := h.of
  unfold cr
  rw [dif_neg h0, flat_inj _ _ (goes_of h0).choose_spec.1]
/-- How many Acts, Alts, Yields and Pairs a row has. -/
def chR (l : List Nd) : Nat := cnt l [1, 4, 6, 10]
theorem chR_len (l : List Nd) : chR l ≤ l.length := List.countP_le_length
theorem chR_flat (t : Tm) : chR (flat t) = ch t := by
  unfold chR cnt ch ct
  congr 1
  funext x
  by_cases h1 : x.k = 1 <;> by_cases h2 : x.k = 4 <;> by_cases h3 : x.k = 6 <;> by_cases h4 : x.k = 10 <;> simp [h1, h2, h3, h4]
/-- What crashes cost. -/
def crash (l : List Nd) (n : Int) : Int := if n < 0 ∨ n > 1048576 ∨ l.length > 200 then 0 else ((chR l : Int) + 1) * (n + 1)
theorem mul_bound {a b : Int} (h0 : 0 ≤ a) (h1 : a ≤ 2000) (h2 : 0 ≤ b) (h3 : b ≤ 2000000) : 0 ≤ a * b ∧ a * b ≤ 4000000000 := by
  refine ⟨Int.mul_nonneg h0 h2, ?_⟩
  have := Int.mul_le_mul h1 h3 h2 (by omega : (0 : Int) ≤ 2000)
  omega
end Go.Proofs.Ytpingbiibbmcaab.Co

namespace Go.Proofs.Ytpingbiibbmcaab.Sp
open Go Go.Proofs.Ytpingbiibbmcaab.Rw Go.Proofs.Ytpingbiibbmcaab.So Go.Proofs.Ytpingbiibbmcaab.Se Go.Proofs.Ytpingbiibbmcaab.Tr Go.Proofs.Ytpingbiibbmcaab.Mn Go.Proofs.Ytpingbiibbmcaab.Do

/-- What stands in a tree's place behind a move. -/
inductive Made : Tm → Int → Option ByteArray → Tm → Prop
  | act (s) : Made (.act s) 1 (some s) (.over 1)
  | altl (a b) : Made (.alt a b) 2 none a
  | altr (a b) : Made (.alt a b) 3 none b
  | yieldg : Made .yield 4 none (.over 1)
  | yields : Made .yield 5 none (.over 3)
  | pairg (a b) : Made (.pair a b) 4 none (.going a b)
  | pairs (a b) : Made (.pair a b) 5 none (.fin 3 .skip)
end Go.Proofs.Ytpingbiibbmcaab.Sp

namespace Go.Proofs.Ytpingbiibbmcaab.Do
open Go Go.Proofs.Ytpingbiibbmcaab.Rw Go.Proofs.Ytpingbiibbmcaab.So Go.Proofs.Ytpingbiibbmcaab.Se

/-- Is a row a tree that goes on, and nothing more comes of it? -/
noncomputable def setB (l : List Nd) : Bool := decide (0 < l.length) && sameN (st l) l
theorem set_iff {l : List Nd} : setB l = true ↔ ∃ t, flat t = l ∧ Goes t ∧ Nf t := by
  unfold setB sameN
  rw [Bool.and_eq_true, decide_eq_true_eq, decide_eq_true_eq]
  constructor
  · rintro ⟨h0, h⟩
    have hn : st l ≠ [] := fun e => by rw [e] at h; rw [← h] at h0; simp at h0
    obtain ⟨t, rfl, hg, e⟩ := st_some hn
    rw [e] at h
    have := flat_inj _ _ h
    exact ⟨t, rfl, hg, by rw [← this]; exact S_nf t⟩
  · rintro ⟨t, rfl, hg, hn⟩
    exact ⟨by rw [Se.flat_len]; exact sz_pos t, by rw [st_go hg, nf_S t hn]⟩
/-- The places that wait. -/
noncomputable def av (l : List Nd) : List Int := if h : setB l = true then (wt (set_iff.1 h).choose 0).map Int.ofNat else []
/-- Will it end by a throw? -/
noncomputable def dm (l : List Nd) : Bool := if h : setB l = true then bangT (set_iff.1 h).choose else false
noncomputable def fr (l : List Nd) (p : Int) : Bool := if h : setB l = true ∧ p ∈ av l then (!(pth (set_iff.1 h.1).choose 0 p.toNat).2) || (pth (set_iff.1 h.1).choose 0 p.toNat).1.any bangT else false
end Go.Proofs.Ytpingbiibbmcaab.Do

namespace Go.Proofs.Ytpingbiibbmcaab.Sp
open Go Go.Proofs.Ytpingbiibbmcaab.Rw Go.Proofs.Ytpingbiibbmcaab.So Go.Proofs.Ytpingbiibbmcaab.Se Go.Proofs.Ytpingbiibbmcaab.Tr Go.Proofs.Ytpingbiibbmcaab.Mn Go.Proofs.Ytpingbiibbmcaab.Do

/-- The tree at a place that waits; another one in its place. -/
def sub : Tm → Nat → Nat → Tm
  | .seq a _, i, p => sub a (i + 1) p
  | .hand a _, i, p => sub a (i + 1) p
  | .going a _, i, p => sub a (i + 1) p
  | .stack a _, i, p => sub a (i + 1) p
  | .block a, i, p => sub a (i + 1) p
  | .par a b, i, p => if p < i + 1 + sz a then sub a (i + 1) p else sub b (i + 1 + sz a) p
  | t, _, _ => t
end Go.Proofs.Ytpingbiibbmcaab.Sp

namespace Go.Proofs.Ytpingbiibbmcaab.Do
open Go Go.RowKit Go.Proofs.Ytpingbiibbmcaab.Rw Go.Proofs.Ytpingbiibbmcaab.So Go.Proofs.Ytpingbiibbmcaab.Se
set_option maxRecDepth 20000

end Go.Proofs.Ytpingbiibbmcaab.Do

namespace Go.Proofs.Ytpingbiibbmcaab.Do
open Go Go.Proofs.Ytpingbiibbmcaab.Rw Go.Proofs.Ytpingbiibbmcaab.So Go.Proofs.Ytpingbiibbmcaab.Se

end Go.Proofs.Ytpingbiibbmcaab.Do
