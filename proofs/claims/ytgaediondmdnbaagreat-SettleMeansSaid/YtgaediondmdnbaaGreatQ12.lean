/- Plain: whole trees, what is settled is whole; what it has; where it ends. The document's mixed at any two rows. The document's first: the walks. The document's Par: the walk. The document's par, block, Tree, Settle: the walks. All traces of two, and all rows of two: what they are. The program's side: what it makes of nodes and trees; over, end, goOn. Rows mixed: that order does not matter, and that each row has the actions of both in their order. What the program's package trace answers: how that is said. -/
import Derived.Test.YtgaediondmdnbaaGreatQ11
import Derived.Test.YtgaediondmdnbaaGreatQ10
import Derived.Deep.RegionHeld3
import Derived.Test.YtgaediondmdnbaaGreatQ03
import Derived.Test.YtgaediondmdnbaaGreatQ05
import Derived.StillTailTactics
import Derived.Test.YtgaediondmdnbaaGreatQ07

namespace Go.Proofs.YtgaediondmdnbaaGreat.Se
open Go Go.Proofs.YtgaediondmdnbaaGreat.Rw Go.Proofs.YtgaediondmdnbaaGreat.So

/-- All nodes are right. -/
def rg (t : Tm) : Bool := (flat t).all rgt
theorem rg_block (a : Tm) : rg (.block a) = rg a := by
  show ((nOf 9 :: flat a).all rgt) = _
  rw [List.all_cons, show rgt (nOf 9) = true by decide +kernel]
  rfl
theorem rg_fin (s : Int) (c : Tm) : rg (.fin s c) = (rgt (nEnd s) && rg c) := by
  show ((nEnd s :: flat c).all rgt) = _
  rw [List.all_cons]
  rfl
theorem rg_two {k : Int} {t a b : Tm} (e : flat t = nOf k :: (flat a ++ flat b)) (hk : rgt (nOf k) = true) : rg t = (rg a && rg b) := by
  unfold rg
  rw [e, List.all_cons, List.all_append, hk]
  rfl
theorem rg_seq (a b : Tm) : rg (.seq a b) = (rg a && rg b) := rg_two (k := 5) rfl (by decide +kernel)
theorem rg_par (a b : Tm) : rg (.par a b) = (rg a && rg b) := rg_two (k := 7) rfl (by decide +kernel)
theorem rg_hand (a b : Tm) : rg (.hand a b) = (rg a && rg b) := rg_two (k := 8) rfl (by decide +kernel)
theorem rg_going (a b : Tm) : rg (.going a b) = (rg a && rg b) := rg_two (k := 12) rfl (by decide +kernel)
theorem rg_stack (a b : Tm) : rg (.stack a b) = (rg a && rg b) := rg_two (k := 13) rfl (by decide +kernel)
theorem rg_skip : rg .skip = true := by decide +kernel
theorem rg_over (s : Int) : rg (.over s) = (decide (1 ≤ s) && decide (s ≤ 3)) := by
  show ([nOver s].all rgt) = _
  rw [List.all_cons, rgt_sign _ _ (.inl rfl), show decide (ByteArray.size ⟨#[]⟩ = 0) = true from rfl, Bool.true_and, List.all_nil, Bool.and_true]
theorem rgt_nEnd (s : Int) : rgt (nEnd s) = (decide (1 ≤ s) && decide (s ≤ 3)) := by
  rw [rgt_sign _ _ (.inr rfl), show decide (ByteArray.size ⟨#[]⟩ = 0) = true from rfl, Bool.true_and]
theorem both_rg {s t : Int} (hs : 1 ≤ s ∧ s ≤ 3) (ht : 1 ≤ t ∧ t ≤ 3) : 1 ≤ Sg.both s t ∧ Sg.both s t ≤ 3 := by
  have h1 : s = 1 ∨ s = 2 ∨ s = 3 := by omega
  have h2 : t = 1 ∨ t = 2 ∨ t = 3 := by omega
  rcases h1 with rfl | rfl | rfl <;> rcases h2 with rfl | rfl | rfl <;> decide
theorem stk_rg {a d : Tm} (ha : rg a = true) (hd : rg d = true) : rg (stk a d) = true := by
  cases a <;> simp_all [stk, rg_stack, rg_fin, rg_seq]
theorem S_rg : ∀ t : Tm, rg t = true → rg (S t) = true := by
  apply S_ind
  intro t ih h
  cases t with
  | act s => exact h
  | skip => decide +kernel
  | throw => decide +kernel
  | yield => exact h
  | over s => exact h
  | fin s c => exact h
  | alt a b => exact h
  | pair a b => exact h
  | seq a b =>
    rw [rg_seq, Bool.and_eq_true] at h
    have ia := ih a (by simp [sz]; omega) h.1
    have ib := ih b (by simp [sz]; omega) h.2
    rw [S_seq]
    generalize S a = x at ia
    cases x <;> simp only [sSeq] <;> (try split) <;> simp_all [rg_seq, rg_fin, stk_rg]
  | hand a b =>
    rw [rg_hand, Bool.and_eq_true] at h
    have ia := ih a (by simp [sz]; omega) h.1
    have ib := ih b (by simp [sz]; omega) h.2
    rw [S_hand]
    generalize S a = x at ia
    cases x <;> simp only [sHand] <;> (try split) <;> simp_all [rg_hand]
  | par a b =>
    rw [rg_par, Bool.and_eq_true] at h
    have ia := ih a (by simp [sz]; omega) h.1
    have ib := ih b (by simp [sz]; omega) h.2
    rw [S_par]
    generalize S a = x at ia ⊢
    generalize S b = y at ib ⊢
    cases x <;> simp only [sPar] <;> (try (simp_all [rg_par]; done))
    · cases y <;> simp only [] <;> (try (simp_all [rg_par]; done))
      simp only [rg_over, Bool.and_eq_true, decide_eq_true_eq] at ia ib ⊢
      exact both_rg ia ib
    · cases y <;> simp only [] <;> (try (simp_all [rg_par]; done))
      simp only [rg_fin, rg_par, rgt_nEnd, Bool.and_eq_true, decide_eq_true_eq] at ia ib ⊢
      exact ⟨both_rg ia.1 ib.1, ia.2, ib.2⟩
  | block a =>
    rw [rg_block] at h
    have ia := ih a (by simp [sz]) h
    have hs := S_sz a
    rw [S_block]
    generalize S a = x at ia hs
    cases x with
    | fin s c =>
      simp only [sBlock]
      simp only [sz] at hs
      have ic := ih c (by simp [sz]; omega)
      repeat' split
      · decide +kernel
      · rw [rg_fin, Bool.and_eq_true] at ia
        exact ic ia.2
      · rw [rg_block]; exact ia
    | _ => simpa [sBlock, rg_block] using ia
  | going a b =>
    rw [rg_going, Bool.and_eq_true] at h
    have ia := ih a (by simp [sz]; omega) h.1
    rw [S_going]
    generalize S a = x at ia
    cases x <;> simp only [sGoing] <;> (try split) <;> simp_all [rg_going, rg_fin, rg_over, rgt_nEnd, rg_skip]
  | stack a b =>
    rw [rg_stack, Bool.and_eq_true] at h
    have ia := ih a (by simp [sz]; omega) h.1
    rw [S_stack]
    exact stk_rg ia h.2
theorem whole_flat (t : Tm) : whole (flat t) = (rg t && decide (sz t ≤ 200)) := by
  unfold whole rg
  rw [flat_len, (tre_flat t).size, flat_len]
  have := sz_pos t
  simp [show 1 ≤ sz t from this]
/-- A tree that goes on, plain or paired, and its row is whole. -/
def Goes (t : Tm) : Prop := rg t = true ∧ sz t ≤ 200 ∧ (is t 3 = true ∨ is t 4 = true)
theorem Goes.S {t : Tm} (h : Goes t) : Goes (S t) := ⟨S_rg t h.1, Nat.le_trans (S_sz t) h.2.1, h.2.2.imp (S_is t).1 (S_is t).2⟩
theorem of_flat {t : Tm} (h : rg t = true) (hz : sz t ≤ 200) : of (flat t) = if is t 1 then 1 else if is t 2 then 2 else if is t 3 then 3 else if is t 4 then 4 else 0 := by
  unfold of first
  rw [whole_flat, h, decide_eq_true hz, is_flat t 1 (by omega), is_flat t 2 (by omega), is_flat t 3 (by omega), is_flat t 4 (by omega)]
  rfl
theorem is_not {t : Tm} : ¬ (is t 3 = true ∧ is t 4 = true) := by
  rw [← is_flat t 3 (by omega), ← is_flat t 4 (by omega)]
  exact apart _ (flat t) (Nat.le_refl _)
theorem on_flat {t : Tm} (h : rg t = true) (hz : sz t ≤ 200) (p : Bool) : onB (flat t) p = if p then is t 4 else is t 3 := by
  have n := is_not (t := t)
  have j := is13 t
  unfold onB
  rw [of_flat h hz]
  cases h1 : is t 1 <;> cases h2 : is t 2 <;> cases h3 : is t 3 <;> cases h4 : is t 4 <;> cases p <;> simp_all
/-- A row that is of a sort is a tree that goes on. -/
theorem goes_of {l : List Nd} (h : of l ≠ 0) : ∃ t, flat t = l ∧ Goes t := by
  have hw : whole l = true := by
    cases hw : whole l with
    | true => rfl
    | false => exact absurd (of_not hw) h
  obtain ⟨t, rfl⟩ := whole_tm hw
  rw [whole_flat, Bool.and_eq_true, decide_eq_true_eq] at hw
  refine ⟨t, rfl, hw.1, hw.2, ?_⟩
  rw [of_flat hw.1 hw.2] at h
  have j := is13 t
  cases h1 : is t 1 <;> cases h2 : is t 2 <;> cases h3 : is t 3 <;> cases h4 : is t 4 <;> simp_all
theorem Goes.of {t : Tm} (h : Goes t) : of (flat t) ≠ 0 := by
  rw [of_flat h.1 h.2.1]
  have h3 := h.2.2
  have j := is13 t
  cases h1 : is t 1 <;> cases h2 : is t 2 <;> cases h3 : is t 3 <;> cases h4 : is t 4 <;> simp_all
theorem Goes.whole {t : Tm} (h : Goes t) : whole (flat t) = true := by rw [whole_flat, h.1, decide_eq_true h.2.1]; rfl

/-- Is something to be done, or chosen, where it goes on? Has a block's inside given way? -/
def waits : Tm → Bool
  | .act _ => true
  | .alt _ _ => true
  | .yield => true
  | .pair _ _ => true
  | .seq a _ => waits a
  | .hand a _ => waits a
  | .going a _ => waits a
  | .stack a _ => waits a
  | .block a => waits a
  | .par a b => waits a || waits b
  | _ => false
/-- How many nodes f counts: those of what is settled are not more, if f counts none that settling makes. -/
def ct (f : Nd → Bool) (t : Tm) : Nat := (flat t).countP f
def Plain (f : Nd → Bool) : Prop := (∀ s, f (nOver s) = false) ∧ (∀ s, f (nEnd s) = false) ∧ f (nOf 2) = false ∧ f (nOf 5) = false ∧ f (nOf 7) = false ∧ f (nOf 12) = false ∧ f (nOf 13) = false
theorem ct_two {f : Nd → Bool} {n : Nd} {t a b : Tm} (e : flat t = n :: (flat a ++ flat b)) : ct f t = ct f a + ct f b + if f n then 1 else 0 := by
  unfold ct
  rw [e, List.countP_cons, List.countP_append]
theorem ct_one {f : Nd → Bool} {n : Nd} {t a : Tm} (e : flat t = n :: flat a) : ct f t = ct f a + if f n then 1 else 0 := by
  unfold ct
  rw [e, List.countP_cons]
theorem ct_seq (f : Nd → Bool) (a b : Tm) : ct f (.seq a b) = ct f a + ct f b + if f (nOf 5) then 1 else 0 := ct_two rfl
theorem ct_par (f : Nd → Bool) (a b : Tm) : ct f (.par a b) = ct f a + ct f b + if f (nOf 7) then 1 else 0 := ct_two rfl
theorem ct_hand (f : Nd → Bool) (a b : Tm) : ct f (.hand a b) = ct f a + ct f b + if f (nOf 8) then 1 else 0 := ct_two rfl
theorem ct_going (f : Nd → Bool) (a b : Tm) : ct f (.going a b) = ct f a + ct f b + if f (nOf 12) then 1 else 0 := ct_two rfl
theorem ct_stack (f : Nd → Bool) (a b : Tm) : ct f (.stack a b) = ct f a + ct f b + if f (nOf 13) then 1 else 0 := ct_two rfl
theorem ct_block (f : Nd → Bool) (a : Tm) : ct f (.block a) = ct f a + if f (nOf 9) then 1 else 0 := ct_one rfl
theorem ct_fin (f : Nd → Bool) (s : Int) (c : Tm) : ct f (.fin s c) = ct f c + if f (nEnd s) then 1 else 0 := ct_one rfl
theorem ct_over {f : Nd → Bool} (hf : Plain f) (s : Int) : ct f (.over s) = 0 := by
  show [nOver s].countP f = 0
  simp [hf.1 s]
theorem ct_skip {f : Nd → Bool} (hf : Plain f) : ct f .skip = 0 := by
  show [nOf 2].countP f = 0
  simp [hf.2.2.1]
theorem stk_ct {f : Nd → Bool} (hf : Plain f) (a d : Tm) : ct f (stk a d) = ct f a + ct f d := by
  obtain ⟨h1, h2, h3, h4, h5, h6, h7⟩ := hf
  cases a <;> simp only [stk, ct_stack, ct_fin, ct_seq, h7, h2, h4] <;> simp
theorem S_ct {f : Nd → Bool} (hf : Plain f) : ∀ t : Tm, ct f (S t) ≤ ct f t := by
  have hst := stk_ct hf
  have hov := ct_over hf
  have hsk := ct_skip hf
  have hf' := hf
  obtain ⟨h1, h2, h3, h4, h5, h6, h7⟩ := hf
  apply S_ind
  intro t ih
  cases t with
  | act s => exact Nat.le_refl _
  | skip => rw [S_skip, hov]; exact Nat.zero_le _
  | throw => rw [S_throw, hov]; exact Nat.zero_le _
  | yield => exact Nat.le_refl _
  | over s => exact Nat.le_refl _
  | fin s c => exact Nat.le_refl _
  | alt a b => exact Nat.le_refl _
  | pair a b => exact Nat.le_refl _
  | seq a b =>
    have ia := ih a (by simp [sz]; omega)
    have ib := ih b (by simp [sz]; omega)
    rw [S_seq, ct_seq, h4]
    generalize S a = x at ia
    cases x <;> simp only [sSeq] <;> (try split) <;> simp only [hov, ct_seq, ct_fin, hst, h2, h4] at ia ⊢ <;> simp only [Bool.false_eq_true, if_false] at ia ⊢ <;> omega
  | hand a b =>
    have ia := ih a (by simp [sz]; omega)
    have ib := ih b (by simp [sz]; omega)
    rw [S_hand]
    generalize S a = x at ia
    cases x <;> simp only [sHand] <;> (try split) <;> simp only [hov, ct_hand] at ia ⊢ <;> omega
  | par a b =>
    have ia := ih a (by simp [sz]; omega)
    have ib := ih b (by simp [sz]; omega)
    rw [S_par, ct_par, h5]
    generalize S a = x at ia ⊢
    generalize S b = y at ib ⊢
    cases x <;> simp only [sPar] <;> (try simp only [ct_par, h5] at ia) <;> (try (simp only [ct_par, h5] <;> omega))
    · cases y <;> simp only [] <;> simp only [hov, ct_par, h5] at ia ib ⊢ <;> omega
    · cases y <;> simp only [] <;> simp only [ct_fin, ct_par, h2, h5] at ia ib ⊢ <;> simp only [Bool.false_eq_true, if_false] at ia ib ⊢ <;> omega
  | block a =>
    have ia := ih a (by simp [sz])
    have hs := S_sz a
    rw [S_block]
    generalize S a = x at ia hs
    cases x with
    | fin s c =>
      simp only [sBlock]
      simp only [sz] at hs
      have ic := ih c (by simp [sz]; omega)
      rw [ct_fin, h2] at ia
      simp only [Bool.false_eq_true, if_false] at ia
      split
      · simp only [hov, ct_block]; omega
      · split
        · simp only [ct_block]; omega
        · simp only [ct_block, ct_fin, h2, Bool.false_eq_true, if_false]; omega
    | _ => (try simp only [ct_block] at ia); simp only [sBlock, ct_block]; omega
  | going a b =>
    have ia := ih a (by simp [sz]; omega)
    rw [S_going, ct_going, h6]
    generalize S a = x at ia
    cases x <;> simp only [sGoing] <;> (try split) <;> simp only [hov, hsk, ct_going, ct_fin, h2, h6] at ia ⊢ <;> (try simp only [Bool.false_eq_true, if_false]) <;> omega
  | stack a b =>
    have ia := ih a (by simp [sz]; omega)
    rw [S_stack, ct_stack, h7, hst]
    omega
end Go.Proofs.YtgaediondmdnbaaGreat.Se

namespace Go.Proofs.YtgaediondmdnbaaGreat.Tr
open Go Go.RowKit
set_option maxRecDepth 20000

/-- The rest behind the first of a slice of texts. -/
theorem slice1 (b o k c : Nat) (w : World) : (Instr.slice 52 (.slice (some ⟨b, o, none⟩) (k + 1) c) (some (.int .i64 1)) none none).run Tryz.prog w = .ok (.slice (some ⟨b, if c = 1 then o else o + 1, none⟩) k (c - 1)) w := by
  have hu := Tryz.underlying52
  have h1 : (1 : Int) ≤ (k : Int) + 1 := by omega
  by_cases hc : c = 1 <;> simp [go_sem, hu, h1, hc]

end Go.Proofs.YtgaediondmdnbaaGreat.Tr

namespace Go.Proofs.YtgaediondmdnbaaGreat.Se
open Go Go.RowKit Go.Proofs.YtgaediondmdnbaaGreat.Rw Go.Proofs.YtgaediondmdnbaaGreat.So
set_option maxRecDepth 20000

theorem kd14 {a : Tm} (h : kd a = 14) : ∃ s c, a = .fin s c := by
  cases a <;> first | exact ⟨_, _, rfl⟩ | simp [kd, flat, hd, nOf] at h
theorem kd11 {a : Tm} (h : kd a = 11) : ∃ s, a = .over s := by
  cases a <;> first | exact ⟨_, rfl⟩ | simp [kd, flat, hd, nOf] at h
theorem stk_other {a d : Tm} (h : kd a ≠ 14) : stk a d = .stack a d := by
  cases a <;> first | rfl | exact absurd rfl h
end Go.Proofs.YtgaediondmdnbaaGreat.Se

namespace Go.Proofs.YtgaediondmdnbaaGreat.Tr
open Go Go.RowKit
set_option maxRecDepth 20000

theorem below2 (w : World) (x y : Obj) : Below w.heap.size w ((w.alloc x).alloc y) := ((Below.refl _ _).alloc (Nat.le_refl _) x).alloc (by simp) y
theorem map_snoc {α β : Type} (f : α → β) (rs : List α) (k : Nat) (h : k < rs.length) : (rs.take (k + 1)).map f = (rs.take k).map f ++ [f rs[k]] := by
  rw [List.take_succ_eq_append_getElem h, List.map_append]
  rfl

end Go.Proofs.YtgaediondmdnbaaGreat.Tr

namespace Go.Proofs.YtgaediondmdnbaaGreat.Se
open Go Go.RowKit Go.Proofs.YtgaediondmdnbaaGreat.Rw Go.Proofs.YtgaediondmdnbaaGreat.So
set_option maxRecDepth 20000

theorem sPar_11 {s : Int} {d : Tm} (h : kd d ≠ 11) : sPar (.over s) d = .par (.over s) d := by cases d <;> first | rfl | exact absurd rfl h
theorem sPar_14 {s : Int} {c d : Tm} (h : kd d ≠ 14) : sPar (.fin s c) d = .par (.fin s c) d := by cases d <;> first | rfl | exact absurd rfl h
theorem sPar_no {a d : Tm} (h1 : kd a ≠ 11) (h2 : kd a ≠ 14) : sPar a d = .par a d := by cases a <;> first | rfl | exact absurd rfl h1 | exact absurd rfl h2
theorem not14 {a : Tm} (h : is a 3 = true) : kd a ≠ 14 := fun e => by
  obtain ⟨s, c, rfl⟩ := kd14 e
  simp [is] at h
end Go.Proofs.YtgaediondmdnbaaGreat.Se

namespace Go.Proofs.YtgaediondmdnbaaGreat.Tr
open Go Go.RowKit
set_option maxRecDepth 20000

/-- All traces of two, side by side. -/
def pr (p q : Tr) : List Tr := norm ((mx 19 p.a q.a).map fun r => ⟨r, Sg.both p.e q.e⟩)
/-- All rows of two. -/
def mix (a b : List ByteArray) : List (List ByteArray) := (pr ⟨a, 1⟩ ⟨b, 1⟩).map (·.a)
theorem pr_len (p q : Tr) : (pr p q).length ≤ 524288 := by
  refine Nat.le_trans (length_norm _) ?_
  rw [List.length_map]
  exact Nat.le_trans (mx_len _ _ _) (by decide)

end Go.Proofs.YtgaediondmdnbaaGreat.Tr

namespace Go.Proofs.YtgaediondmdnbaaGreat.Se
open Go Go.RowKit Go.Proofs.YtgaediondmdnbaaGreat.Rw Go.Proofs.YtgaediondmdnbaaGreat.So
set_option maxRecDepth 20000

/-- A row that is this tree, in blocks from base on. -/
def NdO (base : Nat) (w : World) (v : Value) (t : Tm) : Prop := Ap.RdO (fun g => base ≤ g) w 3 v (flat t).length (cls (flat t))
theorem NdO.nds {base : Nat} {w : World} {v : Value} {t : Tm} (h : NdO base w v t) : Nds w v (flat t) := Ap.RdO.rd h
theorem NdO.below {base : Nat} {w w' : World} {v : Value} {t : Tm} (h : NdO base w v t) (hb : Below w.heap.size w w') : NdO base w' v t := Ap.RdO.below h hb
theorem NdO.more {base base' : Nat} {w : World} {v : Value} {t : Tm} (h : NdO base w v t) (hb : base' ≤ base) : NdO base' w v t := Ap.RdO.imp h fun _ _ h => Nat.le_trans hb h
/-- A call that tells a row which is this tree, in blocks from base on. -/
def OutB (base : Nat) (t : Tm) (w : World) (e : Ending) (w' : World) : Prop := ∃ y, e = .returned y ∧ NdO base w' y t ∧ Below w.heap.size w w'
def nml : List Nd → ByteArray
  | [] => ⟨#[]⟩
  | n :: _ => n.n
def nmT (t : Tm) : ByteArray := nml (flat t)
theorem at0n {l : List Nd} (h : 0 < l.length) : l[0].n = nml l := by
  cases l with
  | nil => simp at h
  | cons n r => rfl
theorem form3 {w : World} {v : Value} {t : Tm} (hv : Nds w v (flat t)) : ∃ b o c, v = .slice (some ⟨b, o, none⟩) (sz t) c ∧ sz t ≤ c ∧ b < w.heap.size ∧ (∀ w', Below w.heap.size w w' → w'.cell? ⟨b, o, none⟩ = some (.int .i64 (kd t)) ∧ w'.cell? ⟨b, o + 1, none⟩ = some (.string (nmT t)) ∧ w'.cell? ⟨b, o + 2, none⟩ = some (.int .i64 (sg t))) ∧ At w b o (flat t) := by
  obtain ⟨b, o, c, rfl, hc, hlt, hw, hat⟩ := form hv
  refine ⟨b, o, c, rfl, hc, hlt, fun w' hb => ⟨(hw w' hb).1, ?_, (hw w' hb).2⟩, hat⟩
  have hp := sz_pos t
  have hl := flat_len t
  have h2 := (hat 0 (by omega)).2.1
  rw [Nat.zero_mul, Nat.add_zero] at h2
  rw [hb.cell (p := ⟨b, o + 1, none⟩) hlt, h2]
  rw [at0n (by omega)]
  rfl
theorem eq_ndP (x y : Nd) (w : World) : (binOp .eql 42 (.agg #[.int .i64 x.k, .string x.n, .int .i64 x.s]) (.agg #[.int .i64 y.k, .string y.n, .int .i64 y.s])).run Tryz.prog w = .ok (.bool (decide (x = y))) w := by
  rw [run_eql_struct, show (10000 : Nat) = 9998 + 2 from rfl, eql_nd]
  rfl
/-- A node against one without a name. -/
theorem eq_bare (k s j r : Int) (n : ByteArray) (w : World) : (binOp .eql 42 (.agg #[.int .i64 k, .string n, .int .i64 s]) (.agg #[.int .i64 j, .string ⟨#[]⟩, .int .i64 r])).run Tryz.prog w = .ok (.bool (decide ((⟨k, n, s⟩ : Nd) = ⟨j, ⟨#[]⟩, r⟩))) w := eq_ndP ⟨k, n, s⟩ ⟨j, ⟨#[]⟩, r⟩ w
theorem overP_any (s : Int) (w : World) : Calls Tryz.prog 60 #[.int .i64 s] w fun e w' => e = .returned (.agg #[.int .i64 11, .string ⟨#[]⟩, .int .i64 s]) ∧ Below w.heap.size w w' := by
  go_enter Tryz.func60, Tryz.ntmps60
  go_wp2_with fail
  refine bodyPost_ret (v := .agg #[.int .i64 11, .string ⟨#[]⟩, .int .i64 s]) (by simp [results, Tryz.results60, go_sem]) rfl ⟨rfl, ?_⟩
  exact below1 w _
theorem endP_any (s : Int) (w : World) : Calls Tryz.prog 104 #[.int .i64 s] w fun e w' => e = .returned (.agg #[.int .i64 14, .string ⟨#[]⟩, .int .i64 s]) ∧ Below w.heap.size w w' := by
  go_enter Tryz.func104, Tryz.ntmps104
  go_wp2_with fail
  refine bodyPost_ret (v := .agg #[.int .i64 14, .string ⟨#[]⟩, .int .i64 s]) (by simp [results, Tryz.results104, go_sem]) rfl ⟨rfl, ?_⟩
  exact below1 w _
/-- How many of a node's trees go on. -/
def goK (k : Int) : Int := if k = 7 then 2 else if k = 5 ∨ k = 8 ∨ k = 9 ∨ k = 12 ∨ k = 13 then 1 else 0
set_option maxHeartbeats 2000000 in
theorem goOn_any (t : Tm) (w : World) : Calls Tryz.prog 35 #[.int .i64 (kd t)] w fun e w' => e = .returned (.int .i64 (goK (kd t))) ∧ w = w' := by
  have hk := kinds (tre_flat t).ar
  change kd t = 1 ∨ kd t = 2 ∨ kd t = 3 ∨ kd t = 4 ∨ kd t = 5 ∨ kd t = 6 ∨ kd t = 7 ∨ kd t = 8 ∨ kd t = 9 ∨ kd t = 10 ∨ kd t = 11 ∨ kd t = 12 ∨ kd t = 13 ∨ kd t = 14 at hk
  generalize kd t = k at hk
  rcases hk with rfl | rfl | rfl | rfl | rfl | rfl | rfl | rfl | rfl | rfl | rfl | rfl | rfl | rfl
  all_goals go_enter Tryz.func35, Tryz.ntmps35
  all_goals go_wp2_with fail
  all_goals go_ret
  all_goals exact ⟨rfl, rfl⟩
theorem rws_two {w : World} {y1 y2 : Value} {l1 l2 : List Nd} (h1 : Nds w y1 l1) (h2 : Nds w y2 l2) (ty : TypeId) : Rws (w.alloc (.cells #[y1, y2] ty)) (.slice (some ⟨w.heap.size, 0, none⟩) 2 2) [l1, l2] := by
  refine ⟨[y1, y2], ⟨rfl, _, 2, rfl, Nat.le_refl _, fun h => (by cases h), fun _ => ⟨w.heap.size, 0, rfl, fun j u hu => ?_⟩⟩, h1.below (below1 w _), h2.below (below1 w _), trivial⟩
  match j, hu with
  | 0, hu => simp at hu; subst hu; simp
  | 1, hu => simp at hu; subst hu; simp
  | j + 2, hu => simp at hu
theorem rws_one {w : World} {y1 : Value} {l1 : List Nd} (h1 : Nds w y1 l1) (ty : TypeId) : Rws (w.alloc (.cells #[y1] ty)) (.slice (some ⟨w.heap.size, 0, none⟩) 1 1) [l1] := by
  refine ⟨[y1], ⟨rfl, _, 1, rfl, Nat.le_refl _, fun h => (by cases h), fun _ => ⟨w.heap.size, 0, rfl, fun j u hu => ?_⟩⟩, h1.below (below1 w _), trivial⟩
  match j, hu with
  | 0, hu => simp at hu; subst hu; simp
  | j + 1, hu => simp at hu
theorem rws_none (w : World) : Rws w (.slice none 0 0) [] := ⟨[], ⟨rfl, none, 0, rfl, Nat.le_refl _, fun _ => ⟨rfl, rfl⟩, fun h => absurd h (Nat.lt_irrefl 0)⟩, trivial⟩
/-- What Make makes: in a row of the call's own. -/
theorem mkP (base : Nat) (x : Nd) (ls : List (List Nd)) (t : Tm) (h : flat t = x :: ls.flatten) (v : Value) (w : World) (hv : Rws w v ls) (hl : ls.length ≤ 2) (hs : sz t ≤ 1000) (hb : base ≤ w.heap.size) :
    Calls Tryz.prog 59 #[.agg #[.int .i64 x.k, .string x.n, .int .i64 x.s], v] w (OutB base t w) := by
  have e := flat_len t
  rw [h, List.length_cons] at e
  refine (Rx.makeP_any x v ls w hv (by omega) (by omega)).mono ?_
  rintro e w1 ⟨y, rfl, hn, hb1⟩
  refine ⟨y, rfl, ?_, hb1⟩
  unfold NdO
  rw [h]
  exact Ap.RdO.imp hn fun _ _ h => Nat.le_trans hb h
theorem mkP0 (base : Nat) (k s : Int) (t : Tm) (h : flat t = [⟨k, ⟨#[]⟩, s⟩]) (w : World) (hb : base ≤ w.heap.size) :
    Calls Tryz.prog 59 #[.agg #[.int .i64 k, .string ⟨#[]⟩, .int .i64 s], .slice none 0 0] w (OutB base t w) :=
  mkP base ⟨k, ⟨#[]⟩, s⟩ [] t h _ w (rws_none w) (by simp) (by have := flat_len t; rw [h] at this; simp at this; omega) hb
theorem mkP1 (base : Nat) (k s : Int) (t a : Tm) (h : flat t = ⟨k, ⟨#[]⟩, s⟩ :: flat a) (v : Value) (w : World) (ty : TypeId) (ha : Nds w v (flat a)) (hs : sz t ≤ 1000) (hb : base ≤ w.heap.size) :
    Calls Tryz.prog 59 #[.agg #[.int .i64 k, .string ⟨#[]⟩, .int .i64 s], .slice (some ⟨w.heap.size, 0, none⟩) 1 1] (w.alloc (.cells #[v] ty)) (OutB base t w) := by
  refine (mkP base ⟨k, ⟨#[]⟩, s⟩ [flat a] t (by rw [h]; simp) _ _ (rws_one ha ty) (by simp) hs (by simp; omega)).mono ?_
  rintro e w1 ⟨y, rfl, hn, hb1⟩
  exact ⟨y, rfl, hn, (below1 w _).trans (hb1.mono (below1 w _).size)⟩
theorem mkP2 (base : Nat) (k s : Int) (t a b : Tm) (h : flat t = ⟨k, ⟨#[]⟩, s⟩ :: (flat a ++ flat b)) (v u : Value) (w : World) (ty : TypeId) (ha : Nds w v (flat a)) (hu : Nds w u (flat b)) (hs : sz t ≤ 1000) (hb : base ≤ w.heap.size) :
    Calls Tryz.prog 59 #[.agg #[.int .i64 k, .string ⟨#[]⟩, .int .i64 s], .slice (some ⟨w.heap.size, 0, none⟩) 2 2] (w.alloc (.cells #[v, u] ty)) (OutB base t w) := by
  refine (mkP base ⟨k, ⟨#[]⟩, s⟩ [flat a, flat b] t (by rw [h]; simp) _ _ (rws_two ha hu ty) (by simp) hs (by simp; omega)).mono ?_
  rintro e w1 ⟨y, rfl, hn, hb1⟩
  exact ⟨y, rfl, hn, (below1 w _).trans (hb1.mono (below1 w _).size)⟩
theorem mkP2d (base : Nat) (k s : Int) (t a b : Tm) (h : flat t = ⟨k, ⟨#[]⟩, s⟩ :: (flat a ++ flat b)) (v u : Value) (w : World) (ty : TypeId) (ha : Nds w v (flat a)) (hu : Nds w u (flat b)) (hs : sz t ≤ 1000) (hb : base ≤ w.heap.size) :
    Calls Tryz.prog 59 #[.agg #[.int .i64 k, .string ⟨#[]⟩, .int .i64 s], .slice (some ⟨w.heap.size, 0, none⟩) 2 2] (w.alloc (.cells #[v, u] ty)).drew (OutB base t w) := by
  refine (mkP base ⟨k, ⟨#[]⟩, s⟩ [flat a, flat b] t (by rw [h]; simp) _ _ ((rws_two ha hu ty).below (Below.refl _ _).drew) (by simp) hs (by simp; omega)).mono ?_
  rintro e w1 ⟨y, rfl, hn, hb1⟩
  exact ⟨y, rfl, hn, (below1 w _).drew.trans (hb1.mono (below1 w _).drew.size)⟩
theorem mkPr (base : Nat) (k s : Int) (t a b : Tm) (h : flat t = ⟨k, ⟨#[]⟩, s⟩ :: (flat a ++ flat b)) (v : Value) (w : World) (hv : Rws w v [flat a, flat b]) (hs : sz t ≤ 1000) (hb : base ≤ w.heap.size) :
    Calls Tryz.prog 59 #[.agg #[.int .i64 k, .string ⟨#[]⟩, .int .i64 s], v] w (OutB base t w) := mkP base ⟨k, ⟨#[]⟩, s⟩ [flat a, flat b] t (by rw [h]; simp) v w hv (by simp) hs hb
/-- A node in a box. -/
theorem box_cells (w : World) (k s : Int) (nm : ByteArray) (ty : TypeId) : ∀ w1, Below (w.alloc (.cells #[.int .i64 k, .string nm, .int .i64 s] ty)).heap.size (w.alloc (.cells #[.int .i64 k, .string nm, .int .i64 s] ty)) w1 → w1.cell? ⟨w.heap.size, 0, none⟩ = some (.int .i64 k) ∧ w1.cell? ⟨w.heap.size, 1, none⟩ = some (.string nm) ∧ w1.cell? ⟨w.heap.size, 2, none⟩ = some (.int .i64 s) := by
  intro w1 hb
  rw [hb.cell (p := ⟨w.heap.size, 0, none⟩) (by simp), hb.cell (p := ⟨w.heap.size, 1, none⟩) (by simp), hb.cell (p := ⟨w.heap.size, 2, none⟩) (by simp)]
  simp [go_sem]
/-- What the walk of settled is asked of shorter trees. -/
abbrev PS (t : Tm) : Prop := ∀ (v : Value) (w : World), Nds w v (flat t) → Calls Tryz.prog 21 #[v] w (OutB w.heap.size (S t) w)
end Go.Proofs.YtgaediondmdnbaaGreat.Se

namespace Go.Proofs.YtgaediondmdnbaaGreat.Tr
open Go

theorem mem_pr {p q t : Tr} (h : t ∈ pr p q) : t.a ∈ mx 19 p.a q.a ∧ t.e = Sg.both p.e q.e := by
  unfold pr at h
  obtain ⟨r, hr, rfl⟩ := List.mem_map.1 ((mem_norm _ _).1 h)
  exact ⟨hr, rfl⟩
theorem mix_len (a b : List ByteArray) : (mix a b).length ≤ 524288 := by unfold mix; rw [List.length_map]; exact pr_len _ _
end Go.Proofs.YtgaediondmdnbaaGreat.Tr

namespace Go.Proofs.YtgaediondmdnbaaGreat.Tr
open Go Go.RowKit
set_option maxRecDepth 20000

/-- Below 0, 0, above 0. -/
def sgn (c : Int) : Int := if c < 0 then -1 else if 0 < c then 1 else 0
/-- A row of the call's own that may be written into. -/
def Mine (base : Nat) (w : World) (v : Value) (l : List ByteArray) : Prop :=
  StrsO (fun b => base ≤ b) w v l ∧ ∀ b off cap, v = .slice (some ⟨b, off, none⟩) l.length cap → ∀ j, j < l.length → w.frozen? ⟨b, off + j, none⟩ = false
def SetPost (l : List Tr) (w : World) (e : Ending) (w' : World) : Prop := ∃ v, e = .returned v ∧ Trs w' v l ∧ Below w.heap.size w w'
def ThnPost (t : Tr) (w : World) (e : Ending) (w' : World) : Prop := ∃ v, e = .returned (.agg #[v, .int .i64 t.e]) ∧ Mine w.heap.size w' v t.a ∧ Below w.heap.size w w'

/-- Texts as the statements name them. -/
abbrev bA : ByteArray := ⟨#[97]⟩
abbrev bB : ByteArray := ⟨#[98]⟩
abbrev bC : ByteArray := ⟨#[99]⟩
end Go.Proofs.YtgaediondmdnbaaGreat.Tr
