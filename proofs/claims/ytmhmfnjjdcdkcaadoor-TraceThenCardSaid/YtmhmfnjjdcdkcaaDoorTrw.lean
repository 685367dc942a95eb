/- Rows of actions in memory; how one row stands to another, and which of two traces comes ahead, by the document's own answer. -/
import Derived.Test.YtmhmfnjjdcdkcaaDoorProg
import Derived.Test.YtmhmfnjjdcdkcaaDoorAp
import Derived.Test.YtmhmfnjjdcdkcaaDoorTrm
import Derived.WalkKit
import Derived.WalkSpells
import Derived.WalkLawsBesides
import Derived.Lib.Hide
import Derived.Deep.QuietTactic
import Derived.BigQuiet
import Derived.LoopN
namespace Go.Proofs.YtmhmfnjjdcdkcaaDoor.Tr
open Go Go.RowKit
set_option maxRecDepth 20000

/-- A slice of texts that reads as these. -/
def Strs (w : World) (v : Value) (l : List ByteArray) : Prop := Ap.Rd w 1 v l.length (l.map .string)

theorem Strs.below {w w' : World} {v : Value} {l : List ByteArray} (h : Strs w v l) (hb : Below w.heap.size w w') : Strs w' v l := Ap.Rd.below h hb
theorem Below.drewN (B n : Nat) (w : World) : Below B w (w.drewN n) := by
  induction n with
  | zero => exact Below.refl _ _
  | succ n ih => exact ih.drew
theorem Strs.form {w : World} {v : Value} {l : List ByteArray} (h : Strs w v l) :
    (l = [] ∧ ∃ a cap, v = .slice a 0 cap) ∨ ∃ b off cap, v = .slice (some ⟨b, off, none⟩) l.length cap ∧ ∀ k, (h : k < l.length) → w.cell? ⟨b, off + k, none⟩ = some (.string l[k]) := by
  obtain ⟨_, a, cap, rfl, _, _, hcell⟩ := h
  by_cases h0 : 0 < l.length
  · obtain ⟨b, off, rfl, hj⟩ := hcell h0
    exact Or.inr ⟨b, off, cap, rfl, fun k hk => hj k _ (by simp [hk])⟩
  · have : l = [] := List.eq_nil_of_length_eq_zero (by omega)
    subst this
    exact Or.inl ⟨rfl, a, cap, rfl⟩

theorem ret_int {k : IntKind} {a b : Int} (h : a = b) : Ending.returned (.int k a) = .returned (.int k b) := congrArg (fun z => Ending.returned (.int k z)) h
theorem ret_bool {a b : Bool} (h : a = b) : Ending.returned (.bool a) = .returned (.bool b) := by rw [h]

theorem row_at (l m : List ByteArray) (k : Nat) (h1 : k < l.length) (h2 : k < m.length) :
    row (l.drop k) (m.drop k) = if ls l[k] m[k] then -1 else if ls m[k] l[k] then 1 else row (l.drop (k + 1)) (m.drop (k + 1)) := by
  rw [List.drop_eq_getElem_cons h1, List.drop_eq_getElem_cons h2, row_cons]
theorem row_end (l m : List ByteArray) (k : Nat) (h1 : k ≤ l.length) (h2 : k ≤ m.length) (h : ¬ k < l.length ∨ ¬ k < m.length) :
    row (l.drop k) (m.drop k) = (l.length : Int) - m.length := by
  rcases h with h | h
  · rw [List.drop_eq_nil_of_le (by omega), row_nil_l, List.length_drop]; omega
  · rw [show m.drop k = [] from List.drop_eq_nil_of_le (by omega), row_nil_r, List.length_drop]; omega
theorem eq_of_ls {x y : ByteArray} (h : ls x y = false) : (x.toList == y.toList) = !ls y x := by
  cases h2 : ls y x with
  | true =>
    rw [Bool.not_true, beq_eq_false_iff_ne]
    intro e
    rw [toList_inj e, ls_irrefl] at h2
    cases h2
  | false => rw [ls_tri h h2]; simp

set_option maxHeartbeats 1000000 in
theorem row_cells (b1 o1 c1 b2 o2 c2 : Nat) (l m : List ByteArray) (w : World) (hl : l.length ≤ 1000000) (hm : m.length ≤ 1000000)
    (h1 : ∀ k, (h : k < l.length) → w.cell? ⟨b1, o1 + k, none⟩ = some (.string l[k])) (h2 : ∀ k, (h : k < m.length) → w.cell? ⟨b2, o2 + k, none⟩ = some (.string m[k])) :
    Calls Tryd.prog 36 #[.slice (some ⟨b1, o1, none⟩) l.length c1, .slice (some ⟨b2, o2, none⟩) m.length c2] w fun e w' => e = .returned (.int .i64 (row l m)) ∧ ∃ n, w' = w.drewN n := by
  have H1 := Lib.hid h1
  have H2 := Lib.hid h2
  clear h1 h2
  go_enter Tryd.func36, Tryd.ntmps36
  go_wp2_with fail
  go_loopw [5] (fun i wr => ∃ k n : Nat, k ≤ l.length ∧ k ≤ m.length ∧ i = .int .i64 k ∧ wr = w.drewN n ∧ row l m = row (l.drop k) (m.drop k)) (fun i _ => l.length - (intOf i).toNat)
  case atStart => exact ⟨0, 0, Nat.zero_le _, Nat.zero_le _, rfl, rfl, rfl⟩
  case round =>
    obtain ⟨k, n, hk1, hk2, rfl, rfl, hrow⟩ := hrel
    have HROW := Lib.hid hrow
    clear hrow
    by_cases hlt : k < l.length
    · by_cases hlt2 : k < m.length
      · have e1 := H1.out k hlt
        have e2 := H2.out k hlt2
        have HA := Lib.hid (HROW.out.trans (row_at l m k hlt hlt2))
        cases hx : ls l[k] m[k] with
        | true =>
          have hx' : Op.bytesLess l[k].toList m[k].toList = true := hx
          have HX := Lib.hid hx
          clear hx
          go_wp2_with fail
          go_quiet (fail)
          go_wp2_with fail
          go_ret
          exact ⟨ret_int (by rw [HA.out, HX.out]; rfl), _, World.drewN_drewN _ _ _⟩
        | false =>
          have hx' : Op.bytesLess l[k].toList m[k].toList = false := hx
          have hy' := eq_of_ls hx
          have HX := Lib.hid hx
          clear hx
          cases hy : ls m[k] l[k] with
          | true =>
            rw [hy] at hy'
            have HY := Lib.hid hy
            clear hy
            go_wp2_with fail
            go_quiet (fail)
            go_wp2_with fail
            go_quiet (fail)
            go_wp2_with fail
            go_ret
            exact ⟨ret_int (by rw [HA.out, HX.out, HY.out]; rfl), _, by rw [World.drewN_drewN, World.drewN_drewN]⟩
          | false =>
            rw [hy] at hy'
            have HY := Lib.hid hy
            clear hy
            go_wp2_with fail
            go_quiet (fail)
            go_wp2_with fail
            go_quiet (fail)
            go_wp2_with fail
            go_roundw
            case rel => exact ⟨k + 1, _, by omega, by omega, by go_num, rfl, by rw [HA.out, HX.out, HY.out]; rfl⟩
            case measure => simp [intOf]; omega
      · have g2 : decide (k < m.length) = false := by simpa using hlt2
        have HE := Lib.hid (HROW.out.trans (row_end l m k hk1 hk2 (.inr hlt2)))
        go_wp2_with fail
        go_ret
        exact ⟨ret_int HE.out.symm, _, rfl⟩
    · have g1 : decide (k < l.length) = false := by simpa using hlt
      have HE := Lib.hid (HROW.out.trans (row_end l m k hk1 hk2 (.inl hlt)))
      go_wp2_with fail
      go_ret
      exact ⟨ret_int HE.out.symm, _, rfl⟩

set_option maxHeartbeats 400000 in
theorem row_empty_l (a1 a2 : Option Addr) (c1 c2 n : Nat) (w : World) (hn : n ≤ 1000000) :
    Calls Tryd.prog 36 #[.slice a1 0 c1, .slice a2 n c2] w fun e w' => e = .returned (.int .i64 (- (n : Int))) ∧ ∃ n, w' = w.drewN n := by
  go_enter Tryd.func36, Tryd.ntmps36
  go_wp2_with fail
  refine Go.wp_loop_rounds 1 ?_
  rw [rounds_succ]
  go_wp2_with fail
  go_ret
  exact ⟨ret_int (by omega), 0, rfl⟩
set_option maxHeartbeats 400000 in
theorem row_empty_r (a1 a2 : Option Addr) (c1 c2 n : Nat) (w : World) (hn : n ≤ 1000000) (h0 : 0 < n) :
    Calls Tryd.prog 36 #[.slice a1 n c1, .slice a2 0 c2] w fun e w' => e = .returned (.int .i64 (n : Int)) ∧ ∃ n, w' = w.drewN n := by
  go_enter Tryd.func36, Tryd.ntmps36
  go_wp2_with fail
  refine Go.wp_loop_rounds 1 ?_
  rw [rounds_succ]
  go_wp2_with fail
  go_ret
  exact ⟨ret_int (by omega), 0, rfl⟩

theorem row_any (v1 v2 : Value) (l m : List ByteArray) (w : World) (h1 : Strs w v1 l) (h2 : Strs w v2 m) (hl : l.length ≤ 1000000) (hm : m.length ≤ 1000000) :
    Calls Tryd.prog 36 #[v1, v2] w fun e w' => e = .returned (.int .i64 (row l m)) ∧ ∃ n, w' = w.drewN n := by
  rcases h1.form with ⟨rfl, a1, c1, rfl⟩ | ⟨b1, o1, c1, rfl, hc1⟩
  · obtain ⟨_, a2, c2, rfl, _⟩ := h2
    rw [row_nil_l]
    exact row_empty_l a1 a2 c1 c2 m.length w hm
  · by_cases h0 : 0 < l.length
    · rcases h2.form with ⟨rfl, a2, c2, rfl⟩ | ⟨b2, o2, c2, rfl, hc2⟩
      · rw [row_nil_r]
        exact row_empty_r _ a2 c1 c2 l.length w hl h0
      · exact row_cells b1 o1 c1 b2 o2 c2 l m w hl hm hc1 hc2
    · obtain rfl : l = [] := List.eq_nil_of_length_eq_zero (by omega)
      obtain ⟨_, a2, c2, rfl, _⟩ := h2
      rw [row_nil_l]
      exact row_empty_l _ a2 c1 c2 m.length w hm

theorem row_bd (l m : List ByteArray) : - (m.length : Int) - 1 ≤ row l m ∧ row l m ≤ (l.length : Int) + 1 := by
  induction l generalizing m with
  | nil => rw [row_nil_l]; simp; omega
  | cons x l ih =>
    cases m with
    | nil => rw [row_nil_r]; simp; omega
    | cons y m =>
      rw [row_cons]
      have := ih m
      split
      · simp; omega
      · split
        · simp; omega
        · simp; omega
end Go.Proofs.YtmhmfnjjdcdkcaaDoor.Tr
