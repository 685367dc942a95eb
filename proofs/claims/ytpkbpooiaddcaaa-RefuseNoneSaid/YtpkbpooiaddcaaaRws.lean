/- The document's Same over rows of nodes. -/
import Derived.Test.YtpkbpooiaddcaaaRwsa
import Derived.Deep.QuietTactic
import Derived.BigQuiet
namespace Go.Proofs.Ytpkbpooiaddcaaa.Rw
open Go Go.RowKit
set_option maxRecDepth 20000

/-- Are two rows the same? -/
def sameN (l m : List Nd) : Bool := decide (l = m)
theorem sameN_len {l m : List Nd} (h : l.length ≠ m.length) : sameN l m = false := decide_eq_false fun e => h (by rw [e])
theorem sameN_at {l m : List Nd} {k : Nat} (h1 : k < l.length) (h2 : k < m.length) : sameN (l.drop k) (m.drop k) = (decide (l[k] = m[k]) && sameN (l.drop (k + 1)) (m.drop (k + 1))) := by
  unfold sameN
  rw [List.drop_eq_getElem_cons h1, List.drop_eq_getElem_cons h2, Bool.eq_iff_iff]
  simp only [decide_eq_true_eq, Bool.and_eq_true, List.cons.injEq]
set_option maxHeartbeats 400000 in
theorem sameN_other (a1 a2 : Option Addr) (c1 c2 n m : Nat) (w : World) (h : n ≠ m) :
    Calls Try.prog 12 #[.slice a1 n c1, .slice a2 m c2] w fun e w' => e = .returned (.bool false) ∧ Below w.heap.size w w' := by
  have hne : ((n : Int) == (m : Int)) = false := by rw [beq_eq_false_iff_ne]; omega
  have hne' : ((n : Int) != (m : Int)) = true := by rw [bne_iff_ne]; omega
  go_enter Try.func12, Try.ntmps12
  go_wp2_with fail
  go_ret
  exact ⟨rfl, Below.refl _ _⟩
set_option maxHeartbeats 400000 in
theorem sameN_empty (a1 a2 : Option Addr) (c1 c2 : Nat) (w : World) :
    Calls Try.prog 12 #[.slice a1 0 c1, .slice a2 0 c2] w fun e w' => e = .returned (.bool true) ∧ Below w.heap.size w w' := by
  go_enter Try.func12, Try.ntmps12
  go_wp2_with fail
  refine Go.wp_loop_rounds 1 ?_
  rw [rounds_succ]
  go_wp2_with fail
  go_ret
  exact ⟨rfl, Below.refl _ _⟩
set_option maxHeartbeats 2000000 in
theorem sameN_cells (b1 o1 c1 b2 o2 c2 : Nat) (l m : List Nd) (w : World) (hl : l.length ≤ 1000000) (he : m.length = l.length) (h1 : At w b1 o1 l) (h2 : At w b2 o2 m) :
    Calls Try.prog 12 #[.slice (some ⟨b1, o1, none⟩) l.length c1, .slice (some ⟨b2, o2, none⟩) l.length c2] w fun e w' => e = .returned (.bool (sameN l m)) ∧ Below w.heap.size w w' := by
  have H1 := Lib.hid h1
  have H2 := Lib.hid h2
  have HE := Lib.hid he
  clear h1 h2 he
  go_enter Try.func12, Try.ntmps12
  go_wp2_with fail
  go_loopw [5] (fun i wr => ∃ k : Nat, k ≤ l.length ∧ i = .int .i64 k ∧ Below w.heap.size w wr ∧ sameN l m = sameN (l.drop k) (m.drop k)) (fun i _ => l.length - (intOf i).toNat)
  case atStart => exact ⟨0, Nat.zero_le _, rfl, Below.refl _ _, rfl⟩
  case round =>
    obtain ⟨k, hk, rfl, hb, hsame⟩ := hrel
    have HB := Lib.hid hb
    have HS := Lib.hid hsame
    clear hb hsame
    by_cases hlt : k < l.length
    · have hlt2 : k < m.length := by rw [HE.out]; exact hlt
      obtain ⟨e1, e2, e3⟩ := H1.out k hlt
      obtain ⟨e1', e2', e3'⟩ := H2.out k hlt2
      have d1 : wr.cell? ⟨b1, o1 + k * 3, none⟩ = some (.int .i64 l[k].k) := by rw [HB.out.cell (Ap.cell_lt e1)]; exact e1
      have d2 : wr.cell? ⟨b1, o1 + k * 3 + 1, none⟩ = some (.string l[k].n) := by rw [HB.out.cell (Ap.cell_lt e2)]; exact e2
      have d3 : wr.cell? ⟨b1, o1 + k * 3 + 2, none⟩ = some (.int .i64 l[k].s) := by rw [HB.out.cell (Ap.cell_lt e3)]; exact e3
      have d4 : wr.cell? ⟨b2, o2 + k * 3, none⟩ = some (.int .i64 m[k].k) := by rw [HB.out.cell (Ap.cell_lt e1')]; exact e1'
      have d5 : wr.cell? ⟨b2, o2 + k * 3 + 1, none⟩ = some (.string m[k].n) := by rw [HB.out.cell (Ap.cell_lt e2')]; exact e2'
      have d6 : wr.cell? ⟨b2, o2 + k * 3 + 2, none⟩ = some (.int .i64 m[k].s) := by rw [HB.out.cell (Ap.cell_lt e3')]; exact e3'
      have HA := Lib.hid (HS.out.trans (sameN_at hlt hlt2))
      clear e1 e2 e3 e1' e2' e3'
      obtain ⟨u, hu⟩ : ∃ u, l[k] = u := ⟨_, rfl⟩
      obtain ⟨v, hv⟩ : ∃ v, m[k] = v := ⟨_, rfl⟩
      rw [hu] at d1 d2 d3 HA
      rw [hv] at d4 d5 d6 HA
      clear hu hv
      have hq := neq_nd u v
      by_cases huv : u = v
      · rw [decide_eq_true huv] at hq
        have HV := Lib.hid huv
        clear huv
        go_wp2_with fail
        go_quiet (fail)
        go_wp2_with fail
        go_roundw
        case rel => exact ⟨k + 1, by omega, by go_num, HB.out.trans (Below.drewN _ _ _), by rw [HA.out, decide_eq_true HV.out, Bool.true_and]⟩
        case measure => simp [intOf]; omega
      · rw [decide_eq_false huv] at hq
        have HV := Lib.hid huv
        clear huv
        go_wp2_with fail
        go_quiet (fail)
        go_wp2_with fail
        go_ret
        exact ⟨ret_bool (by rw [HA.out, decide_eq_false HV.out, Bool.false_and]), HB.out.trans (Below.drewN _ _ _)⟩
    · go_wp2_with fail
      go_ret
      refine ⟨ret_bool ?_, HB.out⟩
      rw [HS.out, List.drop_eq_nil_of_le (by omega), List.drop_eq_nil_of_le (by rw [HE.out]; omega)]
      rfl
theorem sameR_any (x y : Value) (l m : List Nd) (w : World) (hx : Nds w x l) (hy : Nds w y m) (hl : l.length ≤ 1000000) :
    Calls Try.prog 12 #[x, y] w fun e w' => e = .returned (.bool (sameN l m)) ∧ Below w.heap.size w w' := by
  by_cases he : l.length = m.length
  · rcases hx.form with ⟨rfl, a, cap, rfl⟩ | ⟨b, off, cap, rfl, _, hc⟩
    · obtain rfl : m = [] := List.eq_nil_of_length_eq_zero he.symm
      obtain ⟨_, a', cap', rfl, _⟩ := hy
      exact sameN_empty a a' cap cap' w
    · rcases hy.form with ⟨rfl, a', cap', rfl⟩ | ⟨b', off', cap', rfl, _, hc'⟩
      · obtain rfl : l = [] := List.eq_nil_of_length_eq_zero he
        exact sameN_empty _ a' cap cap' w
      · rw [← he]
        exact sameN_cells b off cap b' off' cap' l m w hl he.symm hc hc'
  · rw [sameN_len he]
    obtain ⟨_, a, cap, rfl, _⟩ := hx
    obtain ⟨_, a', cap', rfl, _⟩ := hy
    exact sameN_other a a' cap cap' l.length m.length w he

end Go.Proofs.Ytpkbpooiaddcaaa.Rw
