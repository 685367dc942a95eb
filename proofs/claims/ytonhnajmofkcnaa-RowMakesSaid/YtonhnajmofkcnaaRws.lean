/- The document's Same and Count over rows of nodes. -/
import Derived.Test.YtonhnajmofkcnaaRwv
import Derived.Deep.QuietTactic
import Derived.BigQuiet
import Derived.Laws.StructEq
namespace Go.Proofs.Ytonhnajmofkcnaa.Rw
open Go Go.RowKit
set_option maxRecDepth 20000

theorem nd_ext {x y : Nd} : x = y ↔ x.k = y.k ∧ x.n = y.n ∧ x.s = y.s := by
  cases x; cases y; simp
theorem eql_nd (d : Nat) (x y : Nd) (w : World) : (Op.equalIn (d + 2) 23 (.agg #[.int .i64 x.k, .string x.n, .int .i64 x.s]) (.agg #[.int .i64 y.k, .string y.n, .int .i64 y.s])).run Try.prog w = .ok (decide (x = y)) w := by
  rw [run_equalIn_struct w (d + 1) _ _ _ (by kernel_rfl) (by kernel_rfl)]
  simp only [Program.fieldsOf, Try.underlying23]
  by_cases h1 : x.k = y.k
  · by_cases h2 : x.n = y.n
    · by_cases h3 : x.s = y.s
      · rw [decide_eq_true (nd_ext.2 ⟨h1, h2, h3⟩), h1, h2, h3]
        simp [go_sem, Op.eqFields]
      · rw [decide_eq_false (fun e => h3 (nd_ext.1 e).2.2), h1, h2]
        simp [go_sem, Op.eqFields, h3]
    · have e2 : (x.n.toList == y.n.toList) = false := by
        rw [ByteArray.toList_eq y.n]
        exact str_ne' fun e => h2 (by rw [e])
      rw [decide_eq_false (fun e => h2 (nd_ext.1 e).2.1), h1]
      simp [go_sem, Op.eqFields, e2]
  · rw [decide_eq_false (fun e => h1 (nd_ext.1 e).1)]
    simp [go_sem, Op.eqFields, h1]
theorem neq_nd (x y : Nd) (w : World) : (binOp .neq 23 (.agg #[.int .i64 x.k, .string x.n, .int .i64 x.s]) (.agg #[.int .i64 y.k, .string y.n, .int .i64 y.s])).run Try.prog w = .ok (.bool (!decide (x = y))) w := by
  rw [run_neq_struct, show (10000 : Nat) = 9998 + 2 from rfl, eql_nd]
  rfl

/-- Are two rows the same? -/
def sameN (l m : List Nd) : Bool := decide (l = m)
theorem sameN_len {l m : List Nd} (h : l.length ≠ m.length) : sameN l m = false := decide_eq_false fun e => h (by rw [e])
theorem sameN_at {l m : List Nd} {k : Nat} (h1 : k < l.length) (h2 : k < m.length) : sameN (l.drop k) (m.drop k) = (decide (l[k] = m[k]) && sameN (l.drop (k + 1)) (m.drop (k + 1))) := by
  unfold sameN
  rw [List.drop_eq_getElem_cons h1, List.drop_eq_getElem_cons h2, Bool.eq_iff_iff]
  simp only [decide_eq_true_eq, Bool.and_eq_true, List.cons.injEq]
set_option maxHeartbeats 400000 in
theorem sameN_other (a1 a2 : Option Addr) (c1 c2 n m : Nat) (w : World) (h : n ≠ m) :
    Calls Try.prog 23 #[.slice a1 n c1, .slice a2 m c2] w fun e w' => e = .returned (.bool false) ∧ Below w.heap.size w w' := by
  have hne : ((n : Int) == (m : Int)) = false := by rw [beq_eq_false_iff_ne]; omega
  have hne' : ((n : Int) != (m : Int)) = true := by rw [bne_iff_ne]; omega
  go_enter Try.func23, Try.ntmps23
  go_wp2_with fail
  go_ret
  exact ⟨rfl, Below.refl _ _⟩
set_option maxHeartbeats 400000 in
theorem sameN_empty (a1 a2 : Option Addr) (c1 c2 : Nat) (w : World) :
    Calls Try.prog 23 #[.slice a1 0 c1, .slice a2 0 c2] w fun e w' => e = .returned (.bool true) ∧ Below w.heap.size w w' := by
  go_enter Try.func23, Try.ntmps23
  go_wp2_with fail
  refine Go.wp_loop_rounds 1 ?_
  rw [rounds_succ]
  go_wp2_with fail
  go_ret
  exact ⟨rfl, Below.refl _ _⟩
set_option maxHeartbeats 2000000 in
theorem sameN_cells (b1 o1 c1 b2 o2 c2 : Nat) (l m : List Nd) (w : World) (hl : l.length ≤ 1000000) (he : m.length = l.length) (h1 : At w b1 o1 l) (h2 : At w b2 o2 m) :
    Calls Try.prog 23 #[.slice (some ⟨b1, o1, none⟩) l.length c1, .slice (some ⟨b2, o2, none⟩) l.length c2] w fun e w' => e = .returned (.bool (sameN l m)) ∧ Below w.heap.size w w' := by
  have H1 := Lib.hid h1
  have H2 := Lib.hid h2
  have HE := Lib.hid he
  clear h1 h2 he
  go_enter Try.func23, Try.ntmps23
  go_wp2_with fail
  go_loopw [5] (fun i wr => ∃ k : Nat, k ≤ l.length ∧ i = .int .i64 k ∧ Below w.heap.size w wr ∧ sameN l m = sameN (l.drop k) (m.drop k)) (fun i _ => l.length - (intOf i).toNat)
  case atStart => exact ⟨0, Nat.zero_le _, rfl, Below.refl _ _, rfl⟩
  case round =>
    obtain ⟨k, hk, rfl, hb, hsame⟩ := hrel
    have HB := Lib.hid hb
    have HS := Lib.hid hsame
    clear hb hsame
    by_cases hlt : k < l.length
    · have hlt2 : k < m.length := by rw [HE.out]; exact hlt
      obtain ⟨e1, e2, e3⟩ := H1.out k hlt
      obtain ⟨e1', e2', e3'⟩ := H2.out k hlt2
      have d1 : wr.cell? ⟨b1, o1 + k * 3, none⟩ = some (.int .i64 l[k].k) := by rw [HB.out.cell (Ap.cell_lt e1)]; exact e1
      have d2 : wr.cell? ⟨b1, o1 + k * 3 + 1, none⟩ = some (.string l[k].n) := by rw [HB.out.cell (Ap.cell_lt e2)]; exact e2
      have d3 : wr.cell? ⟨b1, o1 + k * 3 + 2, none⟩ = some (.int .i64 l[k].s) := by rw [HB.out.cell (Ap.cell_lt e3)]; exact e3
      have d4 : wr.cell? ⟨b2, o2 + k * 3, none⟩ = some (.int .i64 m[k].k) := by rw [HB.out.cell (Ap.cell_lt e1')]; exact e1'
      have d5 : wr.cell? ⟨b2, o2 + k * 3 + 1, none⟩ = some (.string m[k].n) := by rw [HB.out.cell (Ap.cell_lt e2')]; exact e2'
      have d6 : wr.cell? ⟨b2, o2 + k * 3 + 2, none⟩ = some (.int .i64 m[k].s) := by rw [HB.out.cell (Ap.cell_lt e3')]; exact e3'
      have HA := Lib.hid (HS.out.trans (sameN_at hlt hlt2))
      clear e1 e2 e3 e1' e2' e3'
      obtain ⟨u, hu⟩ : ∃ u, l[k] = u := ⟨_, rfl⟩
      obtain ⟨v, hv⟩ : ∃ v, m[k] = v := ⟨_, rfl⟩
      rw [hu] at d1 d2 d3 HA
      rw [hv] at d4 d5 d6 HA
      clear hu hv
      have hq := neq_nd u v
      by_cases huv : u = v
      · rw [decide_eq_true huv] at hq
        have HV := Lib.hid huv
        clear huv
        go_wp2_with fail
        go_quiet (fail)
        go_wp2_with fail
        go_roundw
        case rel => exact ⟨k + 1, by omega, by go_num, HB.out.trans (Below.drewN _ _ _), by rw [HA.out, decide_eq_true HV.out, Bool.true_and]⟩
        case measure => simp [intOf]; omega
      · rw [decide_eq_false huv] at hq
        have HV := Lib.hid huv
        clear huv
        go_wp2_with fail
        go_quiet (fail)
        go_wp2_with fail
        go_ret
        exact ⟨ret_bool (by rw [HA.out, decide_eq_false HV.out, Bool.false_and]), HB.out.trans (Below.drewN _ _ _)⟩
    · go_wp2_with fail
      go_ret
      refine ⟨ret_bool ?_, HB.out⟩
      rw [HS.out, List.drop_eq_nil_of_le (by omega), List.drop_eq_nil_of_le (by rw [HE.out]; omega)]
      rfl
theorem sameR_any (x y : Value) (l m : List Nd) (w : World) (hx : Nds w x l) (hy : Nds w y m) (hl : l.length ≤ 1000000) :
    Calls Try.prog 23 #[x, y] w fun e w' => e = .returned (.bool (sameN l m)) ∧ Below w.heap.size w w' := by
  by_cases he : l.length = m.length
  · rcases hx.form with ⟨rfl, a, cap, rfl⟩ | ⟨b, off, cap, rfl, _, hc⟩
    · obtain rfl : m = [] := List.eq_nil_of_length_eq_zero he.symm
      obtain ⟨_, a', cap', rfl, _⟩ := hy
      exact sameN_empty a a' cap cap' w
    · rcases hy.form with ⟨rfl, a', cap', rfl⟩ | ⟨b', off', cap', rfl, _, hc'⟩
      · obtain rfl : l = [] := List.eq_nil_of_length_eq_zero he
        exact sameN_empty _ a' cap cap' w
      · rw [← he]
        exact sameN_cells b off cap b' off' cap' l m w hl he.symm hc hc'
  · rw [sameN_len he]
    obtain ⟨_, a, cap, rfl, _⟩ := hx
    obtain ⟨_, a', cap', rfl, _⟩ := hy
    exact sameN_other a a' cap cap' l.length m.length w he

theorem cnt_yes (l : List Nd) (ks : List Int) (k : Nat) (h : k < l.length) (hm : l[k].k ∈ ks) : cnt (l.take (k + 1)) ks = cnt (l.take k) ks + 1 := by
  unfold cnt
  rw [List.take_succ_eq_append_getElem h, List.countP_append]
  simp [hm]
theorem cnt_no (l : List Nd) (ks : List Int) (k : Nat) (h : k < l.length) (hm : ¬ l[k].k ∈ ks) : cnt (l.take (k + 1)) ks = cnt (l.take k) ks := by
  unfold cnt
  rw [List.take_succ_eq_append_getElem h, List.countP_append]
  simp [hm]
theorem cnt_le (l : List Nd) (ks : List Int) : cnt l ks ≤ l.length := List.countP_le_length
theorem has_take (ks : List Int) (a : Int) (j : Nat) (h : j < ks.length) : decide (a ∈ ks.take (j + 1)) = (decide (a ∈ ks.take j) || (ks[j] == a)) := by
  rw [List.take_succ_eq_append_getElem h, Bool.eq_iff_iff]
  simp only [decide_eq_true_eq, List.mem_append, List.mem_singleton, Bool.or_eq_true, beq_iff_eq]
  exact or_congr_right eq_comm
/-- The inner loop: whether one of the first kinds is the node's. -/
theorem has_start (ks : List Int) (a : Int) : decide (a ∈ ks.take 0) = false := by simp

set_option maxHeartbeats 1000000 in
theorem cnt_empty (a : Option Addr) (cap : Nat) (y : Value) (w : World) :
    Calls Try.prog 27 #[.slice a 0 cap, y] w fun e w' => e = .returned (.int .i64 0) ∧ Below w.heap.size w w' := by
  go_enter Try.func27, Try.ntmps27
  go_wp2_with fail
  refine Go.wp_loop_rounds 1 ?_
  rw [rounds_succ]
  go_wp2_with fail
  go_ret
  exact ⟨rfl, Below.refl _ _⟩
set_option maxHeartbeats 4000000 in
theorem cnt_cells (b off cap : Nat) (l : List Nd) (b2 o2 c2 : Nat) (ks : List Int) (w : World) (hl : l.length ≤ 1000000) (hk : ks.length ≤ 1000000) (h1 : At w b off l) (h2 : AtI w b2 o2 ks) :
    Calls Try.prog 27 #[.slice (some ⟨b, off, none⟩) l.length cap, .slice (some ⟨b2, o2, none⟩) ks.length c2] w fun e w' => e = .returned (.int .i64 (cnt l ks)) ∧ Below w.heap.size w w' := by
  have H1 := Lib.hid h1
  have H2 := Lib.hid h2
  clear h1 h2
  go_enter Try.func27, Try.ntmps27
  go_wp2_with fail
  go_loopw [5, 6] (fun n i wr => ∃ k c : Nat, k ≤ l.length ∧ c ≤ k ∧ i = .int .i64 k ∧ n = .int .i64 c ∧ Below w.heap.size w wr ∧ Hid (cnt (l.take k) ks = c)) (fun _ i _ => l.length - (intOf i).toNat)
  case atStart => exact ⟨0, 0, Nat.zero_le _, Nat.zero_le _, rfl, rfl, Below.refl _ _, Lib.hid rfl⟩
  case round =>
    obtain ⟨k, c, hk', hck, rfl, rfl, hb, HC⟩ := hrel
    have HB := Lib.hid hb
    clear hb
    by_cases hlt : k < l.length
    · have e1 := (H1.out k hlt).1
      have HY := Lib.hid (cnt_yes l ks k hlt)
      have HN := Lib.hid (cnt_no l ks k hlt)
      obtain ⟨x, hx⟩ : ∃ x, l[k].k = x := ⟨_, rfl⟩
      rw [hx] at e1 HY HN
      clear hx
      have E1 := Lib.hid e1
      clear e1
      go_wp2_with fail
      obtain ⟨wo, hwo⟩ : ∃ wo : World, wo = wr := ⟨_, rfl⟩
      subst hwo
      go_loopw [7, 8] (fun s j wr => ∃ i : Nat, i ≤ ks.length ∧ j = .int .i64 i ∧ s = .bool (decide (x ∈ ks.take i)) ∧ Below w.heap.size w wr) (fun _ j _ => ks.length - (intOf j).toNat)
      case atStart => exact ⟨0, Nat.zero_le _, rfl, by rw [has_start], HB.out⟩
      case round =>
        obtain ⟨i, hi, rfl, rfl, hb⟩ := hrel
        have HB2 := Lib.hid hb
        clear hb
        by_cases hlt2 : i < ks.length
        · have e2 := H2.out i hlt2
          have hht := has_take ks x i hlt2
          have d1 : wr.cell? ⟨b, off + k * 3, none⟩ = some (.int .i64 x) := by rw [HB2.out.cell (Ap.cell_lt E1.out)]; exact E1.out
          have d2 : wr.cell? ⟨b2, o2 + i, none⟩ = some (.int .i64 ks[i]) := by rw [HB2.out.cell (Ap.cell_lt e2)]; exact e2
          clear e2
          obtain ⟨y, hy⟩ : ∃ y, ks[i] = y := ⟨_, rfl⟩
          rw [hy] at d2 hht
          clear hy
          cases hd : decide (x ∈ ks.take i) with
          | true =>
            rw [hd, Bool.true_or] at hht
            have HT := Lib.hid hht
            clear hht
            go_wp2_with fail
            go_quiet (fail)
            go_wp2_with fail
            go_roundw
            case rel => exact ⟨i + 1, by omega, by go_num, by rw [HT.out], HB2.out.trans (Below.drewN _ _ _)⟩
            case measure => simp [intOf]; omega
          | false =>
            rw [hd, Bool.false_or] at hht
            have HT := Lib.hid hht
            clear hht
            go_wp2_with fail
            go_quiet (fail)
            go_wp2_with fail
            go_roundw
            case rel => exact ⟨i + 1, by omega, by go_num, by rw [HT.out], HB2.out.trans (Below.drewN _ _ _)⟩
            case measure => simp [intOf]; omega
        · have hte : ks.take i = ks := List.take_of_length_le (by omega)
          cases hd : decide (x ∈ ks.take i) with
          | true =>
            have HX : Hid (x ∈ ks) := by have := of_decide_eq_true hd; rwa [hte] at this
            clear hte
            go_wp2_with fail
            go_roundw
            case rel => exact ⟨k + 1, c + 1, by omega, by omega, by go_num, by go_num, HB2.out, Lib.hid (by rw [HY.out HX.out, HC.out])⟩
            case measure => simp [intOf]; omega
          | false =>
            have HX : Hid (¬ x ∈ ks) := by have := of_decide_eq_false hd; rwa [hte] at this
            clear hte
            go_wp2_with fail
            go_roundw
            case rel => exact ⟨k + 1, c, by omega, by omega, by go_num, rfl, HB2.out, Lib.hid (by rw [HN.out HX.out, HC.out])⟩
            case measure => simp [intOf]; omega
    · have HZ : Hid (cnt l ks = c) := by
        have := HC.out
        rwa [List.take_of_length_le (by omega)] at this
      go_wp2_with fail
      go_ret
      exact ⟨ret_int (by rw [HZ.out]), HB.out⟩
set_option maxHeartbeats 2000000 in
theorem cnt_nil (b off cap : Nat) (l : List Nd) (a2 : Option Addr) (c2 : Nat) (w : World) (hl : l.length ≤ 1000000) :
    Calls Try.prog 27 #[.slice (some ⟨b, off, none⟩) l.length cap, .slice a2 0 c2] w fun e w' => e = .returned (.int .i64 (cnt l [])) ∧ Below w.heap.size w w' := by
  have hz : cnt l [] = 0 := by simp [cnt]
  rw [hz]
  clear hz
  go_enter Try.func27, Try.ntmps27
  go_wp2_with fail
  go_loop [5, 6] (fun n i => ∃ k : Nat, k ≤ l.length ∧ i = .int .i64 k ∧ n = .int .i64 0) (fun _ i => l.length - (intOf i).toNat)
  case atStart => exact ⟨0, Nat.zero_le _, rfl, rfl⟩
  case round =>
    obtain ⟨k, hk', rfl, rfl⟩ := hrel
    by_cases hlt : k < l.length
    · go_wp2_with fail
      refine Go.wp_loop_rounds 1 ?_
      rw [rounds_succ]
      go_wp2_with fail
      go_round
      case rel => exact ⟨k + 1, by omega, by go_num, rfl⟩
      case measure => simp [intOf]; omega
    · go_wp2_with fail
      go_ret
      exact ⟨rfl, Below.refl _ _⟩
theorem cntR_any (x y : Value) (l : List Nd) (ks : List Int) (w : World) (hx : Nds w x l) (hy : Ints w y ks) (hl : l.length ≤ 1000000) (hk : ks.length ≤ 1000000) :
    Calls Try.prog 27 #[x, y] w fun e w' => e = .returned (.int .i64 (cnt l ks)) ∧ Below w.heap.size w w' := by
  rcases hx.form with ⟨rfl, a, cap, rfl⟩ | ⟨b, off, cap, rfl, _, hc⟩
  · exact cnt_empty a cap y w
  · rcases hy.form with ⟨rfl, a', cap', rfl⟩ | ⟨b', off', cap', rfl, _, hc'⟩
    · exact cnt_nil b off cap l a' cap' w hl
    · exact cnt_cells b off cap l b' off' cap' ks w hl hk hc hc'
end Go.Proofs.Ytonhnajmofkcnaa.Rw
