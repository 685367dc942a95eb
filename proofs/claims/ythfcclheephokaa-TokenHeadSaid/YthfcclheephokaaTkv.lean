/- The document's named, Print, Word, Same. -/
import Derived.Test.YthfcclheephokaaTkw
namespace Go.Proofs.Ythfcclheephokaa.To
open Go Go.RowKit
set_option maxRecDepth 20000

theorem tk_ext {x y : Tk} : x = y ↔ x.k = y.k ∧ x.a = y.a ∧ x.n = y.n := by
  cases x; cases y; simp
theorem eql_tk (d : Nat) (x y : Tk) (w : World) : (Op.equalIn (d + 2) 34 (.agg #[.int .i64 x.k, .int .i64 x.a, .string x.n]) (.agg #[.int .i64 y.k, .int .i64 y.a, .string y.n])).run Try.prog w = .ok (decide (x = y)) w := by
  rw [run_equalIn_struct w (d + 1) _ _ _ (by kernel_rfl) (by kernel_rfl)]
  simp only [Program.fieldsOf, Try.underlying34]
  by_cases h1 : x.k = y.k
  · by_cases h2 : x.a = y.a
    · by_cases h3 : x.n = y.n
      · rw [decide_eq_true (tk_ext.2 ⟨h1, h2, h3⟩), h1, h2, h3]
        simp [go_sem, Op.eqFields]
      · have e3 : (x.n.toList == y.n.toList) = false := by
          rw [ByteArray.toList_eq y.n]
          exact str_ne' fun e => h3 (by rw [e])
        rw [decide_eq_false (fun e => h3 (tk_ext.1 e).2.2), h1, h2]
        simp [go_sem, Op.eqFields, e3]
    · rw [decide_eq_false (fun e => h2 (tk_ext.1 e).2.1), h1]
      simp [go_sem, Op.eqFields, h2]
  · rw [decide_eq_false (fun e => h1 (tk_ext.1 e).1)]
    simp [go_sem, Op.eqFields, h1]
theorem neq_tk (x y : Tk) (w : World) : (binOp .neq 34 (.agg #[.int .i64 x.k, .int .i64 x.a, .string x.n]) (.agg #[.int .i64 y.k, .int .i64 y.a, .string y.n])).run Try.prog w = .ok (.bool (!decide (x = y))) w := by
  rw [run_neq_struct, show (10000 : Nat) = 9998 + 2 from rfl, eql_tk]
  rfl
theorem eq_tk (x y : Tk) (w : World) : (binOp .eql 34 (.agg #[.int .i64 x.k, .int .i64 x.a, .string x.n]) (.agg #[.int .i64 y.k, .int .i64 y.a, .string y.n])).run Try.prog w = .ok (.bool (decide (x = y))) w := by
  rw [run_eql_struct, show (10000 : Nat) = 9998 + 2 from rfl, eql_tk]
  rfl
theorem eql_to (d : Nat) (x y : Tk) (w : World) : (Op.equalIn (d + 2) 37 (.agg #[.int .i64 x.k, .int .i64 x.a, .string x.n]) (.agg #[.int .i64 y.k, .int .i64 y.a, .string y.n])).run Try.prog w = .ok (decide (x = y)) w := by
  rw [run_equalIn_struct w (d + 1) _ _ _ (by kernel_rfl) (by kernel_rfl)]
  simp only [Program.fieldsOf, Try.underlying37]
  by_cases h1 : x.k = y.k
  · by_cases h2 : x.a = y.a
    · by_cases h3 : x.n = y.n
      · rw [decide_eq_true (tk_ext.2 ⟨h1, h2, h3⟩), h1, h2, h3]
        simp [go_sem, Op.eqFields]
      · have e3 : (x.n.toList == y.n.toList) = false := by
          rw [ByteArray.toList_eq y.n]
          exact str_ne' fun e => h3 (by rw [e])
        rw [decide_eq_false (fun e => h3 (tk_ext.1 e).2.2), h1, h2]
        simp [go_sem, Op.eqFields, e3]
    · rw [decide_eq_false (fun e => h2 (tk_ext.1 e).2.1), h1]
      simp [go_sem, Op.eqFields, h2]
  · rw [decide_eq_false (fun e => h1 (tk_ext.1 e).1)]
    simp [go_sem, Op.eqFields, h1]
theorem neq_to (x y : Tk) (w : World) : (binOp .neq 37 (.agg #[.int .i64 x.k, .int .i64 x.a, .string x.n]) (.agg #[.int .i64 y.k, .int .i64 y.a, .string y.n])).run Try.prog w = .ok (.bool (!decide (x = y))) w := by
  rw [run_neq_struct, show (10000 : Nat) = 9998 + 2 from rfl, eql_to]
  rfl
theorem eq_to (x y : Tk) (w : World) : (binOp .eql 37 (.agg #[.int .i64 x.k, .int .i64 x.a, .string x.n]) (.agg #[.int .i64 y.k, .int .i64 y.a, .string y.n])).run Try.prog w = .ok (.bool (decide (x = y))) w := by
  rw [run_eql_struct, show (10000 : Nat) = 9998 + 2 from rfl, eql_to]
  rfl
/-- Are two rows the same? -/
def sameN (l m : List Tk) : Bool := decide (l = m)
theorem sameN_len {l m : List Tk} (h : l.length ≠ m.length) : sameN l m = false := decide_eq_false fun e => h (by rw [e])
theorem sameN_at {l m : List Tk} {k : Nat} (h1 : k < l.length) (h2 : k < m.length) : sameN (l.drop k) (m.drop k) = (decide (l[k] = m[k]) && sameN (l.drop (k + 1)) (m.drop (k + 1))) := by
  unfold sameN
  rw [List.drop_eq_getElem_cons h1, List.drop_eq_getElem_cons h2, Bool.eq_iff_iff]
  simp only [decide_eq_true_eq, Bool.and_eq_true, List.cons.injEq]
set_option maxHeartbeats 400000 in
theorem sameN_other (a1 a2 : Option Addr) (c1 c2 n m : Nat) (w : World) (h : n ≠ m) :
    Calls Try.prog 12 #[.slice a1 n c1, .slice a2 m c2] w fun e w' => e = .returned (.bool false) ∧ Below w.heap.size w w' := by
  have hne : ((n : Int) == (m : Int)) = false := by rw [beq_eq_false_iff_ne]; omega
  have hne' : ((n : Int) != (m : Int)) = true := by rw [bne_iff_ne]; omega
  go_enter Try.func12, Try.ntmps12
  go_wp2_with fail
  go_ret
  exact ⟨rfl, Below.refl _ _⟩
set_option maxHeartbeats 400000 in
theorem sameN_empty (a1 a2 : Option Addr) (c1 c2 : Nat) (w : World) :
    Calls Try.prog 12 #[.slice a1 0 c1, .slice a2 0 c2] w fun e w' => e = .returned (.bool true) ∧ Below w.heap.size w w' := by
  go_enter Try.func12, Try.ntmps12
  go_wp2_with fail
  refine Go.wp_loop_rounds 1 ?_
  rw [rounds_succ]
  go_wp2_with fail
  go_ret
  exact ⟨rfl, Below.refl _ _⟩
set_option maxHeartbeats 2000000 in
theorem sameN_cells (b1 o1 c1 b2 o2 c2 : Nat) (l m : List Tk) (w : World) (hl : l.length ≤ 1000000) (he : m.length = l.length) (h1 : At w b1 o1 l) (h2 : At w b2 o2 m) :
    Calls Try.prog 12 #[.slice (some ⟨b1, o1, none⟩) l.length c1, .slice (some ⟨b2, o2, none⟩) l.length c2] w fun e w' => e = .returned (.bool (sameN l m)) ∧ Below w.heap.size w w' := by
  have H1 := Lib.hid h1
  have H2 := Lib.hid h2
  have HE := Lib.hid he
  clear h1 h2 he
  go_enter Try.func12, Try.ntmps12
  go_wp2_with fail
  go_loopw [5] (fun i wr => ∃ k : Nat, k ≤ l.length ∧ i = .int .i64 k ∧ Below w.heap.size w wr ∧ sameN l m = sameN (l.drop k) (m.drop k)) (fun i _ => l.length - (intOf i).toNat)
  case atStart => exact ⟨0, Nat.zero_le _, rfl, Below.refl _ _, rfl⟩
  case round =>
    obtain ⟨k, hk, rfl, hb, hsame⟩ := hrel
    have HB := Lib.hid hb
    have HS := Lib.hid hsame
    clear hb hsame
    by_cases hlt : k < l.length
    · have hlt2 : k < m.length := by rw [HE.out]; exact hlt
      obtain ⟨e1, e2, e3⟩ := H1.out k hlt
      obtain ⟨e1', e2', e3'⟩ := H2.out k hlt2
      have d1 : wr.cell? ⟨b1, o1 + k * 3, none⟩ = some (.int .i64 l[k].k) := by rw [HB.out.cell (Ap.cell_lt e1)]; exact e1
      have d2 : wr.cell? ⟨b1, o1 + k * 3 + 1, none⟩ = some (.int .i64 l[k].a) := by rw [HB.out.cell (Ap.cell_lt e2)]; exact e2
      have d3 : wr.cell? ⟨b1, o1 + k * 3 + 2, none⟩ = some (.string l[k].n) := by rw [HB.out.cell (Ap.cell_lt e3)]; exact e3
      have d4 : wr.cell? ⟨b2, o2 + k * 3, none⟩ = some (.int .i64 m[k].k) := by rw [HB.out.cell (Ap.cell_lt e1')]; exact e1'
      have d5 : wr.cell? ⟨b2, o2 + k * 3 + 1, none⟩ = some (.int .i64 m[k].a) := by rw [HB.out.cell (Ap.cell_lt e2')]; exact e2'
      have d6 : wr.cell? ⟨b2, o2 + k * 3 + 2, none⟩ = some (.string m[k].n) := by rw [HB.out.cell (Ap.cell_lt e3')]; exact e3'
      have HA := Lib.hid (HS.out.trans (sameN_at hlt hlt2))
      clear e1 e2 e3 e1' e2' e3'
      obtain ⟨u, hu⟩ : ∃ u, l[k] = u := ⟨_, rfl⟩
      obtain ⟨v, hv⟩ : ∃ v, m[k] = v := ⟨_, rfl⟩
      rw [hu] at d1 d2 d3 HA
      rw [hv] at d4 d5 d6 HA
      clear hu hv
      have hq := neq_tk u v
      by_cases huv : u = v
      · rw [decide_eq_true huv] at hq
        have HV := Lib.hid huv
        clear huv
        go_wp2_with fail
        go_quiet (fail)
        go_wp2_with fail
        go_roundw
        case rel => exact ⟨k + 1, by omega, by go_num, HB.out.trans (Below.drewN _ _ _), by rw [HA.out, decide_eq_true HV.out, Bool.true_and]⟩
        case measure => simp [intOf]; omega
      · rw [decide_eq_false huv] at hq
        have HV := Lib.hid huv
        clear huv
        go_wp2_with fail
        go_quiet (fail)
        go_wp2_with fail
        go_ret
        exact ⟨ret_bool (by rw [HA.out, decide_eq_false HV.out, Bool.false_and]), HB.out.trans (Below.drewN _ _ _)⟩
    · go_wp2_with fail
      go_ret
      refine ⟨ret_bool ?_, HB.out⟩
      rw [HS.out, List.drop_eq_nil_of_le (by omega), List.drop_eq_nil_of_le (by rw [HE.out]; omega)]
      rfl
theorem sameR_any (x y : Value) (l m : List Tk) (w : World) (hx : Tks w x l) (hy : Tks w y m) (hl : l.length ≤ 1000000) :
    Calls Try.prog 12 #[x, y] w fun e w' => e = .returned (.bool (sameN l m)) ∧ Below w.heap.size w w' := by
  by_cases he : l.length = m.length
  · rcases hx.form with ⟨rfl, a, cap, rfl⟩ | ⟨b, off, cap, rfl, _, hc⟩
    · obtain rfl : m = [] := List.eq_nil_of_length_eq_zero he.symm
      obtain ⟨_, a', cap', rfl, _⟩ := hy
      exact sameN_empty a a' cap cap' w
    · rcases hy.form with ⟨rfl, a', cap', rfl⟩ | ⟨b', off', cap', rfl, _, hc'⟩
      · obtain rfl : l = [] := List.eq_nil_of_length_eq_zero he
        exact sameN_empty _ a' cap cap' w
      · rw [← he]
        exact sameN_cells b off cap b' off' cap' l m w hl he.symm hc hc'
  · rw [sameN_len he]
    obtain ⟨_, a, cap, rfl, _⟩ := hx
    obtain ⟨_, a', cap', rfl, _⟩ := hy
    exact sameN_other a a' cap cap' l.length m.length w he


theorem all_take (s : ByteArray) (k : Nat) (h : k < s.size) : (s.data.toList.take (k + 1)).all letB = ((s.data.toList.take k).all letB && letB s[k]) := by
  rw [List.take_succ_eq_append_getElem (by simpa using h), List.all_append]
  simp
  rfl
theorem all_no {s : ByteArray} {k : Nat} (h : k < s.size) (hb : letB s[k] = false) : s.data.toList.all letB = false := by
  have := all_take s k h
  rw [hb, Bool.and_false] at this
  rw [List.all_eq_false] at this ⊢
  obtain ⟨x, hx, hn⟩ := this
  exact ⟨x, List.mem_of_mem_take hx, hn⟩
set_option maxHeartbeats 1000000 in
theorem namedR_any (s : ByteArray) (w : World) (hs : s.size ≤ 140737488355328) : Calls Try.prog 23 #[.string s] w fun e w' => e = .returned (.bool (named s)) ∧ w = w' := by
  have HN : Hid (named s = (s.data.toList.all letB && (decide (1 ≤ s.size) && decide (s.size ≤ 8)))) := Lib.hid rfl
  go_enter Try.func23, Try.ntmps23
  go_wp2_with fail
  go_loop [3] (fun i => ∃ j : Nat, j ≤ s.size ∧ i = .int .i64 j ∧ Hid ((s.data.toList.take j).all letB = true)) (fun i => s.size - (intOf i).toNat)
  case atStart => exact ⟨0, Nat.zero_le _, rfl, Lib.hid rfl⟩
  case round =>
    obtain ⟨j, hj, rfl, HL⟩ := hrel
    by_cases hlt : j < s.size
    · have HT := Lib.hid (all_take s j hlt)
      have HF := Lib.hid (fun hb => all_no hlt hb)
      cases hb : letB s[j] with
      | false =>
        have HZ : Hid (named s = false) := by
          show _ = _
          rw [HN.out, HF.out hb, Bool.false_and]
        have HB := Lib.hid hb
        clear hb
        go_wp2_with fail
        refine (letR_any s[j] _).mono ?_
        rw [HB.out]
        rintro e w' ⟨rfl, rfl⟩
        go_wp2_with fail
        go_ret
        exact ⟨ret_bool HZ.out.symm, rfl⟩
      | true =>
        have HG : Hid ((s.data.toList.take (j + 1)).all letB = true) := by
          show _ = true
          rw [HT.out, HL.out, hb]
          rfl
        have HB := Lib.hid hb
        clear hb
        go_wp2_with fail
        refine (letR_any s[j] _).mono ?_
        rw [HB.out]
        rintro e w' ⟨rfl, rfl⟩
        go_wp2_with fail
        go_round
        case rel => exact ⟨j + 1, by omega, by go_num, HG⟩
        case measure => simp [intOf]; omega
    · have HF : Hid (s.data.toList.all letB = true) := by
        have := HL.out
        rwa [List.take_of_length_le (by simp; omega)] at this
      have HN' := Lib.hid (HN.out.trans (by rw [HF.out, Bool.true_and]))
      by_cases q1 : 1 ≤ s.size
      · by_cases q2 : s.size ≤ 8
        · go_wp2_with fail
          go_ret
          refine ⟨ret_bool ?_, rfl⟩
          rw [HN'.out, Bool.eq_iff_iff]
          first
            | (simp; done)
            | (simp; omega)
        · go_wp2_with fail
          go_ret
          refine ⟨ret_bool ?_, rfl⟩
          rw [HN'.out, Bool.eq_iff_iff]
          first
            | (simp; done)
            | (simp; omega)
      · go_wp2_with fail
        go_ret
        refine ⟨ret_bool ?_, rfl⟩
        rw [HN'.out, Bool.eq_iff_iff]
        first
          | (simp; done)
          | (simp; omega)
end Go.Proofs.Ythfcclheephokaa.To
