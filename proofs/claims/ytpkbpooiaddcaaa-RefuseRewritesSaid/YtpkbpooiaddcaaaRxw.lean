/- The program's Whole: IndexFunc, ContainsFunc over Right. -/
import Derived.Test.YtpkbpooiaddcaaaRxg
import Derived.Test.YtpkbpooiaddcaaaRxr
namespace Go.Proofs.Ytpkbpooiaddcaaa.Rx
open Go Go.RowKit Rw
set_option maxRecDepth 20000

set_option maxHeartbeats 400000 in
theorem not_any (x : Nd) (w : World) (hn : x.n.size ≤ 140737488355328) : Calls Try.prog 35 #[.agg #[.int .i64 x.k, .string x.n, .int .i64 x.s]] w fun e w' => e = .returned (.bool (!rgt x)) ∧ Below w.heap.size w w' := by
  obtain ⟨r, hr⟩ : ∃ r, rgt x = r := ⟨_, rfl⟩
  have HR := Lib.hid hr
  rw [hr]
  clear hr
  go_enter Try.func35, Try.ntmps35
  go_wp2_with fail
  refine (rgtP_any x _ hn).mono ?_
  rw [HR.out]
  rintro e w' ⟨rfl, hb⟩
  have HB := Lib.hid hb
  clear hb
  go_wp2_with fail
  go_ret
  exact ⟨rfl, (below_any w _).trans (HB.out.mono (below_any w _).size)⟩
/-- Where the first node stands that may not be. -/
def badAt : List Nd → Nat → Int
  | [], _ => -1
  | x :: l, k => if rgt x then badAt l (k + 1) else k
theorem badAt_neg (l : List Nd) (k : Nat) : decide (0 ≤ badAt l k) = !l.all rgt := by
  induction l generalizing k with
  | nil => rfl
  | cons x l ih =>
    unfold badAt
    cases hr : rgt x with
    | true => simp only [if_true, ih, List.all_cons, hr, Bool.true_and]
    | false => simp only [List.all_cons, hr, Bool.false_and]; simp
theorem badAt_end {l : List Nd} {k : Nat} (h : ¬ k < l.length) : badAt (l.drop k) k = -1 := by rw [List.drop_eq_nil_of_le (by omega)]; rfl
theorem badAt_at {l : List Nd} {k : Nat} (h : k < l.length) : badAt (l.drop k) k = if rgt l[k] then badAt (l.drop (k + 1)) (k + 1) else (k : Int) := by
  rw [List.drop_eq_getElem_cons h, badAt]

set_option maxHeartbeats 800000 in
theorem index_empty (a : Option Addr) (cap : Nat) (w : World) :
    Calls Try.prog 43 #[.slice a 0 cap, .func (.func 35) #[] #[]] w fun e w' => e = .returned (.int .i64 (-1)) ∧ Below w.heap.size w w' := by
  go_enter Try.func43, Try.ntmps43
  go_wp2_with fail
  refine Go.wp_loop_rounds 1 ?_
  rw [rounds_succ]
  go_wp2_with fail
  go_ret
  exact ⟨rfl, Below.refl _ _⟩
set_option maxHeartbeats 800000 in
theorem index_cells (b off cap : Nat) (l : List Nd) (w : World) (hat : At w b off l) (hl : l.length ≤ 1000000) (hm : Nms l) :
    Calls Try.prog 43 #[.slice (some ⟨b, off, none⟩) l.length cap, .func (.func 35) #[] #[]] w fun e w' => e = .returned (.int .i64 (badAt l 0)) ∧ Below w.heap.size w w' := by
  have HA := Lib.hid hat
  have HM := Lib.hid hm
  clear hat hm
  go_enter Try.func43, Try.ntmps43
  go_wp2_with fail
  go_loopw [8] (fun i wr => ∃ k : Nat, k ≤ l.length ∧ i = .int .i64 k ∧ Below w.heap.size w wr ∧ Hid (badAt l 0 = badAt (l.drop k) k)) (fun i _ => l.length - (intOf i).toNat)
  case atStart => exact ⟨0, Nat.zero_le _, rfl, Below.refl _ _, Lib.hid rfl⟩
  case round =>
    obtain ⟨k, hk, rfl, hb, HK⟩ := hrel
    have HB := Lib.hid hb
    clear hb
    by_cases hlt : k < l.length
    · obtain ⟨e1, e2, e3⟩ := HA.out k hlt
      have c1 : wr.cell? ⟨b, off + k * 3, none⟩ = some (.int .i64 l[k].k) := by rw [HB.out.cell (Ap.cell_lt e1)]; exact e1
      have c2 : wr.cell? ⟨b, off + k * 3 + 1, none⟩ = some (.string l[k].n) := by rw [HB.out.cell (Ap.cell_lt e2)]; exact e2
      have c3 : wr.cell? ⟨b, off + k * 3 + 2, none⟩ = some (.int .i64 l[k].s) := by rw [HB.out.cell (Ap.cell_lt e3)]; exact e3
      have HX := Lib.hid (HK.out.trans (badAt_at hlt))
      have hxm : (l[k]).n.size ≤ 140737488355328 := HM.out _ (List.getElem_mem hlt)
      obtain ⟨x, hx⟩ : ∃ x, l[k] = x := ⟨_, rfl⟩
      rw [hx] at c1 c2 c3 HX hxm
      have HXM := Lib.hid hxm
      clear hx e1 e2 e3 hxm
      cases hr : rgt x with
      | false =>
        rw [hr] at HX
        have HR := Lib.hid hr
        clear hr
        go_wp2_with fail
        refine (not_any x _ HXM.out).mono ?_
        rw [HR.out]
        rintro e w' ⟨rfl, hb'⟩
        have HB' := Lib.hid hb'
        clear hb'
        go_wp2_with fail
        go_ret
        exact ⟨ret_int HX.out.symm, HB.out.trans (HB'.out.mono HB.out.size)⟩
      | true =>
        rw [hr] at HX
        have HR := Lib.hid hr
        clear hr
        go_wp2_with fail
        refine (not_any x _ HXM.out).mono ?_
        rw [HR.out]
        rintro e w' ⟨rfl, hb'⟩
        have HB' := Lib.hid hb'
        clear hb'
        go_wp2_with fail
        go_roundw
        case rel => exact ⟨k + 1, by omega, by go_num, HB.out.trans (HB'.out.mono HB.out.size), HX⟩
        case measure => simp [intOf]; omega
    · go_wp2_with fail
      go_ret
      exact ⟨ret_int (by rw [HK.out, badAt_end hlt]), HB.out⟩
theorem index_any (v : Value) (l : List Nd) (w : World) (h : Nds w v l) (hl : l.length ≤ 1000000) (hm : Nms l) :
    Calls Try.prog 43 #[v, .func (.func 35) #[] #[]] w fun e w' => e = .returned (.int .i64 (badAt l 0)) ∧ Below w.heap.size w w' := by
  rcases h.form with ⟨rfl, a, cap, rfl⟩ | ⟨b, off, cap, rfl, _, hat⟩
  · exact index_empty a cap w
  · exact index_cells b off cap l w hat hl hm
theorem badAt_bd (l : List Nd) (k : Nat) : -1 ≤ badAt l k ∧ badAt l k < k + l.length := by
  induction l generalizing k with
  | nil => simp [badAt]; omega
  | cons x l ih =>
    unfold badAt
    have := ih (k + 1)
    split <;> simp <;> omega
set_option maxHeartbeats 400000 in
theorem contains_any (v : Value) (l : List Nd) (w : World) (h : Nds w v l) (hl : l.length ≤ 1000000) (hm : Nms l) :
    Calls Try.prog 34 #[v, .func (.func 35) #[] #[]] w fun e w' => e = .returned (.bool (!l.all rgt)) ∧ Below w.heap.size w w' := by
  have H := Lib.hid h
  have HM := Lib.hid hm
  have HQ := Lib.hid (badAt_neg l 0)
  obtain ⟨q, hq⟩ : ∃ q, badAt l 0 = q := ⟨_, rfl⟩
  rw [hq] at HQ
  have HC := Lib.hid hq
  clear h hm hq
  go_enter Try.func34, Try.ntmps34
  go_wp2_with fail
  refine (index_any v l _ H.out hl HM.out).mono ?_
  rw [HC.out]
  rintro e w' ⟨rfl, hb⟩
  have HB := Lib.hid hb
  clear hb
  go_wp2_with fail
  go_ret
  exact ⟨ret_bool HQ.out, HB.out⟩

set_option maxHeartbeats 2000000 in
/-- The program's Whole. -/
theorem wholeP_any (v : Value) (l : List Nd) (w : World) (h : Nds w v l) (hl : l.length ≤ 1000) (hm : Nms l) :
    Calls Try.prog 29 #[v] w fun e w' => e = .returned (.bool (whole l)) ∧ Below w.heap.size w w' := by
  have H := Lib.hid h
  have HM := Lib.hid hm
  obtain ⟨_, a, cap, rfl, -⟩ := h
  clear hm
  by_cases q1 : 1 ≤ l.length
  · by_cases q2 : l.length ≤ 200
    · have hz := size_le l
      obtain ⟨z, hzz⟩ : ∃ z, size l = z := ⟨_, rfl⟩
      have HZ := Lib.hid hzz
      rw [hzz] at hz
      by_cases q3 : z = l.length
      · have HW : Hid (whole l = l.all rgt) := by
          show _ = _
          unfold whole
          rw [decide_eq_true q1, decide_eq_true q2, hzz, decide_eq_true q3]
          simp
        have g0 : ((z : Int) != (l.length : Int)) = false := by rw [bne_eq_false_iff_eq]; omega
        have g1 : ((l.length : Int) == 0) = false := by rw [beq_eq_false_iff_ne]; omega
        obtain ⟨r, hr⟩ : ∃ r, l.all rgt = r := ⟨_, rfl⟩
        rw [hr] at HW
        have HR := Lib.hid hr
        have HQ3 := Lib.hid q3
        clear hzz hr q3
        go_enter Try.func29, Try.ntmps29
        go_wp2_with fail
        refine (sizeP_any _ l _ H.out (by omega)).mono ?_
        rw [HZ.out]
        rintro e w' ⟨rfl, hb⟩
        have HB := Lib.hid hb
        clear hb
        go_wp2_with fail
        refine (contains_any _ l _ (H.out.below HB.out) (by omega) HM.out).mono ?_
        rw [HR.out]
        rintro e w'' ⟨rfl, hb⟩
        have HB2 := Lib.hid hb
        clear hb
        go_wp2_with fail
        go_ret
        exact ⟨ret_bool HW.out.symm, HB.out.trans (HB2.out.mono HB.out.size)⟩
      · have HW : Hid (whole l = false) := by
          show _ = _
          unfold whole
          rw [hzz, decide_eq_false q3, Bool.and_false]
        have g0 : ((z : Int) != (l.length : Int)) = true := by rw [bne_iff_ne]; omega
        have g1 : ((l.length : Int) == 0) = false := by rw [beq_eq_false_iff_ne]; omega
        clear hzz q3
        go_enter Try.func29, Try.ntmps29
        go_wp2_with fail
        refine (sizeP_any _ l _ H.out (by omega)).mono ?_
        rw [HZ.out]
        rintro e w' ⟨rfl, hb⟩
        have HB := Lib.hid hb
        clear hb
        go_wp2_with fail
        go_ret
        exact ⟨ret_bool HW.out.symm, HB.out⟩
    · have HW : Hid (whole l = false) := by
        show _ = _
        unfold whole
        rw [decide_eq_false q2, Bool.and_false, Bool.and_false]
        rfl
      have g1 : ((l.length : Int) == 0) = false := by rw [beq_eq_false_iff_ne]; omega
      go_enter Try.func29, Try.ntmps29
      go_wp2_with fail
      go_ret
      exact ⟨ret_bool HW.out.symm, Below.refl _ _⟩
  · have HW : Hid (whole l = false) := by
      show _ = _
      unfold whole
      rw [decide_eq_false q1, Bool.false_and, Bool.and_false]
      rfl
    have g1 : ((l.length : Int) == 0) = true := by rw [beq_iff_eq]; omega
    go_enter Try.func29, Try.ntmps29
    go_wp2_with fail
    go_ret
    exact ⟨ret_bool HW.out.symm, Below.refl _ _⟩
end Go.Proofs.Ytpkbpooiaddcaaa.Rx
