/- The document's Is, Of, On and Right. -/
import Derived.Test.YtcgbbhnhpkkomaaSow
namespace Go.Proofs.Ytcgbbhnhpkkomaa.So
open Go Go.RowKit Go.Proofs.Ytcgbbhnhpkkomaa.Rw
set_option maxRecDepth 20000

set_option maxHeartbeats 1000000 in
theorem is_1 (l : List Nd) (v : Value) (w : World) (ht : Tre l) (hv : Nds w v l) (hl : l.length ≤ 1000000) (ih : IsC l.length) : Calls Try.prog 28 #[v, .int .i64 1] w fun e w' => e = .returned (.bool (Is 1 l)) ∧ Below w.heap.size w w' := by
  have HR := Lib.hid (Is_one l)
  have HV := Lib.hid hv
  obtain ⟨_, a, cap, rfl, -⟩ := hv
  go_enter Try.func28, Try.ntmps28
  go_wp2_with fail
  refine (kidsR_any _ l _ HV.out hl).mono ?_
  rintro e w1 ⟨y, rfl, hy, hb⟩
  have HY := Lib.hid hy
  have HB := Lib.hid hb
  replace HV := Lib.hid (HV.out.below hb)
  clear hy hb
  go_wp2_with fail
  refine (plain_any l _ _ _ ht HV.out HY.out ih).mono ?_
  rintro e w2 ⟨rfl, hb⟩
  go_wp2_with fail
  go_ret
  exact ⟨ret_bool HR.out.symm, HB.out.trans (hb.mono HB.out.size)⟩
set_option maxHeartbeats 1000000 in
theorem is_2 (l : List Nd) (v : Value) (w : World) (ht : Tre l) (hv : Nds w v l) (hl : l.length ≤ 1000000) (ih : IsC l.length) : Calls Try.prog 28 #[v, .int .i64 2] w fun e w' => e = .returned (.bool (Is 2 l)) ∧ Below w.heap.size w w' := by
  have HR := Lib.hid (Is_two l)
  have HV := Lib.hid hv
  obtain ⟨_, a, cap, rfl, -⟩ := hv
  go_enter Try.func28, Try.ntmps28
  go_wp2_with fail
  refine (kidsR_any _ l _ HV.out hl).mono ?_
  rintro e w1 ⟨y, rfl, hy, hb⟩
  have HY := Lib.hid hy
  have HB := Lib.hid hb
  replace HV := Lib.hid (HV.out.below hb)
  clear hy hb
  go_wp2_with fail
  refine (paired_any l _ _ _ ht HV.out HY.out ih).mono ?_
  rintro e w2 ⟨rfl, hb⟩
  go_wp2_with fail
  go_ret
  exact ⟨ret_bool HR.out.symm, HB.out.trans (hb.mono HB.out.size)⟩
set_option maxHeartbeats 1000000 in
theorem is_3 (l : List Nd) (v : Value) (w : World) (ht : Tre l) (hv : Nds w v l) (hl : l.length ≤ 1000000) (ih : IsC l.length) : Calls Try.prog 28 #[v, .int .i64 3] w fun e w' => e = .returned (.bool (Is 3 l)) ∧ Below w.heap.size w w' := by
  have HR := Lib.hid (Is_three l)
  have HV := Lib.hid hv
  obtain ⟨_, a, cap, rfl, -⟩ := hv
  go_enter Try.func28, Try.ntmps28
  go_wp2_with fail
  refine (kidsR_any _ l _ HV.out hl).mono ?_
  rintro e w1 ⟨y, rfl, hy, hb⟩
  have HY := Lib.hid hy
  have HB := Lib.hid hb
  replace HV := Lib.hid (HV.out.below hb)
  clear hy hb
  go_wp2_with fail
  refine (plain_any l _ _ _ ht HV.out HY.out ih).mono ?_
  cases h0 : plainB Is l with
  | true =>
    rw [h0, Bool.true_or] at HR
    rintro e w2 ⟨rfl, hb⟩
    go_wp2_with fail
    go_ret
    exact ⟨ret_bool HR.out.symm, HB.out.trans (hb.mono HB.out.size)⟩
  | false =>
    rw [h0, Bool.false_or] at HR
    rintro e w2 ⟨rfl, hb⟩
    replace HB := Lib.hid (HB.out.trans (hb.mono HB.out.size))
    replace HV := Lib.hid (HV.out.below hb)
    replace HY := Lib.hid (HY.out.below hb)
    clear hb h0
    go_wp2_with fail
    refine (plainOn_any l _ _ _ ht HV.out HY.out ih).mono ?_
    rintro e w3 ⟨rfl, hb⟩
    go_wp2_with fail
    go_ret
    exact ⟨ret_bool HR.out.symm, HB.out.trans (hb.mono HB.out.size)⟩
set_option maxHeartbeats 1000000 in
theorem is_4 (l : List Nd) (v : Value) (w : World) (ht : Tre l) (hv : Nds w v l) (hl : l.length ≤ 1000000) (ih : IsC l.length) : Calls Try.prog 28 #[v, .int .i64 4] w fun e w' => e = .returned (.bool (Is 4 l)) ∧ Below w.heap.size w w' := by
  have HR := Lib.hid (Is_four l)
  have HV := Lib.hid hv
  obtain ⟨_, a, cap, rfl, -⟩ := hv
  go_enter Try.func28, Try.ntmps28
  go_wp2_with fail
  refine (kidsR_any _ l _ HV.out hl).mono ?_
  rintro e w1 ⟨y, rfl, hy, hb⟩
  have HY := Lib.hid hy
  have HB := Lib.hid hb
  replace HV := Lib.hid (HV.out.below hb)
  clear hy hb
  go_wp2_with fail
  refine (paired_any l _ _ _ ht HV.out HY.out ih).mono ?_
  cases h0 : pairedB Is l with
  | true =>
    rw [h0, Bool.true_or] at HR
    rintro e w2 ⟨rfl, hb⟩
    go_wp2_with fail
    go_ret
    exact ⟨ret_bool HR.out.symm, HB.out.trans (hb.mono HB.out.size)⟩
  | false =>
    rw [h0, Bool.false_or] at HR
    rintro e w2 ⟨rfl, hb⟩
    replace HB := Lib.hid (HB.out.trans (hb.mono HB.out.size))
    replace HV := Lib.hid (HV.out.below hb)
    replace HY := Lib.hid (HY.out.below hb)
    clear hb h0
    go_wp2_with fail
    refine (pairedOn_any l _ _ _ ht HV.out HY.out ih).mono ?_
    rintro e w3 ⟨rfl, hb⟩
    go_wp2_with fail
    go_ret
    exact ⟨ret_bool HR.out.symm, HB.out.trans (hb.mono HB.out.size)⟩
theorem is_all : ∀ n, n ≤ 1000000 → IsC n
  | 0, _ => fun r _ _ _ h => absurd h (Nat.not_lt_zero _)
  | n + 1, hn => by
    intro r s w v hr ht hv h1 h4
    have ih : IsC r.length := by
      rcases Nat.lt_or_ge r.length n with h | h
      · intro r' s' w' v' hr'
        exact is_all n (by omega) r' s' w' v' (by omega)
      · have : r.length = n := by omega
        rw [this]
        exact is_all n (by omega)
    have hl : r.length ≤ 1000000 := by omega
    have hs : s = 1 ∨ s = 2 ∨ s = 3 ∨ s = 4 := by omega
    rcases hs with rfl | rfl | rfl | rfl
    · exact is_1 r v w ht hv hl ih
    · exact is_2 r v w ht hv hl ih
    · exact is_3 r v w ht hv hl ih
    · exact is_4 r v w ht hv hl ih
theorem isR_any (l : List Nd) (s : Nat) (v : Value) (w : World) (ht : Tre l) (hv : Nds w v l) (hl : l.length ≤ 999999) (h1 : 1 ≤ s) (h4 : s ≤ 4) : Calls Try.prog 28 #[v, .int .i64 s] w fun e w' => e = .returned (.bool (Is s l)) ∧ Below w.heap.size w w' :=
  is_all (l.length + 1) (by omega) l s w v (by omega) ht hv h1 h4

theorem whole_tre {l : List Nd} (h : whole l = true) : Tre l := by
  unfold whole at h
  simp only [Bool.and_eq_true, decide_eq_true_eq] at h
  exact Tre.of_size h.2 (fun e => by rw [e] at h; exact absurd h.1.2.1 (by decide))
theorem whole_len {l : List Nd} (h : whole l = true) : l.length ≤ 200 := by
  unfold whole at h
  simp only [Bool.and_eq_true, decide_eq_true_eq] at h
  exact h.1.2.2
/-- No sort below s. -/
def Not (l : List Nd) (s : Nat) : Prop := ∀ i, 1 ≤ i → i < s → Is i l = false
theorem first_yes {l : List Nd} {s : Nat} (h : Not l s) (h1 : 1 ≤ s) (h4 : s ≤ 4) (hs : Is s l = true) : first l = s := by
  have n1 : 1 < s → Is 1 l = false := fun h' => h 1 (by omega) h'
  have n2 : 2 < s → Is 2 l = false := fun h' => h 2 (by omega) h'
  have n3 : 3 < s → Is 3 l = false := fun h' => h 3 (by omega) h'
  unfold first
  have hc : s = 1 ∨ s = 2 ∨ s = 3 ∨ s = 4 := by omega
  rcases hc with rfl | rfl | rfl | rfl
  · simp [hs]
  · simp [n1 (by omega), hs]
  · simp [n1 (by omega), n2 (by omega), hs]
  · simp [n1 (by omega), n2 (by omega), n3 (by omega), hs]
theorem first_no {l : List Nd} (h : Not l 5) : first l = 0 := by
  unfold first
  simp [h 1 (by omega) (by omega), h 2 (by omega) (by omega), h 3 (by omega) (by omega), h 4 (by omega) (by omega)]
theorem Not.next {l : List Nd} {s : Nat} (h : Not l s) (hs : Is s l = false) : Not l (s + 1) := fun i h1 h2 => by
  rcases Nat.lt_or_ge i s with h' | h'
  · exact h i h1 h'
  · rw [show i = s by omega]
    exact hs

set_option maxHeartbeats 2000000 in
theorem ofR_any (l : List Nd) (v : Value) (w : World) (hv : Nds w v l) (hl : l.length ≤ 1000) (hm : Nms l) : Calls Try.prog 12 #[v] w fun e w' => e = .returned (.int .i64 (of l)) ∧ Below w.heap.size w w' := by
  have HV := Lib.hid hv
  have HM := Lib.hid hm
  obtain ⟨_, a, cap, rfl, -⟩ := hv
  clear hm
  go_enter Try.func12, Try.ntmps12
  go_wp2_with fail
  refine (wholeR_any _ l _ HV.out (by omega) HM.out).mono ?_
  cases hw : whole l with
  | false =>
    have HR : Hid (of l = 0) := by
      show _ = _
      unfold of
      rw [hw]
      rfl
    clear hw
    rintro e w1 ⟨rfl, hb⟩
    go_wp2_with fail
    go_ret
    exact ⟨ret_int (by rw [HR.out]; rfl), hb⟩
  | true =>
    have HT := Lib.hid (whole_tre hw)
    have HR : Hid (of l = first l) := by
      show _ = _
      unfold of
      rw [hw]
      rfl
    clear hw
    rintro e w1 ⟨rfl, hb⟩
    replace HV := Lib.hid (HV.out.below hb)
    have HB := Lib.hid hb
    clear hb
    go_wp2_with fail
    go_loopw [3] (fun i wr => ∃ s : Nat, 1 ≤ s ∧ s ≤ 5 ∧ i = .int .i64 s ∧ Hid (Not l s) ∧ Hid (Nds wr (.slice a l.length cap) l) ∧ Hid (Below w.heap.size w wr)) (fun i _ => (5 - intOf i).toNat)
    case atStart => exact ⟨1, by omega, by omega, rfl, Lib.hid (fun i h1 h2 => by omega), HV, HB⟩
    case round =>
      clear HV HB
      obtain ⟨s, h1, h5, rfl, HN, HV, HB⟩ := hrel
      by_cases h4 : s ≤ 4
      · have IH := Lib.hid (isR_any l s _ _ HT.out HV.out (by omega) h1 h4)
        cases hs : Is s l with
        | true =>
          have HF := Lib.hid (HR.out.trans (first_yes HN.out h1 h4 hs))
          rw [hs] at IH
          clear hs
          go_wp2_with fail
          refine IH.out.mono ?_
          rintro e w2 ⟨rfl, hb⟩
          go_wp2_with fail
          go_ret
          exact ⟨ret_int (by rw [HF.out]), HB.out.trans (hb.mono HB.out.size)⟩
        | false =>
          have HN' := Lib.hid (HN.out.next hs)
          rw [hs] at IH
          clear hs
          go_wp2_with fail
          refine IH.out.mono ?_
          rintro e w2 ⟨rfl, hb⟩
          replace HV := Lib.hid (HV.out.below hb)
          replace HB := Lib.hid (HB.out.trans (hb.mono HB.out.size))
          clear hb
          go_wp2_with fail
          go_roundw
          case rel => exact ⟨s + 1, by omega, by omega, by go_num, HN', HV, HB⟩
          case measure => simp [intOf]; omega
      · obtain rfl : s = 5 := by omega
        have HF := Lib.hid (HR.out.trans (first_no HN.out))
        go_wp2_with fail
        go_ret
        exact ⟨ret_int (by rw [HF.out]; rfl), HB.out⟩
end Go.Proofs.Ytcgbbhnhpkkomaa.So
