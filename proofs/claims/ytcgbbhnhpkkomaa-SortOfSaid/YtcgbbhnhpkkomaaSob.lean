/- SortOf and SortRight from the contracts. -/
import Derived.Test.YtcgbbhnhpkkomaaSol
namespace Go.Proofs.Ytcgbbhnhpkkomaa.So
open Go Go.RowKit Go.Proofs.Ytcgbbhnhpkkomaa.Rw
set_option maxRecDepth 20000

def fewB (l : List Nd) : Bool := decide (l.length ≤ 120) && decide (depth l ≤ 24)
theorem few_len {l : List Nd} (h : fewB l = true) : l.length ≤ 120 := by
  unfold fewB at h
  rw [Bool.and_eq_true, decide_eq_true_eq] at h
  exact h.1
set_option maxHeartbeats 1000000 in
theorem few_any (v : Value) (l : List Nd) (w : World) (h : Nds w v l) :
    Calls Try.prog 9 #[v] w fun e w' => e = .returned (.bool (fewB l)) ∧ w = w' := by
  have H := Lib.hid h
  have hr : fewB l = (decide (l.length ≤ 120) && decide (depth l ≤ 24)) := rfl
  rw [hr]
  obtain ⟨d, hd⟩ : ∃ d, depth l = d := ⟨_, rfl⟩
  have HD := Lib.hid hd
  rw [hd]
  obtain ⟨_, a, cap, rfl, -⟩ := h
  clear hr hd
  by_cases h1 : l.length ≤ 120
  · rw [decide_eq_true h1, Bool.true_and]
    go_enter Try.func9, Try.ntmps9
    go_wp2_with fail
    refine (depthR_any _ l _ H.out (by omega)).mono ?_
    rw [HD.out]
    rintro e w' ⟨rfl, rfl⟩
    go_wp2_with fail
    go_ret
    exact ⟨ret_bool (decide_eq_decide.2 (by omega)), rfl⟩
  · have g1 : decide (l.length ≤ 120) = false := decide_eq_false h1
    rw [g1, Bool.false_and]
    go_enter Try.func9, Try.ntmps9
    go_wp2_with fail
    go_ret
    exact ⟨rfl, rfl⟩
/-- Nodes in memory, below which all is as it was. -/
structure Kp (w0 : World) (v : Value) (l : List Nd) (w : World) : Prop where
  bel : Below w0.heap.size w0 w
  nds : Nds w v l
theorem Kp.start {w : World} {v : Value} {l : List Nd} (h : Nds w v l) : Kp w v l w := ⟨Below.refl _ _, h⟩
theorem Kp.below {w0 w w' : World} {v : Value} {l : List Nd} (h : Kp w0 v l w) (hb : Below w.heap.size w w') : Kp w0 v l w' := ⟨h.bel.trans (hb.mono h.bel.size), h.nds.below hb⟩

set_option maxHeartbeats 4000000 in
theorem of_law (C : Con) (v : Value) (l : List Nd) (w : World) (hv : Nds w v l) (hm : Nms l) :
    Calls Try.prog 3 #[v] w fun e w' => e = .returned (.bool true) ∧ Below w.heap.size w w' := by
  have I := Lib.hid (Kp.start hv)
  have HM := Lib.hid hm
  obtain ⟨_, a, cap, rfl, -⟩ := hv
  clear hm
  go_enter Try.func3, Try.ntmps3
  go_wp2_with fail
  refine (few_any _ l _ I.out.nds).mono ?_
  cases hf : fewB l with
  | false =>
    rintro e w' ⟨rfl, rfl⟩
    go_wp2_with fail
    refine (alive_any C _).mono ?_
    rintro e wn ⟨rfl, hb⟩
    go_wp2_with fail
    go_ret
    exact ⟨rfl, hb⟩
  | true =>
    have hl := few_len hf
    clear hf
    rintro e w' ⟨rfl, rfl⟩
    have hz := of_cases l
    obtain ⟨z, hzz⟩ : ∃ z, of l = z := ⟨_, rfl⟩
    obtain ⟨p, hp⟩ : ∃ p, onB l false = p := ⟨_, rfl⟩
    obtain ⟨q, hq⟩ : ∃ q, onB l true = q := ⟨_, rfl⟩
    have HZ := Lib.hid hzz
    have HP := Lib.hid hp
    have HQ := Lib.hid hq
    rw [hzz] at hz
    clear hzz hp hq
    rcases hz with rfl | rfl | rfl | rfl | rfl
    all_goals
      go_wp2_with fail
      refine (alive_any C _).mono ?_
      rintro e wn ⟨rfl, hb⟩
      replace I := Lib.hid (I.out.below hb)
      clear hb
      go_wp2_with fail
      refine (C.cOf _ l _ I.out.nds (by omega) HM.out).mono ?_
      rw [HZ.out]
      rintro e wn ⟨rfl, hb⟩
      replace I := Lib.hid (I.out.below hb)
      clear hb
      go_wp2_with fail
      refine (ofR_any l _ _ I.out.nds (by omega) HM.out).mono ?_
      rw [HZ.out]
      rintro e wn ⟨rfl, hb⟩
      replace I := Lib.hid (I.out.below hb)
      clear hb
      go_wp2_with fail
      refine (C.cOn _ l false _ I.out.nds (by omega) HM.out).mono ?_
      rw [HP.out]
      rintro e wn ⟨rfl, hb⟩
      replace I := Lib.hid (I.out.below hb)
      clear hb
      go_wp2_with fail
      refine (onR_any l false _ _ I.out.nds (by omega) HM.out).mono ?_
      rw [HP.out]
      rintro e wn ⟨rfl, hb⟩
      replace I := Lib.hid (I.out.below hb)
      clear hb
      go_wp2_with fail
      refine (C.cOn _ l true _ I.out.nds (by omega) HM.out).mono ?_
      rw [HQ.out]
      rintro e wn ⟨rfl, hb⟩
      replace I := Lib.hid (I.out.below hb)
      clear hb
      go_wp2_with fail
      refine (onR_any l true _ _ I.out.nds (by omega) HM.out).mono ?_
      rw [HQ.out]
      rintro e wn ⟨rfl, hb⟩
      replace I := Lib.hid (I.out.below hb)
      clear hb
      go_wp2_with fail
      refine (C.cTerm _ l _ I.out.nds (by omega) HM.out).mono ?_
      rw [HZ.out]
      rintro e wn ⟨rfl, hb⟩
      replace I := Lib.hid (I.out.below hb)
      clear hb
      go_wp2_with fail
      refine (ofR_any l _ _ I.out.nds (by omega) HM.out).mono ?_
      rw [HZ.out]
      rintro e wn ⟨rfl, hb⟩
      replace I := Lib.hid (I.out.below hb)
      clear hb
      go_wp2_with fail
      go_ret
      exact ⟨ret_bool (by simp), I.out.bel⟩

set_option maxHeartbeats 4000000 in
theorem right_law (C : Con) (v : Value) (l : List Nd) (w : World) (hv : Nds w v l) (hm : Nms l) :
    Calls Try.prog 4 #[v] w fun e w' => e = .returned (.bool true) ∧ Below w.heap.size w w' := by
  have I := Lib.hid (Kp.start hv)
  have HM := Lib.hid hm
  obtain ⟨_, a, cap, rfl, -⟩ := hv
  clear hm
  go_enter Try.func4, Try.ntmps4
  go_wp2_with fail
  refine (few_any _ l _ I.out.nds).mono ?_
  cases hf : fewB l with
  | false =>
    rintro e w' ⟨rfl, rfl⟩
    go_wp2_with fail
    refine (alive_any C _).mono ?_
    rintro e wn ⟨rfl, hb⟩
    go_wp2_with fail
    go_ret
    exact ⟨rfl, hb⟩
  | true =>
    have hl := few_len hf
    clear hf
    rintro e w' ⟨rfl, rfl⟩
    obtain ⟨r, hr⟩ : ∃ r, rightB l = r := ⟨_, rfl⟩
    have HR := Lib.hid hr
    clear hr
    have HAL := Lib.hid (acts_le l)
    go_wp2_with fail
    refine (alive_any C _).mono ?_
    rintro e wn ⟨rfl, hb⟩
    replace I := Lib.hid (I.out.below hb)
    clear hb
    go_wp2_with fail
    refine (C.cRight _ l _ I.out.nds (by omega) HM.out).mono ?_
    rw [HR.out]
    rintro e wn ⟨rfl, hb⟩
    replace I := Lib.hid (I.out.below hb)
    clear hb
    go_wp2_with fail
    refine (rightSR_any l _ _ I.out.nds (by omega) HM.out).mono ?_
    rw [HR.out]
    rintro e wn ⟨rfl, hb⟩
    replace I := Lib.hid (I.out.below hb)
    clear hb
    go_wp2_with fail
    refine (C.cActs _ l _ I.out.nds (by omega) HM.out).mono ?_
    rintro e w1 ⟨y1, rfl, hy, hb⟩
    replace I := Lib.hid (I.out.below hb)
    have Y1 := Lib.hid hy
    clear hb hy
    go_wp2_with fail
    refine (actsR_any _ l _ I.out.nds (by omega)).mono ?_
    rintro e w2 ⟨y2, rfl, hy, hb⟩
    replace I := Lib.hid (I.out.below hb)
    replace Y1 := Lib.hid (Y1.out.below hb)
    have Y2 := Lib.hid hy
    clear hb hy
    go_wp2_with fail
    refine (textsR_any _ _ (acts l) (acts l) _ Y1.out Y2.out (by have := HAL.out; omega)).mono ?_
    rw [sameS_self]
    rintro e w3 ⟨rfl, hb⟩
    replace I := Lib.hid (I.out.below hb)
    clear hb
    go_wp2_with fail
    go_ret
    exact ⟨ret_bool (by simp), I.out.bel⟩
end Go.Proofs.Ytcgbbhnhpkkomaa.So
