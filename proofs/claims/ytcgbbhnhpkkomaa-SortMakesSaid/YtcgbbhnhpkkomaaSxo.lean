/- The program's Of, Term, On, Right. -/
import Derived.Test.YtcgbbhnhpkkomaaSxi
import Derived.Test.YtcgbbhnhpkkomaaRxw
import Derived.Test.YtcgbbhnhpkkomaaRxd
import Derived.Test.YtcgbbhnhpkkomaaSoar
import Derived.Test.YtcgbbhnhpkkomaaSoa
namespace Go.Proofs.Ytcgbbhnhpkkomaa.Sx
open Go Go.RowKit Go.Proofs.Ytcgbbhnhpkkomaa.Rw Go.Proofs.Ytcgbbhnhpkkomaa.So
set_option maxRecDepth 20000

theorem whole_tre {l : List Nd} (h : whole l = true) : Tre l := by
  unfold whole at h
  simp only [Bool.and_eq_true, decide_eq_true_eq] at h
  exact Tre.of_size h.2 (fun e => by rw [e] at h; exact absurd h.1.2.1 (by decide))
set_option maxHeartbeats 400000 in
theorem ofP_any (l : List Nd) (v : Value) (w : World) (hv : Nds w v l) (hl : l.length ≤ 1000) (hm : Nms l) :
    Calls Try.prog 11 #[v] w fun e w' => e = .returned (.int .i64 (of l)) ∧ Below w.heap.size w w' := by
  have HV := Lib.hid hv
  have HM := Lib.hid hm
  obtain ⟨_, a, cap, rfl, -⟩ := hv
  clear hm
  cases hq : whole l with
  | false =>
    have HZ : Hid (of l = 0) := by
      show _ = _
      unfold of
      rw [hq]
      rfl
    have HQ := Lib.hid hq
    clear hq
    go_enter Try.func11, Try.ntmps11
    go_wp2_with fail
    refine (Rx.wholeP_any _ l _ HV.out hl HM.out).mono ?_
    rw [HQ.out]
    rintro e w' ⟨rfl, hb⟩
    have HB := Lib.hid hb
    clear hb
    go_wp2_with fail
    go_ret
    exact ⟨ret_int (by rw [HZ.out]; rfl), HB.out⟩
  | true =>
    have HZ : Hid (of l = So.first l) := by
      show _ = _
      unfold of
      rw [hq]
      rfl
    have HT := Lib.hid (whole_tre hq)
    have HQ := Lib.hid hq
    obtain ⟨F, hF⟩ : ∃ F, So.first l = F := ⟨_, rfl⟩
    rw [hF] at HZ
    have HF := Lib.hid hF
    clear hq hF
    go_enter Try.func11, Try.ntmps11
    go_wp2_with fail
    refine (Rx.wholeP_any _ l _ HV.out hl HM.out).mono ?_
    rw [HQ.out]
    rintro e w' ⟨rfl, hb⟩
    have HB := Lib.hid hb
    have HV1 : Hid (Nds w' (.slice a l.length cap) (l ++ [])) := by
      show Nds _ _ _
      rw [List.append_nil]
      exact HV.out.below hb
    clear hb
    go_wp2_with fail
    refine (first_any l [] _ _ HT.out HV1.out).mono ?_
    rw [HF.out]
    rintro e w2 ⟨y, rfl, _, hb⟩
    have HB2 := Lib.hid hb
    clear hb
    go_wp2_with fail
    go_ret
    exact ⟨ret_int (by rw [HZ.out]), HB.out.trans (HB2.out.mono HB.out.size)⟩
set_option maxHeartbeats 400000 in
theorem termP_any (l : List Nd) (v : Value) (w : World) (hv : Nds w v l) (hl : l.length ≤ 1000) (hm : Nms l) :
    Calls Try.prog 15 #[v] w fun e w' => e = .returned (.bool (of l == 1)) ∧ Below w.heap.size w w' := by
  have HV := Lib.hid hv
  have HC := Lib.hid (fun w h => ofP_any l v w h hl hm)
  have hz := of_cases l
  obtain ⟨z, hzz⟩ : ∃ z, of l = z := ⟨_, rfl⟩
  rw [hzz] at hz HC
  rw [hzz]
  obtain ⟨_, a, cap, rfl, -⟩ := hv
  clear hm hzz
  rcases hz with rfl | rfl | rfl | rfl | rfl
  all_goals
    go_enter Try.func15, Try.ntmps15
    go_wp2_with fail
    refine (HC.out _ HV.out).mono ?_
    rintro e w1 ⟨rfl, hb⟩
    have HB := Lib.hid hb
    clear hb
    go_wp2_with fail
    go_ret
    exact ⟨rfl, HB.out⟩
set_option maxHeartbeats 800000 in
theorem onP_any (l : List Nd) (p : Bool) (v : Value) (w : World) (hv : Nds w v l) (hl : l.length ≤ 1000) (hm : Nms l) :
    Calls Try.prog 13 #[v, .bool p] w fun e w' => e = .returned (.bool (onB l p)) ∧ Below w.heap.size w w' := by
  have HV := Lib.hid hv
  have HC := Lib.hid (fun w h => ofP_any l v w h hl hm)
  have hr : onB l p = if p then pd (of l) else pl (of l) := rfl
  have h4 := of_le l
  obtain ⟨z, hzz⟩ : ∃ z, of l = z := ⟨_, rfl⟩
  rw [hzz] at hr HC h4
  rw [hr]
  obtain ⟨_, a, cap, rfl, -⟩ := hv
  clear hm hzz hr
  cases p
  · rw [if_neg (by decide)]
    go_enter Try.func13, Try.ntmps13
    go_wp2_with fail
    refine (HC.out _ HV.out).mono ?_
    rintro e w1 ⟨rfl, hb⟩
    have HB := Lib.hid hb
    clear hb
    go_wp2_with fail
    refine (plP z _ h4).mono ?_
    rintro e w2 ⟨rfl, rfl⟩
    go_wp2_with fail
    go_ret
    exact ⟨rfl, HB.out⟩
  · rw [if_pos rfl]
    go_enter Try.func13, Try.ntmps13
    go_wp2_with fail
    refine (HC.out _ HV.out).mono ?_
    rintro e w1 ⟨rfl, hb⟩
    have HB := Lib.hid hb
    clear hb
    go_wp2_with fail
    refine (pdP z _ h4).mono ?_
    rintro e w2 ⟨rfl, rfl⟩
    go_wp2_with fail
    go_ret
    exact ⟨rfl, HB.out⟩
set_option maxHeartbeats 800000 in
theorem rightP_any (l : List Nd) (v : Value) (w : World) (hv : Nds w v l) (hl : l.length ≤ 1000) (hm : Nms l) :
    Calls Try.prog 16 #[v] w fun e w' => e = .returned (.bool (rightB l)) ∧ Below w.heap.size w w' := by
  have HV := Lib.hid hv
  have HC := Lib.hid (fun w h => termP_any l v w h hl hm)
  have hr : rightB l = ((of l == 1) && (decide (l.length ≤ 60) && decide (depth l ≤ 16))) := rfl
  obtain ⟨z, hzz⟩ : ∃ z, (of l == 1) = z := ⟨_, rfl⟩
  rw [hzz] at hr HC
  rw [hr]
  obtain ⟨_, a, cap, rfl, -⟩ := hv
  clear hm hzz hr
  cases z with
  | true =>
    rw [Bool.true_and]
    by_cases h2 : l.length ≤ 60
    · rw [decide_eq_true h2, Bool.true_and]
      obtain ⟨d, hd⟩ : ∃ d, depth l = d := ⟨_, rfl⟩
      have HD := Lib.hid hd
      rw [hd]
      clear hd
      go_enter Try.func16, Try.ntmps16
      go_wp2_with fail
      refine (HC.out _ HV.out).mono ?_
      rintro e w1 ⟨rfl, hb⟩
      have HV1 := Lib.hid (HV.out.below hb)
      have HB := Lib.hid hb
      clear hb
      go_wp2_with fail
      refine (Rx.depthP_any _ l _ HV1.out (by omega)).mono ?_
      rw [HD.out]
      rintro e w2 ⟨rfl, hb⟩
      have HB2 := Lib.hid hb
      clear hb
      go_wp2_with fail
      go_ret
      exact ⟨ret_bool (decide_eq_decide.2 (by omega)), HB.out.trans (HB2.out.mono HB.out.size)⟩
    · have g2 : decide (l.length ≤ 60) = false := decide_eq_false h2
      rw [g2, Bool.false_and]
      go_enter Try.func16, Try.ntmps16
      go_wp2_with fail
      refine (HC.out _ HV.out).mono ?_
      rintro e w1 ⟨rfl, hb⟩
      have HB := Lib.hid hb
      clear hb
      go_wp2_with fail
      go_ret
      exact ⟨rfl, HB.out⟩
  | false =>
    rw [Bool.false_and]
    go_enter Try.func16, Try.ntmps16
    go_wp2_with fail
    refine (HC.out _ HV.out).mono ?_
    rintro e w1 ⟨rfl, hb⟩
    have HB := Lib.hid hb
    clear hb
    go_wp2_with fail
    go_ret
    exact ⟨rfl, HB.out⟩
end Go.Proofs.Ytcgbbhnhpkkomaa.Sx
