/- The document's Right. -/
import Derived.Test.YtcgbbhnhpkkomaaSoi
import Derived.Deep.QuietTactic
import Derived.BigQuiet
namespace Go.Proofs.Ytcgbbhnhpkkomaa.So
open Go Go.RowKit Go.Proofs.Ytcgbbhnhpkkomaa.Rw
set_option maxRecDepth 20000

def rightB (l : List Nd) : Bool := (of l == 1) && (decide (l.length ≤ 60) && decide (depth l ≤ 16))
set_option maxHeartbeats 2000000 in
theorem rightSR_any (l : List Nd) (v : Value) (w : World) (hv : Nds w v l) (hl : l.length ≤ 1000) (hm : Nms l) : Calls Try.prog 17 #[v] w fun e w' => e = .returned (.bool (rightB l)) ∧ Below w.heap.size w w' := by
  have HV := Lib.hid hv
  have HC := Lib.hid (fun w h => ofR_any l v w h hl hm)
  have hr : rightB l = ((of l == 1) && (decide (l.length ≤ 60) && decide (depth l ≤ 16))) := rfl
  obtain ⟨z, hzz⟩ : ∃ z, of l = z := ⟨_, rfl⟩
  rw [hzz] at hr HC
  rw [hr]
  obtain ⟨_, a, cap, rfl, -⟩ := hv
  clear hm hzz hr
  by_cases h1 : z = 1
  · subst h1
    rw [beq_self_eq_true, Bool.true_and]
    by_cases h2 : l.length ≤ 60
    · rw [decide_eq_true h2, Bool.true_and]
      obtain ⟨d, hd⟩ : ∃ d, depth l = d := ⟨_, rfl⟩
      have HD := Lib.hid hd
      rw [hd]
      clear hd
      go_enter Try.func17, Try.ntmps17
      go_wp2_with fail
      refine (HC.out _ HV.out).mono ?_
      rintro e w1 ⟨rfl, hb⟩
      have HV1 := Lib.hid (HV.out.below hb)
      have HB := Lib.hid hb
      clear hb
      go_wp2_with fail
      refine (depthR_any _ l _ HV1.out (by omega)).mono ?_
      rw [HD.out]
      rintro e w2 ⟨rfl, rfl⟩
      go_wp2_with fail
      go_ret
      exact ⟨ret_bool (decide_eq_decide.2 (by omega)), HB.out⟩
    · have g2 : decide (l.length ≤ 60) = false := decide_eq_false h2
      rw [g2, Bool.false_and]
      go_enter Try.func17, Try.ntmps17
      go_wp2_with fail
      refine (HC.out _ HV.out).mono ?_
      rintro e w1 ⟨rfl, hb⟩
      go_wp2_with fail
      go_ret
      exact ⟨rfl, hb⟩
  · have g1 : ((z : Int) == 1) = false := by rw [beq_eq_false_iff_ne]; omega
    have g2 : (z == 1) = false := by rw [beq_eq_false_iff_ne]; omega
    rw [g2, Bool.false_and]
    clear g2
    go_enter Try.func17, Try.ntmps17
    go_wp2_with fail
    refine (HC.out _ HV.out).mono ?_
    rintro e w1 ⟨rfl, hb⟩
    go_wp2_with fail
    go_ret
    exact ⟨rfl, hb⟩
end Go.Proofs.Ytcgbbhnhpkkomaa.So
