/- The document's On. -/
import Derived.Test.YtcgbbhnhpkkomaaSoar
import Derived.Deep.QuietTactic
import Derived.BigQuiet
namespace Go.Proofs.Ytcgbbhnhpkkomaa.So
open Go Go.RowKit Go.Proofs.Ytcgbbhnhpkkomaa.Rw
set_option maxRecDepth 20000

def onB (l : List Nd) (p : Bool) : Bool := if p then of l == 2 || of l == 4 else of l == 1 || of l == 3
theorem of_cases (l : List Nd) : of l = 0 ∨ of l = 1 ∨ of l = 2 ∨ of l = 3 ∨ of l = 4 := by have := of_le l; omega
set_option maxHeartbeats 2000000 in
theorem onR_any (l : List Nd) (p : Bool) (v : Value) (w : World) (hv : Nds w v l) (hl : l.length ≤ 1000) (hm : Nms l) : Calls Try.prog 14 #[v, .bool p] w fun e w' => e = .returned (.bool (onB l p)) ∧ Below w.heap.size w w' := by
  have HV := Lib.hid hv
  have HC := Lib.hid (fun w h => ofR_any l v w h hl hm)
  have hr : onB l p = if p then of l == 2 || of l == 4 else of l == 1 || of l == 3 := rfl
  have hz := of_cases l
  obtain ⟨z, hzz⟩ : ∃ z, of l = z := ⟨_, rfl⟩
  rw [hzz] at hr hz HC
  rw [hr]
  obtain ⟨_, a, cap, rfl, -⟩ := hv
  clear hm hzz hr
  cases p
  all_goals
    rcases hz with rfl | rfl | rfl | rfl | rfl
    all_goals
      go_enter Try.func14, Try.ntmps14
      go_wp2_with fail
      refine (HC.out _ HV.out).mono ?_
      rintro e w1 ⟨rfl, hb⟩
      have HV1 := Lib.hid (HV.out.below hb)
      have HB := Lib.hid hb
      clear hb
      go_wp2_with fail
      first
        | (go_ret; exact ⟨rfl, HB.out⟩)
        | (refine (HC.out _ HV1.out).mono ?_
           rintro e w2 ⟨rfl, hb⟩
           go_wp2_with fail
           go_ret
           exact ⟨rfl, HB.out.trans (hb.mono HB.out.size)⟩)
end Go.Proofs.Ytcgbbhnhpkkomaa.So
