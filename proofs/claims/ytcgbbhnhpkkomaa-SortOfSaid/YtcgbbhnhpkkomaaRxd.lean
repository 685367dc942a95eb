/- The program's Depth. -/
import Derived.Test.YtcgbbhnhpkkomaaRxg
namespace Go.Proofs.Ytcgbbhnhpkkomaa.Rx
open Go Go.RowKit Rw
set_option maxRecDepth 20000
set_option maxHeartbeats 400000 in
theorem depthP_any (v : Value) (l : List Nd) (w : World) (h : Nds w v l) (hl : l.length ≤ 1000000) :
    Calls Try.prog 31 #[v] w fun e w' => e = .returned (.int .i64 (depth l)) ∧ Below w.heap.size w w' := by
  have H := Lib.hid h
  clear h
  go_enter Try.func31, Try.ntmps31
  go_wp2_with fail
  refine (measure_any v l _ H.out hl).mono ?_
  rintro e w' ⟨rfl, hb⟩
  have HB := Lib.hid hb
  clear hb
  go_wp2_with fail
  go_ret
  exact ⟨rfl, HB.out⟩
end Go.Proofs.Ytcgbbhnhpkkomaa.Rx
