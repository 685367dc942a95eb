/- For every number and rows of bytes, a frame is opened as what it was, whatever stands behind it, and no part of it is. -/
import Derived.Test.YtgdhgicofobebaaRows
import Derived.Test.YtgdhgicofobebaaFr
import Derived.Test.YtgdhgicofobebaaCrv
import Derived.Test.YtgdhgicofobebaaCrt
namespace Go.Proofs.Ytgdhgicofobebaa.Cr
set_option maxRecDepth 100000
open Go Go.ChangeShapes Go.WideShapes Go.ChangeAt Go.RowKit

set_option maxRecDepth 100000 in
theorem crcBack_lifted (os : Os) (started : os.Started) (H : Type) (enc : TypeId × Value → H) (F : Stop.Interp) :
    ReturnsInHanded {} Try.checked os 7 .any ((OpenSpec.ofChange Rows.crcBackSpec).preRow enc Try.prog Try.f7 Rows.crcBackRow.domain false Rows.crcBackRow.laid) (((OpenSpec.ofChange Rows.crcBackSpec).at F).post enc Try.prog Try.f7 false true false false) := by
  refine returnsInHanded_of_row (C := Try.checked) (s := OpenSpec.ofChange Rows.crcBackSpec) own started (by kernel_rfl) Try.func7
    (witness_row_at (enc := enc) (C := Try.checked) false (World.doorLaid Try.prog 400 os) #[.int .u64 0, .slice none 0 0, .slice none 0 0] rfl (by kernel_rfl) (by kernel_rfl) (by kernel_rfl)
      (OpenSpec.preRow_of_cond 8 (x := ([.lit (.int .u64 0), .nil, .nil], [], [])) (by kernel_rfl) (by kernel_rfl) (fun k hk => by cases hk) (by kernel_rfl) (⟨[], by first | rfl | trivial, List.nodup_nil, fun _ _ h => (by cases h)⟩))) ?_
  intro W base args ds gs before hval0 hW _ _ hsz hL _ _
  have hval : ∀ (j : Nat) t v, Try.f7.params[j]? = some t → args[j]? = some v → Value.okWide Try.prog W .any base t v := hval0
  obtain ⟨pp, hA⟩ := Fr.args_of hW
  rw [Try.params7] at hA hval
  obtain ⟨v0, v1, v2, d0, d1, d2, p0, p1, p2, rfl, rfl, hp, h0, h1, h2⟩ := trodAll_three hA
  obtain ⟨x0, rfl, rfl, rfl, wx0⟩ := open_int Try.underlying29 (hval 0 29 v0 rfl rfl) h0
  obtain ⟨n0, rfl, hn0⟩ := u64_of wx0
  obtain ⟨l1, hb1⟩ := bys_arg (hval 1 23 v1 rfl rfl) h1
  obtain ⟨l2, hb2⟩ := bys_arg (hval 2 23 v2 rfl rfl) h2
  exact (back_law n0 v1 v2 l1 l2 W hn0 hb1 hb2).mono fun e W' ⟨he, hb⟩ => ⟨_, he, Fr.law_post laidOut (by kernel_rfl) rfl Try.underlying4 rfl rfl hW hb⟩

theorem crcBack_said : Rows.CrcBackSaid :=
  OpenClaim.holds_of_cond 7 Try.f7 rfl rfl rfl rfl rfl rfl rfl ⟨rfl, rfl, rfl, rfl, rfl⟩ rfl rfl rfl rfl rfl (by kernel_rfl) Try.func7 (by kernel_rfl)
    (of_decide_eq_true (by kernel_rfl)) (by unfold Func.isWrapper; first | (rw [if_pos (by decide +kernel)]; kernel_rfl) | (rw [if_neg (by decide +kernel)]; exact ⟨rfl, rfl⟩))
    (fun os started H enc _ F => by rw [OpenClaim.pre_eq_preRow]; exact crcBack_lifted os started H enc F)
end Go.Proofs.Ytgdhgicofobebaa.Cr
