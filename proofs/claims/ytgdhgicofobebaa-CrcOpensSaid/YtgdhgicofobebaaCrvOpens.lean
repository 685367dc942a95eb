/- For every row of bytes, what it is opened as, or that it is not, is what the document says; what is written into that changes nothing of them. -/
import Derived.Test.YtgdhgicofobebaaRows
import Derived.Test.YtgdhgicofobebaaFr
import Derived.Test.YtgdhgicofobebaaCrv
import Derived.Test.YtgdhgicofobebaaCrs
namespace Go.Proofs.Ytgdhgicofobebaa.Cr
set_option maxRecDepth 100000
open Go Go.ChangeShapes Go.WideShapes Go.ChangeAt Go.RowKit

set_option maxRecDepth 100000 in
theorem crcOpens_lifted (os : Os) (started : os.Started) (H : Type) (enc : TypeId × Value → H) (F : Stop.Interp) :
    ReturnsInHanded {} Try.checked os 6 .any ((OpenSpec.ofChange Rows.crcOpensSpec).preRow enc Try.prog Try.f6 Rows.crcOpensRow.domain false Rows.crcOpensRow.laid) (((OpenSpec.ofChange Rows.crcOpensSpec).at F).post enc Try.prog Try.f6 false true false false) := by
  refine returnsInHanded_of_row (C := Try.checked) (s := OpenSpec.ofChange Rows.crcOpensSpec) own started (by kernel_rfl) Try.func6
    (witness_row_at (enc := enc) (C := Try.checked) false (World.doorLaid Try.prog 400 os) #[.slice none 0 0] rfl (by kernel_rfl) (by kernel_rfl) (by kernel_rfl)
      (OpenSpec.preRow_of_cond 8 (x := ([.nil], [], [])) (by kernel_rfl) (by kernel_rfl) (fun k hk => by cases hk) (by kernel_rfl) (⟨[], by first | rfl | trivial, List.nodup_nil, fun _ _ h => (by cases h)⟩))) ?_
  intro W base args ds gs before hval0 hW _ _ hsz hL _ _
  have hval : ∀ (j : Nat) t v, Try.f6.params[j]? = some t → args[j]? = some v → Value.okWide Try.prog W .any base t v := hval0
  obtain ⟨pp, hA⟩ := Fr.args_of hW
  rw [Try.params6] at hA hval
  obtain ⟨v0, d0, rfl, rfl, h0⟩ := trodAll_one hA
  obtain ⟨l0, hb0⟩ := bys_arg (hval 0 23 v0 rfl rfl) h0
  exact (opens_law v0 l0 W hb0).mono fun e W' ⟨he, hb⟩ => ⟨_, he, Fr.law_post laidOut (by kernel_rfl) rfl Try.underlying4 rfl rfl hW hb⟩

theorem crcOpens_said : Rows.CrcOpensSaid :=
  OpenClaim.holds_of_cond 6 Try.f6 rfl rfl rfl rfl rfl rfl rfl ⟨rfl, rfl, rfl, rfl, rfl⟩ rfl rfl rfl rfl rfl (by kernel_rfl) Try.func6 (by kernel_rfl)
    (of_decide_eq_true (by kernel_rfl)) (by unfold Func.isWrapper; first | (rw [if_pos (by decide +kernel)]; kernel_rfl) | (rw [if_neg (by decide +kernel)]; exact ⟨rfl, rfl⟩))
    (fun os started H enc _ F => by rw [OpenClaim.pre_eq_preRow]; exact crcOpens_lifted os started H enc F)
end Go.Proofs.Ytgdhgicofobebaa.Cr
