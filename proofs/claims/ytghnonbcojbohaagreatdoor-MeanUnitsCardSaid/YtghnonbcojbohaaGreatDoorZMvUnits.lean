/- A Skip ahead, behind or beside a term changes nothing, a Throw ahead leaves nothing else, and a Hand of a Throw is what is behind it; the arguments read as they did; the texts of signs are tied to the program's text. -/
import Derived.Test.YtghnonbcojbohaaGreatDoorQ06
import Derived.Test.YtghnonbcojbohaaGreatDoorQ38

namespace Go.Proofs.YtghnonbcojbohaaGreatDoor.Mn
set_option maxRecDepth 100000
open Go Go.ChangeShapes Go.WideShapes Go.ChangeAt Go.RowKit
open Rw (Nd Nds nds_arg nds_in reach_cons)
open Sg (own laidOut met plain tab_of)

set_option maxRecDepth 100000 in
theorem meanUnits_lifted (os : Os) (started : os.Started) (H : Type) (enc : TypeId × Value → H) (F : Stop.Interp) :
    ReturnsInHanded {} Tryz.checked os 7 .any ((OpenSpec.ofChange Rows.meanUnitsSpec).preRow enc Tryz.prog Tryz.f7 Rows.meanUnitsRow.domain false Rows.meanUnitsRow.laid) (((OpenSpec.ofChange Rows.meanUnitsSpec).at F).post enc Tryz.prog Tryz.f7 false true false false) := by
  refine returnsInHanded_of_row (C := Tryz.checked) (s := OpenSpec.ofChange Rows.meanUnitsSpec) own started (by kernel_rfl) Tryz.func7
    (witness_row_at (enc := enc) (C := Tryz.checked) false (World.doorLaid Tryz.prog 400 os) #[.slice none 0 0] rfl (by kernel_rfl) (by kernel_rfl) (by kernel_rfl)
      (OpenSpec.preRow_of_cond 8 (x := ([.nil], [], [])) (by kernel_rfl) (by kernel_rfl) (fun k hk => by cases hk) (by kernel_rfl) (met os _))) ?_
  intro W base args ds gs before hval0 hW _ _ hsz hL _ _
  have hval : ∀ (j : Nat) t v, Tryz.f7.params[j]? = some t → args[j]? = some v → Value.okWide Tryz.prog W .any base t v := hval0
  obtain ⟨pp, hA⟩ := Fr.args_of hW
  rw [Tryz.params7] at hA hval
  obtain ⟨v0, d0, rfl, rfl, h0⟩ := trodAll_one hA
  obtain ⟨x0, hs0, hd0⟩ := nds_arg (hval 0 22 v0 rfl rfl) h0
  obtain ⟨z0, -⟩ := reach_cons hsz
  exact (units_law v0 x0 W (tab_of hL) hs0 (nds_in hd0 z0)).mono fun e W' ⟨he, hb⟩ => ⟨_, he, Fr.law_post laidOut (by kernel_rfl) rfl Tryz.underlying4 rfl rfl hW hb⟩

theorem meanUnits_said : Rows.MeanUnitsSaid :=
  OpenClaim.holds_of_cond 7 Tryz.f7 rfl rfl rfl rfl rfl rfl rfl ⟨rfl, rfl, rfl, rfl, rfl⟩ rfl rfl rfl rfl rfl (by kernel_rfl) Tryz.func7 (by kernel_rfl)
    (of_decide_eq_true (by kernel_rfl)) (by unfold Func.isWrapper; first | (rw [if_pos (by decide +kernel)]; kernel_rfl) | (rw [if_neg (by decide +kernel)]; exact ⟨rfl, rfl⟩))
    (fun os started H enc _ F => by rw [OpenClaim.pre_eq_preRow]; exact meanUnits_lifted os started H enc F)

theorem meanUnits_card : Rows.MeanUnitsCardSaid :=
  Claim7.holds_tied_plain_at .later [] _ _ _ _ meanUnits_said (fun _ h => by cases h) (by kernel_rfl) (fun _ h => by cases h) meanUnits_row_tie rfl ⟨rfl, rfl⟩ (by kernel_rfl) rfl
    (plain (by kernel_rfl) Tryz.func7 (by kernel_rfl) (by kernel_rfl)) (by kernel_rfl)
end Go.Proofs.YtghnonbcojbohaaGreatDoor.Mn
