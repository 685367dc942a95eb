/- A Block of a Pair of two terms does what the first does when it does not give way; the arguments read as they did; the texts of signs are tied to the program's text. -/
import Derived.Test.YtghnonbcojbohaaGreatDoorQ06
import Derived.Test.YtghnonbcojbohaaGreatDoorQ37

namespace Go.Proofs.YtghnonbcojbohaaGreatDoor.Mn
set_option maxRecDepth 100000
open Go Go.ChangeShapes Go.WideShapes Go.ChangeAt Go.RowKit
open Rw (Nd Nds nds_arg nds_in reach_cons)
open Sg (own laidOut met plain tab_of)

set_option maxRecDepth 100000 in
theorem meanBlocks_lifted (os : Os) (started : os.Started) (H : Type) (enc : TypeId × Value → H) (F : Stop.Interp) :
    ReturnsInHanded {} Tryz.checked os 8 .any ((OpenSpec.ofChange Rows.meanBlocksSpec).preRow enc Tryz.prog Tryz.f8 Rows.meanBlocksRow.domain false Rows.meanBlocksRow.laid) (((OpenSpec.ofChange Rows.meanBlocksSpec).at F).post enc Tryz.prog Tryz.f8 false true false false) := by
  refine returnsInHanded_of_row (C := Tryz.checked) (s := OpenSpec.ofChange Rows.meanBlocksSpec) own started (by kernel_rfl) Tryz.func8
    (witness_row_at (enc := enc) (C := Tryz.checked) false (World.doorLaid Tryz.prog 400 os) #[.slice none 0 0, .slice none 0 0] rfl (by kernel_rfl) (by kernel_rfl) (by kernel_rfl)
      (OpenSpec.preRow_of_cond 8 (x := ([.nil, .nil], [], [])) (by kernel_rfl) (by kernel_rfl) (fun k hk => by cases hk) (by kernel_rfl) (met os _))) ?_
  intro W base args ds gs before hval0 hW _ _ hsz hL _ _
  have hval : ∀ (j : Nat) t v, Tryz.f8.params[j]? = some t → args[j]? = some v → Value.okWide Tryz.prog W .any base t v := hval0
  obtain ⟨pp, hA⟩ := Fr.args_of hW
  rw [Tryz.params8] at hA hval
  obtain ⟨v0, v1, d0, d1, p0, p1, rfl, rfl, hp, h0, h1⟩ := trodAll_two hA
  obtain ⟨x0, hs0, hd0⟩ := nds_arg (hval 0 22 v0 rfl rfl) h0
  obtain ⟨x1, hs1, hd1⟩ := nds_arg (hval 1 22 v1 rfl rfl) h1
  obtain ⟨z0, z1⟩ := reach_cons hsz
  obtain ⟨z1, -⟩ := reach_cons z1
  exact (blocks_law v0 v1 x0 x1 W (tab_of hL) hs0 hs1 (nds_in hd0 z0) (nds_in hd1 z1)).mono fun e W' ⟨he, hb⟩ => ⟨_, he, Fr.law_post laidOut (by kernel_rfl) rfl Tryz.underlying4 rfl rfl hW hb⟩

theorem meanBlocks_said : Rows.MeanBlocksSaid :=
  OpenClaim.holds_of_cond 8 Tryz.f8 rfl rfl rfl rfl rfl rfl rfl ⟨rfl, rfl, rfl, rfl, rfl⟩ rfl rfl rfl rfl rfl (by kernel_rfl) Tryz.func8 (by kernel_rfl)
    (of_decide_eq_true (by kernel_rfl)) (by unfold Func.isWrapper; first | (rw [if_pos (by decide +kernel)]; kernel_rfl) | (rw [if_neg (by decide +kernel)]; exact ⟨rfl, rfl⟩))
    (fun os started H enc _ F => by rw [OpenClaim.pre_eq_preRow]; exact meanBlocks_lifted os started H enc F)

theorem meanBlocks_card : Rows.MeanBlocksCardSaid :=
  Claim7.holds_tied_plain_at .later [] _ _ _ _ meanBlocks_said (fun _ h => by cases h) (by kernel_rfl) (fun _ h => by cases h) meanBlocks_row_tie rfl ⟨rfl, rfl⟩ (by kernel_rfl) rfl
    (plain (by kernel_rfl) Tryz.func8 (by kernel_rfl) (by kernel_rfl)) (by kernel_rfl)
end Go.Proofs.YtghnonbcojbohaaGreatDoor.Mn
