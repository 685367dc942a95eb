/- Three terms in a row, or in a choice, or side by side, mean the same however they are put together, and a choice and a pair side by side hang not on order; the arguments read as they did; the texts of signs are tied to the program's text. -/
import Derived.Test.YtghnonbcojbohaaGreatDoorQ06
import Derived.Test.YtghnonbcojbohaaGreatDoorQ37

namespace Go.Proofs.YtghnonbcojbohaaGreatDoor.Mn
set_option maxRecDepth 100000
open Go Go.ChangeShapes Go.WideShapes Go.ChangeAt Go.RowKit
open Rw (Nd Nds nds_arg nds_in reach_cons)
open Sg (own laidOut met plain tab_of)

set_option maxRecDepth 100000 in
theorem meanThree_lifted (os : Os) (started : os.Started) (H : Type) (enc : TypeId × Value → H) (F : Stop.Interp) :
    ReturnsInHanded {} Tryz.checked os 6 .any ((OpenSpec.ofChange Rows.meanThreeSpec).preRow enc Tryz.prog Tryz.f6 Rows.meanThreeRow.domain false Rows.meanThreeRow.laid) (((OpenSpec.ofChange Rows.meanThreeSpec).at F).post enc Tryz.prog Tryz.f6 false true false false) := by
  refine returnsInHanded_of_row (C := Tryz.checked) (s := OpenSpec.ofChange Rows.meanThreeSpec) own started (by kernel_rfl) Tryz.func6
    (witness_row_at (enc := enc) (C := Tryz.checked) false (World.doorLaid Tryz.prog 400 os) #[.slice none 0 0, .slice none 0 0, .slice none 0 0] rfl (by kernel_rfl) (by kernel_rfl) (by kernel_rfl)
      (OpenSpec.preRow_of_cond 8 (x := ([.nil, .nil, .nil], [], [])) (by kernel_rfl) (by kernel_rfl) (fun k hk => by cases hk) (by kernel_rfl) (met os _))) ?_
  intro W base args ds gs before hval0 hW _ _ hsz hL _ _
  have hval : ∀ (j : Nat) t v, Tryz.f6.params[j]? = some t → args[j]? = some v → Value.okWide Tryz.prog W .any base t v := hval0
  obtain ⟨pp, hA⟩ := Fr.args_of hW
  rw [Tryz.params6] at hA hval
  obtain ⟨v0, v1, v2, d0, d1, d2, p0, p1, p2, rfl, rfl, hp, h0, h1, h2⟩ := trodAll_three hA
  obtain ⟨x0, hs0, hd0⟩ := nds_arg (hval 0 22 v0 rfl rfl) h0
  obtain ⟨x1, hs1, hd1⟩ := nds_arg (hval 1 22 v1 rfl rfl) h1
  obtain ⟨x2, hs2, hd2⟩ := nds_arg (hval 2 22 v2 rfl rfl) h2
  obtain ⟨z0, z1⟩ := reach_cons hsz
  obtain ⟨z1, z2⟩ := reach_cons z1
  obtain ⟨z2, -⟩ := reach_cons z2
  exact (three_law v0 v1 v2 x0 x1 x2 W (tab_of hL) hs0 hs1 hs2 (nds_in hd0 z0) (nds_in hd1 z1) (nds_in hd2 z2)).mono fun e W' ⟨he, hb⟩ => ⟨_, he, Fr.law_post laidOut (by kernel_rfl) rfl Tryz.underlying4 rfl rfl hW hb⟩

theorem meanThree_said : Rows.MeanThreeSaid :=
  OpenClaim.holds_of_cond 6 Tryz.f6 rfl rfl rfl rfl rfl rfl rfl ⟨rfl, rfl, rfl, rfl, rfl⟩ rfl rfl rfl rfl rfl (by kernel_rfl) Tryz.func6 (by kernel_rfl)
    (of_decide_eq_true (by kernel_rfl)) (by unfold Func.isWrapper; first | (rw [if_pos (by decide +kernel)]; kernel_rfl) | (rw [if_neg (by decide +kernel)]; exact ⟨rfl, rfl⟩))
    (fun os started H enc _ F => by rw [OpenClaim.pre_eq_preRow]; exact meanThree_lifted os started H enc F)

theorem meanThree_card : Rows.MeanThreeCardSaid :=
  Claim7.holds_tied_plain_at .later [] _ _ _ _ meanThree_said (fun _ h => by cases h) (by kernel_rfl) (fun _ h => by cases h) meanThree_row_tie rfl ⟨rfl, rfl⟩ (by kernel_rfl) rfl
    (plain (by kernel_rfl) Tryz.func6 (by kernel_rfl) (by kernel_rfl)) (by kernel_rfl)
end Go.Proofs.YtghnonbcojbohaaGreatDoor.Mn
