/- For every row of nodes, its moves are what the document says; the argument reads as it did; the tables are tied to the program's text. -/
import Derived.Test.YtdkaoiomndkbjaaGreatDoorQ04
import Derived.Test.YtdkaoiomndkbjaaGreatDoorQ32
import Derived.Test.YtdkaoiomndkbjaaGreatDoorQ35
import Derived.Test.YtdkaoiomndkbjaaGreatDoorQ36
import Derived.Test.YtdkaoiomndkbjaaGreatDoorQ38
import Derived.Test.YtdkaoiomndkbjaaGreatDoorQ31

namespace Go.Proofs.YtdkaoiomndkbjaaGreatDoor.Me
set_option maxRecDepth 100000
open Go Go.ChangeShapes Go.WideShapes Go.ChangeAt Go.RowKit Rw
set_option maxRecDepth 100000 in
theorem moveEnabled_lifted (os : Os) (started : os.Started) (H : Type) (enc : TypeId × Value → H) (F : Stop.Interp) :
    ReturnsInHanded {} Tryz.checked os 3 .any ((OpenSpec.ofChange Rows.moveEnabledSpec).preRow enc Tryz.prog Tryz.f3 Rows.moveEnabledRow.domain false Rows.moveEnabledRow.laid) (((OpenSpec.ofChange Rows.moveEnabledSpec).at F).post enc Tryz.prog Tryz.f3 false true false false) := by
  refine returnsInHanded_of_row (C := Tryz.checked) (s := OpenSpec.ofChange Rows.moveEnabledSpec) own started (by kernel_rfl) Tryz.func3
    (witness_row_at (enc := enc) (C := Tryz.checked) false (World.doorLaid Tryz.prog 4000 os) #[.slice none 0 0] rfl (by kernel_rfl) (by kernel_rfl) (by kernel_rfl)
      (OpenSpec.preRow_of_cond 8 (x := ([.nil], [], [])) (by kernel_rfl) (by kernel_rfl) (fun k hk => by cases hk) (by kernel_rfl) (met os _))) ?_
  intro W base args ds gs before hval0 hW _ _ hsz hL _ _
  have hval : ∀ (j : Nat) t v, Tryz.f3.params[j]? = some t → args[j]? = some v → Value.okWide Tryz.prog W .any base t v := hval0
  obtain ⟨pp, hA⟩ := Fr.args_of hW
  rw [Tryz.params3] at hA hval
  obtain ⟨v0, d0, rfl, rfl, h0⟩ := trodAll_one hA
  obtain ⟨x0, hs0, hd0⟩ := nds_arg (hval 0 22 v0 rfl rfl) h0
  exact (enabled_law con (alive_of con textP) v0 x0 W (tx_of hL) hs0 (nds_in hd0 (reach_cons hsz).1)).mono fun e W' ⟨he, hb⟩ => ⟨_, he, Fr.law_post laidOut (by kernel_rfl) rfl Tryz.underlying4 rfl rfl hW hb⟩
theorem moveEnabled_said : Rows.MoveEnabledSaid :=
  OpenClaim.holds_of_cond 3 Tryz.f3 rfl rfl rfl rfl rfl rfl rfl ⟨rfl, rfl, rfl, rfl, rfl⟩ rfl rfl rfl rfl rfl (by kernel_rfl) Tryz.func3 (by kernel_rfl)
    (of_decide_eq_true (by kernel_rfl)) (by unfold Func.isWrapper; first | (rw [if_pos (by decide +kernel)]; kernel_rfl) | (rw [if_neg (by decide +kernel)]; exact ⟨rfl, rfl⟩))
    (fun os started H enc _ F => by rw [OpenClaim.pre_eq_preRow]; exact moveEnabled_lifted os started H enc F)
theorem moveEnabled_card : Rows.MoveEnabledCardSaid :=
  Claim7.holds_tied_plain_at .later [] _ _ _ _ moveEnabled_said (fun _ h => by cases h) (by kernel_rfl) (fun _ h => by cases h) moveEnabled_row_tie rfl ⟨rfl, rfl⟩ (by kernel_rfl) rfl
    (plain (by kernel_rfl) Tryz.func3 (by kernel_rfl) (by kernel_rfl)) (by kernel_rfl)
end Go.Proofs.YtdkaoiomndkbjaaGreatDoor.Me
