/- For every row of nodes, number and move, the move of that number, or that there is none, is what the document says, and so is whether that move may be done; the arguments read as they did; the tables are tied to the program's text. -/
import Derived.Test.YtdkaoiomndkbjaaGreatDoorQ04
import Derived.Test.YtdkaoiomndkbjaaGreatDoorQ32
import Derived.Test.YtdkaoiomndkbjaaGreatDoorQ35
import Derived.Test.YtdkaoiomndkbjaaGreatDoorQ36
import Derived.Test.YtdkaoiomndkbjaaGreatDoorQ38
import Derived.Test.YtdkaoiomndkbjaaGreatDoorQ33

namespace Go.Proofs.YtdkaoiomndkbjaaGreatDoor.Me
set_option maxRecDepth 100000
open Go Go.ChangeShapes Go.WideShapes Go.ChangeAt Go.RowKit Rw
set_option maxRecDepth 100000 in
theorem movePicks_lifted (os : Os) (started : os.Started) (H : Type) (enc : TypeId × Value → H) (F : Stop.Interp) :
    ReturnsInHanded {} Tryz.checked os 4 .any ((OpenSpec.ofChange Rows.movePicksSpec).preRow enc Tryz.prog Tryz.f4 Rows.movePicksRow.domain false Rows.movePicksRow.laid) (((OpenSpec.ofChange Rows.movePicksSpec).at F).post enc Tryz.prog Tryz.f4 false true false false) := by
  refine returnsInHanded_of_row (C := Tryz.checked) (s := OpenSpec.ofChange Rows.movePicksSpec) own started (by kernel_rfl) Tryz.func4
    (witness_row_at (enc := enc) (C := Tryz.checked) false (World.doorLaid Tryz.prog 4000 os) #[.slice none 0 0, .int .i64 0, .agg #[.int .i64 0, .int .i64 0]] rfl (by kernel_rfl) (by kernel_rfl) (by kernel_rfl)
      (OpenSpec.preRow_of_cond 8 (x := ([.nil, .lit (.int .i64 0), .agg [.lit (.int .i64 0), .lit (.int .i64 0)]], [], [])) (by kernel_rfl) (by kernel_rfl) (fun k hk => by cases hk) (by kernel_rfl) (met os _))) ?_
  intro W base args ds gs before hval0 hW _ _ hsz hL _ _
  have hval : ∀ (j : Nat) t v, Tryz.f4.params[j]? = some t → args[j]? = some v → Value.okWide Tryz.prog W .any base t v := hval0
  obtain ⟨pp, hA⟩ := Fr.args_of hW
  rw [Tryz.params4] at hA hval
  obtain ⟨v0, v1, v2, d0, d1, d2, p0, p1, p2, rfl, rfl, hp, h0, h1, h2⟩ := trodAll_three hA
  obtain ⟨x0, hs0, hd0⟩ := nds_arg (hval 0 22 v0 rfl rfl) h0
  obtain ⟨x1, rfl, rfl, rfl, wx1⟩ := open_int Tryz.underlying3 (hval 1 3 v1 rfl rfl) h1
  obtain ⟨z2, rfl, hz2⟩ := mv_arg (hval 2 29 v2 rfl rfl) h2
  exact (picks_law con (alive_of con textP) v0 x0 x1 z2 W (tx_of hL) hs0 (nds_in hd0 (reach_cons hsz).1) (in64_of wx1)).mono fun e W' ⟨he, hb⟩ => ⟨_, he, Fr.law_post laidOut (by kernel_rfl) rfl Tryz.underlying4 rfl rfl hW hb⟩
theorem movePicks_said : Rows.MovePicksSaid :=
  OpenClaim.holds_of_cond 4 Tryz.f4 rfl rfl rfl rfl rfl rfl rfl ⟨rfl, rfl, rfl, rfl, rfl⟩ rfl rfl rfl rfl rfl (by kernel_rfl) Tryz.func4 (by kernel_rfl)
    (of_decide_eq_true (by kernel_rfl)) (by unfold Func.isWrapper; first | (rw [if_pos (by decide +kernel)]; kernel_rfl) | (rw [if_neg (by decide +kernel)]; exact ⟨rfl, rfl⟩))
    (fun os started H enc _ F => by rw [OpenClaim.pre_eq_preRow]; exact movePicks_lifted os started H enc F)
theorem movePicks_card : Rows.MovePicksCardSaid :=
  Claim7.holds_tied_plain_at .later [] _ _ _ _ movePicks_said (fun _ h => by cases h) (by kernel_rfl) (fun _ h => by cases h) movePicks_row_tie rfl ⟨rfl, rfl⟩ (by kernel_rfl) rfl
    (plain (by kernel_rfl) Tryz.func4 (by kernel_rfl) (by kernel_rfl)) (by kernel_rfl)
end Go.Proofs.YtdkaoiomndkbjaaGreatDoor.Me
