/- For every row of nodes, the numbers from 0 on pick all its moves, in order, and then the first one again, those below 0 the last ones; the argument reads as it did; the tables are tied to the program's text. -/
import Derived.Test.YtdkaoiomndkbjaaDoorQ04
import Derived.Test.YtdkaoiomndkbjaaDoorQ22
import Derived.Test.YtdkaoiomndkbjaaDoorQ24
import Derived.Test.YtdkaoiomndkbjaaDoorQ28
import Derived.Test.YtdkaoiomndkbjaaDoorQ30
import Derived.Test.YtdkaoiomndkbjaaDoorQ25
import Derived.Test.YtdkaoiomndkbjaaDoorQ26

namespace Go.Proofs.YtdkaoiomndkbjaaDoor.Me
set_option maxRecDepth 100000
open Go Go.ChangeShapes Go.WideShapes Go.ChangeAt Go.RowKit Rw
set_option maxRecDepth 100000 in
theorem moveRound_lifted (os : Os) (started : os.Started) (H : Type) (enc : TypeId × Value → H) (F : Stop.Interp) :
    ReturnsInHanded {} Tryd.checked os 4 .any ((OpenSpec.ofChange Rows.moveRoundSpec).preRow enc Tryd.prog Tryd.f4 Rows.moveRoundRow.domain false Rows.moveRoundRow.laid) (((OpenSpec.ofChange Rows.moveRoundSpec).at F).post enc Tryd.prog Tryd.f4 false true false false) := by
  refine returnsInHanded_of_row (C := Tryd.checked) (s := OpenSpec.ofChange Rows.moveRoundSpec) own started (by kernel_rfl) Tryd.func4
    (witness_row_at (enc := enc) (C := Tryd.checked) false (World.doorLaid Tryd.prog 4000 os) #[.slice none 0 0] rfl (by kernel_rfl) (by kernel_rfl) (by kernel_rfl)
      (OpenSpec.preRow_of_cond 8 (x := ([.nil], [], [])) (by kernel_rfl) (by kernel_rfl) (fun k hk => by cases hk) (by kernel_rfl) (met os _))) ?_
  intro W base args ds gs before hval0 hW _ _ hsz hL _ _
  have hval : ∀ (j : Nat) t v, Tryd.f4.params[j]? = some t → args[j]? = some v → Value.okWide Tryd.prog W .any base t v := hval0
  obtain ⟨pp, hA⟩ := Fr.args_of hW
  rw [Tryd.params4] at hA hval
  obtain ⟨v0, d0, rfl, rfl, h0⟩ := trodAll_one hA
  obtain ⟨x0, hs0, hd0⟩ := nds_arg (hval 0 27 v0 rfl rfl) h0
  exact (round_law con (alive_of con textP) v0 x0 W (tx_of hL) hs0 (nds_in hd0 (reach_cons hsz).1)).mono fun e W' ⟨he, hb⟩ => ⟨_, he, Fr.law_post laidOut (by kernel_rfl) rfl Tryd.underlying4 rfl rfl hW hb⟩
theorem moveRound_said : Rows.MoveRoundSaid :=
  OpenClaim.holds_of_cond 4 Tryd.f4 rfl rfl rfl rfl rfl rfl rfl ⟨rfl, rfl, rfl, rfl, rfl⟩ rfl rfl rfl rfl rfl (by kernel_rfl) Tryd.func4 (by kernel_rfl)
    (of_decide_eq_true (by kernel_rfl)) (by unfold Func.isWrapper; first | (rw [if_pos (by decide +kernel)]; kernel_rfl) | (rw [if_neg (by decide +kernel)]; exact ⟨rfl, rfl⟩))
    (fun os started H enc _ F => by rw [OpenClaim.pre_eq_preRow]; exact moveRound_lifted os started H enc F)
theorem moveRound_card : Rows.MoveRoundCardSaid :=
  Claim7.holds_tied_plain_at .later [] _ _ _ _ moveRound_said (fun _ h => by cases h) (by kernel_rfl) (fun _ h => by cases h) moveRound_row_tie rfl ⟨rfl, rfl⟩ (by kernel_rfl) rfl
    (plain (by kernel_rfl) Tryd.func4 (by kernel_rfl) (by kernel_rfl)) (by kernel_rfl)
end Go.Proofs.YtdkaoiomndkbjaaDoor.Me
