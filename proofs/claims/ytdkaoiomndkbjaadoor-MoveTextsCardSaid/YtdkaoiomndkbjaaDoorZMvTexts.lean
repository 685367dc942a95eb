/- For every move its text is what the document says; the argument reads as it did; the tables are tied to the program's text. -/
import Derived.Test.YtdkaoiomndkbjaaDoorQ04
import Derived.Test.YtdkaoiomndkbjaaDoorQ22
import Derived.Test.YtdkaoiomndkbjaaDoorQ24
import Derived.Test.YtdkaoiomndkbjaaDoorQ28
import Derived.Test.YtdkaoiomndkbjaaDoorQ30
import Derived.Test.YtdkaoiomndkbjaaDoorQ25
import Derived.Test.YtdkaoiomndkbjaaDoorQ23

namespace Go.Proofs.YtdkaoiomndkbjaaDoor.Me
set_option maxRecDepth 100000
open Go Go.ChangeShapes Go.WideShapes Go.ChangeAt Go.RowKit Rw
set_option maxRecDepth 100000 in
theorem moveTexts_lifted (os : Os) (started : os.Started) (H : Type) (enc : TypeId × Value → H) (F : Stop.Interp) :
    ReturnsInHanded {} Tryd.checked os 3 .any ((OpenSpec.ofChange Rows.moveTextsSpec).preRow enc Tryd.prog Tryd.f3 Rows.moveTextsRow.domain false Rows.moveTextsRow.laid) (((OpenSpec.ofChange Rows.moveTextsSpec).at F).post enc Tryd.prog Tryd.f3 false true false false) := by
  refine returnsInHanded_of_row (C := Tryd.checked) (s := OpenSpec.ofChange Rows.moveTextsSpec) own started (by kernel_rfl) Tryd.func3
    (witness_row_at (enc := enc) (C := Tryd.checked) false (World.doorLaid Tryd.prog 4000 os) #[.agg #[.int .i64 0, .int .i64 0]] rfl (by kernel_rfl) (by kernel_rfl) (by kernel_rfl)
      (OpenSpec.preRow_of_cond 8 (x := ([.agg [.lit (.int .i64 0), .lit (.int .i64 0)]], [], [])) (by kernel_rfl) (by kernel_rfl) (fun k hk => by cases hk) (by kernel_rfl) (met os _))) ?_
  intro W base args ds gs before hval0 hW _ _ hsz hL _ _
  have hval : ∀ (j : Nat) t v, Tryd.f3.params[j]? = some t → args[j]? = some v → Value.okWide Tryd.prog W .any base t v := hval0
  obtain ⟨pp, hA⟩ := Fr.args_of hW
  rw [Tryd.params3] at hA hval
  obtain ⟨v0, d0, rfl, rfl, h0⟩ := trodAll_one hA
  obtain ⟨z0, rfl, hz0⟩ := mv_arg (hval 0 23 v0 rfl rfl) h0
  exact (texts_law textP (alive_of con textP) z0 W (tx_of hL) hz0).mono fun e W' ⟨he, hb⟩ => ⟨_, he, Fr.law_post laidOut (by kernel_rfl) rfl Tryd.underlying4 rfl rfl hW hb⟩
theorem moveTexts_said : Rows.MoveTextsSaid :=
  OpenClaim.holds_of_cond 3 Tryd.f3 rfl rfl rfl rfl rfl rfl rfl ⟨rfl, rfl, rfl, rfl, rfl⟩ rfl rfl rfl rfl rfl (by kernel_rfl) Tryd.func3 (by kernel_rfl)
    (of_decide_eq_true (by kernel_rfl)) (by unfold Func.isWrapper; first | (rw [if_pos (by decide +kernel)]; kernel_rfl) | (rw [if_neg (by decide +kernel)]; exact ⟨rfl, rfl⟩))
    (fun os started H enc _ F => by rw [OpenClaim.pre_eq_preRow]; exact moveTexts_lifted os started H enc F)
theorem moveTexts_card : Rows.MoveTextsCardSaid :=
  Claim7.holds_tied_plain_at .later [] _ _ _ _ moveTexts_said (fun _ h => by cases h) (by kernel_rfl) (fun _ h => by cases h) moveTexts_row_tie rfl ⟨rfl, rfl⟩ (by kernel_rfl) rfl
    (plain (by kernel_rfl) Tryd.func3 (by kernel_rfl) (by kernel_rfl)) (by kernel_rfl)
end Go.Proofs.YtdkaoiomndkbjaaDoor.Me
