/- For every two rows of nodes side by side, a move of the one and a move of the other come to the same in either order. -/
import Derived.Test.YtaapnkoooofalaaQ04
import Derived.Test.YtaapnkoooofalaaQ29
import Derived.Test.YtaapnkoooofalaaQ30
import Derived.Test.YtaapnkoooofalaaQ32
import Derived.Test.YtaapnkoooofalaaQ35

namespace Go.Proofs.Ytaapnkoooofalaa.St
set_option maxRecDepth 100000
open Go Go.ChangeShapes Go.WideShapes Go.ChangeAt Go.RowKit Rw
set_option maxRecDepth 100000 in
theorem stepBeside_lifted (os : Os) (started : os.Started) (H : Type) (enc : TypeId × Value → H) (F : Stop.Interp) :
    ReturnsInHanded {} Try.checked os 7 .any ((OpenSpec.ofChange Rows.stepBesideSpec).preRow enc Try.prog Try.f7 Rows.stepBesideRow.domain false Rows.stepBesideRow.laid) (((OpenSpec.ofChange Rows.stepBesideSpec).at F).post enc Try.prog Try.f7 false true false false) := by
  refine returnsInHanded_of_row (C := Try.checked) (s := OpenSpec.ofChange Rows.stepBesideSpec) own started (by kernel_rfl) Try.func7
    (witness_row_at (enc := enc) (C := Try.checked) false (World.doorLaid Try.prog 400 os) #[.slice none 0 0, .slice none 0 0, .agg #[.int .i64 0, .int .i64 0]] rfl (by kernel_rfl) (by kernel_rfl) (by kernel_rfl)
      (OpenSpec.preRow_of_cond 8 (x := ([.nil, .nil, .agg [.lit (.int .i64 0), .lit (.int .i64 0)]], [], [])) (by kernel_rfl) (by kernel_rfl) (fun k hk => by cases hk) (by kernel_rfl) (⟨[], by first | rfl | trivial, List.nodup_nil, fun _ _ h => (by cases h)⟩))) ?_
  intro W base args ds gs before hval0 hW _ _ hsz hL _ _
  have hval : ∀ (j : Nat) t v, Try.f7.params[j]? = some t → args[j]? = some v → Value.okWide Try.prog W .any base t v := hval0
  obtain ⟨pp, hA⟩ := Fr.args_of hW
  rw [Try.params7] at hA hval
  obtain ⟨v0, v1, v2, d0, d1, d2, p0, p1, p2, rfl, rfl, hp, h0, h1, h2⟩ := trodAll_three hA
  obtain ⟨x0, hs0, hd0⟩ := nds_arg (hval 0 22 v0 rfl rfl) h0
  obtain ⟨x1, hs1, hd1⟩ := nds_arg (hval 1 22 v1 rfl rfl) h1
  obtain ⟨za2, zb2, rfl, ha2, hb2⟩ := pair_arg (hval 2 43 v2 rfl rfl) h2
  exact (beside_law Me.con con (alive_of con) v0 v1 x0 x1 za2 zb2 W hs0 hs1 (nds_in hd0 (reach_cons hsz).1) (nds_in hd1 (reach_cons (reach_cons hsz).2).1) ha2 hb2).mono fun e W' ⟨he, hb⟩ => ⟨_, he, Fr.law_post laidOut (by kernel_rfl) rfl Try.underlying4 rfl rfl hW hb⟩
theorem stepBeside_said : Rows.StepBesideSaid :=
  OpenClaim.holds_of_cond 7 Try.f7 rfl rfl rfl rfl rfl rfl rfl ⟨rfl, rfl, rfl, rfl, rfl⟩ rfl rfl rfl rfl rfl (by kernel_rfl) Try.func7 (by kernel_rfl)
    (of_decide_eq_true (by kernel_rfl)) (by unfold Func.isWrapper; first | (rw [if_pos (by decide +kernel)]; kernel_rfl) | (rw [if_neg (by decide +kernel)]; exact ⟨rfl, rfl⟩))
    (fun os started H enc _ F => by rw [OpenClaim.pre_eq_preRow]; exact stepBeside_lifted os started H enc F)
end Go.Proofs.Ytaapnkoooofalaa.St
