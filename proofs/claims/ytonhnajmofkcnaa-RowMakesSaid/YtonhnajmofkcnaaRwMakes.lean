/- For every node and every two rows, what is made of them is what the document says; of trees, as many as the node has, these are its kids; the arguments read as they did. -/
import Derived.Test.YtonhnajmofkcnaaRwf
import Derived.Test.YtonhnajmofkcnaaRwq
import Derived.Test.YtonhnajmofkcnaaRwcon
namespace Go.Proofs.Ytonhnajmofkcnaa.Rw
set_option maxRecDepth 100000
open Go Go.ChangeShapes Go.WideShapes Go.ChangeAt Go.RowKit

set_option maxRecDepth 100000 in
theorem rowMakes_lifted (os : Os) (started : os.Started) (H : Type) (enc : TypeId × Value → H) (F : Stop.Interp) :
    ReturnsInHanded {} Try.checked os 6 .any ((OpenSpec.ofChange Rows.rowMakesSpec).preRow enc Try.prog Try.f6 Rows.rowMakesRow.domain false Rows.rowMakesRow.laid) (((OpenSpec.ofChange Rows.rowMakesSpec).at F).post enc Try.prog Try.f6 false true false false) := by
  refine returnsInHanded_of_row (C := Try.checked) (s := OpenSpec.ofChange Rows.rowMakesSpec) own started (by kernel_rfl) Try.func6
    (witness_row_at (enc := enc) (C := Try.checked) false (World.doorLaid Try.prog 400 os) #[.agg #[.int .i64 0, .string ⟨#[]⟩, .int .i64 0], .slice none 0 0, .slice none 0 0] rfl (by kernel_rfl) (by kernel_rfl) (by kernel_rfl)
      (OpenSpec.preRow_of_cond 8 (x := ([.agg [.lit (.int .i64 0), .lit (.string []), .lit (.int .i64 0)], .nil, .nil], [], [])) (by kernel_rfl) (by kernel_rfl) (fun k hk => by cases hk) (by kernel_rfl) (⟨[], by first | rfl | trivial, List.nodup_nil, fun _ _ h => (by cases h)⟩))) ?_
  intro W base args ds gs before hval0 hW _ _ hsz hL _ _
  have hval : ∀ (j : Nat) t v, Try.f6.params[j]? = some t → args[j]? = some v → Value.okWide Try.prog W .any base t v := hval0
  obtain ⟨pp, hA⟩ := Fr.args_of hW
  rw [Try.params6] at hA hval
  obtain ⟨v0, v1, v2, d0, d1, d2, p0, p1, p2, rfl, rfl, hp, h0, h1, h2⟩ := trodAll_three hA
  obtain ⟨x0, rfl, rfl⟩ := nd_arg (hval 0 23 v0 rfl rfl) h0
  obtain ⟨x1, hs1, hd1⟩ := nds_arg (hval 1 27 v1 rfl rfl) h1
  obtain ⟨x2, hs2, hd2⟩ := nds_arg (hval 2 27 v2 rfl rfl) h2
  exact (makes_law con x0 v1 v2 x1 x2 W hs1 hs2).mono fun e W' ⟨he, hb⟩ => ⟨_, he, Fr.law_post laidOut (by kernel_rfl) rfl Try.underlying4 rfl rfl hW hb⟩

theorem rowMakes_said : Rows.RowMakesSaid :=
  OpenClaim.holds_of_cond 6 Try.f6 rfl rfl rfl rfl rfl rfl rfl ⟨rfl, rfl, rfl, rfl, rfl⟩ rfl rfl rfl rfl rfl (by kernel_rfl) Try.func6 (by kernel_rfl)
    (of_decide_eq_true (by kernel_rfl)) (by unfold Func.isWrapper; first | (rw [if_pos (by decide +kernel)]; kernel_rfl) | (rw [if_neg (by decide +kernel)]; exact ⟨rfl, rfl⟩))
    (fun os started H enc _ F => by rw [OpenClaim.pre_eq_preRow]; exact rowMakes_lifted os started H enc F)
end Go.Proofs.Ytonhnajmofkcnaa.Rw
