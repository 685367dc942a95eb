/- For every number and every text, which signs there are, their texts, and the sign of the text are what the document says; the arguments read as they did; the texts of signs are tied to the program's text. -/
import Derived.Test.YtdefohiccifdfaaDoorSgc
namespace Go.Proofs.YtdefohiccifdfaaDoor.Sg
open Go Go.ChangeShapes Go.WideShapes Go.ChangeAt Go.RowKit
open Go.ChangeMaps (open_string)

set_option maxRecDepth 100000 in
theorem signIs_lifted (os : Os) (started : os.Started) (H : Type) (enc : TypeId × Value → H) (F : Stop.Interp) :
    ReturnsInHanded {} Tryd.checked os 3 .any ((OpenSpec.ofChange Rows.signIsSpec).preRow enc Tryd.prog Tryd.f3 Rows.signIsRow.domain false Rows.signIsRow.laid) (((OpenSpec.ofChange Rows.signIsSpec).at F).post enc Tryd.prog Tryd.f3 false true false false) := by
  refine returnsInHanded_of_row (C := Tryd.checked) (s := OpenSpec.ofChange Rows.signIsSpec) own started (by kernel_rfl) Tryd.func3
    (witness_row_at (enc := enc) (C := Tryd.checked) false (World.doorLaid Tryd.prog 400 os) #[.int .i64 0, .string ⟨#[]⟩] rfl (by kernel_rfl) (by kernel_rfl) (by kernel_rfl)
      (OpenSpec.preRow_of_cond 8 (x := ([.lit (.int .i64 0), .lit (.string [])], [], [])) (by kernel_rfl) (by kernel_rfl) (fun k hk => by cases hk) (by kernel_rfl) (met os _))) ?_
  intro W base args ds gs before hval0 hW _ _ hsz hL _ _
  have hval : ∀ (j : Nat) t v, Tryd.f3.params[j]? = some t → args[j]? = some v → Value.okWide Tryd.prog W .any base t v := hval0
  obtain ⟨pp, hA⟩ := Fr.args_of hW
  rw [Tryd.params3] at hA hval
  obtain ⟨v0, v1, d0, d1, p0, p1, rfl, rfl, hp, h0, h1⟩ := trodAll_two hA
  obtain ⟨x0, rfl, rfl, rfl, wx0⟩ := open_int Tryd.underlying3 (hval 0 3 v0 rfl rfl) h0
  obtain ⟨x1, rfl, rfl, rfl, hx1⟩ := open_string Tryd.underlying9 (hval 1 9 v1 rfl rfl) h1
  exact (signIs_any x0 x1 W (tab_of hL) hx1).mono fun e W' ⟨he, hb⟩ => ⟨_, he, Fr.law_post laidOut (by kernel_rfl) rfl Tryd.underlying4 rfl rfl hW hb⟩

theorem signIs_said : Rows.SignIsSaid :=
  OpenClaim.holds_of_cond 3 Tryd.f3 rfl rfl rfl rfl rfl rfl rfl ⟨rfl, rfl, rfl, rfl, rfl⟩ rfl rfl rfl rfl rfl (by kernel_rfl) Tryd.func3 (by kernel_rfl)
    (of_decide_eq_true (by kernel_rfl)) (by unfold Func.isWrapper; first | (rw [if_pos (by decide +kernel)]; kernel_rfl) | (rw [if_neg (by decide +kernel)]; exact ⟨rfl, rfl⟩))
    (fun os started H enc _ F => by rw [OpenClaim.pre_eq_preRow]; exact signIs_lifted os started H enc F)

theorem signIs_card : Rows.SignIsCardSaid :=
  Claim7.holds_tied_plain_at .later [] _ _ _ _ signIs_said (fun _ h => by cases h) (by kernel_rfl) (fun _ h => by cases h) signIs_row_tie rfl ⟨rfl, rfl⟩ (by kernel_rfl) rfl
    (plain (by kernel_rfl) Tryd.func3 (by kernel_rfl) (by kernel_rfl)) (by kernel_rfl)
end Go.Proofs.YtdefohiccifdfaaDoor.Sg
