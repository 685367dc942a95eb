/- For every two rows of numbers, all of both is both of the parts; the arguments read as they did; the texts of signs are tied to the program's text. -/
import Derived.Test.YtdefohiccifdfaaDoorSgc
import Derived.Test.YtdefohiccifdfaaDoorSgp
namespace Go.Proofs.YtdefohiccifdfaaDoor.Sg
open Go Go.ChangeShapes Go.WideShapes Go.ChangeAt Go.RowKit
open Go.ChangeMaps (open_string)

set_option maxRecDepth 100000 in
theorem signParts_lifted (os : Os) (started : os.Started) (H : Type) (enc : TypeId × Value → H) (F : Stop.Interp) :
    ReturnsInHanded {} Tryd.checked os 8 .any ((OpenSpec.ofChange Rows.signPartsSpec).preRow enc Tryd.prog Tryd.f8 Rows.signPartsRow.domain false Rows.signPartsRow.laid) (((OpenSpec.ofChange Rows.signPartsSpec).at F).post enc Tryd.prog Tryd.f8 false true false false) := by
  refine returnsInHanded_of_row (C := Tryd.checked) (s := OpenSpec.ofChange Rows.signPartsSpec) own started (by kernel_rfl) Tryd.func8
    (witness_row_at (enc := enc) (C := Tryd.checked) false (World.doorLaid Tryd.prog 400 os) #[.slice none 0 0, .slice none 0 0] rfl (by kernel_rfl) (by kernel_rfl) (by kernel_rfl)
      (OpenSpec.preRow_of_cond 8 (x := ([.nil, .nil], [], [])) (by kernel_rfl) (by kernel_rfl) (fun k hk => by cases hk) (by kernel_rfl) (met os _))) ?_
  intro W base args ds gs before hval0 hW _ _ hsz hL _ _
  have hval : ∀ (j : Nat) t v, Tryd.f8.params[j]? = some t → args[j]? = some v → Value.okWide Tryd.prog W .any base t v := hval0
  obtain ⟨pp, hA⟩ := Fr.args_of hW
  rw [Tryd.params8] at hA hval
  obtain ⟨v0, v1, d0, d1, p0, p1, rfl, rfl, hp, h0, h1⟩ := trodAll_two hA
  obtain ⟨a0, c0, x0, rfl, hl0, hm0, hw0, hn0, hx0⟩ := Fr.ints_arg Tryd.underlying32 Tryd.underlying3 (by kernel_rfl) (hval 0 32 v0 rfl rfl) h0
  obtain ⟨a1, c1, x1, rfl, hl1, hm1, hw1, hn1, hx1⟩ := Fr.ints_arg Tryd.underlying32 Tryd.underlying3 (by kernel_rfl) (hval 1 32 v1 rfl rfl) h1
  exact (signParts_any a0 a1 c0 c1 x0 x1 W (tab_of hL) (Or.elim hx0 (fun h => Or.inl ⟨h, a0, c0, by rw [h]; rfl⟩) (fun ⟨b, off, h, hc⟩ => Or.inr ⟨b, off, c0, by rw [h], hc⟩)) (Or.elim hx1 (fun h => Or.inl ⟨h, a1, c1, by rw [h]; rfl⟩) (fun ⟨b, off, h, hc⟩ => Or.inr ⟨b, off, c1, by rw [h], hc⟩)) hl0 hl1 hm0 hm1 hn0 hn1).mono fun e W' ⟨he, hb⟩ => ⟨_, he, Fr.law_post laidOut (by kernel_rfl) rfl Tryd.underlying4 rfl rfl hW hb⟩

theorem signParts_said : Rows.SignPartsSaid :=
  OpenClaim.holds_of_cond 8 Tryd.f8 rfl rfl rfl rfl rfl rfl rfl ⟨rfl, rfl, rfl, rfl, rfl⟩ rfl rfl rfl rfl rfl (by kernel_rfl) Tryd.func8 (by kernel_rfl)
    (of_decide_eq_true (by kernel_rfl)) (by unfold Func.isWrapper; first | (rw [if_pos (by decide +kernel)]; kernel_rfl) | (rw [if_neg (by decide +kernel)]; exact ⟨rfl, rfl⟩))
    (fun os started H enc _ F => by rw [OpenClaim.pre_eq_preRow]; exact signParts_lifted os started H enc F)

theorem signParts_card : Rows.SignPartsCardSaid :=
  Claim7.holds_tied_plain_at .later [] _ _ _ _ signParts_said (fun _ h => by cases h) (by kernel_rfl) (fun _ h => by cases h) signParts_row_tie rfl ⟨rfl, rfl⟩ (by kernel_rfl) rfl
    (plain (by kernel_rfl) Tryd.func8 (by kernel_rfl) (by kernel_rfl)) (by kernel_rfl)
end Go.Proofs.YtdefohiccifdfaaDoor.Sg
