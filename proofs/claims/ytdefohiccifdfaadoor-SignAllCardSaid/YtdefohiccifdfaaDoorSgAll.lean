/- For every row of numbers, how all of them end is what the document says; the argument reads as it did; the texts of signs are tied to the program's text. -/
import Derived.Test.YtdefohiccifdfaaDoorSgc
namespace Go.Proofs.YtdefohiccifdfaaDoor.Sg
open Go Go.ChangeShapes Go.WideShapes Go.ChangeAt Go.RowKit
open Go.ChangeMaps (open_string)

set_option maxRecDepth 100000 in
theorem signAll_lifted (os : Os) (started : os.Started) (H : Type) (enc : TypeId × Value → H) (F : Stop.Interp) :
    ReturnsInHanded {} Tryd.checked os 6 .any ((OpenSpec.ofChange Rows.signAllSpec).preRow enc Tryd.prog Tryd.f6 Rows.signAllRow.domain false Rows.signAllRow.laid) (((OpenSpec.ofChange Rows.signAllSpec).at F).post enc Tryd.prog Tryd.f6 false true false false) := by
  refine returnsInHanded_of_row (C := Tryd.checked) (s := OpenSpec.ofChange Rows.signAllSpec) own started (by kernel_rfl) Tryd.func6
    (witness_row_at (enc := enc) (C := Tryd.checked) false (World.doorLaid Tryd.prog 400 os) #[.slice none 0 0] rfl (by kernel_rfl) (by kernel_rfl) (by kernel_rfl)
      (OpenSpec.preRow_of_cond 8 (x := ([.nil], [], [])) (by kernel_rfl) (by kernel_rfl) (fun k hk => by cases hk) (by kernel_rfl) (met os _))) ?_
  intro W base args ds gs before hval0 hW _ _ hsz hL _ _
  have hval : ∀ (j : Nat) t v, Tryd.f6.params[j]? = some t → args[j]? = some v → Value.okWide Tryd.prog W .any base t v := hval0
  obtain ⟨pp, hA⟩ := Fr.args_of hW
  rw [Tryd.params6] at hA hval
  obtain ⟨v0, d0, rfl, rfl, h0⟩ := trodAll_one hA
  obtain ⟨a0, c0, x0, rfl, hl0, hm0, hw0, hn0, hx0⟩ := Fr.ints_arg Tryd.underlying32 Tryd.underlying3 (by kernel_rfl) (hval 0 32 v0 rfl rfl) h0
  exact (signAll_row a0 c0 x0 W (tab_of hL) (Or.elim hx0 (fun h => Or.inl ⟨h, a0, c0, by rw [h]; rfl⟩) (fun ⟨b, off, h, hc⟩ => Or.inr ⟨b, off, c0, by rw [h], hc⟩)) (Nat.le_trans hl0 hm0)).mono fun e W' ⟨he, hb⟩ => ⟨_, he, Fr.law_post laidOut (by kernel_rfl) rfl Tryd.underlying4 rfl rfl hW hb⟩

theorem signAll_said : Rows.SignAllSaid :=
  OpenClaim.holds_of_cond 6 Tryd.f6 rfl rfl rfl rfl rfl rfl rfl ⟨rfl, rfl, rfl, rfl, rfl⟩ rfl rfl rfl rfl rfl (by kernel_rfl) Tryd.func6 (by kernel_rfl)
    (of_decide_eq_true (by kernel_rfl)) (by unfold Func.isWrapper; first | (rw [if_pos (by decide +kernel)]; kernel_rfl) | (rw [if_neg (by decide +kernel)]; exact ⟨rfl, rfl⟩))
    (fun os started H enc _ F => by rw [OpenClaim.pre_eq_preRow]; exact signAll_lifted os started H enc F)

theorem signAll_card : Rows.SignAllCardSaid :=
  Claim7.holds_tied_plain_at .later [] _ _ _ _ signAll_said (fun _ h => by cases h) (by kernel_rfl) (fun _ h => by cases h) signAll_row_tie rfl ⟨rfl, rfl⟩ (by kernel_rfl) rfl
    (plain (by kernel_rfl) Tryd.func6 (by kernel_rfl) (by kernel_rfl)) (by kernel_rfl)
end Go.Proofs.YtdefohiccifdfaaDoor.Sg
