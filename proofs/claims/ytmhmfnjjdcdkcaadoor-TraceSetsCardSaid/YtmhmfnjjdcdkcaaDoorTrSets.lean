/- For every two rows of traces and every trace, their sets, and whether the trace is in the first, are what the document says; the arguments read as they did; the texts of signs are tied to the program's text. -/
import Derived.Test.YtmhmfnjjdcdkcaaDoorTrcd
import Derived.Test.YtmhmfnjjdcdkcaaDoorTuj
import Derived.Test.YtmhmfnjjdcdkcaaDoorTri
namespace Go.Proofs.YtmhmfnjjdcdkcaaDoor.Tr
set_option maxRecDepth 100000
open Go Go.ChangeShapes Go.WideShapes Go.ChangeAt Go.RowKit
open Sg (own laidOut met plain tab_of)

set_option maxRecDepth 100000 in
theorem traceSets_lifted (os : Os) (started : os.Started) (H : Type) (enc : TypeId × Value → H) (F : Stop.Interp) :
    ReturnsInHanded {} Tryd.checked os 4 .any ((OpenSpec.ofChange Rows.traceSetsSpec).preRow enc Tryd.prog Tryd.f4 Rows.traceSetsRow.domain false Rows.traceSetsRow.laid) (((OpenSpec.ofChange Rows.traceSetsSpec).at F).post enc Tryd.prog Tryd.f4 false true false false) := by
  refine returnsInHanded_of_row (C := Tryd.checked) (s := OpenSpec.ofChange Rows.traceSetsSpec) own started (by kernel_rfl) Tryd.func4
    (witness_row_at (enc := enc) (C := Tryd.checked) false (World.doorLaid Tryd.prog 400 os) #[.slice none 0 0, .slice none 0 0, .agg #[.slice none 0 0, .int .i64 0]] rfl (by kernel_rfl) (by kernel_rfl) (by kernel_rfl)
      (OpenSpec.preRow_of_cond 8 (x := ([.nil, .nil, .agg [.nil, .lit (.int .i64 0)]], [], [])) (by kernel_rfl) (by kernel_rfl) (fun k hk => by cases hk) (by kernel_rfl) (met os _))) ?_
  intro W base args ds gs before hval0 hW _ _ hsz hL _ _
  have hval : ∀ (j : Nat) t v, Tryd.f4.params[j]? = some t → args[j]? = some v → Value.okWide Tryd.prog W .any base t v := hval0
  obtain ⟨pp, hA⟩ := Fr.args_of hW
  rw [Tryd.params4] at hA hval
  obtain ⟨v0, v1, v2, d0, d1, d2, p0, p1, p2, rfl, rfl, hp, h0, h1, h2⟩ := trodAll_three hA
  obtain ⟨x0, hs0, hl0, hd0⟩ := trs_arg (hval 0 26 v0 rfl rfl) h0
  obtain ⟨x1, hs1, hl1, hd1⟩ := trs_arg (hval 1 26 v1 rfl rfl) h1
  obtain ⟨y2, x2, rr2, rfl, hs2, hd2⟩ := tr_arg (hval 2 24 v2 rfl rfl) h2
  obtain ⟨z0, z1⟩ := reach_cons hsz
  obtain ⟨z1, z2⟩ := reach_cons z1
  obtain ⟨z2, -⟩ := reach_cons z2
  exact (sets_law con v0 v1 y2 x0 x1 x2 W (tab_of hL) hs0 hs1 hs2 hl0 hl1 (fun t ht => (trs_in hd0 z0 t ht).1) (fun t ht => (trs_in hd1 z1 t ht).1) (tr_in hd2 z2).1).mono fun e W' ⟨he, hb⟩ => ⟨_, he, Fr.law_post laidOut (by kernel_rfl) rfl Tryd.underlying4 rfl rfl hW hb⟩

theorem traceSets_said : Rows.TraceSetsSaid :=
  OpenClaim.holds_of_cond 4 Tryd.f4 rfl rfl rfl rfl rfl rfl rfl ⟨rfl, rfl, rfl, rfl, rfl⟩ rfl rfl rfl rfl rfl (by kernel_rfl) Tryd.func4 (by kernel_rfl)
    (of_decide_eq_true (by kernel_rfl)) (by unfold Func.isWrapper; first | (rw [if_pos (by decide +kernel)]; kernel_rfl) | (rw [if_neg (by decide +kernel)]; exact ⟨rfl, rfl⟩))
    (fun os started H enc _ F => by rw [OpenClaim.pre_eq_preRow]; exact traceSets_lifted os started H enc F)

theorem traceSets_card : Rows.TraceSetsCardSaid :=
  Claim7.holds_tied_plain_at .later [] _ _ _ _ traceSets_said (fun _ h => by cases h) (by kernel_rfl) (fun _ h => by cases h) traceSets_row_tie rfl ⟨rfl, rfl⟩ (by kernel_rfl) rfl
    (plain (by kernel_rfl) Tryd.func4 (by kernel_rfl) (by kernel_rfl)) (by kernel_rfl)
end Go.Proofs.YtmhmfnjjdcdkcaaDoor.Tr
