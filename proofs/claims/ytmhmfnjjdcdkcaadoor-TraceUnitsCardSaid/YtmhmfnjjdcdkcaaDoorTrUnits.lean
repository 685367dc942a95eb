/- For every two traces, what does nothing and ends well changes nothing ahead, behind or beside the first, and where that does not end well nothing comes behind it; the arguments read as they did; the texts of signs are tied to the program's text. -/
import Derived.Test.YtmhmfnjjdcdkcaaDoorTrcd
import Derived.Test.YtmhmfnjjdcdkcaaDoorTuj
import Derived.Test.YtmhmfnjjdcdkcaaDoorTrn
namespace Go.Proofs.YtmhmfnjjdcdkcaaDoor.Tr
set_option maxRecDepth 100000
open Go Go.ChangeShapes Go.WideShapes Go.ChangeAt Go.RowKit
open Sg (own laidOut met plain tab_of)

set_option maxRecDepth 100000 in
theorem traceUnits_lifted (os : Os) (started : os.Started) (H : Type) (enc : TypeId × Value → H) (F : Stop.Interp) :
    ReturnsInHanded {} Tryd.checked os 10 .any ((OpenSpec.ofChange Rows.traceUnitsSpec).preRow enc Tryd.prog Tryd.f10 Rows.traceUnitsRow.domain false Rows.traceUnitsRow.laid) (((OpenSpec.ofChange Rows.traceUnitsSpec).at F).post enc Tryd.prog Tryd.f10 false true false false) := by
  refine returnsInHanded_of_row (C := Tryd.checked) (s := OpenSpec.ofChange Rows.traceUnitsSpec) own started (by kernel_rfl) Tryd.func10
    (witness_row_at (enc := enc) (C := Tryd.checked) false (World.doorLaid Tryd.prog 400 os) #[.agg #[.slice none 0 0, .int .i64 0], .agg #[.slice none 0 0, .int .i64 0]] rfl (by kernel_rfl) (by kernel_rfl) (by kernel_rfl)
      (OpenSpec.preRow_of_cond 8 (x := ([.agg [.nil, .lit (.int .i64 0)], .agg [.nil, .lit (.int .i64 0)]], [], [])) (by kernel_rfl) (by kernel_rfl) (fun k hk => by cases hk) (by kernel_rfl) (met os _))) ?_
  intro W base args ds gs before hval0 hW _ _ hsz hL _ _
  have hval : ∀ (j : Nat) t v, Tryd.f10.params[j]? = some t → args[j]? = some v → Value.okWide Tryd.prog W .any base t v := hval0
  obtain ⟨pp, hA⟩ := Fr.args_of hW
  rw [Tryd.params10] at hA hval
  obtain ⟨v0, v1, d0, d1, p0, p1, rfl, rfl, hp, h0, h1⟩ := trodAll_two hA
  obtain ⟨y0, x0, rr0, rfl, hs0, hd0⟩ := tr_arg (hval 0 24 v0 rfl rfl) h0
  obtain ⟨y1, x1, rr1, rfl, hs1, hd1⟩ := tr_arg (hval 1 24 v1 rfl rfl) h1
  obtain ⟨z0, z1⟩ := reach_cons hsz
  obtain ⟨z1, -⟩ := reach_cons z1
  exact (units_law con y0 y1 x0 x1 W (tab_of hL) hs0 hs1 (tr_in hd0 z0).1 (tr_in hd1 z1).1).mono fun e W' ⟨he, hb⟩ => ⟨_, he, Fr.law_post laidOut (by kernel_rfl) rfl Tryd.underlying4 rfl rfl hW hb⟩

theorem traceUnits_said : Rows.TraceUnitsSaid :=
  OpenClaim.holds_of_cond 10 Tryd.f10 rfl rfl rfl rfl rfl rfl rfl ⟨rfl, rfl, rfl, rfl, rfl⟩ rfl rfl rfl rfl rfl (by kernel_rfl) Tryd.func10 (by kernel_rfl)
    (of_decide_eq_true (by kernel_rfl)) (by unfold Func.isWrapper; first | (rw [if_pos (by decide +kernel)]; kernel_rfl) | (rw [if_neg (by decide +kernel)]; exact ⟨rfl, rfl⟩))
    (fun os started H enc _ F => by rw [OpenClaim.pre_eq_preRow]; exact traceUnits_lifted os started H enc F)

theorem traceUnits_card : Rows.TraceUnitsCardSaid :=
  Claim7.holds_tied_plain_at .later [] _ _ _ _ traceUnits_said (fun _ h => by cases h) (by kernel_rfl) (fun _ h => by cases h) traceUnits_row_tie rfl ⟨rfl, rfl⟩ (by kernel_rfl) rfl
    (plain (by kernel_rfl) Tryd.func10 (by kernel_rfl) (by kernel_rfl)) (by kernel_rfl)
end Go.Proofs.YtmhmfnjjdcdkcaaDoor.Tr
