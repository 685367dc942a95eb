/- For every three traces, one behind another one is what the document says, hangs not on how three are put together, and leaves what was given; the arguments read as they did; the texts of signs are tied to the program's text. -/
import Derived.Test.YtmhmfnjjdcdkcaaDoorTrcd
import Derived.Test.YtmhmfnjjdcdkcaaDoorTuj
import Derived.Test.YtmhmfnjjdcdkcaaDoorTro
namespace Go.Proofs.YtmhmfnjjdcdkcaaDoor.Tr
set_option maxRecDepth 100000
open Go Go.ChangeShapes Go.WideShapes Go.ChangeAt Go.RowKit
open Sg (own laidOut met plain tab_of)

set_option maxRecDepth 100000 in
theorem traceThen_lifted (os : Os) (started : os.Started) (H : Type) (enc : TypeId × Value → H) (F : Stop.Interp) :
    ReturnsInHanded {} Tryd.checked os 5 .any ((OpenSpec.ofChange Rows.traceThenSpec).preRow enc Tryd.prog Tryd.f5 Rows.traceThenRow.domain false Rows.traceThenRow.laid) (((OpenSpec.ofChange Rows.traceThenSpec).at F).post enc Tryd.prog Tryd.f5 false true false false) := by
  refine returnsInHanded_of_row (C := Tryd.checked) (s := OpenSpec.ofChange Rows.traceThenSpec) own started (by kernel_rfl) Tryd.func5
    (witness_row_at (enc := enc) (C := Tryd.checked) false (World.doorLaid Tryd.prog 400 os) #[.agg #[.slice none 0 0, .int .i64 0], .agg #[.slice none 0 0, .int .i64 0], .agg #[.slice none 0 0, .int .i64 0]] rfl (by kernel_rfl) (by kernel_rfl) (by kernel_rfl)
      (OpenSpec.preRow_of_cond 8 (x := ([.agg [.nil, .lit (.int .i64 0)], .agg [.nil, .lit (.int .i64 0)], .agg [.nil, .lit (.int .i64 0)]], [], [])) (by kernel_rfl) (by kernel_rfl) (fun k hk => by cases hk) (by kernel_rfl) (met os _))) ?_
  intro W base args ds gs before hval0 hW _ _ hsz hL _ _
  have hval : ∀ (j : Nat) t v, Tryd.f5.params[j]? = some t → args[j]? = some v → Value.okWide Tryd.prog W .any base t v := hval0
  obtain ⟨pp, hA⟩ := Fr.args_of hW
  rw [Tryd.params5] at hA hval
  obtain ⟨v0, v1, v2, d0, d1, d2, p0, p1, p2, rfl, rfl, hp, h0, h1, h2⟩ := trodAll_three hA
  obtain ⟨y0, x0, rr0, rfl, hs0, hd0⟩ := tr_arg (hval 0 24 v0 rfl rfl) h0
  obtain ⟨y1, x1, rr1, rfl, hs1, hd1⟩ := tr_arg (hval 1 24 v1 rfl rfl) h1
  obtain ⟨y2, x2, rr2, rfl, hs2, hd2⟩ := tr_arg (hval 2 24 v2 rfl rfl) h2
  obtain ⟨z0, z1⟩ := reach_cons hsz
  obtain ⟨z1, z2⟩ := reach_cons z1
  obtain ⟨z2, -⟩ := reach_cons z2
  exact (then_law con y0 y1 y2 x0 x1 x2 W (tab_of hL) hs0 hs1 hs2 (tr_in hd0 z0).1 (tr_in hd1 z1).1 (tr_in hd2 z2).1 (fun s hs => (List.mem_append.1 hs).elim ((tr_in hd0 z0).2 s) ((tr_in hd1 z1).2 s))).mono fun e W' ⟨he, hb⟩ => ⟨_, he, Fr.law_post laidOut (by kernel_rfl) rfl Tryd.underlying4 rfl rfl hW hb⟩

theorem traceThen_said : Rows.TraceThenSaid :=
  OpenClaim.holds_of_cond 5 Tryd.f5 rfl rfl rfl rfl rfl rfl rfl ⟨rfl, rfl, rfl, rfl, rfl⟩ rfl rfl rfl rfl rfl (by kernel_rfl) Tryd.func5 (by kernel_rfl)
    (of_decide_eq_true (by kernel_rfl)) (by unfold Func.isWrapper; first | (rw [if_pos (by decide +kernel)]; kernel_rfl) | (rw [if_neg (by decide +kernel)]; exact ⟨rfl, rfl⟩))
    (fun os started H enc _ F => by rw [OpenClaim.pre_eq_preRow]; exact traceThen_lifted os started H enc F)

theorem traceThen_card : Rows.TraceThenCardSaid :=
  Claim7.holds_tied_plain_at .later [] _ _ _ _ traceThen_said (fun _ h => by cases h) (by kernel_rfl) (fun _ h => by cases h) traceThen_row_tie rfl ⟨rfl, rfl⟩ (by kernel_rfl) rfl
    (plain (by kernel_rfl) Tryd.func5 (by kernel_rfl) (by kernel_rfl)) (by kernel_rfl)
end Go.Proofs.YtmhmfnjjdcdkcaaDoor.Tr
