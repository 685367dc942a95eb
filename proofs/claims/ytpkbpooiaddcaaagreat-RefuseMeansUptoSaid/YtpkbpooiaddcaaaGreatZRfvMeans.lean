/- For every row of nodes of bulk at most 1048576 and name, what a term may do it may do as well where an action may be refused, and no more where it has none; the arguments read as they did. -/
import Derived.Test.YtpkbpooiaddcaaaGreatQ04
import Derived.Test.YtpkbpooiaddcaaaGreatQ11
import Derived.Test.YtpkbpooiaddcaaaGreatQ28

namespace Go.Proofs.YtpkbpooiaddcaaaGreat.Rf
set_option maxRecDepth 100000
open Go Go.ChangeShapes Go.WideShapes Go.ChangeAt Go.RowKit Go.Proofs.YtpkbpooiaddcaaaGreat.Rw
open Go.ChangeMaps (open_string)

theorem bulk_nodes {H : Type} : ∀ l : List Nd, 4 * l.length ≤ Rows.uptoBulkAll (l.map (nodeD (H := H)))
  | [] => Nat.zero_le _
  | x :: l => by
    have ih := bulk_nodes (H := H) l
    have e : Rows.uptoBulkAll ((x :: l).map (nodeD (H := H))) = ((1 + ((x.n.data.toList.length + 1) + (1 + 0))) + 1) + Rows.uptoBulkAll (l.map (nodeD (H := H))) := rfl
    rw [e, List.length_cons]
    omega
theorem small_len {H : Type} {l : List Nd} {d : DataW H} {ds : List (DataW H)} (hd : nodesD l d) (h : Rows.uptoBulkAll (d :: ds) ≤ 1048576) : l.length ≤ 300000 := by
  rcases hd with ⟨rfl, _⟩ | ⟨sp, rfl⟩
  · exact Nat.zero_le _
  · have e : Rows.uptoBulkAll ((.slice (l.map nodeD) sp : DataW H) :: ds) = (Rows.uptoBulkAll (l.map (nodeD (H := H))) + Rows.uptoBulkAll sp + 1) + Rows.uptoBulkAll ds := rfl
    have hb := bulk_nodes (H := H) l
    rw [e] at h
    omega

set_option maxRecDepth 100000 in
theorem refuseMeansUpto_lifted (os : Os) (started : os.Started) (H : Type) (enc : TypeId × Value → H) (F : Stop.Interp) :
    ReturnsInHanded {} Tryz.checked os 3 .any ((Rows.OpenSpec.upto Rows.refuseMeansSpec).preRow enc Tryz.prog Tryz.f3 Rows.refuseMeansUptoRow.domain false Rows.refuseMeansUptoRow.laid) (((Rows.OpenSpec.upto Rows.refuseMeansSpec).at F).post enc Tryz.prog Tryz.f3 false true false false) := by
  refine returnsInHanded_of_row (C := Tryz.checked) (s := Rows.OpenSpec.upto Rows.refuseMeansSpec) own started (by kernel_rfl) Tryz.func3
    (witness_row_at (enc := enc) (C := Tryz.checked) false (World.doorLaid Tryz.prog 400 os) #[.slice none 0 0, .string ⟨#[]⟩] rfl (by kernel_rfl) (by kernel_rfl) (by kernel_rfl)
      (OpenSpec.preRow_of_cond 8 (x := ([.nil, .lit (.string [])], [], [])) (by kernel_rfl) (by kernel_rfl) (fun k hk => by cases hk; kernel_rfl) (by kernel_rfl) (⟨[], by first | rfl | trivial, List.nodup_nil, fun _ _ h => (by cases h)⟩))) ?_
  intro W base args ds gs before hval0 hW _ hcond hsz hL _ _
  have hval : ∀ (j : Nat) t v, Tryz.f3.params[j]? = some t → args[j]? = some v → Value.okWide Tryz.prog W .any base t v := hval0
  obtain ⟨pp, hA⟩ := Fr.args_of hW
  rw [Tryz.params3] at hA hval
  obtain ⟨v0, v1, d0, d1, p0, p1, rfl, rfl, hp, h0, h1⟩ := trodAll_two hA
  obtain ⟨x0, hs0, hd0⟩ := nds_arg (hval 0 22 v0 rfl rfl) h0
  obtain ⟨x1, rfl, rfl, rfl, hx1⟩ := open_string Tryz.underlying9 (hval 1 9 v1 rfl rfl) h1
  exact (means_law v0 x0 x1 W hs0 (nds_in hd0 (reach_cons hsz).1) hx1 (small_len hd0 (of_decide_eq_true (hcond _ rfl)))).mono fun e W' ⟨he, hb⟩ => ⟨_, he, Fr.law_post laidOut (by kernel_rfl) rfl Tryz.underlying4 rfl rfl hW hb⟩

theorem refuseMeansUpto_said : Rows.RefuseMeansUptoSaid :=
  OpenClaim.holds_of_cond 3 Tryz.f3 rfl rfl rfl rfl rfl rfl rfl ⟨rfl, rfl, rfl, rfl, rfl⟩ rfl rfl rfl rfl rfl (by kernel_rfl) Tryz.func3 (by kernel_rfl)
    (of_decide_eq_true (by kernel_rfl)) (by unfold Func.isWrapper; first | (rw [if_pos (by decide +kernel)]; kernel_rfl) | (rw [if_neg (by decide +kernel)]; exact ⟨rfl, rfl⟩))
    (fun os started H enc _ F => by rw [OpenClaim.pre_eq_preRow]; exact refuseMeansUpto_lifted os started H enc F)
end Go.Proofs.YtpkbpooiaddcaaaGreat.Rf
