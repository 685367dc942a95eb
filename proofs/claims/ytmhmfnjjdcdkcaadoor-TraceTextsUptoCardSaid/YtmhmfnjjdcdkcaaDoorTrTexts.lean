/- For every trace, with the texts of signs, that is of bulk at most 1048576, its text is what the document says; the argument reads as it did; the texts of signs are tied to the program's text. -/
import Derived.Test.YtmhmfnjjdcdkcaaDoorTrcd
import Derived.Test.YtmhmfnjjdcdkcaaDoorTuj
import Derived.Test.YtmhmfnjjdcdkcaaDoorTrp
namespace Go.Proofs.YtmhmfnjjdcdkcaaDoor.Tr
set_option maxRecDepth 100000
open Go Go.ChangeShapes Go.WideShapes Go.ChangeAt Go.RowKit
open Sg (own laidOut met plain tab_of)

theorem bulk_strs {H : Type} : ∀ l : List ByteArray, (txs l).length ≤ Rows.uptoBulkAll (strs (H := H) l)
  | [] => Nat.zero_le _
  | x :: l => by
    have := bulk_strs (H := H) l
    have e : Rows.uptoBulkAll (strs (H := H) (x :: l)) = (x.data.toList.length + 1) + Rows.uptoBulkAll (strs (H := H) l) := rfl
    rw [e, txs, List.length_append, List.length_cons]
    omega
theorem bulk_tr {H : Type} {t : Tr} {r : List ByteArray} {d : DataW H} {ds : List (DataW H)} (hd : dat t r d) (h : Rows.uptoBulkAll (d :: ds) ≤ 1048576) : (txs t.a).length ≤ 8388608 := by
  rcases hd with ⟨hn, _⟩ | rfl
  · rw [hn]; exact Nat.zero_le _
  · have e : Rows.uptoBulkAll ((.agg [.slice (strs t.a) (strs r), .lit (.int .i64 t.e)] : DataW H) :: ds) = ((Rows.uptoBulkAll (strs (H := H) t.a) + Rows.uptoBulkAll (strs (H := H) r) + 1) + (1 + 0) + 1) + Rows.uptoBulkAll ds := rfl
    have := bulk_strs (H := H) t.a
    rw [e] at h
    omega

set_option maxRecDepth 100000 in
theorem traceTextsUpto_lifted (os : Os) (started : os.Started) (H : Type) (enc : TypeId × Value → H) (F : Stop.Interp) :
    ReturnsInHanded {} Tryd.checked os 9 .any ((Rows.OpenSpec.upto Rows.traceTextsSpec).preRow enc Tryd.prog Tryd.f9 Rows.traceTextsUptoRow.domain false Rows.traceTextsUptoRow.laid) (((Rows.OpenSpec.upto Rows.traceTextsSpec).at F).post enc Tryd.prog Tryd.f9 false true false false) := by
  refine returnsInHanded_of_row (C := Tryd.checked) (s := Rows.OpenSpec.upto Rows.traceTextsSpec) own started (by kernel_rfl) Tryd.func9
    (witness_row_at (enc := enc) (C := Tryd.checked) false (World.doorLaid Tryd.prog 400 os) #[.agg #[.slice none 0 0, .int .i64 0]] rfl (by kernel_rfl) (by kernel_rfl) (by kernel_rfl)
      (OpenSpec.preRow_of_cond 8 (x := ([.agg [.nil, .lit (.int .i64 0)]], [], [])) (by kernel_rfl) (by kernel_rfl) (fun k hk => by cases hk; kernel_rfl) (by kernel_rfl) (met os _))) ?_
  intro W base args ds gs before hval0 hW _ hcond hsz hL _ _
  have hval : ∀ (j : Nat) t v, Tryd.f9.params[j]? = some t → args[j]? = some v → Value.okWide Tryd.prog W .any base t v := hval0
  obtain ⟨pp, hA⟩ := Fr.args_of hW
  rw [Tryd.params9] at hA hval
  obtain ⟨v0, d0, rfl, rfl, h0⟩ := trodAll_one hA
  obtain ⟨y0, x0, rr0, rfl, hs0, hd0⟩ := tr_arg (hval 0 24 v0 rfl rfl) h0
  obtain ⟨z0, -⟩ := reach_cons hsz
  have hk := of_decide_eq_true (hcond _ rfl)
  exact (texts_any con y0 x0 W (tab_of hL) hs0 (tr_in hd0 z0).1 (fun _ => bulk_tr hd0 hk)).mono fun e W' ⟨he, hb⟩ => ⟨_, he, Fr.law_post laidOut (by kernel_rfl) rfl Tryd.underlying4 rfl rfl hW hb⟩

theorem traceTextsUpto_said : Rows.TraceTextsUptoSaid :=
  OpenClaim.holds_of_cond 9 Tryd.f9 rfl rfl rfl rfl rfl rfl rfl ⟨rfl, rfl, rfl, rfl, rfl⟩ rfl rfl rfl rfl rfl (by kernel_rfl) Tryd.func9 (by kernel_rfl)
    (of_decide_eq_true (by kernel_rfl)) (by unfold Func.isWrapper; first | (rw [if_pos (by decide +kernel)]; kernel_rfl) | (rw [if_neg (by decide +kernel)]; exact ⟨rfl, rfl⟩))
    (fun os started H enc _ F => by rw [OpenClaim.pre_eq_preRow]; exact traceTextsUpto_lifted os started H enc F)

theorem traceTextsUpto_card : Rows.TraceTextsUptoCardSaid :=
  Claim7.holds_tied_plain_at .later [] _ _ _ _ traceTextsUpto_said (fun _ h => by cases h) (by kernel_rfl) (fun _ h => by cases h) traceTextsUpto_row_tie rfl ⟨rfl, rfl⟩ (by kernel_rfl) rfl
    (plain (by kernel_rfl) Tryd.func9 (by kernel_rfl) (by kernel_rfl)) (by kernel_rfl)
end Go.Proofs.YtmhmfnjjdcdkcaaDoor.Tr
