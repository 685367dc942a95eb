/- For every term and row of picks, begun it never comes to a stop ahead of its end, and as soon as it has ended nothing more is done; the arguments read as they did; the texts of signs are tied to the program's text. -/
import Derived.Test.YtpingbiibbmcaaaGreatDoorQ43

set_option maxRecDepth 100000
namespace Go.Proofs.YtpingbiibbmcaaaGreatDoor
namespace Ru
open Go Go.ChangeShapes Go.WideShapes Go.ChangeAt Go.RowKit
open Rw (Nd Nds z6w y1n z1g)
open Sg (own laidOut met plain y1i)
set_option maxRecDepth 100000 in
theorem runsEnd_lifted (os:Os) (started:os.Started) (H:Type) (enc:TypeId × Value→H) (F:Stop.Interp) :
    ReturnsInHanded {} Tryz.checked os 8 .any ((OpenSpec.ofChange Rows.runsEndSpec).preRow enc Tryz.prog Tryz.f8 Rows.runsEndRow.domain false Rows.runsEndRow.laid) (((OpenSpec.ofChange Rows.runsEndSpec).at F).post enc Tryz.prog Tryz.f8 false true false false):=by
  refine returnsInHanded_of_row (C:=Tryz.checked) (s:=OpenSpec.ofChange Rows.runsEndSpec) own started (by kernel_rfl) Tryz.func8
    (witness_row_at (enc:=enc) (C:=Tryz.checked) false (World.doorLaid Tryz.prog 400 os) #[.slice none 0 0,.slice none 0 0] rfl (by kernel_rfl) (by kernel_rfl) (by kernel_rfl)
      (OpenSpec.preRow_of_cond 8 (x:=([.nil,.nil],[],[])) (by kernel_rfl) (by kernel_rfl) (fun k hk=>by cases hk) (by kernel_rfl) (met os _))) ?_
  intro W base args ds gs before hval0 hW _ _ hsz hL _ _;have hval:∀ (j:Nat) t v,Tryz.f8.params[j]?=some t→args[j]?=some v→Value.okWide Tryz.prog W .any base t v:=hval0;obtain ⟨pp,hA⟩:=Fr.x1a hW;rw [Tryz.params8] at hA hval;obtain ⟨v0,v1,d0,d1,p0,p1,rfl,rfl,hp,h0,h1⟩:=trodAll_two hA;obtain ⟨x0,hs0,hd0⟩:=z6w (hval 0 22 v0 rfl rfl) h0;obtain ⟨x1,hs1,hi1,hd1⟩:=y3k (hval 1 23 v1 rfl rfl) h1;obtain ⟨z0,z1⟩:=z1g hsz;obtain ⟨z1,-⟩:=z1g z1;exact (end_law v0 v1 x0 x1 W (y1i hL) hs0 hs1 (y1n hd0 z0) hi1 (Nat.le_trans (Mn.nds_len hd0 z0) (by decide))).mono fun e W' ⟨he,hb⟩=>⟨_,he,Fr.y3t laidOut (by kernel_rfl) rfl Tryz.underlying4 rfl rfl hW hb⟩
theorem runsEnd_cl_inPlace:(Rows.runsEndRow.inPlace==Tryz.pinned.checked.prog.inPlace 8)=true:=by kernel_rfl
theorem runsEnd_cl_unfollowed:(Rows.runsEndRow.unfollowed==Tryz.pinned.checked.prog.unfollowed 8)=true:=by kernel_rfl
theorem runsEnd_cl_recurses:(Rows.runsEndRow.recurses==Tryz.pinned.checked.prog.recurses 8)=true:=by kernel_rfl
theorem runsEnd_cl_named:(Rows.runsEndRow.named==Tryz.pinned.checked.prog.varsNamed 8)=true:=by kernel_rfl
theorem runsEnd_cl:joinedFacts Tryz.pinned.checked.prog 8 Tryz.f8 (OpenSpec.ofChange Rows.runsEndSpec).bare Rows.runsEndRow=true:=by
  unfold joinedFacts;exact (bb (bb (bb (bb (bb (bb (bb (bb (bb (bb (bb (bb (bb (bb (bb (bb (bb (bb (bb (bb (bb (bb (bb (bb (bb (bb (bb (bb (bb (bb (bb (by kernel_rfl) x0u) x0s) (by kernel_rfl)) (by kernel_rfl)) (by kernel_rfl)) (by kernel_rfl)) (by kernel_rfl)) (by kernel_rfl)) runsEnd_cl_inPlace) runsEnd_cl_unfollowed) runsEnd_cl_recurses) runsEnd_cl_named) (by kernel_rfl)) (by kernel_rfl)) (by kernel_rfl)) (by kernel_rfl)) (by kernel_rfl)) (by kernel_rfl)) (by kernel_rfl)) (by kernel_rfl)) (by kernel_rfl)) (by kernel_rfl)) (by kernel_rfl)) y4m) y4n) (by kernel_rfl)) (by kernel_rfl)) (by kernel_rfl)) (by kernel_rfl)) (by kernel_rfl)) (by kernel_rfl))
theorem runsEnd_fn:Tryz.pinned.checked.prog.funcNamed Rows.runsEndRow.func=some 8:=by kernel_rfl
theorem runsEnd_goes:false=Rows.runsEndRow.goesBy Tryz.pinned.checked.prog:=by kernel_rfl
theorem runsEnd_said:Rows.RunsEndSaid:=
  OpenClaim.holds_of_cond 8 Tryz.f8 rfl rfl rfl rfl rfl rfl rfl ⟨rfl,rfl,rfl,rfl,rfl⟩ rfl rfl rfl rfl rfl runsEnd_fn Tryz.func8 runsEnd_cl
    (of_decide_eq_true (by kernel_rfl)) (by unfold Func.isWrapper; first | (rw [if_pos (by decide +kernel)]; kernel_rfl) | (rw [if_neg (by decide +kernel)]; exact ⟨rfl,rfl⟩))
    (fun os started H enc _ F=>by rw [OpenClaim.pre_eq_preRow]; exact runsEnd_lifted os started H enc F)
theorem runsEnd_card:Rows.RunsEndCardSaid:=
  Claim7.holds_tied_plain_at .later [] _ _ _ _ runsEnd_said (fun _ h=>by cases h) (by kernel_rfl) (fun _ h=>by cases h) runsEnd_row_tie rfl ⟨rfl,rfl⟩ x0t rfl
    (plain runsEnd_fn Tryz.func8 y4l (by kernel_rfl)) runsEnd_goes
end Ru
end Go.Proofs.YtpingbiibbmcaaaGreatDoor
