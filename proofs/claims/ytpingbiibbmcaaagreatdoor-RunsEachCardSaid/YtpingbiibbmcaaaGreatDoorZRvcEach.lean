/- For every row of nodes of few choices and every trace, each trace that may happen is found, and none besides; the arguments read as they did; the texts of signs are tied to the program's text. -/
import Derived.Test.YtpingbiibbmcaaaGreatDoorQ42

set_option maxRecDepth 100000
namespace Go.Proofs.YtpingbiibbmcaaaGreatDoor
namespace Ru
open Go Go.ChangeShapes Go.WideShapes Go.ChangeAt Go.RowKit
open Rw (Nd Nds z6w y1n z1g)
open Sg (own laidOut met plain y1i)
set_option maxRecDepth 100000 in
theorem runsEach_lifted (os:Os) (started:os.Started) (H:Type) (enc:TypeId × Value→H) (F:Stop.Interp) :
    ReturnsInHanded {} Tryz.checked os 7 .any ((OpenSpec.ofChange Rows.runsEachSpec).preRow enc Tryz.prog Tryz.f7 Rows.runsEachRow.domain false Rows.runsEachRow.laid) (((OpenSpec.ofChange Rows.runsEachSpec).at F).post enc Tryz.prog Tryz.f7 false true false false):=by
  refine returnsInHanded_of_row (C:=Tryz.checked) (s:=OpenSpec.ofChange Rows.runsEachSpec) own started (by kernel_rfl) Tryz.func7
    (witness_row_at (enc:=enc) (C:=Tryz.checked) false (World.doorLaid Tryz.prog 400 os) #[.slice none 0 0,.agg #[.slice none 0 0,.int .i64 0]] rfl (by kernel_rfl) (by kernel_rfl) (by kernel_rfl)
      (OpenSpec.preRow_of_cond 8 (x:=([.nil,.agg [.nil,.lit (.int .i64 0)]],[],[])) (by kernel_rfl) (by kernel_rfl) (fun k hk=>by cases hk) (by kernel_rfl) (met os _))) ?_
  intro W base args ds gs before hval0 hW _ _ hsz hL _ _;have hval:∀ (j:Nat) t v,Tryz.f7.params[j]?=some t→args[j]?=some v→Value.okWide Tryz.prog W .any base t v:=hval0;obtain ⟨pp,hA⟩:=Fr.x1a hW;rw [Tryz.params7] at hA hval;obtain ⟨v0,v1,d0,d1,p0,p1,rfl,rfl,hp,h0,h1⟩:=trodAll_two hA;obtain ⟨x0,hs0,hd0⟩:=z6w (hval 0 22 v0 rfl rfl) h0;obtain ⟨y1,x1,rr1,rfl,hs1,hd1⟩:=Tr.tr_arg (hval 1 36 v1 rfl rfl) h1;obtain ⟨z0,z1⟩:=z1g hsz;obtain ⟨z1,-⟩:=z1g z1;exact (each_law v0 y1 x0 x1 W (y1i hL) hs0 hs1 (y1n hd0 z0)).mono fun e W' ⟨he,hb⟩=>⟨_,he,Fr.y3t laidOut (by kernel_rfl) rfl Tryz.underlying4 rfl rfl hW hb⟩
theorem runsEach_cl_inPlace:(Rows.runsEachRow.inPlace==Tryz.pinned.checked.prog.inPlace 7)=true:=by kernel_rfl
theorem runsEach_cl_unfollowed:(Rows.runsEachRow.unfollowed==Tryz.pinned.checked.prog.unfollowed 7)=true:=by kernel_rfl
theorem runsEach_cl_recurses:(Rows.runsEachRow.recurses==Tryz.pinned.checked.prog.recurses 7)=true:=by kernel_rfl
theorem runsEach_cl_named:(Rows.runsEachRow.named==Tryz.pinned.checked.prog.varsNamed 7)=true:=by kernel_rfl
theorem runsEach_cl:joinedFacts Tryz.pinned.checked.prog 7 Tryz.f7 (OpenSpec.ofChange Rows.runsEachSpec).bare Rows.runsEachRow=true:=by
  unfold joinedFacts;exact (bb (bb (bb (bb (bb (bb (bb (bb (bb (bb (bb (bb (bb (bb (bb (bb (bb (bb (bb (bb (bb (bb (bb (bb (bb (bb (bb (bb (bb (bb (bb (by kernel_rfl) x0u) x0s) (by kernel_rfl)) (by kernel_rfl)) (by kernel_rfl)) (by kernel_rfl)) (by kernel_rfl)) (by kernel_rfl)) runsEach_cl_inPlace) runsEach_cl_unfollowed) runsEach_cl_recurses) runsEach_cl_named) (by kernel_rfl)) (by kernel_rfl)) (by kernel_rfl)) (by kernel_rfl)) (by kernel_rfl)) (by kernel_rfl)) (by kernel_rfl)) (by kernel_rfl)) (by kernel_rfl)) (by kernel_rfl)) (by kernel_rfl)) y4m) y4n) (by kernel_rfl)) (by kernel_rfl)) (by kernel_rfl)) (by kernel_rfl)) (by kernel_rfl)) (by kernel_rfl))
theorem runsEach_fn:Tryz.pinned.checked.prog.funcNamed Rows.runsEachRow.func=some 7:=by kernel_rfl
theorem runsEach_goes:false=Rows.runsEachRow.goesBy Tryz.pinned.checked.prog:=by kernel_rfl
theorem runsEach_said:Rows.RunsEachSaid:=
  OpenClaim.holds_of_cond 7 Tryz.f7 rfl rfl rfl rfl rfl rfl rfl ⟨rfl,rfl,rfl,rfl,rfl⟩ rfl rfl rfl rfl rfl runsEach_fn Tryz.func7 runsEach_cl
    (of_decide_eq_true (by kernel_rfl)) (by unfold Func.isWrapper; first | (rw [if_pos (by decide +kernel)]; kernel_rfl) | (rw [if_neg (by decide +kernel)]; exact ⟨rfl,rfl⟩))
    (fun os started H enc _ F=>by rw [OpenClaim.pre_eq_preRow]; exact runsEach_lifted os started H enc F)
theorem runsEach_card:Rows.RunsEachCardSaid:=
  Claim7.holds_tied_plain_at .later [] _ _ _ _ runsEach_said (fun _ h=>by cases h) (by kernel_rfl) (fun _ h=>by cases h) runsEach_row_tie rfl ⟨rfl,rfl⟩ x0t rfl
    (plain runsEach_fn Tryz.func7 y4l (by kernel_rfl)) runsEach_goes
end Ru
end Go.Proofs.YtpingbiibbmcaaaGreatDoor
