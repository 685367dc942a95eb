/- For every row of nodes and two rows of picks, played in two parts it comes to the same; the arguments read as they did; the texts of signs are tied to the program's text. -/
import Derived.Test.YtpingbiibbmcaaaGreatDoorQ42

set_option maxRecDepth 100000
namespace Go.Proofs.YtpingbiibbmcaaaGreatDoor
namespace Ru
open Go Go.ChangeShapes Go.WideShapes Go.ChangeAt Go.RowKit
open Rw (Nd Nds z6w y1n z1g)
open Sg (own laidOut met plain y1i)
set_option maxRecDepth 100000 in
theorem runsParts_lifted (os:Os) (started:os.Started) (H:Type) (enc:TypeId × Value→H) (F:Stop.Interp) :
    ReturnsInHanded {} Tryz.checked os 9 .any ((OpenSpec.ofChange Rows.runsPartsSpec).preRow enc Tryz.prog Tryz.f9 Rows.runsPartsRow.domain false Rows.runsPartsRow.laid) (((OpenSpec.ofChange Rows.runsPartsSpec).at F).post enc Tryz.prog Tryz.f9 false true false false):=by
  refine returnsInHanded_of_row (C:=Tryz.checked) (s:=OpenSpec.ofChange Rows.runsPartsSpec) own started (by kernel_rfl) Tryz.func9
    (witness_row_at (enc:=enc) (C:=Tryz.checked) false (World.doorLaid Tryz.prog 400 os) #[.slice none 0 0,.slice none 0 0,.slice none 0 0] rfl (by kernel_rfl) (by kernel_rfl) (by kernel_rfl)
      (OpenSpec.preRow_of_cond 8 (x:=([.nil,.nil,.nil],[],[])) (by kernel_rfl) (by kernel_rfl) (fun k hk=>by cases hk) (by kernel_rfl) (met os _))) ?_
  intro W base args ds gs before hval0 hW _ _ hsz hL _ _;have hval:∀ (j:Nat) t v,Tryz.f9.params[j]?=some t→args[j]?=some v→Value.okWide Tryz.prog W .any base t v:=hval0;obtain ⟨pp,hA⟩:=Fr.x1a hW;rw [Tryz.params9] at hA hval;obtain ⟨v0,v1,v2,d0,d1,d2,p0,p1,p2,rfl,rfl,hp,h0,h1,h2⟩:=trodAll_three hA;obtain ⟨x0,hs0,hd0⟩:=z6w (hval 0 22 v0 rfl rfl) h0;obtain ⟨x1,hs1,hi1,hd1⟩:=y3k (hval 1 23 v1 rfl rfl) h1;obtain ⟨x2,hs2,hi2,hd2⟩:=y3k (hval 2 23 v2 rfl rfl) h2;obtain ⟨z0,z1⟩:=z1g hsz;obtain ⟨z1,z2⟩:=z1g z1;obtain ⟨z2,-⟩:=z1g z2;exact (x9s v0 v1 v2 x0 x1 x2 W (y1i hL) hs0 hs1 hs2 (y1n hd0 z0) hi1 hi2 (Nat.le_trans (x2a hd1 z1) (by decide)) (Nat.le_trans (x2a hd2 z2) (by decide))).mono fun e W' ⟨he,hb⟩=>⟨_,he,Fr.y3t laidOut (by kernel_rfl) rfl Tryz.underlying4 rfl rfl hW hb⟩
theorem runsParts_cl_inPlace:(Rows.runsPartsRow.inPlace==Tryz.pinned.checked.prog.inPlace 9)=true:=by kernel_rfl
theorem runsParts_cl_unfollowed:(Rows.runsPartsRow.unfollowed==Tryz.pinned.checked.prog.unfollowed 9)=true:=by kernel_rfl
theorem runsParts_cl_recurses:(Rows.runsPartsRow.recurses==Tryz.pinned.checked.prog.recurses 9)=true:=by kernel_rfl
theorem runsParts_cl_named:(Rows.runsPartsRow.named==Tryz.pinned.checked.prog.varsNamed 9)=true:=by kernel_rfl
theorem runsParts_cl:joinedFacts Tryz.pinned.checked.prog 9 Tryz.f9 (OpenSpec.ofChange Rows.runsPartsSpec).bare Rows.runsPartsRow=true:=by
  unfold joinedFacts;exact (bb (bb (bb (bb (bb (bb (bb (bb (bb (bb (bb (bb (bb (bb (bb (bb (bb (bb (bb (bb (bb (bb (bb (bb (bb (bb (bb (bb (bb (bb (bb (by kernel_rfl) x0u) x0s) (by kernel_rfl)) (by kernel_rfl)) (by kernel_rfl)) (by kernel_rfl)) (by kernel_rfl)) (by kernel_rfl)) runsParts_cl_inPlace) runsParts_cl_unfollowed) runsParts_cl_recurses) runsParts_cl_named) (by kernel_rfl)) (by kernel_rfl)) (by kernel_rfl)) (by kernel_rfl)) (by kernel_rfl)) (by kernel_rfl)) (by kernel_rfl)) (by kernel_rfl)) (by kernel_rfl)) (by kernel_rfl)) (by kernel_rfl)) y4m) y4n) (by kernel_rfl)) (by kernel_rfl)) (by kernel_rfl)) (by kernel_rfl)) (by kernel_rfl)) (by kernel_rfl))
theorem runsParts_fn:Tryz.pinned.checked.prog.funcNamed Rows.runsPartsRow.func=some 9:=by kernel_rfl
theorem runsParts_goes:false=Rows.runsPartsRow.goesBy Tryz.pinned.checked.prog:=by kernel_rfl
theorem runsParts_said:Rows.RunsPartsSaid:=
  OpenClaim.holds_of_cond 9 Tryz.f9 rfl rfl rfl rfl rfl rfl rfl ⟨rfl,rfl,rfl,rfl,rfl⟩ rfl rfl rfl rfl rfl runsParts_fn Tryz.func9 runsParts_cl
    (of_decide_eq_true (by kernel_rfl)) (by unfold Func.isWrapper; first | (rw [if_pos (by decide +kernel)]; kernel_rfl) | (rw [if_neg (by decide +kernel)]; exact ⟨rfl,rfl⟩))
    (fun os started H enc _ F=>by rw [OpenClaim.pre_eq_preRow]; exact runsParts_lifted os started H enc F)
theorem runsParts_card:Rows.RunsPartsCardSaid:=
  Claim7.holds_tied_plain_at .later [] _ _ _ _ runsParts_said (fun _ h=>by cases h) (by kernel_rfl) (fun _ h=>by cases h) runsParts_row_tie rfl ⟨rfl,rfl⟩ x0t rfl
    (plain runsParts_fn Tryz.func9 y4l (by kernel_rfl)) runsParts_goes
end Ru
end Go.Proofs.YtpingbiibbmcaaaGreatDoor
