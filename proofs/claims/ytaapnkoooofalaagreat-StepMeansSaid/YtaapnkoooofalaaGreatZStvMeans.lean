/- For every row of nodes, what is plain, and settled, and has not ended, has the traces that its moves have, each with the move's action ahead: these, and no others. -/
import Derived.Test.YtaapnkoooofalaaGreatQ35
import Derived.Test.YtaapnkoooofalaaGreatQ37
import Derived.Test.YtaapnkoooofalaaGreatQ47

set_option maxRecDepth 100000
namespace Go.Proofs.YtaapnkoooofalaaGreat
namespace St
open Go Go.ChangeShapes Go.WideShapes Go.ChangeAt Go.RowKit Rw
set_option maxRecDepth 100000 in
theorem stepMeans_lifted (os:Os) (started:os.Started) (H:Type) (enc:TypeId × Value→H) (F:Stop.Interp) :
    ReturnsInHanded {} Tryz.checked os 4 .any ((OpenSpec.ofChange Rows.stepMeansSpec).preRow enc Tryz.prog Tryz.f4 Rows.stepMeansRow.domain false Rows.stepMeansRow.laid) (((OpenSpec.ofChange Rows.stepMeansSpec).at F).post enc Tryz.prog Tryz.f4 false true false false):=by
  refine returnsInHanded_of_row (C:=Tryz.checked) (s:=OpenSpec.ofChange Rows.stepMeansSpec) own started (by kernel_rfl) Tryz.func4
    (witness_row_at (enc:=enc) (C:=Tryz.checked) false (World.doorLaid Tryz.prog 400 os) #[.slice none 0 0] rfl (by kernel_rfl) (by kernel_rfl) (by kernel_rfl)
      (OpenSpec.preRow_of_cond 8 (x:=([.nil],[],[])) (by kernel_rfl) (by kernel_rfl) (fun k hk=>by cases hk) (by kernel_rfl) (⟨[],by first | rfl | trivial,List.nodup_nil,fun _ _ h=>(by cases h)⟩))) ?_
  intro W base args ds gs before hval0 hW _ _ hsz hL _ _;have hval:∀ (j:Nat) t v,Tryz.f4.params[j]?=some t→args[j]?=some v→Value.okWide Tryz.prog W .any base t v:=hval0;obtain ⟨pp,hA⟩:=Fr.args_of hW;rw [Tryz.params4] at hA hval;obtain ⟨v0,d0,rfl,rfl,h0⟩:=trodAll_one hA;obtain ⟨x0,hs0,hd0⟩:=nds_arg (hval 0 22 v0 rfl rfl) h0;exact (x8h con (alive_of con) v0 x0 W hs0 (nds_in hd0 (x2v hsz).1)).mono fun e W' ⟨he,hb⟩=>⟨_,he,Fr.law_post laidOut (by kernel_rfl) rfl Tryz.underlying4 rfl rfl hW hb⟩
theorem stepMeans_said:Rows.StepMeansSaid:=
  OpenClaim.holds_of_cond 4 Tryz.f4 rfl rfl rfl rfl rfl rfl rfl ⟨rfl,rfl,rfl,rfl,rfl⟩ rfl rfl rfl rfl rfl (by kernel_rfl) Tryz.func4 (by kernel_rfl)
    (of_decide_eq_true (by kernel_rfl)) (by unfold Func.isWrapper; first | (rw [if_pos (by decide +kernel)]; kernel_rfl) | (rw [if_neg (by decide +kernel)]; exact ⟨rfl,rfl⟩))
    (fun os started H enc _ F=>by rw [OpenClaim.pre_eq_preRow]; exact stepMeans_lifted os started H enc F)
end St
end Go.Proofs.YtaapnkoooofalaaGreat
