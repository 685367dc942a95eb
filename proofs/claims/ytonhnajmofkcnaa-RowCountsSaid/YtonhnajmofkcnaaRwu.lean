/- The document's One and Two. -/
import Derived.Test.YtonhnajmofkcnaaRwt
namespace Go.Proofs.Ytonhnajmofkcnaa.Rw
open Go Go.RowKit
set_option maxRecDepth 20000

set_option maxHeartbeats 1000000 in
theorem oneR_any (x : Nd) (v : Value) (l : List Nd) (w : World) (hv : Nds w v l) (hl : l.length ≤ 1000000) :
    Calls Try.prog 37 #[.agg #[.int .i64 x.k, .string x.n, .int .i64 x.s], v] w fun e w' => ∃ y, e = .returned y ∧ w'.ownsRow w.heap.size 23 3 y (x :: l).length (cls (x :: l)) ∧ Below w.heap.size w w' := by
  obtain ⟨v1, w1, v2, w2, hrun1, hrun2, hown2, hb2⟩ := one_runs x v l w hv hl
  have R1 := Lib.hid hrun1
  have R2 := Lib.hid hrun2
  have O2 := Lib.hid hown2
  have B2 := Lib.hid hb2
  clear hrun1 hrun2 hown2 hb2 hv
  go_enter Try.func37, Try.ntmps37
  go_wp2_with (first
    | (at_builtin; refine Ap.wpList_append_run (by rfl) (.tmp 6) (.tmp 8) _ _ rfl _ _ rfl rfl v1 w1 R1.out ?_)
    | (at_builtin; refine Ap.wpList_append_run (by rfl) (.tmp 10) (.tmp 11) _ _ rfl _ _ rfl rfl v2 w2 R2.out ?_))
  go_ret
  exact ⟨_, rfl, O2.out, B2.out⟩

set_option maxHeartbeats 1000000 in
theorem twoR_any (x : Nd) (v u : Value) (l m : List Nd) (w : World) (hv : Nds w v l) (hu : Nds w u m) (hl : l.length ≤ 500000) (hm : m.length ≤ 500000) :
    Calls Try.prog 25 #[.agg #[.int .i64 x.k, .string x.n, .int .i64 x.s], v, u] w fun e w' => ∃ y, e = .returned y ∧ Nds w' y (x :: (l ++ m)) ∧ Below w.heap.size w w' := by
  have HV := Lib.hid hv
  have HU := Lib.hid hu
  have B0 := Lib.hid (below1 w (nb x))
  clear hv hu
  go_enter Try.func25, Try.ntmps25
  go_wp2_with fail
  refine (oneR_any x v l _ (HV.out.below B0.out) (by omega)).mono ?_
  rintro e w1 ⟨y, rfl, hown, hb1⟩
  obtain ⟨v2, w2, hrun2, hown2, hg2, hb2, _⟩ := run_append_nds (Ap.own_base hown (show w.heap.size ≤ _ from B0.out.size)) (Nat.le_trans B0.out.size hb1.size) ((HU.out.below B0.out).below hb1) (by simp; omega)
  have R2 := Lib.hid hrun2
  have O2 := Lib.hid hown2
  have B2 := Lib.hid ((B0.out.trans (hb1.mono B0.out.size)).trans hb2)
  clear hrun2 hown2 hg2 hb1 hb2 hown
  go_wp2_with (at_builtin; refine Ap.wpList_append_run (by rfl) (.tmp 9) (.tmp 10) _ _ rfl _ _ rfl rfl v2 w2 R2.out ?_)
  go_ret
  exact ⟨_, rfl, Ap.Rd.owned O2.out, B2.out⟩
end Go.Proofs.Ytonhnajmofkcnaa.Rw
