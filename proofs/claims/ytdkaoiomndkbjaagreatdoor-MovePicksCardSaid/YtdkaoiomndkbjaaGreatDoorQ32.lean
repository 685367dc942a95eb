/- Arguments of move's laws: a move. -/
import Derived.Test.YtdkaoiomndkbjaaGreatDoorQ04
import Derived.Test.YtdkaoiomndkbjaaGreatDoorQ31
import Derived.OpenShut

namespace Go.Proofs.YtdkaoiomndkbjaaGreatDoor.Me
set_option maxRecDepth 100000
open Go Go.RowKit Go.ChangeShapes Go.WideShapes Rw
section
variable {H : Type} {enc : TypeId × Value → H} {W : World} {base : Nat} {v : Value} {d : DataW H} {p : List MemPlace}
theorem in64_of {n : Int} (h : (Lit.int .i64 n).wf = true) : In64 n := by
  have hmin : IntKind.i64.min = -9223372036854775808 := rfl
  have hmax : IntKind.i64.max = 9223372036854775807 := rfl
  simp only [Lit.wf, Bool.and_eq_true, decide_eq_true_eq] at h
  unfold In64
  omega
theorem cMove : Tryz.prog.cellsOf 29 = 2 := by kernel_rfl
theorem mv_arg (hok : Value.okWide Tryz.prog W .any base 29 v) (h : DataW.Trod enc Tryz.prog W 0 (fun _ => true) true 29 v d p) : ∃ z : Mv, v = mvV z ∧ In64 z.p := by
  obtain ⟨cs, rfl, hsz⟩ := okWide_struct Tryz.underlying29 hok
  obtain ⟨fuel, hf⟩ := h
  obtain ⟨y0, y1, n, _, hl, hy0, hy1⟩ := trod_struct2 Tryz.underlying29 hf
  rw [cMove] at hl
  obtain ⟨l⟩ := cs
  match l, hl with
  | [a, c], _ =>
    rw [show Tryz.prog.cellsOf 3 = 1 by kernel_rfl] at hy0 hy1
    obtain ⟨k0, e0, _, hw0⟩ := DataW.trod_int Tryz.underlying3 hy0
    obtain ⟨k1, e1, _, _⟩ := DataW.trod_int Tryz.underlying3 hy1
    have e0' : a = .int .i64 k0 := List.head_eq_of_cons_eq (show [a] = [.int .i64 k0] from e0)
    have e1' : c = .int .i64 k1 := List.head_eq_of_cons_eq (show [c] = [.int .i64 k1] from e1)
    subst e0'
    subst e1'
    exact ⟨⟨k0, k1⟩, rfl, in64_of hw0⟩
end
end Go.Proofs.YtdkaoiomndkbjaaGreatDoor.Me
