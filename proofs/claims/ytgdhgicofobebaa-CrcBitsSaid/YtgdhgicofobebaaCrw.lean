/- Arguments of layer 16's laws: a pair of integers. -/
import Derived.Test.YtgdhgicofobebaaCrv
import Derived.OpenShut
namespace Go.Proofs.Ytgdhgicofobebaa.Cr
set_option maxRecDepth 100000
open Go Go.RowKit Go.ChangeShapes Go.WideShapes
section
variable {H : Type} {enc : TypeId × Value → H} {W : World} {base : Nat} {v : Value} {d : DataW H} {p : List MemPlace}
theorem cPair : Try.prog.cellsOf 41 = 2 := by kernel_rfl
theorem pair_arg (hok : Value.okWide Try.prog W .any base 41 v) (h : DataW.Trod enc Try.prog W 0 (fun _ => true) true 41 v d p) : ∃ z0 z1 : Int, v = .agg #[.int .i64 z0, .int .i64 z1] := by
  simp only [Value.okWide, Try.underlying41] at hok
  obtain ⟨cs, rfl, h2, _⟩ := hok
  rw [cPair] at h2
  obtain ⟨l⟩ := cs
  obtain ⟨fuel, hf⟩ := h
  match l, h2 with
  | [c0, c1], _ =>
    obtain ⟨xs, m, _, _, _, hl, hx⟩ := DataW.trod_array Try.underlying41 hf
    have h0 := hx 0 (by omega)
    have h1 := hx 1 (by omega)
    rw [show Try.prog.cellsOf 3 = 1 by kernel_rfl] at h0 h1
    rw [List.getElem?_eq_getElem (by omega)] at h0 h1
    obtain ⟨z0, e0, _, u0⟩ := DataW.trod_int Try.underlying3 h0
    obtain ⟨z1, e1, _, u1⟩ := DataW.trod_int Try.underlying3 h1
    have e0' : c0 = .int .i64 z0 := by simpa [Value.cells] using e0
    have e1' : c1 = .int .i64 z1 := by simpa [Value.cells] using e1
    exact ⟨z0, z1, by rw [e0', e1']⟩
end
end Go.Proofs.Ytgdhgicofobebaa.Cr
