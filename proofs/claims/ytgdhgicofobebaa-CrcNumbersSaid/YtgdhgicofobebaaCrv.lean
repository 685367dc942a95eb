/- Arguments of layer 16's laws: bytes, numbers, a pair. -/
import Derived.Test.YtgdhgicofobebaaCra
import Derived.Test.YtgdhgicofobebaaFr
namespace Go.Proofs.Ytgdhgicofobebaa.Cr
set_option maxRecDepth 100000
open Go Go.RowKit Go.ChangeShapes Go.WideShapes
section
variable {H : Type} {enc : TypeId × Value → H} {W : World} {base : Nat} {v : Value} {d : DataW H} {p : List MemPlace}
theorem bys_arg (hok : Value.okWide Try.prog W .any base 23 v) (h : DataW.Trod enc Try.prog W 0 (fun _ => true) true 23 v d p) : ∃ l : By, Bys W v l := by
  obtain ⟨a, c, xs, rfl, hl, _, hw, hn, hx⟩ := Fr.ints_arg Try.underlying23 Try.underlying5 (by kernel_rfl) hok h
  have hb : ∀ i, (hi : i < xs.length) → xs[i] = (((BitVec.ofInt 8 xs[i]).toNat : Nat) : Int) := fun i hi => by
    have := hw xs[i] (List.getElem_mem hi)
    simp [Lit.wf, IntKind.min, IntKind.max, IntKind.bits, IntKind.signed] at this
    obtain ⟨k, hk⟩ : ∃ k : Nat, xs[i] = (k : Int) := ⟨xs[i].toNat, by omega⟩
    rw [hk, BitVec.ofInt_natCast, BitVec.toNat_ofNat]
    omega
  refine ⟨xs.map (BitVec.ofInt 8), ?_⟩
  have hlen : (xs.map (BitVec.ofInt 8)).length = xs.length := List.length_map _
  refine ⟨by rw [bc_len, Nat.mul_one], a, c, by rw [hlen], by rw [hlen]; exact hl, fun ha => ?_, fun h0 => ?_⟩
  · have := hn ha
    rw [hlen]
    omega
  · rcases hx with rfl | ⟨b, off, rfl, hcell⟩
    · simp at h0
    · refine ⟨b, off, rfl, fun j u hu => ?_⟩
      have hj : j < xs.length := by
        have := (List.getElem?_eq_some_iff.1 hu).1
        rw [bc_len, hlen] at this
        exact this
      rw [hcell j hj, ← hu]
      simp only [bc, List.map_map, List.getElem?_map, List.getElem?_eq_getElem hj, Option.map_some, Function.comp]
      rw [← hb j hj]
theorem u32_of {x : Int} (h : (Lit.int .u32 x).wf = true) : ∃ s : BitVec 32, x = (s.toNat : Int) := by
  simp [Lit.wf, IntKind.min, IntKind.max, IntKind.bits, IntKind.signed] at h
  refine ⟨BitVec.ofNat 32 x.toNat, ?_⟩
  rw [BitVec.toNat_ofNat]
  omega
theorem u64_of {x : Int} (h : (Lit.int .u64 x).wf = true) : ∃ n : Nat, x = (n : Int) ∧ n < 18446744073709551616 := by
  simp [Lit.wf, IntKind.min, IntKind.max, IntKind.bits, IntKind.signed] at h
  exact ⟨x.toNat, by omega, by omega⟩
end
theorem own : ownKnob Try.prog.godebug = none := by kernel_rfl
theorem laidOut : laidOutB Try.prog = true := by kernel_rfl
end Go.Proofs.Ytgdhgicofobebaa.Cr
