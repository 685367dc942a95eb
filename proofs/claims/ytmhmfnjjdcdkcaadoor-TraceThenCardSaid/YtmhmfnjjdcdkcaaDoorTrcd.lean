/- What the cards of the laws of traces share: how their arguments are opened. -/
import Derived.Test.YtmhmfnjjdcdkcaaDoorSgc
import Derived.Test.YtmhmfnjjdcdkcaaDoorTrf
namespace Go.Proofs.YtmhmfnjjdcdkcaaDoor.Tr
set_option maxRecDepth 100000
open Go Go.ChangeShapes Go.WideShapes Go.ChangeAt Go.RowKit

theorem cT : Tryd.prog.cellsOf 24 = 2 := by kernel_rfl
theorem cS : Tryd.prog.cellsOf 22 = 1 := by kernel_rfl
theorem cStr : Tryd.prog.cellsOf 9 = 1 := by kernel_rfl
theorem cInt : Tryd.prog.cellsOf 3 = 1 := by kernel_rfl
theorem bStr : Tryd.prog.bytesOf 9 = 16 := by kernel_rfl

section
variable {H : Type} {enc : TypeId × Value → H} {W : World} {base : Nat} {v : Value} {d : DataW H} {p : List MemPlace}
/-- A trace that came in. -/
theorem tr_arg (hok : Value.okWide Tryd.prog W .any base 24 v) (h : DataW.Trod enc Tryd.prog W 0 (fun _ => true) true 24 v d p) :
    ∃ (a : Value) (t : Tr) (r : List ByteArray), v = .agg #[a, .int .i64 t.e] ∧ Strs W a t.a ∧ dat t r d := by
  obtain ⟨cs, rfl, hsz⟩ := okWide_struct Tryd.underlying24 hok
  obtain ⟨fuel, hf⟩ := h
  obtain ⟨a, t, r, hcs, hs, _, _, hd, _⟩ := tr_of Tryd.underlying24 cT rfl rfl rfl rfl Tryd.underlying22 cS Tryd.underlying9 cStr Tryd.underlying3 cInt hf
  refine ⟨a, t, r, ?_, hs, hd⟩
  have e : cs.toList = [a, .int .i64 t.e] := hcs
  cases cs
  simp at e
  rw [e]
/-- A row of traces that came in. -/
theorem trs_arg (hok : Value.okWide Tryd.prog W .any base 26 v) (h : DataW.Trod enc Tryd.prog W 0 (fun _ => true) true 26 v d p) :
    ∃ l : List Tr, Trs W v l ∧ l.length ≤ maxLen ∧ dats l d := by
  obtain ⟨a, len, cap, rfl⟩ := okWide_slice Tryd.underlying26 hok
  obtain ⟨fuel, hf⟩ := h
  obtain ⟨l, h1, _, h3, h4⟩ := trs_of Tryd.underlying26 Tryd.underlying24 cT rfl rfl rfl rfl Tryd.underlying22 cS Tryd.underlying9 cStr Tryd.underlying3 cInt hf
  exact ⟨l, h1, h3, h4⟩
/-- A row of texts that came in. -/
theorem strs_arg (hok : Value.okWide Tryd.prog W .any base 22 v) (h : DataW.Trod enc Tryd.prog W 0 (fun _ => true) true 22 v d p) :
    ∃ l r, Strs W v l ∧ ((l = [] ∧ d = .nil) ∨ d = .slice (strs l) (strs r)) := by
  obtain ⟨a, len, cap, rfl⟩ := okWide_slice Tryd.underlying22 hok
  obtain ⟨fuel, hf⟩ := h
  obtain ⟨l, r, h1, _, _, h4⟩ := strs_of Tryd.underlying22 Tryd.underlying9 cStr hf
  exact ⟨l, r, h1, h4⟩
theorem tr_in {t : Tr} {r : List ByteArray} (hd : dat t r d) (h : (d.weights Tryd.prog 24).all (· ≤ reachBytes) = true) : t.a.length ≤ 1125899906842624 ∧ ∀ s ∈ t.a, s.size ≤ 140737488355328 :=
  tr_reach Tryd.underlying24 rfl Tryd.underlying22 bStr hd h
theorem trs_in {l : List Tr} (hd : dats l d) (h : (d.weights Tryd.prog 26).all (· ≤ reachBytes) = true) : ∀ t ∈ l, t.a.length ≤ 1125899906842624 ∧ ∀ s ∈ t.a, s.size ≤ 140737488355328 :=
  trs_reach Tryd.underlying26 Tryd.underlying24 rfl Tryd.underlying22 bStr hd h
theorem strs_in {l r : List ByteArray} (hd : (l = [] ∧ d = .nil) ∨ d = .slice (strs l) (strs r)) (h : (d.weights Tryd.prog 22).all (· ≤ reachBytes) = true) : l.length ≤ 1125899906842624 ∧ ∀ s ∈ l, s.size ≤ 140737488355328 :=
  strs_reach Tryd.underlying22 bStr hd h
end
end Go.Proofs.YtmhmfnjjdcdkcaaDoor.Tr
