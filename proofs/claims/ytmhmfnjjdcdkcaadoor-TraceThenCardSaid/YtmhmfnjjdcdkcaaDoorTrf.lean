/- What the reach says of rows of texts, of traces and of rows of traces that came in. -/
import Derived.Test.YtmhmfnjjdcdkcaaDoorTra
namespace Go.Proofs.YtmhmfnjjdcdkcaaDoor.Tr
open Go Go.RowKit Go.ChangeShapes Go.WideShapes

section
variable {H : Type} {P : Program}

theorem all_lits {e : TypeId} : ∀ {l : List ByteArray}, (DataW.weightsAll P e (strs (H := H) l)).all (· ≤ reachBytes) = true → ∀ s ∈ l, s.size ≤ 140737488355328
  | [], _, s, hs => by cases hs
  | x :: l, h, s, hs => by
    have h' : ((DataW.weights P e (.lit (.string x.data.toList) : DataW H)) ++ DataW.weightsAll P e (strs (H := H) l)).all (· ≤ reachBytes) = true := h
    rw [List.all_append, Bool.and_eq_true] at h'
    rcases List.mem_cons.1 hs with rfl | hs
    · have h1 : ([s.data.toList.length].all (· ≤ reachBytes)) = true := h'.1
      have h2 : s.data.toList.length = s.size := by simp
      rw [h2] at h1
      have h3 : s.size ≤ reachBytes := by simpa using h1
      unfold reachBytes at h3
      omega
    · exact all_lits h'.2 s hs
theorem strs_reach {t e : TypeId} (ut : P.underlying t = some (.slice e)) (be : P.bytesOf e = 16) {l r : List ByteArray} {d : DataW H} (hd : (l = [] ∧ d = .nil) ∨ d = .slice (strs l) (strs r)) (h : (d.weights P t).all (· ≤ reachBytes) = true) :
    l.length ≤ 1125899906842624 ∧ ∀ s ∈ l, s.size ≤ 140737488355328 := by
  rcases hd with ⟨rfl, _⟩ | rfl
  · exact ⟨by simp, by simp⟩
  · rw [DataW.weights, ut] at h
    simp only [List.all_cons, List.all_append, Bool.and_eq_true, be] at h
    refine ⟨?_, all_lits h.2.1⟩
    have h1 := h.1
    simp [strs, reachBytes] at h1
    omega
theorem tr_reach {t ts e : TypeId} {f0 f1 : Field} (ut : P.underlying t = some (.struct #[f0, f1])) (h0 : f0.type = ts) (us : P.underlying ts = some (.slice e)) (be : P.bytesOf e = 16) {p : Tr} {r : List ByteArray} {d : DataW H} (hd : dat p r d)
    (h : (d.weights P t).all (· ≤ reachBytes) = true) : p.a.length ≤ 1125899906842624 ∧ ∀ s ∈ p.a, s.size ≤ 140737488355328 := by
  rcases hd with ⟨hn, rfl⟩ | rfl
  · rw [hn]; exact ⟨by simp, by simp⟩
  · rw [DataW.weights, ut] at h
    have h' : (DataW.weights P f0.type (.slice (strs p.a) (strs r) : DataW H) ++ DataW.weightsEach P [f1.type] [.lit (.int .i64 p.e)]).all (· ≤ reachBytes) = true := h
    rw [List.all_append, Bool.and_eq_true, h0] at h'
    exact strs_reach us be (.inr rfl) h'.1
theorem all_each {e : TypeId} {q : Nat → Bool} : ∀ {l : List (DataW H)}, (DataW.weightsAll P e l).all q = true → ∀ d ∈ l, (d.weights P e).all q = true
  | [], _, d, hd => by cases hd
  | x :: l, h, d, hd => by
    have h' : (DataW.weights P e x ++ DataW.weightsAll P e l).all q = true := h
    rw [List.all_append, Bool.and_eq_true] at h'
    rcases List.mem_cons.1 hd with rfl | hd
    · exact h'.1
    · exact all_each h'.2 d hd
theorem trs_reach {tt t ts e : TypeId} {f0 f1 : Field} (utt : P.underlying tt = some (.slice t)) (ut : P.underlying t = some (.struct #[f0, f1])) (h0 : f0.type = ts) (us : P.underlying ts = some (.slice e)) (be : P.bytesOf e = 16) {l : List Tr} {d : DataW H} (hd : dats l d)
    (h : (d.weights P tt).all (· ≤ reachBytes) = true) : ∀ p ∈ l, p.a.length ≤ 1125899906842624 ∧ ∀ s ∈ p.a, s.size ≤ 140737488355328 := by
  rcases hd with ⟨rfl, _⟩ | ⟨D, R, sp, rfl, hel⟩
  · intro p hp; cases hp
  · rw [DataW.weights, utt] at h
    simp only [List.all_cons, List.all_append, Bool.and_eq_true] at h
    intro p hp
    obtain ⟨i, hi, rfl⟩ := List.mem_iff_getElem.1 hp
    exact tr_reach ut h0 us be (hel i hi) (all_each h.2.1 (D i) (List.mem_map.2 ⟨i, by simpa using hi, rfl⟩))
/-- The reach, argument by argument. -/
theorem reach_cons {t : TypeId} {ts : List TypeId} {d : DataW H} {ds : List (DataW H)} (h : (DataW.weightsEach P (t :: ts) (d :: ds)).all (· ≤ reachBytes) = true) : (d.weights P t).all (· ≤ reachBytes) = true ∧ (DataW.weightsEach P ts ds).all (· ≤ reachBytes) = true := by
  have h' : (DataW.weights P t d ++ DataW.weightsEach P ts ds).all (· ≤ reachBytes) = true := h
  rwa [List.all_append, Bool.and_eq_true] at h'
end
end Go.Proofs.YtmhmfnjjdcdkcaaDoor.Tr
