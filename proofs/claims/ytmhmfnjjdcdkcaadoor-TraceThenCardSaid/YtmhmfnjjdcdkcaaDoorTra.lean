/- Arguments that are rows of texts, traces, or rows of traces: how they lie in memory. -/
import Derived.Test.YtmhmfnjjdcdkcaaDoorTrs
import Derived.Test.YtmhmfnjjdcdkcaaDoorFr
import Derived.SliceStrings
import Derived.Deep.Slices
import Derived.Lib.SmallJoins
namespace Go.Proofs.YtmhmfnjjdcdkcaaDoor.Tr
open Go Go.RowKit Go.ChangeShapes Go.WideShapes

section
variable {H : Type} {enc : TypeId × Value → H} {P : Program} {w : World}

/-- A slice of texts that came in. -/
theorem strs_of {held : Bool} {fuel : Nat} {t e : TypeId} {v : Value} {x : DataW H × List MemPlace} (ut : P.underlying t = some (.slice e)) (ue : P.underlying e = some .string) (ce : P.cellsOf e = 1)
    (h : DataW.trod enc P w 0 (fun _ => true) held fuel t [v] = some x) :
    ∃ l r, Strs w v l ∧ (∀ s ∈ l, s.size ≤ maxLen) ∧ l.length ≤ maxLen ∧ ((l = [] ∧ x.1 = .nil) ∨ x.1 = .slice (strs l) (strs r)) := by
  rcases open_strings ut ue ce h with ⟨hcs, rfl⟩ | ⟨a, len, cap, ss, hcs, _, hl, hm, hz, hx, hcell, hws⟩
  · cases hcs
    exact ⟨[], [], ⟨rfl, none, 0, rfl, Nat.le_refl _, fun _ => ⟨rfl, rfl⟩, fun h => absurd h (by simp)⟩, by simp, by simp, .inl ⟨rfl, rfl⟩⟩
  · cases hcs
    have hz' : ss.length = cap := by simpa using hz
    have hlen : (ss.take len).length = len := by simp; omega
    refine ⟨ss.take len, ss.drop len, ⟨by simp, some a, cap, by rw [hlen], by omega, fun h => (by cases h), fun h0 => ?_⟩, fun s hs => hws s (List.mem_of_mem_take hs), by omega, .inr (by rw [hx])⟩
    obtain ⟨b, off, spot⟩ := a
    have hc := hcell 0 (by omega)
    have hspot : spot = none := by simpa [Addr.add] using World.cell?_spot hc
    subst hspot
    refine ⟨b, off, rfl, fun j u hu => ?_⟩
    rw [List.getElem?_map, Option.map_eq_some_iff] at hu
    obtain ⟨s, hs, rfl⟩ := hu
    obtain ⟨hj, rfl⟩ := List.getElem?_eq_some_iff.1 hs
    rw [hlen] at hj
    have := hcell j (by omega)
    rw [Addr.add_lit] at this
    rw [this, List.getElem_take]
    simp [List.getD, show j < ss.length by omega]

/-- The datum of a trace. -/
def dat (t : Tr) (r : List ByteArray) (d : DataW H) : Prop := (t.a = [] ∧ d = .agg [.nil, .lit (.int .i64 t.e)]) ∨ d = .agg [.slice (strs t.a) (strs r), .lit (.int .i64 t.e)]

/-- A trace's two cells that were read. -/
theorem tr_of {held : Bool} {fuel : Nat} {t ts e ti : TypeId} {f0 f1 : Field} {cs : List Value} {x : DataW H × List MemPlace} (ut : P.underlying t = some (.struct #[f0, f1])) (ct : P.cellsOf t = 2) (h0 : f0.type = ts) (o0 : f0.offset = 0) (h1 : f1.type = ti) (o1 : f1.offset = 1)
    (us : P.underlying ts = some (.slice e)) (cs1 : P.cellsOf ts = 1) (ue : P.underlying e = some .string) (ce : P.cellsOf e = 1) (ui : P.underlying ti = some (.int .i64)) (ci : P.cellsOf ti = 1)
    (h : DataW.trod enc P w 0 (fun _ => true) held fuel t cs = some x) : ∃ (a : Value) (p : Tr) (r : List ByteArray), cs = [a, .int .i64 p.e] ∧ Strs w a p.a ∧ (∀ s ∈ p.a, s.size ≤ maxLen) ∧ p.a.length ≤ maxLen ∧ dat p r x.1 ∧ (Lit.int .i64 p.e).wf = true := by
  obtain ⟨y0, y1, n, rfl, hl, hy0, hy1⟩ := trod_struct2 ut h
  rw [ct] at hl
  match cs, hl with
  | [a, c], _ =>
    rw [h0, o0, cs1] at hy0
    rw [h1, o1, ci] at hy1
    obtain ⟨l, r, hs, hb, hll, hd⟩ := strs_of us ue ce hy0
    obtain ⟨k, e1, e2, hw⟩ := DataW.trod_int ui hy1
    have e1' : c = .int .i64 k := by simpa using e1
    subst e1'
    refine ⟨a, ⟨l, k⟩, r, rfl, hs, hb, hll, ?_, hw⟩
    rcases hd with ⟨rfl, hd⟩ | hd
    · exact .inl ⟨rfl, by simp [hd, e2]⟩
    · exact .inr (by simp [hd, e2])

theorem pairs_len (x y : Nat → Value) (n : Nat) : ((List.range n).flatMap fun i => [x i, y i]).length = n * 2 := by
  induction n with
  | zero => rfl
  | succ n ih => rw [List.range_succ, List.flatMap_append, List.length_append, ih]; simp; omega
theorem pairs_at (x y : Nat → Value) : ∀ (n j : Nat) (u : Value), ((List.range n).flatMap fun i => [x i, y i])[j]? = some u → ∃ i, i < n ∧ ((j = i * 2 ∧ u = x i) ∨ (j = i * 2 + 1 ∧ u = y i))
  | 0, j, u, h => by simp at h
  | n + 1, j, u, h => by
    rw [List.range_succ, List.flatMap_append] at h
    have hl := pairs_len x y n
    rw [List.getElem?_append] at h
    split at h
    · obtain ⟨i, hi, h'⟩ := pairs_at x y n j u h
      exact ⟨i, by omega, h'⟩
    · rw [hl] at h
      rename_i hj
      rw [hl] at hj
      refine ⟨n, by omega, ?_⟩
      match hk : j - n * 2, h with
      | 0, h => exact .inl ⟨by omega, by simpa using h.symm⟩
      | 1, h => exact .inr ⟨by omega, by simpa using h.symm⟩
      | k + 2, h => simp at h
theorem cells_pairs (F : Nat → Value × Tr) : ∀ is : List Nat, (∀ i ∈ is, Strs w (F i).1 (F i).2.a) → TrCells w (is.flatMap fun i => [(F i).1, .int .i64 (F i).2.e]) (is.map fun i => (F i).2)
  | [], _ => trivial
  | i :: is, h => ⟨h i (by simp), rfl, cells_pairs F is fun j hj => h j (by simp [hj])⟩

/-- The datum of a row of traces. -/
def dats (ts : List Tr) (d : DataW H) : Prop := (ts = [] ∧ d = .nil) ∨ ∃ (D : Nat → DataW H) (R : Nat → List ByteArray) (sp : List (DataW H)), d = .slice ((List.range ts.length).map D) sp ∧ ∀ i, (hi : i < ts.length) → dat ts[i] (R i) (D i)

/-- A slice of traces that came in. -/
theorem trs_of {held : Bool} {fuel : Nat} {tt t ts e ti : TypeId} {f0 f1 : Field} {v : Value} {x : DataW H × List MemPlace} (utt : P.underlying tt = some (.slice t)) (ut : P.underlying t = some (.struct #[f0, f1])) (ct : P.cellsOf t = 2) (h0 : f0.type = ts) (o0 : f0.offset = 0) (h1 : f1.type = ti) (o1 : f1.offset = 1)
    (us : P.underlying ts = some (.slice e)) (cs1 : P.cellsOf ts = 1) (ue : P.underlying e = some .string) (ce : P.cellsOf e = 1) (ui : P.underlying ti = some (.int .i64)) (ci : P.cellsOf ti = 1)
    (h : DataW.trod enc P w 0 (fun _ => true) held fuel tt [v] = some x) : ∃ l : List Tr, Trs w v l ∧ (∀ p ∈ l, (∀ s ∈ p.a, s.size ≤ maxLen) ∧ p.a.length ≤ maxLen ∧ (Lit.int .i64 p.e).wf = true) ∧ l.length ≤ maxLen ∧ dats l x.1 := by
  rcases Deep.open_slice utt h with ⟨hcs, rfl⟩ | ⟨a, len, cap, m, n, D, Pl, hcs, _, hl, hm, hmm, rfl, hel⟩
  · cases hcs
    exact ⟨[], ⟨[], ⟨rfl, none, 0, rfl, Nat.le_refl _, fun _ => ⟨rfl, rfl⟩, fun h => absurd h (by simp)⟩, trivial⟩, by simp, by simp, .inl ⟨rfl, rfl⟩⟩
  · cases hcs
    have hm' : m = cap := by simpa using hmm
    subst hm'
    rw [ct] at hel
    obtain ⟨F, hF⟩ : ∃ F : Nat → (Value × Tr) × List ByteArray, ∀ i, i < len → w.cells? 0 (a.add (i * 2)) 2 = some [(F i).1.1, .int .i64 (F i).1.2.e] ∧ Strs w (F i).1.1 (F i).1.2.a ∧ (∀ s ∈ (F i).1.2.a, s.size ≤ maxLen) ∧ (F i).1.2.a.length ≤ maxLen ∧ dat (F i).1.2 (F i).2 (D i) ∧ (Lit.int .i64 (F i).1.2.e).wf = true := by
      haveI : Inhabited ((Value × Tr) × List ByteArray) := ⟨((.bool false, ⟨[], 0⟩), [])⟩
      refine Deep.choose_lt (α := (Value × Tr) × List ByteArray) (p := fun i z => w.cells? 0 (a.add (i * 2)) 2 = some [z.1.1, .int .i64 z.1.2.e] ∧ Strs w z.1.1 z.1.2.a ∧ (∀ s ∈ z.1.2.a, s.size ≤ maxLen) ∧ z.1.2.a.length ≤ maxLen ∧ dat z.1.2 z.2 (D i) ∧ (Lit.int .i64 z.1.2.e).wf = true) fun i hi => ?_
      obtain ⟨cs', hc, ht⟩ := hel i (by omega)
      obtain ⟨y, p, r, rfl, q1, q2, q3, q4, q5⟩ := tr_of ut ct h0 o0 h1 o1 us cs1 ue ce ui ci ht
      exact ⟨((y, p), r), hc, q1, q2, q3, q4, q5⟩
    have hlen : ((List.range len).map fun i => (F i).1.2).length = len := by simp
    refine ⟨(List.range len).map fun i => (F i).1.2, ⟨(List.range len).flatMap fun i => [(F i).1.1, .int .i64 (F i).1.2.e], ⟨?_, some a, m, ?_, ?_, fun h => (by cases h), fun hp => ?_⟩, ?_⟩, fun p hp => ?_, by omega, ?_⟩
    · rw [hlen]; exact pairs_len _ _ _
    · rw [hlen]
    · omega
    · rw [hlen] at hp
      obtain ⟨b, off, spot⟩ := a
      have hc0 := (World.cells?_some (hF 0 hp).1).2.2 0 (by omega)
      have hspot : spot = none := by
        have := hc0
        simp [Addr.add] at this
        exact World.cell?_spot this
      subst hspot
      refine ⟨b, off, rfl, fun j u hu => ?_⟩
      obtain ⟨i, hi, hj⟩ := pairs_at _ _ len j u hu
      have hc := (World.cells?_some (hF i hi).1).2.2
      rcases hj with ⟨rfl, rfl⟩ | ⟨rfl, rfl⟩
      · have := hc 0 (by omega)
        simpa [Addr.add_lit] using this
      · have := hc 1 (by omega)
        simpa [Addr.add_lit, Nat.add_assoc] using this
    · exact cells_pairs (fun i => (F i).1) (List.range len) fun i hi => (hF i (by simpa using hi)).2.1
    · obtain ⟨i, hi, rfl⟩ := List.mem_map.1 hp
      have := hF i (by simpa using hi)
      exact ⟨this.2.2.1, this.2.2.2.1, this.2.2.2.2.2⟩
    · refine .inr ⟨D, fun i => (F i).2, _, by rw [hlen], fun i hi => ?_⟩
      rw [hlen] at hi
      have := (hF i hi).2.2.2.2.1
      simpa using this
end
end Go.Proofs.YtmhmfnjjdcdkcaaDoor.Tr
