/- Rows of texts, and nodes appended in a call's own row: what the walks of layer 8 need. -/
import Derived.Test.YtpkbpooiaddcaaaRwt
import Derived.Test.YtpkbpooiaddcaaaRfo
namespace Go.Proofs.Ytpkbpooiaddcaaa.Rf
open Go Go.RowKit Go.Proofs.Ytpkbpooiaddcaaa.Rw
set_option maxRecDepth 20000

/-- A slice of texts that reads as these. -/
def Strs (w : World) (v : Value) (l : List ByteArray) : Prop := Ap.Rd w 1 v l.length (l.map .string)
theorem Strs.below {w w' : World} {v : Value} {l : List ByteArray} (h : Strs w v l) (hb : Below w.heap.size w w') : Strs w' v l := Ap.Rd.below h hb
def AtS (w : World) (b off : Nat) (l : List ByteArray) : Prop := ∀ k, (h : k < l.length) → w.cell? ⟨b, off + k, none⟩ = some (.string l[k])
theorem Strs.form {w : World} {v : Value} {l : List ByteArray} (h : Strs w v l) :
    (l = [] ∧ ∃ a cap, v = .slice a 0 cap) ∨ ∃ b off cap, v = .slice (some ⟨b, off, none⟩) l.length cap ∧ AtS w b off l := by
  obtain ⟨_, a, cap, rfl, hle, _, hcell⟩ := h
  by_cases h0 : 0 < l.length
  · obtain ⟨b, off, rfl, hj⟩ := hcell h0
    exact Or.inr ⟨b, off, cap, rfl, fun k hk => hj _ _ (by rw [List.getElem?_map, List.getElem?_eq_getElem hk]; rfl)⟩
  · have : l = [] := List.eq_nil_of_length_eq_zero (by omega)
    subst this
    exact Or.inl ⟨rfl, a, cap, rfl⟩
theorem AtS.below {w w' : World} {b off : Nat} {l : List ByteArray} (h : AtS w b off l) (hb : Below w.heap.size w w') : AtS w' b off l := fun k hk => by
  rw [hb.cell (Ap.cell_lt (h k hk))]
  exact h k hk
theorem At.below {w w' : World} {b off : Nat} {l : List Nd} (h : At w b off l) (hb : Below w.heap.size w w') : At w' b off l := fun k hk => by
  obtain ⟨h1, h2, h3⟩ := h k hk
  exact ⟨by rw [hb.cell (Ap.cell_lt h1)]; exact h1, by rw [hb.cell (Ap.cell_lt h2)]; exact h2, by rw [hb.cell (Ap.cell_lt h3)]; exact h3⟩
theorem bytes_eq {s t : ByteArray} (h : s = t) : (s.toList == t.toList) = true := by rw [h]; simp
theorem bytes_ne {s t : ByteArray} (h : ¬ s = t) : (s.toList == t.toList) = false := by
  rw [ByteArray.toList_eq t]
  exact str_ne' fun e => h (by rw [e])
/-- A text in a block of its own. -/
theorem str_new (w : World) (s : ByteArray) (ty : TypeId) : Strs (w.alloc (.cells #[.string s] ty)) (.slice (some ⟨w.heap.size, 0, none⟩) 1 1) [s] := by
  refine ⟨rfl, some ⟨w.heap.size, 0, none⟩, 1, rfl, Nat.le_refl _, fun h => (by cases h), fun _ => ⟨w.heap.size, 0, rfl, fun j u hu => ?_⟩⟩
  rw [Nat.zero_add, World.cell?_alloc_new]
  simpa using hu
theorem strs_new (w : World) (l : List ByteArray) (ty : TypeId) : Strs (w.alloc (.cells (l.map Value.string).toArray ty)) (.slice (some ⟨w.heap.size, 0, none⟩) l.length l.length) l := by
  refine ⟨by simp, some ⟨w.heap.size, 0, none⟩, l.length, rfl, Nat.le_refl _, fun h => (by cases h), fun _ => ⟨w.heap.size, 0, rfl, fun j u hu => ?_⟩⟩
  rw [Nat.zero_add, World.cell?_alloc_new]
  simpa using hu
theorem nds_new (w : World) (l : List Nd) (ty : TypeId) : Nds (w.alloc (.cells (cls l).toArray ty)) (.slice (some ⟨w.heap.size, 0, none⟩) l.length l.length) l := by
  refine ⟨cls_len l, some ⟨w.heap.size, 0, none⟩, l.length, rfl, Nat.le_refl _, fun h => (by cases h), fun _ => ⟨w.heap.size, 0, rfl, fun j u hu => ?_⟩⟩
  rw [Nat.zero_add, World.cell?_alloc_new]
  simpa using hu

theorem inN_take (names : List ByteArray) (s : ByteArray) (k : Nat) (h : k < names.length) : inN (names.take (k + 1)) s = (inN (names.take k) s || decide (names[k] = s)) := by
  rw [List.take_succ_eq_append_getElem h, inN_add]
  unfold isN
  rw [Bool.eq_iff_iff]
  simp only [Bool.or_eq_true, decide_eq_true_eq]
  exact or_congr_right eq_comm
theorem inN_at {names : List ByteArray} {s : ByteArray} {k : Nat} (h : k < names.length) (e : names[k] = s) : inN names s = true := inN_iff.2 (e ▸ List.getElem_mem h)

/-- What a loop has made: a row of nodes of its own. -/
def Got (w wr : World) (v : Value) (l : List Nd) : Prop := wr.ownsRow w.heap.size 39 3 v l.length (cls l) ∧ Below w.heap.size w wr
theorem Got.nds {w wr : World} {v : Value} {l : List Nd} (h : Got w wr v l) : Nds wr v l := Ap.Rd.owned h.1
theorem Got.start (w : World) : Got w w (.slice none 0 0) [] := ⟨⟨rfl, .inl ⟨rfl, rfl⟩⟩, Below.refl _ _⟩
theorem Got.below {w wr w' : World} {v : Value} {l : List Nd} (h : Got w wr v l) (hb : Below wr.heap.size wr w') : Got w w' v l := ⟨Ap.own_below h.1 hb, h.2.trans (hb.mono h.2.size)⟩
theorem Got.slice {w wr : World} {v : Value} {l : List Nd} (h : Got w wr v l) : ∃ a c, v = .slice a l.length c := by
  obtain ⟨_, a, c, e, -⟩ := h.nds
  exact ⟨a, c, e⟩
theorem Got.one {w wr : World} {v : Value} {l : List Nd} (x : Nd) (h : Got w wr v l) (hl : l.length ≤ 2000000) :
    ∃ v' w', (Builtin.append_ #[22, 22] 22 #[v, .slice (some ⟨wr.heap.size, 0, none⟩) 1 1]).run Try.prog (wr.alloc (.cells #[.int .i64 x.k, .string x.n, .int .i64 x.s] 39)) = .ok v' w' ∧ Got w w' v' (l ++ [x]) := by
  obtain ⟨v', w', h1, h2, _, h4, _⟩ := run_append_nd x h.1 h.2.size hl
  exact ⟨v', w', h1, h2, h.2.trans h4⟩
theorem Got.row {w wr : World} {v y : Value} {l m : List Nd} (h : Got w wr v l) (hy : Nds wr y m) (hl : l.length + m.length ≤ 2000000) :
    ∃ v' w', (Builtin.append_ #[22, 22] 22 #[v, y]).run Try.prog wr = .ok v' w' ∧ Got w w' v' (l ++ m) := by
  obtain ⟨v', w', h1, h2, _, h4, _⟩ := run_append_nds h.1 h.2.size hy hl
  exact ⟨v', w', h1, h2, h.2.trans h4⟩
theorem Got.new {w wr : World} {v : Value} {l : List Nd} (m : List Nd) (h : Got w wr v l) (hl : l.length + m.length ≤ 2000000) :
    ∃ v' w', (Builtin.append_ #[22, 22] 22 #[v, .slice (some ⟨wr.heap.size, 0, none⟩) m.length m.length]).run Try.prog (wr.alloc (.cells (cls m).toArray 39)) = .ok v' w' ∧ Got w w' v' (l ++ m) :=
  (h.below (below1 wr _)).row (nds_new wr m _) hl
end Go.Proofs.Ytpkbpooiaddcaaa.Rf
