/- The document's Whole over rows of nodes. -/
import Derived.Test.YtpkbpooiaddcaaaRwr
namespace Go.Proofs.Ytpkbpooiaddcaaa.Rw
open Go Go.RowKit
set_option maxRecDepth 20000

/-- Names of a length that memory has. -/
def Nms (l : List Nd) : Prop := ∀ x ∈ l, x.n.size ≤ 140737488355328
def whole (l : List Nd) : Bool := l.all rgt && (decide (1 ≤ l.length) && decide (l.length ≤ 200)) && decide (size l = l.length)
theorem all_take (l : List Nd) (k : Nat) (h : k < l.length) : (l.take (k + 1)).all rgt = ((l.take k).all rgt && rgt l[k]) := by
  rw [List.take_succ_eq_append_getElem h, List.all_append]
  simp
theorem all_no {l : List Nd} {k : Nat} (h : k < l.length) (hr : rgt l[k] = false) : l.all rgt = false := by
  rw [List.all_eq_false]
  exact ⟨l[k], List.getElem_mem h, by rw [hr]; decide⟩

theorem Below.drewN (B n : Nat) (w : World) : Below B w (w.drewN n) := by
  induction n with
  | zero => exact Below.refl _ _
  | succ n ih => exact ih.drew
/-- How many nodes are of one of the kinds. -/
def cnt (l : List Nd) (ks : List Int) : Nat := l.countP fun x => decide (x.k ∈ ks)
/-- A slice of integers that reads as these. -/
def Ints (w : World) (v : Value) (l : List Int) : Prop := Ap.Rd w 1 v l.length (l.map (.int .i64))
theorem Ints.below {w w' : World} {v : Value} {l : List Int} (h : Ints w v l) (hb : Below w.heap.size w w') : Ints w' v l := Ap.Rd.below h hb
def AtI (w : World) (b off : Nat) (l : List Int) : Prop := ∀ k, (h : k < l.length) → w.cell? ⟨b, off + k, none⟩ = some (.int .i64 l[k])
theorem Ints.form {w : World} {v : Value} {l : List Int} (h : Ints w v l) :
    (l = [] ∧ ∃ a cap, v = .slice a 0 cap) ∨ ∃ b off cap, v = .slice (some ⟨b, off, none⟩) l.length cap ∧ l.length ≤ cap ∧ AtI w b off l := by
  obtain ⟨_, a, cap, rfl, hle, _, hcell⟩ := h
  by_cases h0 : 0 < l.length
  · obtain ⟨b, off, rfl, hj⟩ := hcell h0
    exact Or.inr ⟨b, off, cap, rfl, hle, fun k hk => hj _ _ (by rw [List.getElem?_map, List.getElem?_eq_getElem hk]; rfl)⟩
  · have : l = [] := List.eq_nil_of_length_eq_zero (by omega)
    subst this
    exact Or.inl ⟨rfl, a, cap, rfl⟩
end Go.Proofs.Ytpkbpooiaddcaaa.Rw
