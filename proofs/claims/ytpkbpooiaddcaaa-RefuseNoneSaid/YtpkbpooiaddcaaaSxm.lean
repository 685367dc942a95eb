/- Plain: the sort of a tree out of those of its kids, as the program makes it. -/
import Derived.Test.YtpkbpooiaddcaaaSot
namespace Go.Proofs.Ytpkbpooiaddcaaa.Sx
open Go.Proofs.Ytpkbpooiaddcaaa.Rw Go.Proofs.Ytpkbpooiaddcaaa.So

def pl (s : Nat) : Bool := s == 1 || s == 3
def pd (s : Nat) : Bool := s == 2 || s == 4
def on (s : Nat) : Bool := s == 3 || s == 4
/-- May a node of a kind have kids of these sorts? -/
def fit (k : Int) (a b : Nat) : Bool :=
  if k = 9 then pd a else if k = 14 then a == 1 else if k = 13 then pd a && b == 1
  else if k = 10 then !on a && (pl a && b == 1) else if k = 8 ∨ k = 12 then pl a && b == 1
  else if k = 6 then !on a && (!on b && (pl a && pl b || pd a && pd b)) else if k = 5 then !on b && (pl a && pl b || pd a && pd b)
  else if k = 7 then pl a && pl b || pd a && pd b else true
/-- The sort that it then is of. -/
def made (k : Int) (a b : Nat) : Nat :=
  if k = 5 ∨ k = 6 ∨ k = 7 ∨ k = 8 then max a b else if k = 9 then (if a = 4 then 3 else 1) else if k = 11 then 3
  else if k = 10 then 2 else if k = 12 ∨ k = 13 ∨ k = 14 then 4 else 1
def comb (k : Int) (a b : Nat) : Nat := if fit k a b then made k a b else 0
theorem first_le (l : List Nd) : first l ≤ 4 := by
  unfold first
  repeat' split
  all_goals omega
theorem apart_of (l : List Nd) : ¬ (Is 3 l = true ∧ Is 4 l = true) := apart l.length l (Nat.le_refl _)
theorem is_first (l : List Nd) : Is 1 l = (first l == 1) ∧ Is 2 l = (first l == 2) ∧ Is 3 l = pl (first l) ∧ Is 4 l = pd (first l) := by
  have h := apart_of l
  have h1 := @one_three l
  have h2 := @two_four l
  unfold first
  cases e1 : Is 1 l <;> cases e2 : Is 2 l <;> cases e3 : Is 3 l <;> cases e4 : Is 4 l <;> simp [e1, e2, e3, e4, pl, pd] at h h1 h2 ⊢
/-- The document's steps, with the sorts of the kids. -/
def p1 (k : Int) (a b : Nat) : Bool := if k = 1 ∨ k = 2 ∨ k = 3 ∨ k = 4 then true else if k = 5 ∨ k = 6 ∨ k = 7 ∨ k = 8 then a == 1 && b == 1 else if k = 9 then a == 2 else false
def p2 (k : Int) (a b : Nat) : Bool := if k = 10 then a == 1 && b == 1 else if k = 5 ∨ k = 6 ∨ k = 7 then a == 2 && b == 2 else false
def p3 (k : Int) (a b : Nat) : Bool := if k = 11 then true else if k = 5 ∨ k = 8 then pl a && b == 1 else if k = 7 then pl a && pl b else if k = 9 then pd a else false
def p4 (k : Int) (a b : Nat) : Bool := if k = 12 then pl a && b == 1 else if k = 5 then pd a && b == 2 else if k = 7 then pd a && pd b else if k = 13 then pd a && b == 1 else if k = 14 then a == 1 else false
def step (k : Int) (a b : Nat) : Nat := if p1 k a b then 1 else if p2 k a b then 2 else if p1 k a b || p3 k a b then 3 else if p2 k a b || p4 k a b then 4 else 0
theorem first_step (l : List Nd) : first l = step (hd l) (first (k0 l)) (first (k1 l)) := by
  obtain ⟨a1, a2, a3, a4⟩ := is_first (k0 l)
  obtain ⟨b1, b2, b3, b4⟩ := is_first (k1 l)
  have h1 : Is 1 l = p1 (hd l) (first (k0 l)) (first (k1 l)) := by
    rw [Is_one]; unfold plainB p1; rw [a1, a2, b1]
  have h2 : Is 2 l = p2 (hd l) (first (k0 l)) (first (k1 l)) := by
    rw [Is_two]; unfold pairedB p2; rw [a1, a2, b1, b2]
  have h3 : Is 3 l = (p1 (hd l) (first (k0 l)) (first (k1 l)) || p3 (hd l) (first (k0 l)) (first (k1 l))) := by
    rw [Is_three, ← Is_one, h1]; unfold plainOnB p3; rw [a3, a4, b1, b3]
  have h4 : Is 4 l = (p2 (hd l) (first (k0 l)) (first (k1 l)) || p4 (hd l) (first (k0 l)) (first (k1 l))) := by
    rw [Is_four, ← Is_two, h2]; unfold pairedOnB p4; rw [a1, a3, a4, b1, b2, b4]
  rw [first, h1, h2, h3, h4]
  rfl
theorem steps : ∀ k ∈ ([1, 2, 3, 4, 5, 6, 7, 8, 9, 10, 11, 12, 13, 14] : List Int), ∀ a ∈ ([0, 1, 2, 3, 4] : List Nat), ∀ b ∈ ([0, 1, 2, 3, 4] : List Nat), step k a b = comb k a b := by decide +kernel
theorem mem5 {a : Nat} (h : a ≤ 4) : a ∈ ([0, 1, 2, 3, 4] : List Nat) := by
  simp only [List.mem_cons, List.not_mem_nil, or_false]
  omega
theorem first_comb {l : List Nd} (h : 0 ≤ Rw.ar (hd l)) : first l = comb (hd l) (first (k0 l)) (first (k1 l)) := by
  rw [first_step]
  refine steps _ ?_ _ (mem5 (first_le _)) _ (mem5 (first_le _))
  simp only [List.mem_cons, List.not_mem_nil, or_false]
  exact kinds h
theorem first_nil : first [] = 0 := by decide +kernel
/-- A tree is its first node and its kids. -/
theorem parts {l : List Nd} (h : Tre l) : ∃ n, hd l = n.k ∧ l = n :: (kids l).flatten := by
  have hs : Rw.size l ≠ 0 := by rw [h.size]; have := h.pos; omega
  cases l with
  | nil => exact absurd h.pos (Nat.lt_irrefl 0)
  | cons n r =>
    have := kids_flat hs
    rw [h.size, List.take_length] at this
    exact ⟨n, rfl, this.symm⟩
theorem parts0 {l : List Nd} (h : Tre l) (h0 : Rw.ar (hd l) = 0) : ∃ n, hd l = n.k ∧ l = [n] ∧ first l = comb n.k 0 0 := by
  obtain ⟨n, hn, hl⟩ := parts h
  have hk : kids l = [] := by
    have := h.kids.1
    rw [h0] at this
    exact List.eq_nil_of_length_eq_zero this
  refine ⟨n, hn, by rw [hl, hk]; rfl, ?_⟩
  rw [first_comb (by omega), hn, show k0 l = [] by unfold k0; rw [hk]; rfl, show k1 l = [] by unfold k1; rw [hk]; rfl, first_nil]
theorem parts1 {l : List Nd} (h : Tre l) (h0 : Rw.ar (hd l) = 1) : ∃ n a, hd l = n.k ∧ l = n :: a ∧ Tre a ∧ first l = comb n.k (first a) 0 := by
  obtain ⟨n, hn, hl⟩ := parts h
  obtain ⟨a, hk, ha, _⟩ := h.one h0
  refine ⟨n, a, hn, by rw [hl, hk]; simp, ha, ?_⟩
  rw [first_comb (by omega), hn, show k0 l = a by unfold k0; rw [hk]; rfl, show k1 l = [] by unfold k1; rw [hk]; rfl, first_nil]
theorem parts2 {l : List Nd} (h : Tre l) (h0 : Rw.ar (hd l) = 2) : ∃ n a b, hd l = n.k ∧ l = n :: (a ++ b) ∧ Tre a ∧ Tre b ∧ first l = comb n.k (first a) (first b) := by
  obtain ⟨n, hn, hl⟩ := parts h
  obtain ⟨a, b, hk, ha, hb, _⟩ := h.two h0
  refine ⟨n, a, b, hn, by rw [hl, hk]; simp, ha, hb, ?_⟩
  rw [first_comb (by omega), hn, show k0 l = a by unfold k0; rw [hk]; rfl, show k1 l = b by unfold k1; rw [hk]; rfl]
end Go.Proofs.Ytpkbpooiaddcaaa.Sx
