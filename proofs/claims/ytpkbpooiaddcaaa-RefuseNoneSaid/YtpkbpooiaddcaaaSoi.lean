/- The document's Is, Of, On and Right. -/
import Derived.Test.YtpkbpooiaddcaaaSow
namespace Go.Proofs.Ytpkbpooiaddcaaa.So
open Go Go.RowKit Go.Proofs.Ytpkbpooiaddcaaa.Rw
set_option maxRecDepth 20000

theorem whole_tre {l : List Nd} (h : whole l = true) : Tre l := by
  unfold whole at h
  simp only [Bool.and_eq_true, decide_eq_true_eq] at h
  exact Tre.of_size h.2 (fun e => by rw [e] at h; exact absurd h.1.2.1 (by decide))
theorem whole_len {l : List Nd} (h : whole l = true) : l.length ≤ 200 := by
  unfold whole at h
  simp only [Bool.and_eq_true, decide_eq_true_eq] at h
  exact h.1.2.2
/-- No sort below s. -/
def Not (l : List Nd) (s : Nat) : Prop := ∀ i, 1 ≤ i → i < s → Is i l = false
theorem first_yes {l : List Nd} {s : Nat} (h : Not l s) (h1 : 1 ≤ s) (h4 : s ≤ 4) (hs : Is s l = true) : first l = s := by
  have n1 : 1 < s → Is 1 l = false := fun h' => h 1 (by omega) h'
  have n2 : 2 < s → Is 2 l = false := fun h' => h 2 (by omega) h'
  have n3 : 3 < s → Is 3 l = false := fun h' => h 3 (by omega) h'
  unfold first
  have hc : s = 1 ∨ s = 2 ∨ s = 3 ∨ s = 4 := by omega
  rcases hc with rfl | rfl | rfl | rfl
  · simp [hs]
  · simp [n1 (by omega), hs]
  · simp [n1 (by omega), n2 (by omega), hs]
  · simp [n1 (by omega), n2 (by omega), n3 (by omega), hs]
theorem first_no {l : List Nd} (h : Not l 5) : first l = 0 := by
  unfold first
  simp [h 1 (by omega) (by omega), h 2 (by omega) (by omega), h 3 (by omega) (by omega), h 4 (by omega) (by omega)]
theorem Not.next {l : List Nd} {s : Nat} (h : Not l s) (hs : Is s l = false) : Not l (s + 1) := fun i h1 h2 => by
  rcases Nat.lt_or_ge i s with h' | h'
  · exact h i h1 h'
  · rw [show i = s by omega]
    exact hs

end Go.Proofs.Ytpkbpooiaddcaaa.So
