/- Plain: the sorts of trees. -/
import Derived.Test.YtpkbpooiaddcaaaRwv
namespace Go.Proofs.Ytpkbpooiaddcaaa.So
open Go.Proofs.Ytpkbpooiaddcaaa.Rw

def k0 (l : List Nd) : List Nd := (kids l).getD 0 []
def k1 (l : List Nd) : List Nd := (kids l).getD 1 []
def hd (l : List Nd) : Int := match l with | [] => 0 | n :: _ => n.k
/-- The four sorts, one step; t: what its kids are. -/
def plainB (t : Nat → List Nd → Bool) (l : List Nd) : Bool :=
  if hd l = 1 ∨ hd l = 2 ∨ hd l = 3 ∨ hd l = 4 then true
  else if hd l = 5 ∨ hd l = 6 ∨ hd l = 7 ∨ hd l = 8 then t 1 (k0 l) && t 1 (k1 l)
  else if hd l = 9 then t 2 (k0 l) else false
def pairedB (t : Nat → List Nd → Bool) (l : List Nd) : Bool :=
  if hd l = 10 then t 1 (k0 l) && t 1 (k1 l)
  else if hd l = 5 ∨ hd l = 6 ∨ hd l = 7 then t 2 (k0 l) && t 2 (k1 l) else false
def plainOnB (t : Nat → List Nd → Bool) (l : List Nd) : Bool :=
  if hd l = 11 then true
  else if hd l = 5 ∨ hd l = 8 then t 3 (k0 l) && t 1 (k1 l)
  else if hd l = 7 then t 3 (k0 l) && t 3 (k1 l)
  else if hd l = 9 then t 4 (k0 l) else false
def pairedOnB (t : Nat → List Nd → Bool) (l : List Nd) : Bool :=
  if hd l = 12 then t 3 (k0 l) && t 1 (k1 l)
  else if hd l = 5 then t 4 (k0 l) && t 2 (k1 l)
  else if hd l = 7 then t 4 (k0 l) && t 4 (k1 l)
  else if hd l = 13 then t 4 (k0 l) && t 1 (k1 l)
  else if hd l = 14 then t 1 (k0 l) else false
def stepB (t : Nat → List Nd → Bool) (s : Nat) (l : List Nd) : Bool :=
  if s = 1 then plainB t l else if s = 2 then pairedB t l else if s = 3 then plainB t l || plainOnB t l else pairedB t l || pairedOnB t l
def isF : Nat → Nat → List Nd → Bool
  | 0, _, _ => false
  | f + 1, s, l => stepB (isF f) s l
theorem kids_short {l r : List Nd} (hr : r ∈ kids l) : r.length < l.length := by
  have hs : size l ≠ 0 := fun e => by
    unfold kids at hr
    rw [if_pos e] at hr
    cases hr
  have h0 : 0 < l.length := by have := size_le l; omega
  cases l with
  | nil => simp at h0
  | cons n rs =>
    have := kids_flat hs
    have h1 : r.length ≤ (kids (n :: rs)).flatten.length := by
      obtain ⟨s, t, hst⟩ := List.append_of_mem hr
      rw [hst]
      simp
      omega
    have h2 : (kids (n :: rs)).flatten.length + 1 = ((n :: rs).take (size (n :: rs))).length := by rw [← this]; simp
    rw [List.length_take] at h2
    omega
theorem getD_short (l : List Nd) (i : Nat) (h : 0 < l.length) : ((kids l).getD i []).length < l.length := by
  rw [List.getD_eq_getElem?_getD]
  cases hx : (kids l)[i]? with
  | none => simpa using h
  | some r => exact kids_short (List.mem_of_getElem? hx)
theorem hd_nil : hd [] = 0 := rfl
theorem stepB_congr {t t' : Nat → List Nd → Bool} (s : Nat) (l : List Nd) (h : ∀ s i, t s ((kids l).getD i []) = t' s ((kids l).getD i [])) : stepB t s l = stepB t' s l := by
  unfold stepB plainB pairedB plainOnB pairedOnB k0 k1
  simp only [h]
theorem stepB_nil (t : Nat → List Nd → Bool) (s : Nat) : stepB t s [] = false := by
  unfold stepB plainB pairedB plainOnB pairedOnB
  simp [hd]
theorem isF_nil : ∀ (f s : Nat), isF f s [] = false
  | 0, _ => rfl
  | _ + 1, s => stepB_nil _ s
theorem isF_fuel : ∀ (f : Nat) (s : Nat) (l : List Nd), l.length ≤ f → isF (f + 1) s l = isF f s l
  | 0, s, l, h => by
    have : l = [] := List.eq_nil_of_length_eq_zero (by omega)
    subst this
    rw [isF_nil, isF_nil]
  | f + 1, s, l, h => by
    by_cases h0 : 0 < l.length
    · exact stepB_congr s l fun s' i => isF_fuel f s' _ (by have := getD_short l i h0; omega)
    · have : l = [] := List.eq_nil_of_length_eq_zero (by omega)
      subst this
      rw [isF_nil, isF_nil]
/-- Is a tree of a sort? 1: plain, 2: paired, 3: plain or goes on so, 4: paired or goes on so. -/
def Is (s : Nat) (l : List Nd) : Bool := isF l.length s l
theorem isF_Is (f s : Nat) (l : List Nd) (h : l.length ≤ f) : isF f s l = Is s l := by
  have : ∀ g, isF (l.length + g) s l = isF l.length s l := by
    intro g
    induction g with
    | zero => rfl
    | succ g ih => rw [← Nat.add_assoc, isF_fuel _ _ _ (by omega), ih]
  have h' := this (f - l.length)
  rw [show l.length + (f - l.length) = f by omega] at h'
  exact h'
theorem Is_eq (s : Nat) (l : List Nd) : Is s l = stepB Is s l := by
  cases hl : l.length with
  | zero =>
    have : l = [] := List.eq_nil_of_length_eq_zero hl
    subst this
    rw [stepB_nil]
    rfl
  | succ n =>
    unfold Is
    rw [hl]
    exact stepB_congr s l fun s' i => isF_Is n s' _ (by have := getD_short l i (by omega); omega)
theorem Is_one (l : List Nd) : Is 1 l = plainB Is l := Is_eq 1 l
theorem Is_two (l : List Nd) : Is 2 l = pairedB Is l := Is_eq 2 l
theorem Is_three (l : List Nd) : Is 3 l = (plainB Is l || plainOnB Is l) := Is_eq 3 l
theorem Is_four (l : List Nd) : Is 4 l = (pairedB Is l || pairedOnB Is l) := Is_eq 4 l
theorem one_three {l : List Nd} (h : Is 1 l = true) : Is 3 l = true := by rw [Is_three, ← Is_one, h]; rfl
theorem two_four {l : List Nd} (h : Is 2 l = true) : Is 4 l = true := by rw [Is_four, ← Is_two, h]; rfl

/-- The sort of a row. -/
def first (l : List Nd) : Nat := if Is 1 l then 1 else if Is 2 l then 2 else if Is 3 l then 3 else if Is 4 l then 4 else 0
def of (l : List Nd) : Nat := if whole l then first l else 0
theorem of_le (l : List Nd) : of l ≤ 4 := by
  unfold of first
  repeat' split
  all_goals omega

theorem of_cases (l : List Nd) : of l = 0 ∨ of l = 1 ∨ of l = 2 ∨ of l = 3 ∨ of l = 4 := by have := of_le l; omega

/-- No tree is of both kinds. -/
theorem apart : ∀ (m : Nat) (l : List Nd), l.length ≤ m → ¬ (Is 3 l = true ∧ Is 4 l = true)
  | 0, l, h, hh => by
    have : l = [] := List.eq_nil_of_length_eq_zero (by omega)
    subst this
    rw [Is_eq, stepB_nil] at hh
    cases hh.1
  | m + 1, l, h, hh => by
    by_cases h0 : 0 < l.length
    case neg =>
      have : l = [] := List.eq_nil_of_length_eq_zero (by omega)
      subst this
      rw [Is_eq, stepB_nil] at hh
      cases hh.1
    have i0 := apart m (k0 l) (by have := getD_short l 0 h0; unfold k0; omega)
    obtain ⟨h3, h4⟩ := hh
    have key : ∀ r, (Is 1 r = true ∨ Is 3 r = true) → (Is 2 r = true ∨ Is 4 r = true) → Is 3 r = true ∧ Is 4 r = true := fun r a b =>
      ⟨a.elim one_three id, b.elim two_four id⟩
    rw [Is_three, Bool.or_eq_true] at h3
    rw [Is_four, Bool.or_eq_true] at h4
    unfold plainB plainOnB at h3
    unfold pairedB pairedOnB at h4
    generalize hd l = k at h3 h4
    apply i0
    apply key
    · rcases h3 with h3 | h3
      all_goals
        repeat' split at h3
        all_goals (first | (simp only [Bool.and_eq_true] at h3; exact Or.inl h3.1) | (simp only [Bool.and_eq_true] at h3; exact Or.inr h3.1) | skip)
        all_goals (exfalso; rcases h4 with h4 | h4 <;> (repeat' split at h4) <;> first | omega | (cases h4; done) | (cases h3; done))
    · rcases h4 with h4 | h4
      all_goals
        repeat' split at h4
        all_goals (first | (simp only [Bool.and_eq_true] at h4; exact Or.inl h4.1) | (simp only [Bool.and_eq_true] at h4; exact Or.inr h4.1) | skip)
        all_goals (exfalso; rcases h3 with h3 | h3 <;> (repeat' split at h3) <;> first | omega | (cases h4; done) | (cases h3; done))
end Go.Proofs.Ytpkbpooiaddcaaa.So
