/- Signs as plain numbers: what Both, Text and Of are, and that Both hangs neither on order nor on grouping. -/
import Derived.WalkKit
namespace Go.Proofs.YtmhmfnjjdcdkcaaDoor.Sg
open Go Go.RowKit

/-- Is it one of the three? -/
def isB (s : Int) : Bool := s == 1 || s == 2 || s == 3
/-- How two end side by side. -/
def both (a b : Int) : Int :=
  if isB a && isB b then (if a == 2 || b == 2 then 2 else if a == 3 || b == 3 then 3 else 1) else 0
/-- How all of them end, from e on. -/
def all (e : Int) : List Int → Int
  | [] => e
  | x :: r => all (both e x) r
/-- The text of a sign. -/
def txt (s : Int) : ByteArray := if s == 1 then ⟨#[111, 107]⟩ else if s == 2 then ⟨#[33]⟩ else if s == 3 then ⟨#[63]⟩ else ⟨#[]⟩
/-- The sign of a text. -/
def ofI (t : ByteArray) : Int := if t = ⟨#[111, 107]⟩ then 1 else if t = ⟨#[33]⟩ then 2 else if t = ⟨#[63]⟩ then 3 else 0
/-- Has the text a sign? -/
def ofB (t : ByteArray) : Bool := if t = ⟨#[111, 107]⟩ then true else if t = ⟨#[33]⟩ then true else if t = ⟨#[63]⟩ then true else false

theorem cases4 (s : Int) : s = 1 ∨ s = 2 ∨ s = 3 ∨ (¬ s = 1 ∧ ¬ s = 2 ∧ ¬ s = 3) := by omega
theorem isB_no {s : Int} (h : ¬ s = 1 ∧ ¬ s = 2 ∧ ¬ s = 3) : isB s = false := by simp [isB, h]
theorem isB_yes {s : Int} (h : isB s = true) : s = 1 ∨ s = 2 ∨ s = 3 := by simpa [isB, or_assoc] using h
theorem both_no_l {a b : Int} (h : isB a = false) : both a b = 0 := by simp [both, h]
theorem both_no_r {a b : Int} (h : isB b = false) : both a b = 0 := by simp [both, h]

theorem both_comm (a b : Int) : both a b = both b a := by
  rcases cases4 a with rfl | rfl | rfl | ha <;> rcases cases4 b with rfl | rfl | rfl | hb <;>
    first | rfl | (rw [both_no_l (isB_no ha), both_no_r (isB_no ha)]) | (rw [both_no_l (isB_no hb), both_no_r (isB_no hb)])
theorem both_assoc (a b c : Int) : both (both a b) c = both a (both b c) := by
  rcases cases4 a with rfl | rfl | rfl | ha <;> rcases cases4 b with rfl | rfl | rfl | hb <;> rcases cases4 c with rfl | rfl | rfl | hc <;>
    first
    | rfl
    | (rw [both_no_l (isB_no ha), both_no_l (isB_no ha)]; rfl)
    | (rw [both_no_r (isB_no hb), both_no_l (isB_no hb)]; first | rfl | (rw [both_no_l (show isB 0 = false from rfl), both_no_r (show isB 0 = false from rfl)]))
    | (rw [both_no_r (isB_no hc), both_no_r (isB_no hc)]; rfl)
theorem both_one {s : Int} (h : isB s = true) : both s 1 = s := by rcases isB_yes h with rfl | rfl | rfl <;> rfl
theorem one_both {s : Int} (h : isB s = true) : both 1 s = s := by rw [both_comm]; exact both_one h
theorem both_self {s : Int} (h : isB s = true) : both s s = s := by rcases isB_yes h with rfl | rfl | rfl <;> rfl
theorem bang_both {s : Int} (h : isB s = true) : both 2 s = 2 := by rcases isB_yes h with rfl | rfl | rfl <;> rfl
theorem both_zero {s : Int} (h : isB s = false) : both s s = 0 := both_no_l h

/-- Both is one of the three, or 0. -/
theorem both_range (a b : Int) : both a b = 0 ∨ both a b = 1 ∨ both a b = 2 ∨ both a b = 3 := by
  unfold both; repeat' split
  all_goals simp
theorem both_bd (a b : Int) : 0 ≤ both a b ∧ both a b ≤ 3 := by have := both_range a b; omega

theorem all_snoc (e : Int) (l : List Int) (x : Int) : all e (l ++ [x]) = both (all e l) x := by
  induction l generalizing e with
  | nil => rfl
  | cons y r ih => exact ih _
theorem all_append (e : Int) (l m : List Int) : all e (l ++ m) = all (all e l) m := by
  induction l generalizing e with
  | nil => rfl
  | cons y r ih => exact ih _
theorem both_fix (a b : Int) : both 1 (both a b) = both a b := by
  rcases cases4 a with rfl | rfl | rfl | ha <;> rcases cases4 b with rfl | rfl | rfl | hb <;>
    first | rfl | (rw [both_no_l (isB_no ha)]; rfl) | (rw [both_no_r (isB_no hb)]; rfl)
theorem all_both (e : Int) (m : List Int) (he : both e 1 = e) : all e m = both e (all 1 m) := by
  induction m generalizing e with
  | nil => exact he.symm
  | cons x r ih =>
    show all (both e x) r = both e (all (both 1 x) r)
    rw [ih (both e x) (by rw [both_comm]; exact both_fix e x), ih (both 1 x) (by rw [both_comm]; exact both_fix 1 x), both_assoc, ← both_assoc e (both 1 x), ← both_assoc e 1 x, he, both_assoc]
theorem all_fix (e : Int) (m : List Int) (he : both e 1 = e) : both (all e m) 1 = all e m := by
  induction m generalizing e with
  | nil => exact he
  | cons x r ih => exact ih _ (by rw [both_comm]; exact both_fix e x)
/-- All of a row in two parts is both of the parts. -/
theorem all_parts (l m : List Int) : all 1 (l ++ m) = both (all 1 l) (all 1 m) := by
  rw [all_append]; exact all_both _ _ (all_fix 1 l rfl)
theorem all_bd (e : Int) (l : List Int) (h : 0 ≤ e ∧ e ≤ 3) : 0 ≤ all e l ∧ all e l ≤ 3 := by
  induction l generalizing e with
  | nil => exact h
  | cons x r ih => exact ih _ (both_bd e x)
/-- Three in any order end the same. -/
theorem all_three (a b c : Int) : all 1 [a, b, c] = all 1 [c, a, b] := by
  show both (both (both 1 a) b) c = both (both (both 1 c) a) b
  rw [both_assoc 1 a b, both_assoc 1 _ c, both_assoc 1 c a, both_assoc 1 _ b, both_comm (both a b) c, ← both_assoc c a b]
theorem txt_of (t : ByteArray) (h : ofB t = true) : txt (ofI t) = t := by
  unfold ofB at h; unfold ofI txt
  by_cases h1 : t = ⟨#[111, 107]⟩
  · rw [if_pos h1]; exact h1.symm
  · by_cases h2 : t = ⟨#[33]⟩
    · rw [if_neg h1, if_pos h2]; exact h2.symm
    · by_cases h3 : t = ⟨#[63]⟩
      · rw [if_neg h1, if_neg h2, if_pos h3]; exact h3.symm
      · rw [if_neg h1, if_neg h2, if_neg h3] at h; cases h
end Go.Proofs.YtmhmfnjjdcdkcaaDoor.Sg
