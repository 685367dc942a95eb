/- Plain: the sorts kind by kind; terms have no node of what goes on, and what goes on has one. -/
import Derived.Test.YtpkbpooiaddcaaaSoi
namespace Go.Proofs.Ytpkbpooiaddcaaa.So
open Go Go.Proofs.Ytpkbpooiaddcaaa.Rw

theorem eq_1_1 {l : List Nd} (h : hd l = 1) : Is 1 l = true := by
  rw [Is_one]
  unfold plainB
  rw [h]
  rfl
theorem eq_1_2 {l : List Nd} (h : hd l = 1) : Is 2 l = false := by
  rw [Is_two]
  unfold pairedB
  rw [h]
  rfl
theorem eq_1_3 {l : List Nd} (h : hd l = 1) : Is 3 l = (true || false) := by
  rw [Is_three]
  unfold plainB plainOnB
  rw [h]
  rfl
theorem eq_1_4 {l : List Nd} (h : hd l = 1) : Is 4 l = (false || false) := by
  rw [Is_four]
  unfold pairedB pairedOnB
  rw [h]
  rfl
theorem eq_2_1 {l : List Nd} (h : hd l = 2) : Is 1 l = true := by
  rw [Is_one]
  unfold plainB
  rw [h]
  rfl
theorem eq_2_2 {l : List Nd} (h : hd l = 2) : Is 2 l = false := by
  rw [Is_two]
  unfold pairedB
  rw [h]
  rfl
theorem eq_2_3 {l : List Nd} (h : hd l = 2) : Is 3 l = (true || false) := by
  rw [Is_three]
  unfold plainB plainOnB
  rw [h]
  rfl
theorem eq_2_4 {l : List Nd} (h : hd l = 2) : Is 4 l = (false || false) := by
  rw [Is_four]
  unfold pairedB pairedOnB
  rw [h]
  rfl
theorem eq_3_1 {l : List Nd} (h : hd l = 3) : Is 1 l = true := by
  rw [Is_one]
  unfold plainB
  rw [h]
  rfl
theorem eq_3_2 {l : List Nd} (h : hd l = 3) : Is 2 l = false := by
  rw [Is_two]
  unfold pairedB
  rw [h]
  rfl
theorem eq_3_3 {l : List Nd} (h : hd l = 3) : Is 3 l = (true || false) := by
  rw [Is_three]
  unfold plainB plainOnB
  rw [h]
  rfl
theorem eq_3_4 {l : List Nd} (h : hd l = 3) : Is 4 l = (false || false) := by
  rw [Is_four]
  unfold pairedB pairedOnB
  rw [h]
  rfl
theorem eq_4_1 {l : List Nd} (h : hd l = 4) : Is 1 l = true := by
  rw [Is_one]
  unfold plainB
  rw [h]
  rfl
theorem eq_4_2 {l : List Nd} (h : hd l = 4) : Is 2 l = false := by
  rw [Is_two]
  unfold pairedB
  rw [h]
  rfl
theorem eq_4_3 {l : List Nd} (h : hd l = 4) : Is 3 l = (true || false) := by
  rw [Is_three]
  unfold plainB plainOnB
  rw [h]
  rfl
theorem eq_4_4 {l : List Nd} (h : hd l = 4) : Is 4 l = (false || false) := by
  rw [Is_four]
  unfold pairedB pairedOnB
  rw [h]
  rfl
theorem eq_5_1 {l : List Nd} (h : hd l = 5) : Is 1 l = (Is 1 (k0 l) && Is 1 (k1 l)) := by
  rw [Is_one]
  unfold plainB
  rw [h]
  rfl
theorem eq_5_2 {l : List Nd} (h : hd l = 5) : Is 2 l = (Is 2 (k0 l) && Is 2 (k1 l)) := by
  rw [Is_two]
  unfold pairedB
  rw [h]
  rfl
theorem eq_5_3 {l : List Nd} (h : hd l = 5) : Is 3 l = ((Is 1 (k0 l) && Is 1 (k1 l)) || (Is 3 (k0 l) && Is 1 (k1 l))) := by
  rw [Is_three]
  unfold plainB plainOnB
  rw [h]
  rfl
theorem eq_5_4 {l : List Nd} (h : hd l = 5) : Is 4 l = ((Is 2 (k0 l) && Is 2 (k1 l)) || (Is 4 (k0 l) && Is 2 (k1 l))) := by
  rw [Is_four]
  unfold pairedB pairedOnB
  rw [h]
  rfl
theorem eq_6_1 {l : List Nd} (h : hd l = 6) : Is 1 l = (Is 1 (k0 l) && Is 1 (k1 l)) := by
  rw [Is_one]
  unfold plainB
  rw [h]
  rfl
theorem eq_6_2 {l : List Nd} (h : hd l = 6) : Is 2 l = (Is 2 (k0 l) && Is 2 (k1 l)) := by
  rw [Is_two]
  unfold pairedB
  rw [h]
  rfl
theorem eq_6_3 {l : List Nd} (h : hd l = 6) : Is 3 l = ((Is 1 (k0 l) && Is 1 (k1 l)) || false) := by
  rw [Is_three]
  unfold plainB plainOnB
  rw [h]
  rfl
theorem eq_6_4 {l : List Nd} (h : hd l = 6) : Is 4 l = ((Is 2 (k0 l) && Is 2 (k1 l)) || false) := by
  rw [Is_four]
  unfold pairedB pairedOnB
  rw [h]
  rfl
theorem eq_7_1 {l : List Nd} (h : hd l = 7) : Is 1 l = (Is 1 (k0 l) && Is 1 (k1 l)) := by
  rw [Is_one]
  unfold plainB
  rw [h]
  rfl
theorem eq_7_2 {l : List Nd} (h : hd l = 7) : Is 2 l = (Is 2 (k0 l) && Is 2 (k1 l)) := by
  rw [Is_two]
  unfold pairedB
  rw [h]
  rfl
theorem eq_7_3 {l : List Nd} (h : hd l = 7) : Is 3 l = ((Is 1 (k0 l) && Is 1 (k1 l)) || (Is 3 (k0 l) && Is 3 (k1 l))) := by
  rw [Is_three]
  unfold plainB plainOnB
  rw [h]
  rfl
theorem eq_7_4 {l : List Nd} (h : hd l = 7) : Is 4 l = ((Is 2 (k0 l) && Is 2 (k1 l)) || (Is 4 (k0 l) && Is 4 (k1 l))) := by
  rw [Is_four]
  unfold pairedB pairedOnB
  rw [h]
  rfl
theorem eq_8_1 {l : List Nd} (h : hd l = 8) : Is 1 l = (Is 1 (k0 l) && Is 1 (k1 l)) := by
  rw [Is_one]
  unfold plainB
  rw [h]
  rfl
theorem eq_8_2 {l : List Nd} (h : hd l = 8) : Is 2 l = false := by
  rw [Is_two]
  unfold pairedB
  rw [h]
  rfl
theorem eq_8_3 {l : List Nd} (h : hd l = 8) : Is 3 l = ((Is 1 (k0 l) && Is 1 (k1 l)) || (Is 3 (k0 l) && Is 1 (k1 l))) := by
  rw [Is_three]
  unfold plainB plainOnB
  rw [h]
  rfl
theorem eq_8_4 {l : List Nd} (h : hd l = 8) : Is 4 l = (false || false) := by
  rw [Is_four]
  unfold pairedB pairedOnB
  rw [h]
  rfl
theorem eq_9_1 {l : List Nd} (h : hd l = 9) : Is 1 l = Is 2 (k0 l) := by
  rw [Is_one]
  unfold plainB
  rw [h]
  rfl
theorem eq_9_2 {l : List Nd} (h : hd l = 9) : Is 2 l = false := by
  rw [Is_two]
  unfold pairedB
  rw [h]
  rfl
theorem eq_9_3 {l : List Nd} (h : hd l = 9) : Is 3 l = (Is 2 (k0 l) || Is 4 (k0 l)) := by
  rw [Is_three]
  unfold plainB plainOnB
  rw [h]
  rfl
theorem eq_9_4 {l : List Nd} (h : hd l = 9) : Is 4 l = (false || false) := by
  rw [Is_four]
  unfold pairedB pairedOnB
  rw [h]
  rfl
theorem eq_10_1 {l : List Nd} (h : hd l = 10) : Is 1 l = false := by
  rw [Is_one]
  unfold plainB
  rw [h]
  rfl
theorem eq_10_2 {l : List Nd} (h : hd l = 10) : Is 2 l = (Is 1 (k0 l) && Is 1 (k1 l)) := by
  rw [Is_two]
  unfold pairedB
  rw [h]
  rfl
theorem eq_10_3 {l : List Nd} (h : hd l = 10) : Is 3 l = (false || false) := by
  rw [Is_three]
  unfold plainB plainOnB
  rw [h]
  rfl
theorem eq_10_4 {l : List Nd} (h : hd l = 10) : Is 4 l = ((Is 1 (k0 l) && Is 1 (k1 l)) || false) := by
  rw [Is_four]
  unfold pairedB pairedOnB
  rw [h]
  rfl
theorem eq_11_1 {l : List Nd} (h : hd l = 11) : Is 1 l = false := by
  rw [Is_one]
  unfold plainB
  rw [h]
  rfl
theorem eq_11_2 {l : List Nd} (h : hd l = 11) : Is 2 l = false := by
  rw [Is_two]
  unfold pairedB
  rw [h]
  rfl
theorem eq_11_3 {l : List Nd} (h : hd l = 11) : Is 3 l = (false || true) := by
  rw [Is_three]
  unfold plainB plainOnB
  rw [h]
  rfl
theorem eq_11_4 {l : List Nd} (h : hd l = 11) : Is 4 l = (false || false) := by
  rw [Is_four]
  unfold pairedB pairedOnB
  rw [h]
  rfl
theorem eq_12_1 {l : List Nd} (h : hd l = 12) : Is 1 l = false := by
  rw [Is_one]
  unfold plainB
  rw [h]
  rfl
theorem eq_12_2 {l : List Nd} (h : hd l = 12) : Is 2 l = false := by
  rw [Is_two]
  unfold pairedB
  rw [h]
  rfl
theorem eq_12_3 {l : List Nd} (h : hd l = 12) : Is 3 l = (false || false) := by
  rw [Is_three]
  unfold plainB plainOnB
  rw [h]
  rfl
theorem eq_12_4 {l : List Nd} (h : hd l = 12) : Is 4 l = (false || (Is 3 (k0 l) && Is 1 (k1 l))) := by
  rw [Is_four]
  unfold pairedB pairedOnB
  rw [h]
  rfl
theorem eq_13_1 {l : List Nd} (h : hd l = 13) : Is 1 l = false := by
  rw [Is_one]
  unfold plainB
  rw [h]
  rfl
theorem eq_13_2 {l : List Nd} (h : hd l = 13) : Is 2 l = false := by
  rw [Is_two]
  unfold pairedB
  rw [h]
  rfl
theorem eq_13_3 {l : List Nd} (h : hd l = 13) : Is 3 l = (false || false) := by
  rw [Is_three]
  unfold plainB plainOnB
  rw [h]
  rfl
theorem eq_13_4 {l : List Nd} (h : hd l = 13) : Is 4 l = (false || (Is 4 (k0 l) && Is 1 (k1 l))) := by
  rw [Is_four]
  unfold pairedB pairedOnB
  rw [h]
  rfl
theorem eq_14_1 {l : List Nd} (h : hd l = 14) : Is 1 l = false := by
  rw [Is_one]
  unfold plainB
  rw [h]
  rfl
theorem eq_14_2 {l : List Nd} (h : hd l = 14) : Is 2 l = false := by
  rw [Is_two]
  unfold pairedB
  rw [h]
  rfl
theorem eq_14_3 {l : List Nd} (h : hd l = 14) : Is 3 l = (false || false) := by
  rw [Is_three]
  unfold plainB plainOnB
  rw [h]
  rfl
theorem eq_14_4 {l : List Nd} (h : hd l = 14) : Is 4 l = (false || Is 1 (k0 l)) := by
  rw [Is_four]
  unfold pairedB pairedOnB
  rw [h]
  rfl
/-- How many nodes are of what goes on. -/
def on (l : List Nd) : Nat := cnt l [11, 12, 13, 14]
theorem on_append (l m : List Nd) : on (l ++ m) = on l + on m := List.countP_append
theorem on_cons (x : Nd) (l : List Nd) : on (x :: l) = on l + if x.k ∈ ([11, 12, 13, 14] : List Int) then 1 else 0 := by
  unfold on cnt
  rw [List.countP_cons]
  simp
/-- A tree, by its first node. -/
theorem Tre.flat {l : List Nd} (h : Tre l) : ∃ x, hd l = x.k ∧ l = x :: (Rw.kids l).flatten := by
  have hs := h.size
  have hp := h.pos
  cases l with
  | nil => exact absurd hp (Nat.lt_irrefl 0)
  | cons x r =>
    refine ⟨x, rfl, ?_⟩
    have := kids_flat (n := x) (r := r) (by rw [hs]; omega)
    rw [hs, List.take_length] at this
    exact this.symm
theorem Tre.on0 {l : List Nd} (h : Tre l) (h0 : Rw.ar (hd l) = 0) : on l = if hd l ∈ ([11, 12, 13, 14] : List Int) then 1 else 0 := by
  obtain ⟨x, hx, he⟩ := h.flat
  have hk : Rw.kids l = [] := List.eq_nil_of_length_eq_zero (by rw [h.kids.1, h0]; rfl)
  rw [hk] at he
  rw [he, on_cons]
  simp [on, cnt, hd]
theorem Tre.on1 {l : List Nd} (h : Tre l) (h1 : Rw.ar (hd l) = 1) : ∃ a, k0 l = a ∧ Tre a ∧ a.length < l.length ∧ on l = on a + if hd l ∈ ([11, 12, 13, 14] : List Int) then 1 else 0 := by
  obtain ⟨x, hx, he⟩ := h.flat
  obtain ⟨a, hk, ht, hs⟩ := h.one h1
  rw [hk] at he
  refine ⟨a, by unfold k0; rw [hk]; rfl, ht, hs, ?_⟩
  rw [hx]
  have : on l = on (x :: [a].flatten) := by rw [← he]
  rw [this, on_cons]
  simp
theorem Tre.on2 {l : List Nd} (h : Tre l) (h2 : Rw.ar (hd l) = 2) : ∃ a b, k0 l = a ∧ k1 l = b ∧ Tre a ∧ Tre b ∧ a.length < l.length ∧ b.length < l.length ∧ on l = on a + on b + if hd l ∈ ([11, 12, 13, 14] : List Int) then 1 else 0 := by
  obtain ⟨x, hx, he⟩ := h.flat
  obtain ⟨a, b, hk, t1, t2, s1, s2⟩ := h.two h2
  rw [hk] at he
  refine ⟨a, b, by unfold k0; rw [hk]; rfl, by unfold k1; rw [hk]; rfl, t1, t2, s1, s2, ?_⟩
  rw [hx]
  have : on l = on (x :: [a, b].flatten) := by rw [← he]
  rw [this, on_cons]
  simp [on_append]
theorem term_none : ∀ (m : Nat) (l : List Nd), l.length ≤ m → Tre l → (Is 1 l = true ∨ Is 2 l = true) → on l = 0
  | 0, l, h, ht, _ => absurd ht.pos (by omega)
  | m + 1, l, h, ht, hs => by
    rcases kinds ht.ar with hk | hk | hk | hk | hk | hk | hk | hk | hk | hk | hk | hk | hk | hk
    · rw [eq_1_1 hk, eq_1_2 hk] at hs
      rw [ht.on0 (by rw [hk]; rfl), hk]
      rfl
    · rw [eq_2_1 hk, eq_2_2 hk] at hs
      rw [ht.on0 (by rw [hk]; rfl), hk]
      rfl
    · rw [eq_3_1 hk, eq_3_2 hk] at hs
      rw [ht.on0 (by rw [hk]; rfl), hk]
      rfl
    · rw [eq_4_1 hk, eq_4_2 hk] at hs
      rw [ht.on0 (by rw [hk]; rfl), hk]
      rfl
    · rw [eq_5_1 hk, eq_5_2 hk] at hs
      obtain ⟨a, b, ea, eb, ta, tb, la, lb, eo⟩ := ht.on2 (by rw [hk]; rfl)
      rw [ea, eb] at hs
      simp only [Bool.and_eq_true] at hs
      have hh : (Is 1 a = true ∨ Is 2 a = true) ∧ (Is 1 b = true ∨ Is 2 b = true) := hs.elim (fun h => ⟨Or.inl h.1, Or.inl h.2⟩) (fun h => ⟨Or.inr h.1, Or.inr h.2⟩)
      have h1 := term_none m a (by omega) ta hh.1
      have h2 := term_none m b (by omega) tb hh.2
      rw [eo, h1, h2, hk]
      rfl
    · rw [eq_6_1 hk, eq_6_2 hk] at hs
      obtain ⟨a, b, ea, eb, ta, tb, la, lb, eo⟩ := ht.on2 (by rw [hk]; rfl)
      rw [ea, eb] at hs
      simp only [Bool.and_eq_true] at hs
      have hh : (Is 1 a = true ∨ Is 2 a = true) ∧ (Is 1 b = true ∨ Is 2 b = true) := hs.elim (fun h => ⟨Or.inl h.1, Or.inl h.2⟩) (fun h => ⟨Or.inr h.1, Or.inr h.2⟩)
      have h1 := term_none m a (by omega) ta hh.1
      have h2 := term_none m b (by omega) tb hh.2
      rw [eo, h1, h2, hk]
      rfl
    · rw [eq_7_1 hk, eq_7_2 hk] at hs
      obtain ⟨a, b, ea, eb, ta, tb, la, lb, eo⟩ := ht.on2 (by rw [hk]; rfl)
      rw [ea, eb] at hs
      simp only [Bool.and_eq_true] at hs
      have hh : (Is 1 a = true ∨ Is 2 a = true) ∧ (Is 1 b = true ∨ Is 2 b = true) := hs.elim (fun h => ⟨Or.inl h.1, Or.inl h.2⟩) (fun h => ⟨Or.inr h.1, Or.inr h.2⟩)
      have h1 := term_none m a (by omega) ta hh.1
      have h2 := term_none m b (by omega) tb hh.2
      rw [eo, h1, h2, hk]
      rfl
    · rw [eq_8_1 hk, eq_8_2 hk] at hs
      obtain ⟨a, b, ea, eb, ta, tb, la, lb, eo⟩ := ht.on2 (by rw [hk]; rfl)
      rw [ea, eb] at hs
      simp only [Bool.and_eq_true] at hs
      have hh : (Is 1 a = true ∨ Is 2 a = true) ∧ (Is 1 b = true ∨ Is 2 b = true) := hs.elim (fun h => ⟨Or.inl h.1, Or.inl h.2⟩) (fun h => by cases h)
      have h1 := term_none m a (by omega) ta hh.1
      have h2 := term_none m b (by omega) tb hh.2
      rw [eo, h1, h2, hk]
      rfl
    · rw [eq_9_1 hk, eq_9_2 hk] at hs
      obtain ⟨a, ea, ta, la, eo⟩ := ht.on1 (by rw [hk]; rfl)
      rw [ea] at hs
      have h1 := term_none m a (by omega) ta (hs.elim (fun h => Or.inr h) (fun h => by cases h))
      rw [eo, h1, hk]
      rfl
    · rw [eq_10_1 hk, eq_10_2 hk] at hs
      obtain ⟨a, b, ea, eb, ta, tb, la, lb, eo⟩ := ht.on2 (by rw [hk]; rfl)
      rw [ea, eb] at hs
      simp only [Bool.and_eq_true] at hs
      have hh : (Is 1 a = true ∨ Is 2 a = true) ∧ (Is 1 b = true ∨ Is 2 b = true) := hs.elim (fun h => by cases h) (fun h => ⟨Or.inl h.1, Or.inl h.2⟩)
      have h1 := term_none m a (by omega) ta hh.1
      have h2 := term_none m b (by omega) tb hh.2
      rw [eo, h1, h2, hk]
      rfl
    · rw [eq_11_1 hk, eq_11_2 hk] at hs
      rcases hs with hs | hs <;> cases hs
    · rw [eq_12_1 hk, eq_12_2 hk] at hs
      rcases hs with hs | hs <;> cases hs
    · rw [eq_13_1 hk, eq_13_2 hk] at hs
      rcases hs with hs | hs <;> cases hs
    · rw [eq_14_1 hk, eq_14_2 hk] at hs
      rcases hs with hs | hs <;> cases hs
theorem on_some : ∀ (m : Nat) (l : List Nd), l.length ≤ m → Tre l → (Is 3 l = true → Is 1 l = false → 0 < on l) ∧ (Is 4 l = true → Is 2 l = false → 0 < on l)
  | 0, l, h, ht => absurd ht.pos (by omega)
  | m + 1, l, h, ht => by
    rcases kinds ht.ar with hk | hk | hk | hk | hk | hk | hk | hk | hk | hk | hk | hk | hk | hk
    · rw [eq_1_1 hk, eq_1_2 hk, eq_1_3 hk, eq_1_4 hk]
      refine ⟨?_, ?_⟩
      · exact fun _ n => by cases n
      · exact fun h n => by rw [n] at h; cases h
    · rw [eq_2_1 hk, eq_2_2 hk, eq_2_3 hk, eq_2_4 hk]
      refine ⟨?_, ?_⟩
      · exact fun _ n => by cases n
      · exact fun h n => by rw [n] at h; cases h
    · rw [eq_3_1 hk, eq_3_2 hk, eq_3_3 hk, eq_3_4 hk]
      refine ⟨?_, ?_⟩
      · exact fun _ n => by cases n
      · exact fun h n => by rw [n] at h; cases h
    · rw [eq_4_1 hk, eq_4_2 hk, eq_4_3 hk, eq_4_4 hk]
      refine ⟨?_, ?_⟩
      · exact fun _ n => by cases n
      · exact fun h n => by rw [n] at h; cases h
    · rw [eq_5_1 hk, eq_5_2 hk, eq_5_3 hk, eq_5_4 hk]
      obtain ⟨a, b, ea, eb, ta, tb, la, lb, eo⟩ := ht.on2 (by rw [hk]; rfl)
      rw [ea, eb]
      obtain ⟨i1, i2⟩ := on_some m a (by omega) ta
      obtain ⟨j1, j2⟩ := on_some m b (by omega) tb
      refine ⟨?_, ?_⟩
      · exact fun h n => by
          rw [n, Bool.false_or, Bool.and_eq_true] at h
          rw [h.2, Bool.and_true] at n
          have := i1 h.1 n
          omega
      · exact fun h n => by
          rw [n, Bool.false_or, Bool.and_eq_true] at h
          rw [h.2, Bool.and_true] at n
          have := i2 h.1 n
          omega
    · rw [eq_6_1 hk, eq_6_2 hk, eq_6_3 hk, eq_6_4 hk]
      obtain ⟨a, b, ea, eb, ta, tb, la, lb, eo⟩ := ht.on2 (by rw [hk]; rfl)
      rw [ea, eb]
      obtain ⟨i1, i2⟩ := on_some m a (by omega) ta
      obtain ⟨j1, j2⟩ := on_some m b (by omega) tb
      refine ⟨?_, ?_⟩
      · exact fun h n => by rw [n] at h; cases h
      · exact fun h n => by rw [n] at h; cases h
    · rw [eq_7_1 hk, eq_7_2 hk, eq_7_3 hk, eq_7_4 hk]
      obtain ⟨a, b, ea, eb, ta, tb, la, lb, eo⟩ := ht.on2 (by rw [hk]; rfl)
      rw [ea, eb]
      obtain ⟨i1, i2⟩ := on_some m a (by omega) ta
      obtain ⟨j1, j2⟩ := on_some m b (by omega) tb
      refine ⟨?_, ?_⟩
      · exact fun h n => by
          rw [n, Bool.false_or, Bool.and_eq_true] at h
          cases ha : Is 1 a with
          | false =>
            have := i1 h.1 ha
            omega
          | true =>
            rw [ha, Bool.true_and] at n
            have := j1 h.2 n
            omega
      · exact fun h n => by
          rw [n, Bool.false_or, Bool.and_eq_true] at h
          cases ha : Is 2 a with
          | false =>
            have := i2 h.1 ha
            omega
          | true =>
            rw [ha, Bool.true_and] at n
            have := j2 h.2 n
            omega
    · rw [eq_8_1 hk, eq_8_2 hk, eq_8_3 hk, eq_8_4 hk]
      obtain ⟨a, b, ea, eb, ta, tb, la, lb, eo⟩ := ht.on2 (by rw [hk]; rfl)
      rw [ea, eb]
      obtain ⟨i1, i2⟩ := on_some m a (by omega) ta
      obtain ⟨j1, j2⟩ := on_some m b (by omega) tb
      refine ⟨?_, ?_⟩
      · exact fun h n => by
          rw [n, Bool.false_or, Bool.and_eq_true] at h
          rw [h.2, Bool.and_true] at n
          have := i1 h.1 n
          omega
      · exact fun h n => by rw [n] at h; cases h
    · rw [eq_9_1 hk, eq_9_2 hk, eq_9_3 hk, eq_9_4 hk]
      obtain ⟨a, ea, ta, la, eo⟩ := ht.on1 (by rw [hk]; rfl)
      rw [ea]
      obtain ⟨i1, i2⟩ := on_some m a (by omega) ta
      refine ⟨?_, ?_⟩
      · exact fun h n => by
          rw [n, Bool.false_or] at h
          have := i2 h n
          omega
      · exact fun h n => by rw [n] at h; cases h
    · rw [eq_10_1 hk, eq_10_2 hk, eq_10_3 hk, eq_10_4 hk]
      obtain ⟨a, b, ea, eb, ta, tb, la, lb, eo⟩ := ht.on2 (by rw [hk]; rfl)
      rw [ea, eb]
      obtain ⟨i1, i2⟩ := on_some m a (by omega) ta
      obtain ⟨j1, j2⟩ := on_some m b (by omega) tb
      refine ⟨?_, ?_⟩
      · exact fun h n => by rw [n] at h; cases h
      · exact fun h n => by rw [n] at h; cases h
    · rw [eq_11_1 hk, eq_11_2 hk, eq_11_3 hk, eq_11_4 hk]
      have eo := ht.on0 (by rw [hk]; rfl)
      rw [hk] at eo
      simp only [List.mem_cons] at eo
      have : 0 < on l := by rw [eo]; simp
      exact ⟨fun _ _ => this, fun _ _ => this⟩
    · rw [eq_12_1 hk, eq_12_2 hk, eq_12_3 hk, eq_12_4 hk]
      obtain ⟨a, b, ea, eb, ta, tb, la, lb, eo⟩ := ht.on2 (by rw [hk]; rfl)
      rw [hk] at eo
      simp only [List.mem_cons] at eo
      have : 0 < on l := by rw [eo]; simp
      exact ⟨fun _ _ => this, fun _ _ => this⟩
    · rw [eq_13_1 hk, eq_13_2 hk, eq_13_3 hk, eq_13_4 hk]
      obtain ⟨a, b, ea, eb, ta, tb, la, lb, eo⟩ := ht.on2 (by rw [hk]; rfl)
      rw [hk] at eo
      simp only [List.mem_cons] at eo
      have : 0 < on l := by rw [eo]; simp
      exact ⟨fun _ _ => this, fun _ _ => this⟩
    · rw [eq_14_1 hk, eq_14_2 hk, eq_14_3 hk, eq_14_4 hk]
      obtain ⟨a, ea, ta, la, eo⟩ := ht.on1 (by rw [hk]; rfl)
      rw [hk] at eo
      simp only [List.mem_cons] at eo
      have : 0 < on l := by rw [eo]; simp
      exact ⟨fun _ _ => this, fun _ _ => this⟩
theorem of_one {l : List Nd} (h : of l = 1) : whole l = true ∧ Is 1 l = true := by
  unfold of first at h
  repeat' split at h
  all_goals first | (exact ⟨‹_›, ‹_›⟩) | omega
theorem of_two {l : List Nd} (h : of l = 2) : whole l = true ∧ Is 2 l = true ∧ Is 1 l = false := by
  unfold of first at h
  repeat' split at h
  all_goals first | (exact ⟨‹_›, ‹_›, by simpa using ‹¬ Is 1 l = true›⟩) | omega
theorem of_three {l : List Nd} (h : of l = 3) : whole l = true ∧ Is 3 l = true ∧ Is 1 l = false ∧ Is 2 l = false := by
  unfold of first at h
  repeat' split at h
  all_goals first | (exact ⟨‹_›, ‹_›, by simpa using ‹¬ Is 1 l = true›, by simpa using ‹¬ Is 2 l = true›⟩) | omega
theorem of_four {l : List Nd} (h : of l = 4) : whole l = true ∧ Is 4 l = true ∧ Is 1 l = false ∧ Is 2 l = false ∧ Is 3 l = false := by
  unfold of first at h
  repeat' split at h
  all_goals first | (exact ⟨‹_›, ‹_›, by simpa using ‹¬ Is 1 l = true›, by simpa using ‹¬ Is 2 l = true›, by simpa using ‹¬ Is 3 l = true›⟩) | omega
/-- Terms have no node of what goes on; what goes on has one. -/
theorem on_of (l : List Nd) : ((of l = 1 ∨ of l = 2) → on l = 0) ∧ ((of l = 3 ∨ of l = 4) → 0 < on l) := by
  refine ⟨fun h => ?_, fun h => ?_⟩
  · rcases h with h | h
    · obtain ⟨hw, hi⟩ := of_one h
      exact term_none _ l (Nat.le_refl _) (whole_tre hw) (Or.inl hi)
    · obtain ⟨hw, hi, _⟩ := of_two h
      exact term_none _ l (Nat.le_refl _) (whole_tre hw) (Or.inr hi)
  · rcases h with h | h
    · obtain ⟨hw, hi, h1, _⟩ := of_three h
      exact (on_some _ l (Nat.le_refl _) (whole_tre hw)).1 hi h1
    · obtain ⟨hw, hi, _, h2, _⟩ := of_four h
      exact (on_some _ l (Nat.le_refl _) (whole_tre hw)).2 hi h2
end Go.Proofs.Ytpkbpooiaddcaaa.So
