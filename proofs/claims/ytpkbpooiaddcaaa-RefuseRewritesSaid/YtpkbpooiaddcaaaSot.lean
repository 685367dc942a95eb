/- Trees, their kids; what the walks of sorts need. -/
import Derived.Test.YtpkbpooiaddcaaaSom
import Derived.Test.YtpkbpooiaddcaaaRwk
namespace Go.Proofs.Ytpkbpooiaddcaaa.So
open Go Go.RowKit Go.Proofs.Ytpkbpooiaddcaaa.Rw
set_option maxRecDepth 20000

/-- Just one tree. -/
def Tre (l : List Nd) : Prop := ∃ d, T l = some (l.length, d)
theorem Tre.pos {l : List Nd} (h : Tre l) : 0 < l.length := by
  obtain ⟨d, h⟩ := h
  exact (T_bd h).1
theorem Tre.size {l : List Nd} (h : Tre l) : Rw.size l = l.length := by
  obtain ⟨d, h⟩ := h
  unfold Rw.size
  rw [h]
theorem Tre.of_size {l : List Nd} (h : Rw.size l = l.length) (h0 : l ≠ []) : Tre l := by
  unfold Rw.size at h
  cases ht : T l with
  | none =>
    rw [ht] at h
    exact absurd (List.eq_nil_of_length_eq_zero h.symm) h0
  | some x =>
    rw [ht] at h
    obtain ⟨c, d⟩ := x
    simp only at h
    exact ⟨d, by rw [ht, h]⟩
theorem Tre.of_head {l : List Nd} {c d : Nat} (h : T l = some (c, d)) : Tre (l.take c) := by
  have hh := T_head h
  have hb := T_bd h
  exact ⟨d, by rw [hh, List.length_take, Nat.min_eq_left hb.2.1]⟩
theorem kidsN_tre : ∀ (j : Nat) (r : List Nd) (c d : Nat), S j r = some (c, d) → ∀ t ∈ kidsN j r, Tre t
  | 0, _, _, _, _, t, ht => by cases ht
  | j + 1, r, c, d, h, t, ht => by
    rw [S_succ] at h
    cases hj : S j r with
    | none => rw [hj] at h; cases h
    | some x =>
      obtain ⟨c1, d1⟩ := x
      rw [hj] at h
      simp only at h
      cases hx : T (r.drop c1) with
      | none => rw [hx] at h; cases h
      | some y =>
        obtain ⟨c2, d2⟩ := y
        rw [kidsN, hj, List.mem_append, List.mem_singleton] at ht
        rcases ht with ht | ht
        · exact kidsN_tre j r c1 d1 hj t ht
        · rw [ht]
          simp only [Option.getD_some]
          have hs : Rw.size (r.drop c1) = c2 := by unfold Rw.size; rw [hx]
          rw [hs]
          exact Tre.of_head hx
theorem Tre.ar {l : List Nd} (h : Tre l) : 0 ≤ Rw.ar (hd l) := by
  obtain ⟨d, h⟩ := h
  cases l with
  | nil => rw [T_nil] at h; cases h
  | cons n r =>
    rw [T_cons] at h
    split at h
    · cases h
    · rename_i hk
      show 0 ≤ Rw.ar n.k
      omega
theorem Tre.kids {l : List Nd} (h : Tre l) : (Rw.kids l).length = (Rw.ar (hd l)).toNat ∧ ∀ t ∈ Rw.kids l, Tre t := by
  have hs : Rw.size l ≠ 0 := by rw [h.size]; have := h.pos; omega
  have ha := h.ar
  obtain ⟨d, h⟩ := h
  cases l with
  | nil => rw [T_nil] at h; cases h
  | cons n r =>
    unfold Rw.kids
    rw [if_neg hs]
    refine ⟨kidsN_len _ _, ?_⟩
    rw [T_cons] at h
    split at h
    · cases h
    · cases hj : S (Rw.ar n.k).toNat r with
      | none => rw [hj] at h; cases h
      | some x => exact kidsN_tre _ r x.1 x.2 hj
theorem Tre.two {l : List Nd} (h : Tre l) (h2 : Rw.ar (hd l) = 2) : ∃ a b, Rw.kids l = [a, b] ∧ Tre a ∧ Tre b ∧ a.length < l.length ∧ b.length < l.length := by
  obtain ⟨hl, ht⟩ := h.kids
  rw [h2] at hl
  match hk : Rw.kids l, hl with
  | [a, b], _ =>
    have ha : a ∈ Rw.kids l := by rw [hk]; simp
    have hb : b ∈ Rw.kids l := by rw [hk]; simp
    exact ⟨a, b, rfl, ht a ha, ht b hb, kids_short ha, kids_short hb⟩
theorem Tre.one {l : List Nd} (h : Tre l) (h1 : Rw.ar (hd l) = 1) : ∃ a, Rw.kids l = [a] ∧ Tre a ∧ a.length < l.length := by
  obtain ⟨hl, ht⟩ := h.kids
  rw [h1] at hl
  match hk : Rw.kids l, hl with
  | [a], _ =>
    have ha : a ∈ Rw.kids l := by rw [hk]; simp
    exact ⟨a, rfl, ht a ha, kids_short ha⟩
/-- The first node's kind, in memory. -/
theorem head_cell {w : World} {v : Value} {l : List Nd} (hv : Nds w v l) (h : Tre l) : ∃ b o c, v = .slice (some ⟨b, o, none⟩) l.length c ∧ w.cell? ⟨b, o, none⟩ = some (.int .i64 (hd l)) := by
  rcases hv.form with ⟨rfl, _⟩ | ⟨b, o, c, rfl, _, hat⟩
  · exact absurd h.pos (Nat.lt_irrefl 0)
  · refine ⟨b, o, c, rfl, ?_⟩
    have := (hat 0 h.pos).1
    rw [Nat.zero_mul, Nat.add_zero] at this
    rw [this]
    cases l with
    | nil => exact absurd h.pos (Nat.lt_irrefl 0)
    | cons n r => rfl
theorem two_rows {w : World} {y : Value} {r s : List Nd} (h : Rws w y [r, s]) :
    ∃ b o c a0 a1, y = .slice (some ⟨b, o, none⟩) 2 c ∧ w.cell? ⟨b, o, none⟩ = some a0 ∧ w.cell? ⟨b, o + 1, none⟩ = some a1 ∧ Nds w a0 r ∧ Nds w a1 s := by
  obtain ⟨cs, ⟨_, a, c, rfl, _, _, hcell⟩, hr⟩ := h
  obtain ⟨b, o, rfl, hj⟩ := hcell (by simp)
  match cs, hr with
  | [a0, a1], hr => exact ⟨b, o, c, a0, a1, rfl, hj 0 _ rfl, hj 1 _ rfl, hr.1, hr.2.1⟩
theorem one_row {w : World} {y : Value} {r : List Nd} (h : Rws w y [r]) :
    ∃ b o c a0, y = .slice (some ⟨b, o, none⟩) 1 c ∧ w.cell? ⟨b, o, none⟩ = some a0 ∧ Nds w a0 r := by
  obtain ⟨cs, ⟨_, a, c, rfl, _, _, hcell⟩, hr⟩ := h
  obtain ⟨b, o, rfl, hj⟩ := hcell (by simp)
  match cs, hr with
  | [a0], hr => exact ⟨b, o, c, a0, rfl, hj 0 _ rfl, hr.1⟩
theorem kinds {k : Int} (h : 0 ≤ Rw.ar k) : k = 1 ∨ k = 2 ∨ k = 3 ∨ k = 4 ∨ k = 5 ∨ k = 6 ∨ k = 7 ∨ k = 8 ∨ k = 9 ∨ k = 10 ∨ k = 11 ∨ k = 12 ∨ k = 13 ∨ k = 14 := by
  rcases cases15 k with h1 | h1 | h1 | h1 | h1 | h1 | h1 | h1 | h1 | h1 | h1 | h1 | h1 | h1 | h1
  case inr.inr.inr.inr.inr.inr.inr.inr.inr.inr.inr.inr.inr.inr => rw [ar_no h1] at h; exact absurd h (by decide)
  all_goals omega
end Go.Proofs.Ytpkbpooiaddcaaa.So
