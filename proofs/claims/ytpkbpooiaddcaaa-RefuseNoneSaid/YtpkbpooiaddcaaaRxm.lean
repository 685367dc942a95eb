/- Plain: the size and the depth of the tree with which a row begins, told node by node with a stack of how many trees are still to begin. -/
import Derived.Test.YtpkbpooiaddcaaaRwm
namespace Go.Proofs.Ytpkbpooiaddcaaa.Rx
open Rw

/-- The nearest node that still wants a tree, with one fewer to want; the nearest stands first. -/
def pop : List Nat → Option (List Nat)
  | [] => none
  | 0 :: s => pop s
  | (k + 1) :: s => some (k :: s)
def ms : List Nd → List Nat → Nat → Nat → Nat × Nat
  | [], _, _, _ => (0, 0)
  | n :: r, st, d, k => if ar n.k < 0 then (0, 0) else match pop ((ar n.k).toNat :: st) with
    | none => (k + 1, max d (st.length + 1))
    | some s => ms r s (max d (st.length + 1)) (k + 1)
theorem pop_len : ∀ (st s : List Nat), pop st = some s → s.length ≤ st.length
  | [], _, h => by cases h
  | 0 :: st, s, h => by have := pop_len st s h; simp; omega
  | (_ + 1) :: st, s, h => by cases h; simp

theorem S_front : ∀ (j : Nat) (r : List Nd), S (j + 1) r = match T r with
    | none => none
    | some (c, d) => match S j (r.drop c) with
      | none => none
      | some (c', d') => some (c + c', max d d')
  | 0, r => by
    rw [S_succ, S_zero]
    simp only [List.drop_zero]
    cases T r with
    | none => rfl
    | some x => obtain ⟨c, d⟩ := x; simp [S_zero]
  | j + 1, r => by
    rw [S_succ, S_front j r]
    cases T r with
    | none => rfl
    | some x =>
      obtain ⟨c, d⟩ := x
      simp only
      rw [S_succ]
      cases S j (r.drop c) with
      | none => rfl
      | some y =>
        obtain ⟨c', d'⟩ := y
        simp only [List.drop_drop]
        cases T (r.drop (c + c')) with
        | none => rfl
        | some z =>
          obtain ⟨c2, d2⟩ := z
          simp only [Option.some.injEq, Prod.mk.injEq]
          omega

/-- Behind a tree, or behind some trees: what is still to come, or the end. -/
def aft (l : List Nd) (st : List Nat) (d k : Nat) : Option (Nat × Nat) → Nat × Nat
  | none => (0, 0)
  | some (c, dd) => match pop st with
    | none => (k + c, max d (st.length + dd))
    | some s => ms (l.drop c) s (max d (st.length + dd)) (k + c)
theorem ms_T : ∀ (m : Nat) (l : List Nd) (st : List Nat) (d k : Nat), l.length ≤ m → ms l st d k = aft l st d k (T l)
  | _, [], st, d, k, _ => by rw [T_nil]; rfl
  | 0, n :: r, _, _, _, h => by simp at h
  | m + 1, n :: r, st, d, k, h => by
    have hr : r.length ≤ m := by simpa using h
    have hS : ∀ (j : Nat) (l : List Nd) (st : List Nat) (d k : Nat), l.length ≤ m → ms l (j :: st) d k = match S (j + 1) l with
        | none => (0, 0)
        | some (c, dd) => match pop st with
          | none => (k + c, max d (st.length + 1 + dd))
          | some s => ms (l.drop c) s (max d (st.length + 1 + dd)) (k + c) := by
      intro j
      induction j with
      | zero =>
        intro l st d k hl
        rw [ms_T m l _ _ _ hl, S_front]
        cases T l with
        | none => rfl
        | some x => obtain ⟨c, dd⟩ := x; simp only [aft, pop, S_zero, List.length_cons, Nat.add_zero, Nat.max_zero]
      | succ j ih =>
        intro l st d k hl
        rw [ms_T m l _ _ _ hl, S_front]
        cases T l with
        | none => rfl
        | some x =>
          obtain ⟨c, dd⟩ := x
          simp only [aft, pop, List.length_cons]
          rw [ih (l.drop c) st _ _ (by rw [List.length_drop]; omega)]
          cases S (j + 1) (l.drop c) with
          | none => rfl
          | some y =>
            obtain ⟨c', d'⟩ := y
            simp only [List.drop_drop]
            rw [show max (max d (st.length + 1 + dd)) (st.length + 1 + d') = max d (st.length + 1 + max dd d') by omega, Nat.add_assoc]
    rw [T_cons, ms]
    by_cases hk : ar n.k < 0
    · rw [if_pos hk, if_pos hk]
      rfl
    · rw [if_neg hk, if_neg hk]
      obtain ⟨a, ha⟩ : ∃ a, (ar n.k).toNat = a := ⟨_, rfl⟩
      rw [ha]
      cases a with
      | zero =>
        rw [S_zero]
        simp only [aft, pop]
        cases pop st with
        | none => rfl
        | some s => rfl
      | succ j =>
        simp only [pop]
        rw [hS j r st _ _ hr]
        cases S (j + 1) r with
        | none => rfl
        | some x =>
          obtain ⟨c, dd⟩ := x
          simp only [aft, List.drop_succ_cons]
          rw [show max (max d (st.length + 1)) (st.length + 1 + dd) = max d (st.length + (dd + 1)) by omega, show k + 1 + c = k + (c + 1) by omega]
/-- The size and the depth. -/
theorem ms_of (l : List Nd) : ms l [] 0 0 = (size l, depth l) := by
  rw [ms_T l.length l [] 0 0 (Nat.le_refl _)]
  unfold size depth
  cases T l with
  | none => rfl
  | some x => obtain ⟨c, d⟩ := x; simp [aft, pop]
end Go.Proofs.Ytpkbpooiaddcaaa.Rx
