/- Plain: rows of nodes, and the trees that they begin with. Whole numbers as floats (f64): plain. Their sum, their difference and how they stand to each other are the whole numbers'. Plain: the size and the depth of the tree with which a row begins, told node by node with a stack of how many trees are still to begin. -/
import GoSem.Core.Float
import Derived.Laws.FloatBits

namespace Go.Proofs.YtpingbiibbmcaaaGreat.Rw

structure Nd where
  k : Int
  n : ByteArray
  s : Int
deriving DecidableEq

/-- How many trees a node of a kind has behind it. -/
def ar (k : Int) : Int :=
  if k = 1 ∨ k = 2 ∨ k = 3 ∨ k = 4 ∨ k = 11 then 0 else if k = 9 ∨ k = 14 then 1 else if k = 5 ∨ k = 6 ∨ k = 7 ∨ k = 8 ∨ k = 10 ∨ k = 12 ∨ k = 13 then 2 else -1
theorem ar_cases (k : Int) : ar k = -1 ∨ ar k = 0 ∨ ar k = 1 ∨ ar k = 2 := by
  unfold ar
  repeat' split
  all_goals simp
theorem ar_le (k : Int) : -1 ≤ ar k ∧ ar k ≤ 2 := by rcases ar_cases k with h | h | h | h <;> omega

/-- Some trees, one behind another one: how many nodes they have, and how deep the deepest is; f is fuel. -/
def sts (t : List Nd → Option (Nat × Nat)) : Nat → List Nd → Option (Nat × Nat)
  | 0, _ => some (0, 0)
  | j + 1, r => match sts t j r with
    | none => none
    | some (c, d) => match t (r.drop c) with
      | none => none
      | some (c', d') => some (c + c', max d d')
def tr : Nat → List Nd → Option (Nat × Nat)
  | 0, _ => none
  | _ + 1, [] => none
  | f + 1, n :: r => if ar n.k < 0 then none else match sts (tr f) (ar n.k).toNat r with
    | none => none
    | some (c, d) => some (c + 1, d + 1)

theorem sts_congr {t t' : List Nd → Option (Nat × Nat)} (r : List Nd) (h : ∀ c, t (r.drop c) = t' (r.drop c)) : ∀ j, sts t j r = sts t' j r
  | 0 => rfl
  | j + 1 => by
    unfold sts
    rw [sts_congr r h j]
    cases sts t' j r with
    | none => rfl
    | some x => obtain ⟨c, d⟩ := x; simp only [h c]
theorem tr_fuel : ∀ (f : Nat) (l : List Nd), l.length ≤ f → tr (f + 1) l = tr f l
  | 0, l, h => by
    have : l = [] := List.eq_nil_of_length_eq_zero (by omega)
    subst this
    rfl
  | f + 1, [], _ => rfl
  | f + 1, n :: r, h => by
    have hr : r.length ≤ f := by simpa using h
    have : ∀ j, sts (tr (f + 1)) j r = sts (tr f) j r := sts_congr r fun c => tr_fuel f (r.drop c) (by rw [List.length_drop]; omega)
    unfold tr
    rw [this]
theorem tr_more (f g : Nat) (l : List Nd) (h : l.length ≤ f) : tr (f + g) l = tr f l := by
  induction g with
  | zero => rfl
  | succ g ih => rw [← Nat.add_assoc, tr_fuel (f + g) l (by omega), ih]

/-- The tree with which a row begins: its nodes, and its depth. -/
def T (l : List Nd) : Option (Nat × Nat) := tr l.length l
/-- Some trees with which a row begins. -/
def S (j : Nat) (r : List Nd) : Option (Nat × Nat) := sts T j r
theorem tr_T (f : Nat) (l : List Nd) (h : l.length ≤ f) : tr f l = T l := by
  have := tr_more l.length (f - l.length) l (Nat.le_refl _)
  rw [show l.length + (f - l.length) = f from by omega] at this
  exact this
theorem T_nil : T [] = none := rfl
theorem T_cons (n : Nd) (r : List Nd) : T (n :: r) = if ar n.k < 0 then none else match S (ar n.k).toNat r with
    | none => none
    | some (c, d) => some (c + 1, d + 1) := by
  have : ∀ j, sts (tr r.length) j r = S j r := sts_congr r fun c => tr_T _ _ (by rw [List.length_drop]; omega)
  unfold T
  rw [List.length_cons]
  unfold tr
  rw [this]
theorem S_zero (r : List Nd) : S 0 r = some (0, 0) := rfl
theorem S_succ (j : Nat) (r : List Nd) : S (j + 1) r = match S j r with
    | none => none
    | some (c, d) => match T (r.drop c) with
      | none => none
      | some (c', d') => some (c + c', max d d') := rfl
theorem S_none {j : Nat} {r : List Nd} (h : S j r = none) : ∀ i, S (j + i) r = none
  | 0 => h
  | i + 1 => by rw [← Nat.add_assoc, S_succ, S_none h i]

theorem bounds : ∀ (m : Nat) (l : List Nd), l.length ≤ m → (∀ c d, T l = some (c, d) → 1 ≤ c ∧ c ≤ l.length ∧ 1 ≤ d ∧ d ≤ c) ∧ ∀ j c d, S j l = some (c, d) → l.length < m → c ≤ l.length ∧ d ≤ c
  | 0, l, h => by
    have : l = [] := List.eq_nil_of_length_eq_zero (by omega)
    subst this
    exact ⟨fun c d h => (by rw [T_nil] at h; cases h), fun j c d _ h => absurd h (by simp)⟩
  | m + 1, l, h => by
    have hS : ∀ (l : List Nd), l.length ≤ m → ∀ j c d, S j l = some (c, d) → c ≤ l.length ∧ d ≤ c := by
      intro l hl j
      induction j with
      | zero => intro c d hh; rw [S_zero] at hh; cases hh; exact ⟨Nat.zero_le _, Nat.le_refl _⟩
      | succ j ih =>
        intro c d hh
        rw [S_succ] at hh
        cases hj : S j l with
        | none => rw [hj] at hh; cases hh
        | some x =>
          obtain ⟨c1, d1⟩ := x
          rw [hj] at hh
          simp only at hh
          obtain ⟨h1, h2⟩ := ih c1 d1 hj
          cases ht : T (l.drop c1) with
          | none => rw [ht] at hh; cases hh
          | some y =>
            obtain ⟨c2, d2⟩ := y
            rw [ht] at hh
            simp only [Option.some.injEq, Prod.mk.injEq] at hh
            have := (bounds m (l.drop c1) (by rw [List.length_drop]; omega)).1 c2 d2 ht
            rw [List.length_drop] at this
            omega
    refine ⟨fun c d hh => ?_, fun j c d hh hl => hS l (by omega) j c d hh⟩
    cases l with
    | nil => rw [T_nil] at hh; cases hh
    | cons n r =>
      rw [T_cons] at hh
      split at hh
      · cases hh
      · cases hs : S (ar n.k).toNat r with
        | none => rw [hs] at hh; cases hh
        | some x =>
          obtain ⟨c1, d1⟩ := x
          rw [hs] at hh
          simp only [Option.some.injEq, Prod.mk.injEq] at hh
          have := hS r (by simpa using h) _ _ _ hs
          simp only [List.length_cons]
          omega
theorem T_bd {l : List Nd} {c d : Nat} (h : T l = some (c, d)) : 1 ≤ c ∧ c ≤ l.length ∧ 1 ≤ d ∧ d ≤ c := (bounds l.length l (Nat.le_refl _)).1 c d h
theorem S_bd {l : List Nd} {j c d : Nat} (h : S j l = some (c, d)) : c ≤ l.length ∧ d ≤ c := (bounds (l.length + 1) l (by omega)).2 j c d h (by omega)

/-- A tree's nodes decide it, whatever stands behind. -/
theorem T_take : ∀ (m : Nat) (l l' : List Nd) (c d : Nat), l.length ≤ m → T l = some (c, d) → l.take c = l'.take c → c ≤ l'.length → T l' = some (c, d)
  | 0, l, l', c, d, h, ht, _, _ => by
    have : l = [] := List.eq_nil_of_length_eq_zero (by omega)
    subst this
    rw [T_nil] at ht
    cases ht
  | m + 1, l, l', c, d, h, ht, he, hc => by
    cases l with
    | nil => rw [T_nil] at ht; cases ht
    | cons n r =>
      obtain ⟨h1, h2, _, _⟩ := T_bd ht
      obtain ⟨c0, rfl⟩ : ∃ c0, c = c0 + 1 := ⟨c - 1, by omega⟩
      cases l' with
      | nil => simp at hc
      | cons n' r' =>
        simp only [List.take_succ_cons, List.cons.injEq] at he
        obtain ⟨rfl, he⟩ := he
        have hc' : c0 ≤ r'.length := by simpa using hc
        have hr : r.length ≤ m := by simpa using h
        rw [T_cons] at ht ⊢
        split at ht
        · cases ht
        · rename_i hk
          rw [if_neg hk]
          have key : ∀ j c1 d1, S j r = some (c1, d1) → c1 ≤ c0 → S j r' = some (c1, d1) := by
            intro j
            induction j with
            | zero => intro c1 d1 hh _; rw [S_zero] at hh ⊢; exact hh
            | succ j ih =>
              intro c1 d1 hh hle
              rw [S_succ] at hh ⊢
              cases hj : S j r with
              | none => rw [hj] at hh; cases hh
              | some x =>
                obtain ⟨c2, d2⟩ := x
                rw [hj] at hh
                simp only at hh
                cases ht2 : T (r.drop c2) with
                | none => rw [ht2] at hh; cases hh
                | some y =>
                  obtain ⟨c3, d3⟩ := y
                  rw [ht2] at hh
                  simp only [Option.some.injEq, Prod.mk.injEq] at hh
                  obtain ⟨rfl, rfl⟩ := hh
                  rw [ih c2 d2 hj (by omega)]
                  simp only
                  have hd : T (r'.drop c2) = some (c3, d3) := by
                    refine T_take m (r.drop c2) (r'.drop c2) c3 d3 (by rw [List.length_drop]; omega) ht2 ?_ (by rw [List.length_drop]; omega)
                    rw [List.take_drop, List.take_drop]
                    have e : List.take (c2 + c3) r = List.take (c2 + c3) r' := by
                      have := congrArg (List.take (c2 + c3)) he
                      rwa [List.take_take, List.take_take, Nat.min_eq_left hle] at this
                    rw [e]
                  rw [hd]
          cases hs : S (ar n.k).toNat r with
          | none => rw [hs] at ht; cases ht
          | some x =>
            obtain ⟨c1, d1⟩ := x
            rw [hs] at ht
            simp only [Option.some.injEq, Prod.mk.injEq] at ht
            rw [key _ _ _ hs (by omega)]
            simp only [Option.some.injEq, Prod.mk.injEq]
            exact ht
theorem T_head {l : List Nd} {c d : Nat} (h : T l = some (c, d)) : T (l.take c) = some (c, d) := by
  obtain ⟨_, h2, _, _⟩ := T_bd h
  exact T_take _ l (l.take c) c d (Nat.le_refl _) h (by rw [List.take_take, Nat.min_self]) (by rw [List.length_take]; omega)
theorem T_append {l : List Nd} {c d : Nat} (r : List Nd) (h : T l = some (c, d)) : T (l ++ r) = some (c, d) := by
  obtain ⟨_, h2, _, _⟩ := T_bd h
  exact T_take _ l (l ++ r) c d (Nat.le_refl _) h (by rw [List.take_append_of_le_length h2]) (by rw [List.length_append]; omega)

def size (l : List Nd) : Nat := match T l with | none => 0 | some (c, _) => c
def depth (l : List Nd) : Nat := match T l with | none => 0 | some (_, d) => d
theorem size_le (l : List Nd) : size l ≤ l.length := by
  unfold size
  cases h : T l with
  | none => exact Nat.zero_le _
  | some x => exact (T_bd h).2.1
theorem size_pos {l : List Nd} : size l = 0 ↔ T l = none := by
  unfold size
  cases h : T l with
  | none => simp
  | some x => have := (T_bd h).1; simp; omega

/-- The first j kids, behind the first node. -/
def kidsN : Nat → List Nd → List (List Nd)
  | 0, _ => []
  | j + 1, r => kidsN j r ++ [((r.drop ((S j r).getD (0, 0)).1).take (size (r.drop ((S j r).getD (0, 0)).1)))]
def kids (l : List Nd) : List (List Nd) := if size l = 0 then [] else match l with
  | [] => []
  | n :: r => kidsN (ar n.k).toNat r
theorem kidsN_len : ∀ (j : Nat) (r : List Nd), (kidsN j r).length = j
  | 0, _ => rfl
  | j + 1, r => by rw [kidsN, List.length_append, kidsN_len j r]; rfl
theorem kidsN_flat : ∀ (j : Nat) (r : List Nd) (c d : Nat), S j r = some (c, d) → (kidsN j r).flatten = r.take c
  | 0, r, c, d, h => by rw [S_zero] at h; cases h; simp [kidsN]
  | j + 1, r, c, d, h => by
    rw [S_succ] at h
    cases hj : S j r with
    | none => rw [hj] at h; cases h
    | some x =>
      obtain ⟨c1, d1⟩ := x
      rw [hj] at h
      simp only at h
      cases ht : T (r.drop c1) with
      | none => rw [ht] at h; cases h
      | some y =>
        obtain ⟨c2, d2⟩ := y
        rw [ht] at h
        simp only [Option.some.injEq, Prod.mk.injEq] at h
        obtain ⟨rfl, rfl⟩ := h
        have hsz : size (r.drop c1) = c2 := by unfold size; rw [ht]
        rw [kidsN, hj, List.flatten_append, kidsN_flat j r c1 d1 hj]
        simp only [Option.getD_some, hsz, List.flatten_cons, List.flatten_nil, List.append_nil]
        rw [List.take_add]
theorem kids_flat {n : Nd} {r : List Nd} (h : size (n :: r) ≠ 0) : n :: (kids (n :: r)).flatten = (n :: r).take (size (n :: r)) := by
  unfold kids
  rw [if_neg h]
  have h' : T (n :: r) ≠ none := fun e => h (size_pos.2 e)
  rw [T_cons] at h'
  split at h'
  · exact absurd rfl h'
  · rename_i hk
    cases hs : S (ar n.k).toNat r with
    | none => rw [hs] at h'; exact absurd rfl h'
    | some x =>
      obtain ⟨c, d⟩ := x
      have hz : size (n :: r) = c + 1 := by unfold size; rw [T_cons, if_neg hk, hs]
      simp only
      rw [hz, kidsN_flat _ _ _ _ hs, List.take_succ_cons]
end Go.Proofs.YtpingbiibbmcaaaGreat.Rw

namespace Go.Proofs.YtpingbiibbmcaaaGreat.Fl
open Go Ieee

/-- The rung of a whole number. -/
def rg (M : Nat) : Nat := if M = 0 then 0 else (M.log2 + 1022) * 2 ^ 52 + M * 2 ^ (52 - M.log2)
theorem least : double.leastPlace = -1074 := by decide
theorem bin_r : double.binade = 2 ^ 52 := by decide
end Go.Proofs.YtpingbiibbmcaaaGreat.Fl

namespace Go.Proofs.YtpingbiibbmcaaaGreat.Rx
open Rw

/-- The nearest node that still wants a tree, with one fewer to want; the nearest stands first. -/
def pop : List Nat → Option (List Nat)
  | [] => none
  | 0 :: s => pop s
  | (k + 1) :: s => some (k :: s)
def ms : List Nd → List Nat → Nat → Nat → Nat × Nat
  | [], _, _, _ => (0, 0)
  | n :: r, st, d, k => if ar n.k < 0 then (0, 0) else match pop ((ar n.k).toNat :: st) with
    | none => (k + 1, max d (st.length + 1))
    | some s => ms r s (max d (st.length + 1)) (k + 1)
theorem S_front : ∀ (j : Nat) (r : List Nd), S (j + 1) r = match T r with
    | none => none
    | some (c, d) => match S j (r.drop c) with
      | none => none
      | some (c', d') => some (c + c', max d d')
  | 0, r => by
    rw [S_succ, S_zero]
    simp only [List.drop_zero]
    cases T r with
    | none => rfl
    | some x => obtain ⟨c, d⟩ := x; simp [S_zero]
  | j + 1, r => by
    rw [S_succ, S_front j r]
    cases T r with
    | none => rfl
    | some x =>
      obtain ⟨c, d⟩ := x
      simp only
      rw [S_succ]
      cases S j (r.drop c) with
      | none => rfl
      | some y =>
        obtain ⟨c', d'⟩ := y
        simp only [List.drop_drop]
        cases T (r.drop (c + c')) with
        | none => rfl
        | some z =>
          obtain ⟨c2, d2⟩ := z
          simp only [Option.some.injEq, Prod.mk.injEq]
          omega

/-- Behind a tree, or behind some trees: what is still to come, or the end. -/
def aft (l : List Nd) (st : List Nat) (d k : Nat) : Option (Nat × Nat) → Nat × Nat
  | none => (0, 0)
  | some (c, dd) => match pop st with
    | none => (k + c, max d (st.length + dd))
    | some s => ms (l.drop c) s (max d (st.length + dd)) (k + c)
theorem ms_T : ∀ (m : Nat) (l : List Nd) (st : List Nat) (d k : Nat), l.length ≤ m → ms l st d k = aft l st d k (T l)
  | _, [], st, d, k, _ => by rw [T_nil]; rfl
  | 0, n :: r, _, _, _, h => by simp at h
  | m + 1, n :: r, st, d, k, h => by
    have hr : r.length ≤ m := by simpa using h
    have hS : ∀ (j : Nat) (l : List Nd) (st : List Nat) (d k : Nat), l.length ≤ m → ms l (j :: st) d k = match S (j + 1) l with
        | none => (0, 0)
        | some (c, dd) => match pop st with
          | none => (k + c, max d (st.length + 1 + dd))
          | some s => ms (l.drop c) s (max d (st.length + 1 + dd)) (k + c) := by
      intro j
      induction j with
      | zero =>
        intro l st d k hl
        rw [ms_T m l _ _ _ hl, S_front]
        cases T l with
        | none => rfl
        | some x => obtain ⟨c, dd⟩ := x; simp only [aft, pop, S_zero, List.length_cons, Nat.add_zero, Nat.max_zero]
      | succ j ih =>
        intro l st d k hl
        rw [ms_T m l _ _ _ hl, S_front]
        cases T l with
        | none => rfl
        | some x =>
          obtain ⟨c, dd⟩ := x
          simp only [aft, pop, List.length_cons]
          rw [ih (l.drop c) st _ _ (by rw [List.length_drop]; omega)]
          cases S (j + 1) (l.drop c) with
          | none => rfl
          | some y =>
            obtain ⟨c', d'⟩ := y
            simp only [List.drop_drop]
            rw [show max (max d (st.length + 1 + dd)) (st.length + 1 + d') = max d (st.length + 1 + max dd d') by omega, Nat.add_assoc]
    rw [T_cons, ms]
    by_cases hk : ar n.k < 0
    · rw [if_pos hk, if_pos hk]
      rfl
    · rw [if_neg hk, if_neg hk]
      obtain ⟨a, ha⟩ : ∃ a, (ar n.k).toNat = a := ⟨_, rfl⟩
      rw [ha]
      cases a with
      | zero =>
        rw [S_zero]
        simp only [aft, pop]
        cases pop st with
        | none => rfl
        | some s => rfl
      | succ j =>
        simp only [pop]
        rw [hS j r st _ _ hr]
        cases S (j + 1) r with
        | none => rfl
        | some x =>
          obtain ⟨c, dd⟩ := x
          simp only [aft, List.drop_succ_cons]
          rw [show max (max d (st.length + 1)) (st.length + 1 + dd) = max d (st.length + (dd + 1)) by omega, show k + 1 + c = k + (c + 1) by omega]
/-- The size and the depth. -/
theorem ms_of (l : List Nd) : ms l [] 0 0 = (size l, depth l) := by
  rw [ms_T l.length l [] 0 0 (Nat.le_refl _)]
  unfold size depth
  cases T l with
  | none => rfl
  | some x => obtain ⟨c, d⟩ := x; simp [aft, pop]
end Go.Proofs.YtpingbiibbmcaaaGreat.Rx
