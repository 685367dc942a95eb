/- Plain: rows of nodes, and the trees that they begin with. Slices as rows of cells, and what append does to a slice whose room is used up: plain laws over any program. The frame of a law's proof: a call that answers true, and below the old heap's size leaves all as it was, meets the law's specification. -/
import Derived.WalkKit
import Derived.ArgAppend
import Derived.Deep.AppendSrc
import Derived.Deep.Upon
import Derived.Maps.AppendAt
import Derived.Test.YtdhaghabhdeakaaRows
import Derived.ProofKit
import Derived.OpenShut
import Derived.Carry
import Derived.Deep.DeepHandedRow
import Derived.LaidMore

namespace Go.Proofs.Ytdhaghabhdeakaa.Rw

structure Nd where
  k : Int
  n : ByteArray
  s : Int
deriving DecidableEq

/-- How many trees a node of a kind has behind it. -/
def ar (k : Int) : Int :=
  if k = 1 ∨ k = 2 ∨ k = 3 ∨ k = 4 ∨ k = 11 then 0 else if k = 9 ∨ k = 14 then 1 else if k = 5 ∨ k = 6 ∨ k = 7 ∨ k = 8 ∨ k = 10 ∨ k = 12 ∨ k = 13 then 2 else -1
theorem ar_cases (k : Int) : ar k = -1 ∨ ar k = 0 ∨ ar k = 1 ∨ ar k = 2 := by
  unfold ar
  repeat' split
  all_goals simp
theorem ar_le (k : Int) : -1 ≤ ar k ∧ ar k ≤ 2 := by rcases ar_cases k with h | h | h | h <;> omega

/-- Some trees, one behind another one: how many nodes they have, and how deep the deepest is; f is fuel. -/
def sts (t : List Nd → Option (Nat × Nat)) : Nat → List Nd → Option (Nat × Nat)
  | 0, _ => some (0, 0)
  | j + 1, r => match sts t j r with
    | none => none
    | some (c, d) => match t (r.drop c) with
      | none => none
      | some (c', d') => some (c + c', max d d')
def tr : Nat → List Nd → Option (Nat × Nat)
  | 0, _ => none
  | _ + 1, [] => none
  | f + 1, n :: r => if ar n.k < 0 then none else match sts (tr f) (ar n.k).toNat r with
    | none => none
    | some (c, d) => some (c + 1, d + 1)

theorem sts_congr {t t' : List Nd → Option (Nat × Nat)} (r : List Nd) (h : ∀ c, t (r.drop c) = t' (r.drop c)) : ∀ j, sts t j r = sts t' j r
  | 0 => rfl
  | j + 1 => by
    unfold sts
    rw [sts_congr r h j]
    cases sts t' j r with
    | none => rfl
    | some x => obtain ⟨c, d⟩ := x; simp only [h c]
theorem tr_fuel : ∀ (f : Nat) (l : List Nd), l.length ≤ f → tr (f + 1) l = tr f l
  | 0, l, h => by
    have : l = [] := List.eq_nil_of_length_eq_zero (by omega)
    subst this
    rfl
  | f + 1, [], _ => rfl
  | f + 1, n :: r, h => by
    have hr : r.length ≤ f := by simpa using h
    have : ∀ j, sts (tr (f + 1)) j r = sts (tr f) j r := sts_congr r fun c => tr_fuel f (r.drop c) (by rw [List.length_drop]; omega)
    unfold tr
    rw [this]
theorem tr_more (f g : Nat) (l : List Nd) (h : l.length ≤ f) : tr (f + g) l = tr f l := by
  induction g with
  | zero => rfl
  | succ g ih => rw [← Nat.add_assoc, tr_fuel (f + g) l (by omega), ih]

/-- The tree with which a row begins: its nodes, and its depth. -/
def T (l : List Nd) : Option (Nat × Nat) := tr l.length l
/-- Some trees with which a row begins. -/
def S (j : Nat) (r : List Nd) : Option (Nat × Nat) := sts T j r
theorem tr_T (f : Nat) (l : List Nd) (h : l.length ≤ f) : tr f l = T l := by
  have := tr_more l.length (f - l.length) l (Nat.le_refl _)
  rw [show l.length + (f - l.length) = f from by omega] at this
  exact this
theorem T_nil : T [] = none := rfl
theorem T_cons (n : Nd) (r : List Nd) : T (n :: r) = if ar n.k < 0 then none else match S (ar n.k).toNat r with
    | none => none
    | some (c, d) => some (c + 1, d + 1) := by
  have : ∀ j, sts (tr r.length) j r = S j r := sts_congr r fun c => tr_T _ _ (by rw [List.length_drop]; omega)
  unfold T
  rw [List.length_cons]
  unfold tr
  rw [this]
theorem S_zero (r : List Nd) : S 0 r = some (0, 0) := rfl
theorem S_succ (j : Nat) (r : List Nd) : S (j + 1) r = match S j r with
    | none => none
    | some (c, d) => match T (r.drop c) with
      | none => none
      | some (c', d') => some (c + c', max d d') := rfl
theorem S_none {j : Nat} {r : List Nd} (h : S j r = none) : ∀ i, S (j + i) r = none
  | 0 => h
  | i + 1 => by rw [← Nat.add_assoc, S_succ, S_none h i]

theorem bounds : ∀ (m : Nat) (l : List Nd), l.length ≤ m → (∀ c d, T l = some (c, d) → 1 ≤ c ∧ c ≤ l.length ∧ 1 ≤ d ∧ d ≤ c) ∧ ∀ j c d, S j l = some (c, d) → l.length < m → c ≤ l.length ∧ d ≤ c
  | 0, l, h => by
    have : l = [] := List.eq_nil_of_length_eq_zero (by omega)
    subst this
    exact ⟨fun c d h => (by rw [T_nil] at h; cases h), fun j c d _ h => absurd h (by simp)⟩
  | m + 1, l, h => by
    have hS : ∀ (l : List Nd), l.length ≤ m → ∀ j c d, S j l = some (c, d) → c ≤ l.length ∧ d ≤ c := by
      intro l hl j
      induction j with
      | zero => intro c d hh; rw [S_zero] at hh; cases hh; exact ⟨Nat.zero_le _, Nat.le_refl _⟩
      | succ j ih =>
        intro c d hh
        rw [S_succ] at hh
        cases hj : S j l with
        | none => rw [hj] at hh; cases hh
        | some x =>
          obtain ⟨c1, d1⟩ := x
          rw [hj] at hh
          simp only at hh
          obtain ⟨h1, h2⟩ := ih c1 d1 hj
          cases ht : T (l.drop c1) with
          | none => rw [ht] at hh; cases hh
          | some y =>
            obtain ⟨c2, d2⟩ := y
            rw [ht] at hh
            simp only [Option.some.injEq, Prod.mk.injEq] at hh
            have := (bounds m (l.drop c1) (by rw [List.length_drop]; omega)).1 c2 d2 ht
            rw [List.length_drop] at this
            omega
    refine ⟨fun c d hh => ?_, fun j c d hh hl => hS l (by omega) j c d hh⟩
    cases l with
    | nil => rw [T_nil] at hh; cases hh
    | cons n r =>
      rw [T_cons] at hh
      split at hh
      · cases hh
      · cases hs : S (ar n.k).toNat r with
        | none => rw [hs] at hh; cases hh
        | some x =>
          obtain ⟨c1, d1⟩ := x
          rw [hs] at hh
          simp only [Option.some.injEq, Prod.mk.injEq] at hh
          have := hS r (by simpa using h) _ _ _ hs
          simp only [List.length_cons]
          omega
theorem T_bd {l : List Nd} {c d : Nat} (h : T l = some (c, d)) : 1 ≤ c ∧ c ≤ l.length ∧ 1 ≤ d ∧ d ≤ c := (bounds l.length l (Nat.le_refl _)).1 c d h
theorem S_bd {l : List Nd} {j c d : Nat} (h : S j l = some (c, d)) : c ≤ l.length ∧ d ≤ c := (bounds (l.length + 1) l (by omega)).2 j c d h (by omega)

/-- A tree's nodes decide it, whatever stands behind. -/
theorem T_take : ∀ (m : Nat) (l l' : List Nd) (c d : Nat), l.length ≤ m → T l = some (c, d) → l.take c = l'.take c → c ≤ l'.length → T l' = some (c, d)
  | 0, l, l', c, d, h, ht, _, _ => by
    have : l = [] := List.eq_nil_of_length_eq_zero (by omega)
    subst this
    rw [T_nil] at ht
    cases ht
  | m + 1, l, l', c, d, h, ht, he, hc => by
    cases l with
    | nil => rw [T_nil] at ht; cases ht
    | cons n r =>
      obtain ⟨h1, h2, _, _⟩ := T_bd ht
      obtain ⟨c0, rfl⟩ : ∃ c0, c = c0 + 1 := ⟨c - 1, by omega⟩
      cases l' with
      | nil => simp at hc
      | cons n' r' =>
        simp only [List.take_succ_cons, List.cons.injEq] at he
        obtain ⟨rfl, he⟩ := he
        have hc' : c0 ≤ r'.length := by simpa using hc
        have hr : r.length ≤ m := by simpa using h
        rw [T_cons] at ht ⊢
        split at ht
        · cases ht
        · rename_i hk
          rw [if_neg hk]
          have key : ∀ j c1 d1, S j r = some (c1, d1) → c1 ≤ c0 → S j r' = some (c1, d1) := by
            intro j
            induction j with
            | zero => intro c1 d1 hh _; rw [S_zero] at hh ⊢; exact hh
            | succ j ih =>
              intro c1 d1 hh hle
              rw [S_succ] at hh ⊢
              cases hj : S j r with
              | none => rw [hj] at hh; cases hh
              | some x =>
                obtain ⟨c2, d2⟩ := x
                rw [hj] at hh
                simp only at hh
                cases ht2 : T (r.drop c2) with
                | none => rw [ht2] at hh; cases hh
                | some y =>
                  obtain ⟨c3, d3⟩ := y
                  rw [ht2] at hh
                  simp only [Option.some.injEq, Prod.mk.injEq] at hh
                  obtain ⟨rfl, rfl⟩ := hh
                  rw [ih c2 d2 hj (by omega)]
                  simp only
                  have hd : T (r'.drop c2) = some (c3, d3) := by
                    refine T_take m (r.drop c2) (r'.drop c2) c3 d3 (by rw [List.length_drop]; omega) ht2 ?_ (by rw [List.length_drop]; omega)
                    rw [List.take_drop, List.take_drop]
                    have e : List.take (c2 + c3) r = List.take (c2 + c3) r' := by
                      have := congrArg (List.take (c2 + c3)) he
                      rwa [List.take_take, List.take_take, Nat.min_eq_left hle] at this
                    rw [e]
                  rw [hd]
          cases hs : S (ar n.k).toNat r with
          | none => rw [hs] at ht; cases ht
          | some x =>
            obtain ⟨c1, d1⟩ := x
            rw [hs] at ht
            simp only [Option.some.injEq, Prod.mk.injEq] at ht
            rw [key _ _ _ hs (by omega)]
            simp only [Option.some.injEq, Prod.mk.injEq]
            exact ht
theorem T_head {l : List Nd} {c d : Nat} (h : T l = some (c, d)) : T (l.take c) = some (c, d) := by
  obtain ⟨_, h2, _, _⟩ := T_bd h
  exact T_take _ l (l.take c) c d (Nat.le_refl _) h (by rw [List.take_take, Nat.min_self]) (by rw [List.length_take]; omega)
theorem T_append {l : List Nd} {c d : Nat} (r : List Nd) (h : T l = some (c, d)) : T (l ++ r) = some (c, d) := by
  obtain ⟨_, h2, _, _⟩ := T_bd h
  exact T_take _ l (l ++ r) c d (Nat.le_refl _) h (by rw [List.take_append_of_le_length h2]) (by rw [List.length_append]; omega)

def size (l : List Nd) : Nat := match T l with | none => 0 | some (c, _) => c
def depth (l : List Nd) : Nat := match T l with | none => 0 | some (_, d) => d
theorem size_le (l : List Nd) : size l ≤ l.length := by
  unfold size
  cases h : T l with
  | none => exact Nat.zero_le _
  | some x => exact (T_bd h).2.1
theorem size_pos {l : List Nd} : size l = 0 ↔ T l = none := by
  unfold size
  cases h : T l with
  | none => simp
  | some x => have := (T_bd h).1; simp; omega

/-- The first j kids, behind the first node. -/
def kidsN : Nat → List Nd → List (List Nd)
  | 0, _ => []
  | j + 1, r => kidsN j r ++ [((r.drop ((S j r).getD (0, 0)).1).take (size (r.drop ((S j r).getD (0, 0)).1)))]
def kids (l : List Nd) : List (List Nd) := if size l = 0 then [] else match l with
  | [] => []
  | n :: r => kidsN (ar n.k).toNat r
theorem kidsN_len : ∀ (j : Nat) (r : List Nd), (kidsN j r).length = j
  | 0, _ => rfl
  | j + 1, r => by rw [kidsN, List.length_append, kidsN_len j r]; rfl
theorem kidsN_flat : ∀ (j : Nat) (r : List Nd) (c d : Nat), S j r = some (c, d) → (kidsN j r).flatten = r.take c
  | 0, r, c, d, h => by rw [S_zero] at h; cases h; simp [kidsN]
  | j + 1, r, c, d, h => by
    rw [S_succ] at h
    cases hj : S j r with
    | none => rw [hj] at h; cases h
    | some x =>
      obtain ⟨c1, d1⟩ := x
      rw [hj] at h
      simp only at h
      cases ht : T (r.drop c1) with
      | none => rw [ht] at h; cases h
      | some y =>
        obtain ⟨c2, d2⟩ := y
        rw [ht] at h
        simp only [Option.some.injEq, Prod.mk.injEq] at h
        obtain ⟨rfl, rfl⟩ := h
        have hsz : size (r.drop c1) = c2 := by unfold size; rw [ht]
        rw [kidsN, hj, List.flatten_append, kidsN_flat j r c1 d1 hj]
        simp only [Option.getD_some, hsz, List.flatten_cons, List.flatten_nil, List.append_nil]
        rw [List.take_add]
theorem kids_flat {n : Nd} {r : List Nd} (h : size (n :: r) ≠ 0) : n :: (kids (n :: r)).flatten = (n :: r).take (size (n :: r)) := by
  unfold kids
  rw [if_neg h]
  have h' : T (n :: r) ≠ none := fun e => h (size_pos.2 e)
  rw [T_cons] at h'
  split at h'
  · exact absurd rfl h'
  · rename_i hk
    cases hs : S (ar n.k).toNat r with
    | none => rw [hs] at h'; exact absurd rfl h'
    | some x =>
      obtain ⟨c, d⟩ := x
      have hz : size (n :: r) = c + 1 := by unfold size; rw [T_cons, if_neg hk, hs]
      simp only
      rw [hz, kidsN_flat _ _ _ _ hs, List.take_succ_cons]
end Go.Proofs.Ytdhaghabhdeakaa.Rw

namespace Go.Proofs.Ytdhaghabhdeakaa.Ap
open Go Go.RowKit

/-- A slice value whose n elements are these cells. -/
def Rd (w : World) (size : Nat) (v : Value) (n : Nat) (cs : List Value) : Prop :=
  cs.length = n * size ∧ ∃ a cap, v = .slice a n cap ∧ n ≤ cap ∧ (a = none → n = 0 ∧ cap = 0) ∧
    (0 < n → ∃ b off, a = some ⟨b, off, none⟩ ∧ ∀ j u, cs[j]? = some u → w.cell? ⟨b, off + j, none⟩ = some u)

theorem cell_lt {w : World} {p : Addr} {u : Value} (h : w.cell? p = some u) : p.block < w.heap.size :=
  Nat.lt_of_not_le fun hle => by
    simp only [World.cell?] at h
    rw [Array.getElem?_eq_none hle] at h
    cases h

theorem Rd.below {w w' : World} {size n : Nat} {v : Value} {cs : List Value} (h : Rd w size v n cs) (hb : Below w.heap.size w w') : Rd w' size v n cs := by
  obtain ⟨hl, a, cap, hv, hc, hn, hcell⟩ := h
  refine ⟨hl, a, cap, hv, hc, hn, fun h0 => ?_⟩
  obtain ⟨b, off, ha, hj⟩ := hcell h0
  refine ⟨b, off, ha, fun j u hu => ?_⟩
  have := hj j u hu
  rw [hb.cell (cell_lt this)]
  exact this

/-- What the call itself made, or has grown, is such a row. -/
theorem Rd.owned {w : World} {base size n : Nat} {e : TypeId} {v : Value} {cs : List Value} (h : w.ownsRow base e size v n cs) : Rd w size v n cs := by
  obtain ⟨hl, ⟨rfl, rfl⟩ | ⟨g, cap, cur, rfl, _, hg, hnc, _, hcs, ht⟩⟩ := h
  · exact ⟨hl, none, 0, rfl, Nat.le_refl _, fun _ => ⟨rfl, rfl⟩, fun h => absurd h (by omega)⟩
  · refine ⟨hl, some ⟨g, 0, none⟩, cap, rfl, hnc, fun h => (by cases h), fun _ => ⟨g, 0, rfl, fun j u hu => ?_⟩⟩
    have hj : j < n * size := by
      rw [← hl]
      exact (List.getElem?_eq_some_iff.1 hu).1
    rw [← ht, List.getElem?_take_of_lt hj] at hu
    simp only [World.cell?, hg, Nat.zero_add]
    simpa using hu

/-- One cell of a row that is read. -/
theorem Rd.src {P : Program} {w : World} {size n : Nat} {t e : TypeId} {v : Value} {cs : List Value} (ht : P.underlying t = some (.slice e)) (h : Rd w size v n cs) (h1 : ∀ u ∈ cs, u.oneCell' = true) :
    Src P size t v n cs w := by
  obtain ⟨hl, a, cap, rfl, hc, hn, hcell⟩ := h
  cases a with
  | none =>
    obtain ⟨rfl, rfl⟩ := hn rfl
    obtain rfl : cs = [] := List.eq_nil_of_length_eq_zero (by simpa using hl)
    exact Src.ofNil w ht 0
  | some ad =>
    refine Src.ofSlice w ht ad n cap cs hl (fun j u hu => ?_) h1
    by_cases h0 : 0 < n
    · obtain ⟨b, off, ha, hj⟩ := hcell h0
      cases ha
      rw [Addr.add_lit]
      exact hj j u hu
    · obtain rfl : n = 0 := by omega
      obtain rfl : cs = [] := List.eq_nil_of_length_eq_zero (by simpa using hl)
      cases hu

/-- append onto a slice whose room is used up: what it held and what is appended, in a row of its own or, where nothing is appended, as it was; nothing that was there is changed. -/
theorem run_append_full {P : Program} {w : World} {t ty e : TypeId} {i : TypeInfo} {z : Value} {size bytes : Nat} (ht : P.underlying t = some (.slice e)) (hi : P.info? e = some i) (hz : i.zero = some z)
    (hsize : i.size = size) (hby : i.bytes = bytes) (hzs : z.cells.size = size) (hsz : 0 < size) {a : Option Addr} {n m : Nat} {x : Value} {cs ds : List Value} (hs : Rd w size (.slice a n n) n cs) (hx : Rd w size x m ds) (h1 : ∀ u ∈ ds, u.oneCell' = true)
    (h63 : n + m ≤ maxLen) (hbytes : (n + m) * bytes ≤ 140737488355328) :
    ∃ v' w', (Builtin.append_ #[t, t] ty #[.slice a n n, x]).run P w = .ok v' w' ∧ Rd w' size v' (n + m) (cs ++ ds) ∧ Below w.heap.size w w' := by
  by_cases h0 : m = 0
  · subst h0
    obtain rfl : ds = [] := List.eq_nil_of_length_eq_zero (by simpa using hx.1)
    exact ⟨_, _, run_append_nothing w t t ty e i ht hi a n n (Nat.le_refl _) x (by rw [hsize]; exact hx.src ht h1), by simpa using hs, Below.refl _ _⟩
  · obtain ⟨hl, a1, c1, rfl, hc, hn, hcell⟩ := hx
    obtain ⟨b1, o1, rfl, hj⟩ := hcell (by omega)
    have hj' : ∀ j u, ds[j]? = some u → w.cell? (Addr.add ⟨b1, o1, none⟩ j) = some u := fun j u hu => by rw [Addr.add_lit]; exact hj j u hu
    cases a with
    | none =>
      obtain ⟨hl0, a', cap', hv, hc', hn', _⟩ := hs
      cases hv
      obtain ⟨rfl, _⟩ := hn' rfl
      obtain rfl : cs = [] := List.eq_nil_of_length_eq_zero (by simpa using hl0)
      obtain ⟨v', w', hrun, hown, hg, _⟩ := run_append_own (P := P) w w.heap.size t ty e i z size bytes ht hi hz hsize hby hzs hsz (.slice none 0 0) 0 [] ⟨by simp, .inl ⟨rfl, rfl⟩⟩ ⟨b1, o1, none⟩ m c1 ds hl hj' h1 h63 hbytes (Nat.le_refl _)
      exact ⟨v', w', hrun, Rd.owned hown, (Below.refl _ _).grown hg (Nat.le_refl _) (fun k hk => by cases hk)⟩
    | some ad =>
      obtain ⟨hl0, a', cap', hv, hc', hn', hcell0⟩ := hs
      cases hv
      have holds : ∀ j u, cs[j]? = some u → w.cell? (ad.add j) = some u := fun j u hu => by
        by_cases h00 : 0 < n
        · obtain ⟨b, off, ha, hj0⟩ := hcell0 h00
          cases ha
          rw [Addr.add_lit]
          exact hj0 j u hu
        · obtain rfl : n = 0 := by omega
          obtain rfl : cs = [] := List.eq_nil_of_length_eq_zero (by simpa using hl0)
          cases hu
      obtain ⟨v', w', hrun, hown, hg⟩ := run_append_arg_grows (P := P) w t ty e i z size bytes ht hi hz hsize hby hzs hsz ad n n cs hl0 holds ⟨b1, o1, none⟩ m c1 ds hl hj' (by omega) h63 hbytes
      exact ⟨v', w', hrun, Rd.owned hown, (Below.refl _ _).grown hg (Nat.le_refl _) (fun k hk => by cases hk)⟩

/-- What the call owns stays so where nothing that was there is changed. -/
theorem own_below {w w' : World} {base size n : Nat} {e : TypeId} {v : Value} {xs : List Value} (h : w.ownsRow base e size v n xs) (hb : Below w.heap.size w w') : w'.ownsRow base e size v n xs := by
  obtain ⟨hl, h | ⟨g, cap, cur, hv, hg, hh, h1, h2, h3, h4⟩⟩ := h
  · exact ⟨hl, .inl h⟩
  · refine ⟨hl, .inr ⟨g, cap, cur, hv, hg, ?_, h1, h2, h3, h4⟩⟩
    rw [hb.block g]
    · exact hh
    · exact Nat.lt_of_not_le fun hle => by
        rw [Array.getElem?_eq_none hle] at hh
        cases hh

theorem own_base {w : World} {base base' size n : Nat} {e : TypeId} {v : Value} {xs : List Value} (h : w.ownsRow base e size v n xs) (hb : base' ≤ base) : w.ownsRow base' e size v n xs := by
  obtain ⟨hl, h | ⟨g, cap, cur, hv, hg, hr⟩⟩ := h
  · exact ⟨hl, .inl h⟩
  · exact ⟨hl, .inr ⟨g, cap, cur, hv, Nat.le_trans hb hg, hr⟩⟩

/-- The row lies where it lay, or in a new block. -/
def Fresh (w : World) (v v' : Value) : Prop := v'.ownBlock = v.ownBlock ∨ ∃ k, v'.ownBlock = some k ∧ w.heap.size ≤ k

/-- A slice value whose n elements are these cells, in a block that is as ok says. -/
def RdO (ok : Nat → Prop) (w : World) (size : Nat) (v : Value) (n : Nat) (cs : List Value) : Prop :=
  cs.length = n * size ∧ ∃ a cap, v = .slice a n cap ∧ n ≤ cap ∧ (a = none → n = 0 ∧ cap = 0) ∧
    (0 < n → ∃ b off, a = some ⟨b, off, none⟩ ∧ ok b ∧ b < w.heap.size ∧ ∀ j u, cs[j]? = some u → w.cell? ⟨b, off + j, none⟩ = some u)

theorem RdO.rd {ok : Nat → Prop} {w : World} {size n : Nat} {v : Value} {cs : List Value} (h : RdO ok w size v n cs) : Rd w size v n cs := by
  obtain ⟨hl, a, cap, hv, hc, hn, hcell⟩ := h
  refine ⟨hl, a, cap, hv, hc, hn, fun h0 => ?_⟩
  obtain ⟨b, off, ha, _, _, hj⟩ := hcell h0
  exact ⟨b, off, ha, hj⟩
theorem RdO.imp {ok ok' : Nat → Prop} {w : World} {size n : Nat} {v : Value} {cs : List Value} (h : RdO ok w size v n cs) (hi : ∀ b, b < w.heap.size → ok b → ok' b) : RdO ok' w size v n cs := by
  obtain ⟨hl, a, cap, hv, hc, hn, hcell⟩ := h
  refine ⟨hl, a, cap, hv, hc, hn, fun h0 => ?_⟩
  obtain ⟨b, off, ha, ho, hb, hj⟩ := hcell h0
  exact ⟨b, off, ha, hi b hb ho, hb, hj⟩
theorem RdO.below {ok : Nat → Prop} {w w' : World} {size n : Nat} {v : Value} {cs : List Value} (h : RdO ok w size v n cs) (hb : Below w.heap.size w w') : RdO ok w' size v n cs := by
  obtain ⟨hl, a, cap, hv, hc, hn, hcell⟩ := h
  refine ⟨hl, a, cap, hv, hc, hn, fun h0 => ?_⟩
  obtain ⟨b, off, ha, hne, hlt, hj⟩ := hcell h0
  exact ⟨b, off, ha, hne, Nat.lt_of_lt_of_le hlt hb.size, fun j u hu => by rw [hb.cell (p := ⟨b, off + j, none⟩) hlt]; exact hj j u hu⟩
theorem RdO.grow {ok : Nat → Prop} {w w' : World} {v v' x : Value} {size n : Nat} {cs : List Value} (h : RdO (fun b => ok b ∧ some b ≠ v.ownBlock) w size x n cs) (hg : w.grownBy w' v.ownBlock) (hf : Fresh w v v') :
    RdO (fun b => ok b ∧ some b ≠ v'.ownBlock) w' size x n cs := by
  obtain ⟨hl, a, cap, hv, hc, hn, hcell⟩ := h
  refine ⟨hl, a, cap, hv, hc, hn, fun h0 => ?_⟩
  obtain ⟨b, off, ha, hne, hlt, hj⟩ := hcell h0
  refine ⟨b, off, ha, ⟨hne.1, ?_⟩, Nat.lt_of_lt_of_le hlt hg.size, fun j u hu => by rw [World.cell?_of_block (w := w) (a := ⟨b, off + j, none⟩) (hg.block b hlt hne.2)]; exact hj j u hu⟩
  rcases hf with hf | ⟨k, hk, hlk⟩
  · rw [hf]; exact hne.2
  · rw [hk]
    intro e
    cases e
    omega
theorem RdO.fresh {w : World} {base size n : Nat} {e : TypeId} {v : Value} {cs : List Value} (h : w.ownsRow base e size v n cs) : RdO (fun b => base ≤ b) w size v n cs := by
  obtain ⟨hl, ⟨rfl, rfl⟩ | ⟨g', cap, cur, rfl, hb, hh, hnc, hcm, hcs, ht⟩⟩ := h
  · exact ⟨hl, none, 0, rfl, Nat.le_refl _, fun _ => ⟨rfl, rfl⟩, fun h => absurd h (by omega)⟩
  · refine ⟨hl, some ⟨g', 0, none⟩, cap, rfl, hnc, fun h => (by cases h), fun _ => ⟨g', 0, rfl, hb, ?_, fun j u hu => ?_⟩⟩
    · exact Nat.lt_of_not_le fun hle => by
        rw [Array.getElem?_eq_none hle] at hh
        cases hh
    · have hj : j < n * size := by
        rw [← hl]
        exact (List.getElem?_eq_some_iff.1 hu).1
      rw [← ht, List.getElem?_take_of_lt hj] at hu
      simp only [World.cell?, hh, Nat.zero_add]
      simpa using hu
/-- Whatever lies somewhere lies below the heap's size. -/
theorem RdO.of {w : World} {size n : Nat} {v : Value} {cs : List Value} (hs : 0 < size) (h : Rd w size v n cs) : RdO (fun _ => True) w size v n cs := by
  obtain ⟨hl, a, cap, hv, hc, hn, hcell⟩ := h
  refine ⟨hl, a, cap, hv, hc, hn, fun h0 => ?_⟩
  obtain ⟨b, off, ha, hj⟩ := hcell h0
  have hpos : 0 < cs.length := by rw [hl]; exact Nat.mul_pos h0 hs
  exact ⟨b, off, ha, trivial, cell_lt (hj 0 _ (List.getElem?_eq_getElem hpos)), hj⟩
theorem own_lt {w : World} {base size n : Nat} {e : TypeId} {v : Value} {xs : List Value} (h : w.ownsRow base e size v n xs) : ∀ k, v.ownBlock = some k → k < w.heap.size := by
  obtain ⟨hl, ⟨rfl, _⟩ | ⟨g, cap, cur, rfl, hg, hh, _⟩⟩ := h
  · intro k hk; cases hk
  · intro k hk
    cases hk
    exact Nat.lt_of_not_le fun hle => by
      rw [Array.getElem?_eq_none hle] at hh
      cases hh

/-- append of one element, given by itself, onto a row that the call owns. -/
theorem run_append_one {P : Program} {w : World} {t ty e : TypeId} {i : TypeInfo} {z : Value} {size bytes : Nat} (ht : P.underlying t = some (.slice e)) (hi : P.info? e = some i) (hz : i.zero = some z)
    (hsize : i.size = size) (hby : i.bytes = bytes) (hzs : z.cells.size = size) (hsz : 0 < size) {base n : Nat} {v : Value} {xs : List Value} (hown : w.ownsRow base e size v n xs) (hbase : base ≤ w.heap.size)
    (cs : Array Value) (hcs : cs.size = size) (h1 : ∀ u ∈ cs.toList, u.oneCell' = true) (h63 : n + 1 ≤ maxLen) (hbytes : (n + 1) * bytes ≤ 140737488355328) :
    ∃ v' w', (Builtin.append_ #[t, t] ty #[v, .slice (some ⟨w.heap.size, 0, none⟩) 1 1]).run P (w.alloc (.cells cs e)) = .ok v' w' ∧ w'.ownsRow base e size v' (n + 1) (xs ++ cs.toList) ∧ w.grownBy w' v.ownBlock ∧ Below base w w' ∧ Fresh w v v' := by
  have hown' : (w.alloc (.cells cs e)).ownsRow base e size v n xs := own_below hown ((Below.refl _ _).alloc (Nat.le_refl _) _)
  obtain ⟨v', w', hrun, h2, h3, _, h5⟩ := run_append_own_at (P := P) (w.alloc (.cells cs e)) base t ty e i z size bytes ht hi hz hsize hby hzs hsz v n xs hown' ⟨w.heap.size, 0, none⟩ 1 1 cs.toList (by simpa using hcs)
    (fun j u hu => by
      rw [Addr.add_lit]
      simpa using hu) h1 h63 hbytes (by simp; omega)
  have hg : w.grownBy w' v.ownBlock := ⟨h3.os, h3.tape, h3.output, Nat.le_trans (by simp) h3.size, fun k hk hne => by rw [h3.block k (by simp; omega) hne]; exact Below.heap_alloc w _ k hk⟩
  refine ⟨v', w', hrun, h2, hg, (Below.refl _ _).grown hg hbase fun k hk => ?_, h5.imp id fun h => ⟨_, h, by simp⟩⟩
  obtain ⟨_, ⟨rfl, _⟩ | ⟨g, cap, cur, rfl, hg', _⟩⟩ := hown
  · cases hk
  · cases hk
    exact hg'

/-- append of the elements of any slice onto a row that the call owns. -/
theorem run_append_rd {P : Program} {w : World} {t ty e : TypeId} {i : TypeInfo} {z : Value} {size bytes : Nat} (ht : P.underlying t = some (.slice e)) (hi : P.info? e = some i) (hz : i.zero = some z)
    (hsize : i.size = size) (hby : i.bytes = bytes) (hzs : z.cells.size = size) (hsz : 0 < size) {base n m : Nat} {v x : Value} {xs ds : List Value} (hown : w.ownsRow base e size v n xs) (hbase : base ≤ w.heap.size)
    (hx : Rd w size x m ds) (h1 : ∀ u ∈ ds, u.oneCell' = true) (h63 : n + m ≤ maxLen) (hbytes : (n + m) * bytes ≤ 140737488355328) :
    ∃ v' w', (Builtin.append_ #[t, t] ty #[v, x]).run P w = .ok v' w' ∧ w'.ownsRow base e size v' (n + m) (xs ++ ds) ∧ w.grownBy w' v.ownBlock ∧ Below base w w' ∧ Fresh w v v' := by
  by_cases h0 : m = 0
  · subst h0
    obtain rfl : ds = [] := List.eq_nil_of_length_eq_zero (by simpa using hx.1)
    have hv : ∃ a k c, v = .slice a k c ∧ k ≤ c := by
      obtain ⟨_, ⟨rfl, _⟩ | ⟨g, cap, cur, rfl, _, _, hc, _⟩⟩ := hown
      · exact ⟨none, 0, 0, rfl, Nat.le_refl _⟩
      · exact ⟨_, _, _, rfl, hc⟩
    obtain ⟨a, k, c, rfl, hkc⟩ := hv
    exact ⟨_, _, run_append_nothing w t t ty e i ht hi a k c hkc x (by rw [hsize]; exact hx.src ht h1), by simpa using hown, ⟨rfl, rfl, rfl, Nat.le_refl _, fun _ _ _ => rfl⟩, Below.refl _ _, .inl rfl⟩
  · obtain ⟨hl, a1, c1, rfl, hc, hn, hcell⟩ := hx
    obtain ⟨b1, o1, rfl, hj⟩ := hcell (by omega)
    obtain ⟨v', w', hrun, h2, h3, _, h5⟩ := run_append_own_at (P := P) w base t ty e i z size bytes ht hi hz hsize hby hzs hsz v n xs hown ⟨b1, o1, none⟩ m c1 ds hl (fun j u hu => by rw [Addr.add_lit]; exact hj j u hu) h1 h63 hbytes hbase
    refine ⟨v', w', hrun, h2, h3, (Below.refl _ _).grown h3 hbase fun k hk => ?_, h5.imp id fun h => ⟨_, h, Nat.le_refl _⟩⟩
    obtain ⟨_, ⟨rfl, _⟩ | ⟨g, cap, cur, rfl, hg', _⟩⟩ := hown
    · cases hk
    · cases hk
      exact hg'

/-- An append whose run is known, guarded or not. -/
theorem wpList_append_run {P : Program} {w : World} {ops : Array Oper} {rest : List Oper} {o : Oper} {a : Act} {Q : Exit → Act → World → Prop} (hw : Region.wanted o (yielded ops a.tmps) = true) (s x : Operand) (t tx : TypeId)
    (ho : o.op = .call { callee := .builtin .append, args := #[s, x], argTypes := #[t, tx] }) (vs vx : Value) (hs : a.eval s = vs) (hx : a.eval x = vx) (v' : Value) (w' : World) (hrun : (Builtin.append_ #[t, tx] o.type #[vs, vx]).run P w = .ok v' w')
    (h : wpList P ops Q rest (a.put o.dst v') w') : wpList P ops Q (o :: rest) a w := by
  refine wpList_step fun K hK => ?_
  rw [if_pos hw]
  unfold Oper.wp
  simp [execOp, ho, resolve, invoke, builtin, hs, hx, hrun, Result.andThen]
  exact hK _ _ h
/-- The same as one step of a region that draws its order. -/
theorem step_append_run {P : Program} {w : World} {ops : Array Oper} {o : Oper} {a : Act} {K : Act → World → Prop} {Q : Exit → Act → World → Prop} {E : Prop} (hw : Region.wanted o (yielded ops a.tmps) = true) (s x : Operand) (t tx : TypeId)
    (ho : o.op = .call { callee := .builtin .append, args := #[s, x], argTypes := #[t, tx] }) (vs vx : Value) (hs : a.eval s = vs) (hx : a.eval x = vx) (v' : Value) (w' : World) (hrun : (Builtin.append_ #[t, tx] o.type #[vs, vx]).run P w = .ok v' w')
    (h : K (a.put o.dst v') w') : if Region.wanted o (yielded ops a.tmps) = true then Oper.wp P o a w K Q else E := by
  rw [if_pos hw]
  unfold Oper.wp
  simp [execOp, ho, resolve, invoke, builtin, hs, hx, hrun, Result.andThen]
  exact h
end Go.Proofs.Ytdhaghabhdeakaa.Ap

namespace Go.Proofs.Ytdhaghabhdeakaa.Fr
open Go Go.ChangeShapes Go.WideShapes Go.ChangeAt Go.RowKit
open Go.ChangeMaps (open_string)

section
variable {H : Type} {enc : TypeId × Value → H} {P : Program}

/-- All arguments read as they did. -/
theorem trodAll_below {W W' : World} (hl : laidOutB P = true) (hb : Below W.heap.size W W') :
    ∀ (ts : List TypeId) (vs : List Value) (ds : List (DataW H)) (ps : List MemPlace), (∀ t ∈ ts, P.readableRec t = true ∧ t < P.types.size) → (∀ x ∈ ps, x.block < W.heap.size) →
      DataW.TrodAll enc P W 0 (fun _ => true) true ts vs ds ps → DataW.TrodAll enc P W' 0 (fun b => decide (b < W.heap.size)) true ts vs ds ps
  | [], [], [], _, _, _, h => h
  | t :: ts, v :: vs, d :: ds, ps, hr, hp, h => by
    obtain ⟨p, q, h1, h2, rfl⟩ := h
    exact ⟨p, q, Below.trod hl (hr t (by simp)).1 (hr t (by simp)).2 h1 hb (fun x hx => hp x (by simp [hx])), trodAll_below hl hb ts vs ds q (fun u hu => hr u (by simp [hu])) (fun x hx => hp x (by simp [hx])) h2, rfl⟩
  | [], [], _ :: _, _, _, _, h => h.elim
  | [], _ :: _, _, _, _, _, h => h.elim
  | _ :: _, [], _, _, _, _, h => h.elim
  | _ :: _, _ :: _, [], _, _, _, h => h.elim

/-- A law that answered true and changed nothing that was there. -/
theorem law_post {f : Func} {s : ChangeSpec} {W W' : World} {args : Array Value} {ds gs : List (DataW H)} {before : List MemPlace} {tb : TypeId} (hl : laidOutB P = true)
    (hread : f.params.toList.all (fun t => P.readableRec t && decide (t < P.types.size)) = true) (hres : f.resultTypes = #[tb]) (ub : P.underlying tb = some .bool) (hv : s.vars = [])
    (hs : s.fn H ds = { results := [.lit (.bool true)], args := ds }) (hW : DataW.Whole enc P f.params.toList s.vars false W args.toList ds gs before) (hb : Below W.heap.size W W') :
    s.post enc P f false true false false W args (.bool true) W' := by
  have hW' := hW
  obtain ⟨p, q, hA, hV, rfl, _, _⟩ := hW
  rw [hv] at hV
  obtain ⟨rfl, rfl⟩ := trodVars_none hV
  have hs' : s.fn H (ds ++ []) = { results := [.lit (.bool true)], args := ds } := by rw [List.append_nil]; exact hs
  refine ⟨ds, [], _, [], p, [], hW', ?_, ?_, ?_, hb.frame _, fun h => by cases h⟩
  · rw [hs', hres]
    exact trodAll_mk1 (shut_bool ub true)
  · rw [hs']
    refine trodAll_below hl hb _ _ _ _ (fun t ht => ?_) (fun x hx => hW'.lt x (by simp [hx])) hA
    have := List.all_eq_true.1 hread t ht
    simpa using this
  · rw [hs', hv]
    rfl

/-- The arguments' readings. -/
theorem args_of {ts : List TypeId} {vars : List String} {ap : Bool} {W : World} {vs : List Value} {ds gs : List (DataW H)} {before : List MemPlace} (hW : DataW.Whole enc P ts vars ap W vs ds gs before) :
    ∃ p, DataW.TrodAll enc P W 0 (fun _ => true) true ts vs ds p := by
  obtain ⟨p, _, h, _⟩ := hW
  exact ⟨p, h⟩

/-- An array of strings that reads as these texts holds them, cell for cell. -/
theorem strs_cells {w : World} {base : Nat} {sp : Nat → Bool} {held : Bool} {fuel n : Nat} {t e : TypeId} {cs : List Value} {ss : List (List UInt8)} {p : List MemPlace}
    (ht : P.underlying t = some (.array n e)) (he : P.underlying e = some .string) (hce : P.cellsOf e = 1) (hct : P.cellsOf t = n)
    (h : DataW.trod enc P w base sp held fuel t cs = some (.agg (ss.map fun b => .lit (.string b)), p)) : cs = ss.map fun b => .string ⟨b.toArray⟩ := by
  obtain ⟨xs, m, _, hx, hlen, hn, hel⟩ := DataW.trod_array ht h
  rw [hce] at hel
  rw [hct] at hlen
  simp only [Prod.mk.injEq, DataW.agg.injEq] at hx
  have hxs := hx.1
  have hsl : ss.length = n := by
    have := congrArg List.length hxs
    simp at this
    omega
  refine List.ext_getElem (by simp; omega) fun i h1 h2 => ?_
  have hi : i < n := by omega
  have hd := hel i hi
  rw [List.getElem?_eq_getElem (by omega)] at hd
  obtain ⟨s, e1, e2, _⟩ := DataW.trod_string he hd
  have c1 : (cs.drop (i * 1)).take 1 = [cs[i]] := by
    rw [Nat.mul_one, List.drop_eq_getElem_cons h1]
    rfl
  rw [c1] at e1
  have e3 : cs[i] = .string s := by simpa using e1
  have e4 := congrArg (fun l => l[i]?) hxs
  simp only [List.getElem?_map, List.getElem?_eq_getElem (show i < ss.length by omega), List.getElem?_eq_getElem (show i < xs.length by omega), Option.map_some, Option.some.injEq, e2, DataW.lit.injEq, Lit.string.injEq] at e4
  rw [e3, List.getElem_map, e4]

/-- A slice of integers that came in: an empty one, or one whose cells are known. -/
theorem ints_arg {W : World} {base : Nat} {t e : TypeId} {k : IntKind} {v : Value} {d : DataW H} {p : List MemPlace} (ut : P.underlying t = some (.slice e)) (ue : P.underlying e = some (.int k)) (ce : P.cellsOf e = 1)
    (hok : Value.okWide P W .any base t v) (h : DataW.Trod enc P W 0 (fun _ => true) true t v d p) :
    ∃ (a : Option Addr) (cap : Nat) (l : List Int), v = .slice a l.length cap ∧ l.length ≤ cap ∧ cap ≤ maxLen ∧ (∀ n ∈ l, (Lit.int k n).wf = true) ∧ (a = none → cap = 0) ∧
      (l = [] ∨ ∃ b off, a = some ⟨b, off, none⟩ ∧ ∀ i, (hi : i < l.length) → W.cell? ⟨b, off + i, none⟩ = some (.int k l[i])) := by
  obtain ⟨a, len, cap, rfl⟩ := okWide_slice ut hok
  obtain ⟨fuel, hf⟩ := h
  rcases open_ints ut ue ce hf with ⟨hcs, _⟩ | ⟨x, l, c, zs, hcs, _, hl, hm, hz, _, hcell, hwz⟩
  · simp [Value.cells] at hcs
    obtain ⟨rfl, rfl, rfl⟩ := hcs
    exact ⟨none, 0, [], rfl, by simp, by simp [maxLen], by simp, fun _ => rfl, .inl rfl⟩
  · simp [Value.cells] at hcs
    obtain ⟨rfl, rfl, rfl⟩ := hcs
    have hz' : zs.length = cap := by simpa using hz
    have hlen : (zs.take len).length = len := by simp; omega
    refine ⟨_, cap, zs.take len, by rw [hlen], by rw [hlen]; exact hl, hm, fun n hn => hwz n (List.mem_of_mem_take hn), fun h => (by cases h), ?_⟩
    by_cases h0 : len = 0
    · exact .inl (by subst h0; rfl)
    · right
      obtain ⟨b, off, spot⟩ := x
      have hc := hcell 0 (by omega)
      have hspot : spot = none := by simpa [Addr.add] using World.cell?_spot hc
      subst hspot
      refine ⟨b, off, rfl, fun i hi => ?_⟩
      rw [hlen] at hi
      have := hcell i (by omega)
      have e : zs.getD i 0 = (zs.take len)[i] := by
        rw [List.getElem_take]
        simp [List.getD, show i < zs.length by omega]
      rw [← e]
      by_cases h1 : i = 0
      · subst h1
        simpa [Addr.add] using this
      · simpa [Addr.add, h1] using this
end
end Go.Proofs.Ytdhaghabhdeakaa.Fr
