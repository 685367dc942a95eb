/- What may be refused: plain. Rows of which some actions are put in an Alt with a Throw; places; what is stripped. -/
import Derived.Test.YtpkbpooiaddcaaaSoq
namespace Go.Proofs.Ytpkbpooiaddcaaa.Rf
open Go Rw Go.Proofs.Ytpkbpooiaddcaaa.So

/-- An Alt, a Throw; an action that is asked for. -/
abbrev alt : Nd := So.nOf 6
abbrev thr : Nd := So.nOf 3
def hit (f : ByteArray → Bool) (x : Nd) : Bool := decide (x.k = 1) && f x.n
def sub1 (f : ByteArray → Bool) (x : Nd) : List Nd := if hit f x then [alt, x, thr] else [x]
def sub (f : ByteArray → Bool) (l : List Nd) : List Nd := l.flatMap (sub1 f)
theorem hit_k {f : ByteArray → Bool} {x : Nd} (h : hit f x = true) : x.k = 1 := by
  unfold hit at h
  rw [Bool.and_eq_true, decide_eq_true_eq] at h
  exact h.1
theorem hit_no {f : ByteArray → Bool} {x : Nd} (h : x.k ≠ 1) : hit f x = false := by
  unfold hit
  rw [decide_eq_false h, Bool.false_and]
theorem sub_nil (f : ByteArray → Bool) : sub f [] = [] := rfl
theorem sub_cons (f : ByteArray → Bool) (x : Nd) (l : List Nd) : sub f (x :: l) = sub1 f x ++ sub f l := by unfold sub; rw [List.flatMap_cons]
theorem sub_append (f : ByteArray → Bool) (l m : List Nd) : sub f (l ++ m) = sub f l ++ sub f m := by unfold sub; rw [List.flatMap_append]
theorem sub_no {f : ByteArray → Bool} {x : Nd} (h : hit f x = false) (l : List Nd) : sub f (x :: l) = x :: sub f l := by
  rw [sub_cons]
  unfold sub1
  rw [h]
  rfl
theorem sub_yes {f : ByteArray → Bool} {x : Nd} (h : hit f x = true) (l : List Nd) : sub f (x :: l) = alt :: x :: thr :: sub f l := by
  rw [sub_cons]
  unfold sub1
  rw [h]
  rfl
theorem sub_take (f : ByteArray → Bool) (l : List Nd) (k : Nat) (h : k < l.length) : sub f (l.take (k + 1)) = sub f (l.take k) ++ sub1 f l[k] := by
  rw [List.take_succ_eq_append_getElem h, sub_append, sub_cons, sub_nil, List.append_nil]
theorem sub_len (f : ByteArray → Bool) : ∀ l : List Nd, (sub f l).length = l.length + 2 * l.countP (hit f)
  | [] => rfl
  | x :: l => by
    have ih := sub_len f l
    cases h : hit f x with
    | true => rw [sub_yes h, List.countP_cons_of_pos h]; simp only [List.length_cons]; omega
    | false => rw [sub_no h, List.countP_cons_of_neg (by simp [h])]; simp only [List.length_cons]; omega
theorem sub_le (f : ByteArray → Bool) (l : List Nd) : l.length ≤ (sub f l).length ∧ (sub f l).length ≤ 3 * l.length := by
  have h1 := sub_len f l
  have h2 : l.countP (hit f) ≤ l.length := List.countP_le_length
  omega
theorem sub_none {f : ByteArray → Bool} : ∀ {l : List Nd}, (∀ x ∈ l, hit f x = false) → sub f l = l
  | [], _ => rfl
  | x :: l, h => by rw [sub_no (h x (by simp)), sub_none fun y hy => h y (by simp [hy])]
theorem sub_cnt (f g : ByteArray → Bool) : ∀ l : List Nd, (sub f l).countP (hit g) = l.countP (hit g)
  | [] => rfl
  | x :: l => by
    have ih := sub_cnt f g l
    cases h : hit f x with
    | true =>
      rw [sub_yes h, List.countP_cons_of_neg (by rw [hit_no (by decide)]; decide), List.countP_cons, List.countP_cons_of_neg (by rw [hit_no (by decide)]; decide), List.countP_cons, ih]
    | false => rw [sub_no h, List.countP_cons, List.countP_cons, ih]
theorem sub_acts (f : ByteArray → Bool) : ∀ l : List Nd, cnt (sub f l) [1] = cnt l [1]
  | [] => rfl
  | x :: l => by
    have ih := sub_acts f l
    unfold cnt at ih ⊢
    cases h : hit f x with
    | true =>
      rw [sub_yes h, List.countP_cons_of_neg (by decide), List.countP_cons, List.countP_cons_of_neg (by decide), List.countP_cons, ih]
    | false => rw [sub_no h, List.countP_cons, List.countP_cons, ih]
theorem sub_rgt (f : ByteArray → Bool) : ∀ l : List Nd, (sub f l).all rgt = l.all rgt
  | [] => rfl
  | x :: l => by
    have ih := sub_rgt f l
    cases h : hit f x with
    | true =>
      rw [sub_yes h, List.all_cons, List.all_cons, List.all_cons, List.all_cons, ih]
      rw [show rgt alt = true by decide, show rgt thr = true by decide]
      simp
    | false => rw [sub_no h, List.all_cons, List.all_cons, ih]

/-- The trees of a row, and those of the row rewritten. -/
theorem leaf (x : Nd) (hx : ar x.k = 0) (r : List Nd) : T (x :: r) = some (1, 1) := by
  rw [T_cons, hx, if_neg (by decide), show ((0 : Int).toNat) = 0 from rfl, S_zero]
theorem T_alt (x : Nd) (hx : ar x.k = 0) (r : List Nd) : T (alt :: x :: thr :: r) = some (3, 2) := by
  have e1 : S 1 (x :: thr :: r) = some (1, 1) := by
    rw [show (1 : Nat) = 0 + 1 from rfl, S_succ, S_zero]
    simp only [List.drop_zero, leaf x hx]
    rfl
  have e2 : S 2 (x :: thr :: r) = some (2, 1) := by
    rw [show (2 : Nat) = 1 + 1 from rfl, S_succ, e1]
    simp only [List.drop_succ_cons, List.drop_zero, leaf thr rfl]
    rfl
  rw [T_cons, show ar alt.k = 2 from rfl, if_neg (by decide), show ((2 : Int).toNat) = 2 from rfl, e2]
theorem S_sub (f : ByteArray → Bool) (r : List Nd) (h : ∀ c, (T (sub f (r.drop c))).map (·.1) = (T (r.drop c)).map fun x => (sub f ((r.drop c).take x.1)).length) :
    ∀ j, (S j (sub f r)).map (·.1) = (S j r).map fun x => (sub f (r.take x.1)).length
  | 0 => by rw [S_zero, S_zero]; rfl
  | j + 1 => by
    have ih := S_sub f r h j
    rw [S_succ, S_succ]
    cases hs : S j r with
    | none =>
      rw [hs] at ih
      cases hs' : S j (sub f r) with
      | none => rfl
      | some y => rw [hs'] at ih; cases ih
    | some y =>
      obtain ⟨c, d⟩ := y
      rw [hs] at ih
      cases hs' : S j (sub f r) with
      | none => rw [hs'] at ih; cases ih
      | some y' =>
        obtain ⟨c', d'⟩ := y'
        rw [hs'] at ih
        simp only [Option.map_some, Option.some.injEq] at ih
        simp only
        have hd : (sub f r).drop c' = sub f (r.drop c) := by
          have : sub f r = sub f (r.take c) ++ sub f (r.drop c) := by rw [← sub_append, List.take_append_drop]
          rw [this, ih, List.drop_append_of_le_length (Nat.le_refl _), List.drop_length, List.nil_append]
        have hc := h c
        rw [hd]
        cases ht : T (r.drop c) with
        | none =>
          rw [ht] at hc
          cases ht' : T (sub f (r.drop c)) with
          | none => rfl
          | some z => rw [ht'] at hc; cases hc
        | some z =>
          obtain ⟨e, g⟩ := z
          rw [ht] at hc
          cases ht' : T (sub f (r.drop c)) with
          | none => rw [ht'] at hc; cases hc
          | some z' =>
            obtain ⟨e', g'⟩ := z'
            rw [ht'] at hc
            simp only [Option.map_some, Option.some.injEq] at hc ⊢
            rw [ih, hc, List.take_add, sub_append, List.length_append]
theorem T_sub (f : ByteArray → Bool) : ∀ (m : Nat) (l : List Nd), l.length ≤ m → (T (sub f l)).map (·.1) = (T l).map fun x => (sub f (l.take x.1)).length
  | 0, l, h => by
    have : l = [] := List.eq_nil_of_length_eq_zero (by omega)
    subst this
    rfl
  | m + 1, [], _ => rfl
  | m + 1, n :: r, hm => by
    have hr : r.length ≤ m := by simpa using hm
    cases h : hit f n with
    | true =>
      have hk : ar n.k = 0 := by rw [hit_k h]; rfl
      rw [sub_yes h, T_alt n hk, leaf n hk]
      simp only [Option.map_some, List.take_succ_cons, List.take_zero]
      rw [sub_yes h, sub_nil]
      rfl
    | false =>
      rw [sub_no h, T_cons, T_cons]
      by_cases h0 : ar n.k < 0
      · rw [if_pos h0, if_pos h0]; rfl
      · rw [if_neg h0, if_neg h0]
        have hs := S_sub f r (fun c => T_sub f m (r.drop c) (by rw [List.length_drop]; omega)) (ar n.k).toNat
        cases h1 : S (ar n.k).toNat r with
        | none =>
          rw [h1] at hs
          cases h2 : S (ar n.k).toNat (sub f r) with
          | none => rfl
          | some y => rw [h2] at hs; cases hs
        | some y =>
          obtain ⟨c, d⟩ := y
          rw [h1] at hs
          cases h2 : S (ar n.k).toNat (sub f r) with
          | none => rw [h2] at hs; cases hs
          | some y' =>
            obtain ⟨c', d'⟩ := y'
            rw [h2] at hs
            simp only [Option.map_some, Option.some.injEq] at hs ⊢
            rw [hs, List.take_succ_cons, sub_no h, List.length_cons]
theorem T_subs (f : ByteArray → Bool) (l : List Nd) : (T (sub f l)).map (·.1) = (T l).map fun x => (sub f (l.take x.1)).length := T_sub f l.length l (Nat.le_refl _)
theorem S_subs (f : ByteArray → Bool) (j : Nat) (r : List Nd) : (S j (sub f r)).map (·.1) = (S j r).map fun x => (sub f (r.take x.1)).length := S_sub f r (fun _ => T_subs f _) j
theorem size_map (l : List Nd) : size l = ((T l).map (·.1)).getD 0 := by
  unfold size
  cases T l with
  | none => rfl
  | some x => rfl
theorem size_sub (f : ByteArray → Bool) (l : List Nd) : size (sub f l) = (sub f (l.take (size l))).length := by
  rw [size_map, T_subs, size_map]
  cases T l with
  | none => rfl
  | some x => rfl
theorem take_sub (f : ByteArray → Bool) (l : List Nd) (c : Nat) : (sub f l).take (sub f (l.take c)).length = sub f (l.take c) := by
  have : sub f l = sub f (l.take c) ++ sub f (l.drop c) := by rw [← sub_append, List.take_append_drop]
  rw [this, List.take_append_of_le_length (Nat.le_refl _), List.take_length]
theorem drop_sub (f : ByteArray → Bool) (l : List Nd) (c : Nat) : (sub f l).drop (sub f (l.take c)).length = sub f (l.drop c) := by
  have : sub f l = sub f (l.take c) ++ sub f (l.drop c) := by rw [← sub_append, List.take_append_drop]
  rw [this, List.drop_append_of_le_length (Nat.le_refl _), List.drop_length, List.nil_append]
theorem kidsN_sub (f : ByteArray → Bool) : ∀ (j : Nat) (r : List Nd), S j r ≠ none → kidsN j (sub f r) = (kidsN j r).map (sub f)
  | 0, _, _ => rfl
  | j + 1, r, h => by
    have hj : S j r ≠ none := fun e => h (by rw [S_succ, e])
    rw [kidsN, kidsN, List.map_append, kidsN_sub f j r hj]
    congr 1
    have hs := S_subs f j r
    cases h1 : S j r with
    | none => exact absurd h1 hj
    | some y =>
      rw [h1] at hs
      cases h2 : S j (sub f r) with
      | none => rw [h2] at hs; cases hs
      | some y' =>
        rw [h2] at hs
        simp only [Option.map_some, Option.some.injEq] at hs
        simp only [Option.getD_some, List.map_cons, List.map_nil]
        rw [hs, drop_sub, size_sub, take_sub]
theorem size_zero (f : ByteArray → Bool) (l : List Nd) : size (sub f l) = 0 ↔ size l = 0 := by
  rw [size_sub]
  constructor
  · intro h
    have h1 := (sub_le f (l.take (size l))).1
    rw [List.length_take, Nat.min_eq_left (size_le l)] at h1
    omega
  · intro h
    rw [h]
    rfl
theorem kids_sub {f : ByteArray → Bool} {n : Nd} (h : hit f n = false) (r : List Nd) : kids (sub f (n :: r)) = (kids (n :: r)).map (sub f) := by
  have hz := size_zero f (n :: r)
  unfold kids
  by_cases h0 : size (n :: r) = 0
  · rw [if_pos h0, if_pos (hz.2 h0)]; rfl
  · rw [if_neg h0, if_neg (fun e => h0 (hz.1 e)), sub_no h]
    simp only
    refine kidsN_sub f _ r fun e => h0 ?_
    rw [size_pos, T_cons]
    split
    · rfl
    · rw [e]
theorem kids_alt (x : Nd) (hx : ar x.k = 0) (r : List Nd) : kids (alt :: x :: thr :: r) = [[x], [thr]] := by
  have hs : size (alt :: x :: thr :: r) = 3 := by unfold size; rw [T_alt x hx]
  have e1 : S 1 (x :: thr :: r) = some (1, 1) := by
    rw [show (1 : Nat) = 0 + 1 from rfl, S_succ, S_zero]
    simp only [List.drop_zero, leaf x hx]
    rfl
  unfold kids
  rw [if_neg (by rw [hs]; decide)]
  simp only [show (ar alt.k).toNat = 1 + 1 from rfl]
  rw [kidsN, e1, show (1 : Nat) = 0 + 1 from rfl, kidsN, S_zero, kidsN]
  have z1 : size (x :: thr :: r) = 1 := by unfold size; rw [leaf x hx]
  have z2 : size (thr :: r) = 1 := by unfold size; rw [leaf thr rfl]
  simp only [Option.getD_some, List.drop_zero, List.drop_succ_cons, z1, z2, List.take_succ_cons, List.take_zero, List.nil_append]
  rfl
theorem getD_sub {f : ByteArray → Bool} {n : Nd} (h : hit f n = false) (r : List Nd) (i : Nat) : (kids (sub f (n :: r))).getD i [] = sub f ((kids (n :: r)).getD i []) := by
  rw [kids_sub h, List.getD_eq_getElem?_getD, List.getD_eq_getElem?_getD, List.getElem?_map]
  cases (kids (n :: r))[i]? with
  | none => rfl
  | some y => rfl
theorem hd_sub {f : ByteArray → Bool} {n : Nd} (h : hit f n = false) (r : List Nd) : hd (sub f (n :: r)) = hd (n :: r) := by rw [sub_no h]; rfl
theorem stepB_sub {f : ByteArray → Bool} {n : Nd} (h : hit f n = false) (r : List Nd) (t : Nat → List Nd → Bool) (s : Nat) : stepB t s (sub f (n :: r)) = stepB (fun s k => t s (sub f k)) s (n :: r) := by
  unfold stepB plainB pairedB plainOnB pairedOnB k0 k1
  simp only [getD_sub h, hd_sub h]
theorem Is_act {x : Nd} (hx : x.k = 1) (r : List Nd) (s : Nat) (h1 : 1 ≤ s) (h4 : s ≤ 4) : Is s (x :: r) = (s == 1 || s == 3) := by
  have hh : hd (x :: r) = 1 := hx
  have c : s = 1 ∨ s = 2 ∨ s = 3 ∨ s = 4 := by omega
  rcases c with rfl | rfl | rfl | rfl
  · rw [Is_one]; unfold plainB; rw [hh]; rfl
  · rw [Is_two]; unfold pairedB; rw [hh]; rfl
  · rw [Is_three]; unfold plainB; rw [hh]; rfl
  · rw [Is_four]; unfold pairedB pairedOnB; rw [hh]; rfl
theorem Is_thr (r : List Nd) : Is 1 (thr :: r) = true ∧ Is 2 (thr :: r) = false ∧ Is 3 (thr :: r) = true ∧ Is 4 (thr :: r) = false := by
  have hh : hd (thr :: r) = 3 := rfl
  refine ⟨?_, ?_, ?_, ?_⟩
  · rw [Is_one]; unfold plainB; rw [hh]; rfl
  · rw [Is_two]; unfold pairedB; rw [hh]; rfl
  · rw [Is_three]; unfold plainB; rw [hh]; rfl
  · rw [Is_four]; unfold pairedB pairedOnB; rw [hh]; rfl
theorem Is_alt {x : Nd} (hx : x.k = 1) (r : List Nd) (s : Nat) (h1 : 1 ≤ s) (h4 : s ≤ 4) : Is s (alt :: x :: thr :: r) = (s == 1 || s == 3) := by
  have hh : hd (alt :: x :: thr :: r) = 6 := rfl
  have hk := kids_alt x (by rw [hx]; rfl) r
  have e0 : k0 (alt :: x :: thr :: r) = [x] := by unfold k0; rw [hk]; rfl
  have e1 : k1 (alt :: x :: thr :: r) = [thr] := by unfold k1; rw [hk]; rfl
  have c : s = 1 ∨ s = 2 ∨ s = 3 ∨ s = 4 := by omega
  have p1 : plainB Is (alt :: x :: thr :: r) = true := by
    unfold plainB
    rw [hh, e0, e1, Is_act hx [] 1 (by omega) (by omega), (Is_thr []).1]
    rfl
  have p2 : pairedB Is (alt :: x :: thr :: r) = false := by
    unfold pairedB
    rw [hh, e0, e1, Is_act hx [] 2 (by omega) (by omega), (Is_thr []).2.1]
    rfl
  rcases c with rfl | rfl | rfl | rfl
  · rw [Is_one, p1]; rfl
  · rw [Is_two, p2]; rfl
  · rw [Is_three, p1]; rfl
  · rw [Is_four, p2]; unfold pairedOnB; rw [hh]; rfl
/-- Rewritten, a row is of the sort that it was. -/
theorem Is_sub (f : ByteArray → Bool) : ∀ (m : Nat) (l : List Nd) (s : Nat), l.length ≤ m → 1 ≤ s → s ≤ 4 → Is s (sub f l) = Is s l
  | 0, l, s, h, _, _ => by
    have : l = [] := List.eq_nil_of_length_eq_zero (by omega)
    subst this
    rfl
  | m + 1, [], _, _, _, _ => rfl
  | m + 1, n :: r, s, hm, h1, h4 => by
    cases h : hit f n with
    | true => rw [sub_yes h, Is_alt (hit_k h) _ s h1 h4, Is_act (hit_k h) _ s h1 h4]
    | false =>
      have hk : ∀ s i, 1 ≤ s → s ≤ 4 → Is s (sub f ((kids (n :: r)).getD i [])) = Is s ((kids (n :: r)).getD i []) := fun s i h1 h4 => Is_sub f m _ s (by have := getD_short (n :: r) i (by simp); omega) h1 h4
      rw [Is_eq s (sub f (n :: r)), stepB_sub h, Is_eq s (n :: r)]
      unfold stepB plainB pairedB plainOnB pairedOnB k0 k1
      simp only [hk 1 _ (by omega) (by omega), hk 2 _ (by omega) (by omega), hk 3 _ (by omega) (by omega), hk 4 _ (by omega) (by omega)]
theorem whole_sub (f : ByteArray → Bool) (l : List Nd) (h : (sub f l).length ≤ 200) : whole (sub f l) = whole l := by
  have hl := sub_le f l
  unfold whole
  rw [sub_rgt]
  congr 1
  · congr 1
    rw [show decide ((sub f l).length ≤ 200) = true from decide_eq_true h, show decide (l.length ≤ 200) = true from decide_eq_true (by omega), decide_eq_decide.2 (show 1 ≤ (sub f l).length ↔ 1 ≤ l.length by omega)]
  · refine decide_eq_decide.2 ?_
    rw [size_sub]
    have hz := size_le l
    constructor
    · intro e
      have h1 := sub_len f (l.take (size l))
      have h2 := sub_len f l
      have h3 : (l.take (size l)).countP (hit f) ≤ l.countP (hit f) := (List.take_sublist _ _).countP_le
      rw [List.length_take, Nat.min_eq_left hz] at h1
      omega
    · intro e
      rw [e, List.take_length]
theorem of_sub (f : ByteArray → Bool) (l : List Nd) (h : (sub f l).length ≤ 200) : of (sub f l) = of l := by
  unfold of first
  rw [whole_sub f l h, Is_sub f _ l 1 (Nat.le_refl _) (by omega) (by omega), Is_sub f _ l 2 (Nat.le_refl _) (by omega) (by omega), Is_sub f _ l 3 (Nat.le_refl _) (by omega) (by omega), Is_sub f _ l 4 (Nat.le_refl _) (by omega) (by omega)]

/-- Without what may be refused. -/
def strip : List Nd → List Nd
  | a :: x :: b :: l => if a = alt ∧ x.k = 1 ∧ b = thr then x :: strip l else a :: strip (x :: b :: l)
  | [a, x] => [a, x]
  | [a] => [a]
  | [] => []
/-- Does a row begin so? -/
def pat : List Nd → Prop
  | a :: x :: b :: _ => a = alt ∧ x.k = 1 ∧ b = thr
  | _ => False
theorem strip_pat (x : Nd) (hx : x.k = 1) (l : List Nd) : strip (alt :: x :: thr :: l) = x :: strip l := by
  rw [strip, if_pos ⟨rfl, hx, rfl⟩]
theorem strip_not {a : Nd} {l : List Nd} (h : ¬ pat (a :: l)) : strip (a :: l) = a :: strip l := by
  match l with
  | [] => rfl
  | [x] => rfl
  | x :: b :: l => rw [strip, if_neg (show ¬ (a = alt ∧ x.k = 1 ∧ b = thr) from h)]
theorem strip_len : ∀ (m : Nat) (l : List Nd), l.length ≤ m → (strip l).length ≤ l.length
  | 0, l, h => by
    have : l = [] := List.eq_nil_of_length_eq_zero (by omega)
    subst this
    exact Nat.le_refl _
  | m + 1, [], _ => Nat.le_refl _
  | m + 1, a :: l, h => by
    by_cases hp : pat (a :: l)
    · match l, hp with
      | x :: b :: l, ⟨h1, h2, h3⟩ =>
        subst h1 h3
        have := strip_len m l (by simp at h; omega)
        rw [strip_pat x h2]
        simp only [List.length_cons]
        omega
    · rw [strip_not hp]
      have := strip_len m l (by simpa using h)
      simp only [List.length_cons]
      omega
/-- No part of a row that is its own strip begins so. -/
theorem strip_self : ∀ (l : List Nd), strip l = l → ∀ k, ¬ pat (l.drop k)
  | [], _, k => by rw [List.drop_nil]; exact id
  | a :: l, h, k => by
    have hp : ¬ pat (a :: l) := by
      intro hp
      match l, hp with
      | x :: b :: l, ⟨h1, h2, h3⟩ =>
        subst h1 h3
        rw [strip_pat x h2] at h
        have h1 := congrArg List.length h
        have h2 := strip_len l.length l (Nat.le_refl _)
        simp only [List.length_cons] at h1
        omega
    cases k with
    | zero => exact hp
    | succ k =>
      rw [strip_not hp] at h
      injection h with _ h
      exact strip_self l h k
theorem strip_sub (f : ByteArray → Bool) : ∀ (l : List Nd), (∀ k, ¬ pat (l.drop k)) → strip (sub f l) = l
  | [], _ => rfl
  | a :: l, h => by
    have ih := strip_sub f l fun k => h (k + 1)
    cases ha : hit f a with
    | true => rw [sub_yes ha, strip_pat a (hit_k ha), ih]
    | false =>
      rw [sub_no ha, strip_not, ih]
      intro hp
      match l with
      | [] => exact hp
      | x :: l =>
        cases hx : hit f x with
        | true =>
          rw [sub_yes hx] at hp
          exact absurd hp.2.1 (by decide)
        | false =>
          rw [sub_no hx] at hp
          match l with
          | [] => exact hp
          | b :: l =>
            cases hb : hit f b with
            | true =>
              rw [sub_yes hb] at hp
              exact absurd hp.2.2 (by decide)
            | false =>
              rw [sub_no hb] at hp
              exact h 0 hp
end Go.Proofs.Ytpkbpooiaddcaaa.Rf
