/- Plain: trees at places of a row; which nodes go on, told node by node; the nodes above a place, and what is beside it. Plain: moves of two side by side; a refused action. Plain: the moves of a row; rows of moves in memory. -/
import Derived.Test.YtpingbiibbmcaaaGreatQ23
import Derived.Test.YtpingbiibbmcaaaGreatQ09

namespace Go.Proofs.YtpingbiibbmcaaaGreat.Do
open Go Go.Proofs.YtpingbiibbmcaaaGreat.Rw Go.Proofs.YtpingbiibbmcaaaGreat.So Go.Proofs.YtpingbiibbmcaaaGreat.Se

/-- A tree stands at a place of a row. -/
def AtT (l : List Nd) (i : Nat) (t : Tm) : Prop := ∃ p q, l = p ++ (flat t ++ q) ∧ p.length = i
theorem AtT.self (t : Tm) : AtT (flat t) 0 t := ⟨[], [], by simp, rfl⟩
theorem AtT.lt {l : List Nd} {i : Nat} {t : Tm} (h : AtT l i t) : i + sz t ≤ l.length := by
  obtain ⟨p, q, rfl, rfl⟩ := h
  simp only [List.length_append, Se.flat_len]
  omega
theorem AtT.drop {l : List Nd} {i : Nat} {t : Tm} (h : AtT l i t) : ∃ q, l.drop i = flat t ++ q := by
  obtain ⟨p, q, rfl, rfl⟩ := h
  exact ⟨q, List.drop_left ..⟩
theorem AtT.size {l : List Nd} {i : Nat} {t : Tm} (h : AtT l i t) : size (l.drop i) = sz t := by
  obtain ⟨q, e⟩ := h.drop
  obtain ⟨d, hd⟩ := tre_flat t
  rw [e]
  unfold Rw.size
  rw [T_append q hd]
  exact Se.flat_len t
/-- A node with two trees, a node with one. -/
theorem at_two {l : List Nd} {i : Nat} {x : Nd} {a b t : Tm} (h : AtT l i t) (e : flat t = x :: (flat a ++ flat b)) : l[i]? = some x ∧ AtT l (i + 1) a ∧ AtT l (i + 1 + sz a) b := by
  obtain ⟨p, q, rfl, rfl⟩ := h
  rw [e]
  refine ⟨by simp, ⟨p ++ [x], flat b ++ q, by simp, by simp⟩, ⟨p ++ x :: flat a, q, by simp, by simp [Se.flat_len]; omega⟩⟩
theorem at_one {l : List Nd} {i : Nat} {x : Nd} {a t : Tm} (h : AtT l i t) (e : flat t = x :: flat a) : l[i]? = some x ∧ AtT l (i + 1) a := by
  obtain ⟨p, q, rfl, rfl⟩ := h
  rw [e]
  exact ⟨by simp, ⟨p ++ [x], q, by simp, by simp⟩⟩
theorem at_none {l : List Nd} {i : Nat} {x : Nd} {t : Tm} (h : AtT l i t) (e : flat t = [x]) : l[i]? = some x := by
  obtain ⟨p, q, rfl, rfl⟩ := h
  rw [e]
  simp

/-- The kids that go on with a node, the second one ahead. -/
def kdK (l : List Nd) (i : Nat) (k : Int) : List Nat := if k = 7 then [i + 1 + size (l.drop (i + 1)), i + 1] else if k = 5 ∨ k = 8 ∨ k = 9 ∨ k = 12 ∨ k = 13 then [i + 1] else []
def kdA (l : List Nd) (i : Nat) : List Nat := match l[i]? with
  | some x => kdK l i x.k
  | none => []
theorem kdA_at {l : List Nd} {i : Nat} {x : Nd} (h : l[i]? = some x) : kdA l i = kdK l i x.k := by unfold kdA; rw [h]
/-- Does a node of that kind go on only by a move? -/
def wk (k : Int) : Bool := k == 1 || k == 6 || k == 4 || k == 10
def wkAt (l : List Nd) (i : Nat) : Bool := match l[i]? with
  | some x => wk x.k
  | none => false
theorem wk_at {l : List Nd} {i : Nat} {x : Nd} (h : l[i]? = some x) : wkAt l i = wk x.k := by unfold wkAt; rw [h]
abbrev StaA := (Nat → Bool) × List Nat
/-- One node more. -/
def stpA (l : List Nd) (k : Nat) (s : StaA) : StaA := if s.1 k = true then (fun j => s.1 j || decide (j ∈ kdA l k), if wkAt l k = true then s.2 ++ [k] else s.2) else s
def runA (l : List Nd) : Nat → Nat → StaA → StaA
  | _, 0, s => s
  | i, n + 1, s => runA l (i + 1) n (stpA l i s)
theorem run_add (l : List Nd) : ∀ (m n i : Nat) (s : StaA), runA l i (m + n) s = runA l (i + m) n (runA l i m s)
  | 0, n, i, s => by simp [runA]
  | m + 1, n, i, s => by
    rw [show m + 1 + n = m + n + 1 by omega, runA, run_add l m n (i + 1), runA, show i + 1 + m = i + (m + 1) by omega]
theorem run_last (l : List Nd) (n : Nat) (s : StaA) : runA l 0 (n + 1) s = stpA l n (runA l 0 n s) := by
  rw [run_add l n 1 0 s]
  simp [runA]
def GoodA (t : Tm) : Prop := ∀ (l : List Nd) (i : Nat) (s : StaA), AtT l i t → (∀ j, i < j → j < i + sz t → s.1 j = false) →
  (runA l i (sz t) s).2 = s.2 ++ (if s.1 i = true then wt t i else []) ∧ ∀ j, (j < i ∨ i + sz t ≤ j) → (runA l i (sz t) s).1 j = s.1 j
theorem good_leaf {t : Tm} {x : Nd} (e : flat t = [x]) (hs : sz t = 1) (hk : ∀ l i, kdK l i x.k = []) (hw : ∀ i, wt t i = if wk x.k = true then [i] else []) : GoodA t := by
  intro l i s h _
  have hx := at_none h e
  rw [hs]
  simp only [runA]
  unfold stpA
  rw [kdA_at hx, wk_at hx, hk]
  by_cases h0 : s.1 i = true
  · rw [if_pos h0, if_pos h0, hw]
    refine ⟨?_, fun j _ => by simp⟩
    split <;> simp
  · rw [if_neg h0, if_neg h0]
    exact ⟨by simp, fun _ _ => rfl⟩
theorem good_one {t a : Tm} {x : Nd} (ia : GoodA a) (e : flat t = x :: flat a) (hs : sz t = 1 + sz a) (f w : Bool) (hk : ∀ l i j, j ∈ kdK l i x.k ↔ (f = true ∧ j = i + 1)) (hw : wk x.k = w)
    (hwt : ∀ i, wt t i = (if w = true then [i] else []) ++ (if f = true then wt a (i + 1) else [])) : GoodA t := by
  intro l i s h hz
  obtain ⟨hx, ha⟩ := at_one h e
  have hp := sz_pos a
  rw [hs] at hz ⊢
  rw [run_add l 1 (sz a) i s, show runA l i 1 s = stpA l i s from rfl]
  have q : ∀ j, (stpA l i s).1 j = (s.1 j || (s.1 i && f && decide (j = i + 1))) := fun j => by
    unfold stpA
    split
    · rename_i h0
      show (s.1 j || decide (j ∈ kdA l i)) = _
      rw [kdA_at hx, h0]
      congr 1
      rw [Bool.eq_iff_iff]
      simp [hk]
    · rename_i h0
      rw [Bool.not_eq_true] at h0
      simp [h0]
  have q2 : (stpA l i s).2 = s.2 ++ if s.1 i = true ∧ w = true then [i] else [] := by
    unfold stpA
    rw [wk_at hx, hw]
    split
    · rename_i h0
      cases w <;> simp [h0]
    · rename_i h0
      simp [h0]
  obtain ⟨r1, r2⟩ := ia l (i + 1) (stpA l i s) ha (fun j h1 h2 => by rw [q, hz j (by omega) (by omega)]; simp; intros; omega)
  rw [r1, q2, q (i + 1), hz (i + 1) (by omega) (by omega), hwt]
  refine ⟨?_, fun j hj => ?_⟩
  · cases s.1 i <;> cases f <;> cases w <;> simp
  · rw [r2 j (by omega), q]
    have : decide (j = i + 1) = false := by simp; omega
    rw [this]
    simp
theorem good_two {t a b : Tm} {x : Nd} (ia : GoodA a) (ib : GoodA b) (e : flat t = x :: (flat a ++ flat b)) (hs : sz t = 1 + sz a + sz b) (f g w : Bool)
    (hk : ∀ l i j, size (l.drop (i + 1)) = sz a → (j ∈ kdK l i x.k ↔ (f = true ∧ j = i + 1) ∨ (g = true ∧ j = i + 1 + sz a))) (hw : wk x.k = w)
    (hwt : ∀ i, wt t i = (if w = true then [i] else []) ++ (if f = true then wt a (i + 1) else []) ++ (if g = true then wt b (i + 1 + sz a) else [])) : GoodA t := by
  intro l i s h hz
  obtain ⟨hx, ha, hb⟩ := at_two h e
  have hp := sz_pos a
  have hp2 := sz_pos b
  rw [hs] at hz ⊢
  rw [run_add l (1 + sz a) (sz b) i s, run_add l 1 (sz a) i s, show runA l i 1 s = stpA l i s from rfl, show i + (1 + sz a) = i + 1 + sz a by omega]
  have q : ∀ j, (stpA l i s).1 j = (s.1 j || (s.1 i && ((f && decide (j = i + 1)) || (g && decide (j = i + 1 + sz a))))) := fun j => by
    unfold stpA
    split
    · rename_i h0
      show (s.1 j || decide (j ∈ kdA l i)) = _
      rw [kdA_at hx, h0]
      congr 1
      rw [Bool.eq_iff_iff]
      simp [hk l i j ha.size]
    · rename_i h0
      rw [Bool.not_eq_true] at h0
      simp [h0]
  have q2 : (stpA l i s).2 = s.2 ++ if s.1 i = true ∧ w = true then [i] else [] := by
    unfold stpA
    rw [wk_at hx, hw]
    split
    · rename_i h0
      cases w <;> simp [h0]
    · rename_i h0
      simp [h0]
  obtain ⟨r1, r2⟩ := ia l (i + 1) (stpA l i s) ha (fun j h1 h2 => by
    rw [q, hz j (by omega) (by omega), show decide (j = i + 1) = false by simp; omega, show decide (j = i + 1 + sz a) = false by simp; omega]; simp)
  obtain ⟨u1, u2⟩ := ib l (i + 1 + sz a) (runA l (i + 1) (sz a) (stpA l i s)) hb (fun j h1 h2 => by
    rw [r2 j (by omega), q, hz j (by omega) (by omega), show decide (j = i + 1) = false by simp; omega, show decide (j = i + 1 + sz a) = false by simp; omega]; simp)
  rw [u1, r1, q2, r2 (i + 1 + sz a) (by omega), q (i + 1), q (i + 1 + sz a), hz (i + 1) (by omega) (by omega), hz (i + 1 + sz a) (by omega) (by omega), hwt]
  refine ⟨?_, fun j hj => ?_⟩
  · rw [show decide (i + 1 = i + 1 + sz a) = false by simp; omega, show decide (i + 1 + sz a = i + 1) = false by simp; omega]
    cases s.1 i <;> cases f <;> cases g <;> cases w <;> simp
  · rw [u2 j (by omega), r2 j (by omega), q, show decide (j = i + 1) = false by simp; omega, show decide (j = i + 1 + sz a) = false by simp; omega]
    simp
theorem good : ∀ t : Tm, GoodA t := by
  intro t
  induction t with
  | act s => exact good_leaf (x := nAct s) rfl rfl (fun _ _ => rfl) fun _ => rfl
  | skip => exact good_leaf (x := nOf 2) rfl rfl (fun _ _ => rfl) fun _ => rfl
  | throw => exact good_leaf (x := nOf 3) rfl rfl (fun _ _ => rfl) fun _ => rfl
  | yield => exact good_leaf (x := nOf 4) rfl rfl (fun _ _ => rfl) fun _ => rfl
  | over s => exact good_leaf (x := ⟨11, ⟨#[]⟩, s⟩) rfl rfl (fun _ _ => rfl) fun _ => rfl
  | fin s c ic => exact good_one (x := nEnd s) ic rfl (by simp only [sz]; omega) false false (fun _ _ _ => by simp [kdK]) rfl fun i => by simp [wt]
  | block a ia => exact good_one (x := nOf 9) ia rfl (by simp only [sz]; omega) true false (fun _ _ _ => by simp [kdK, nOf]) rfl fun i => by simp [wt]
  | seq a b ia ib => exact good_two (x := nOf 5) ia ib rfl (by simp only [sz]; omega) true false false (fun _ _ _ _ => by simp [kdK, nOf]) rfl fun i => by simp [wt]
  | hand a b ia ib => exact good_two (x := nOf 8) ia ib rfl (by simp only [sz]; omega) true false false (fun _ _ _ _ => by simp [kdK, nOf]) rfl fun i => by simp [wt]
  | going a b ia ib => exact good_two (x := nOf 12) ia ib rfl (by simp only [sz]; omega) true false false (fun _ _ _ _ => by simp [kdK, nOf]) rfl fun i => by simp [wt]
  | stack a b ia ib => exact good_two (x := nOf 13) ia ib rfl (by simp only [sz]; omega) true false false (fun _ _ _ _ => by simp [kdK, nOf]) rfl fun i => by simp [wt]
  | alt a b ia ib => exact good_two (x := nOf 6) ia ib rfl (by simp only [sz]; omega) false false true (fun _ _ _ _ => by simp [kdK, nOf]) rfl fun i => by simp [wt]
  | pair a b ia ib => exact good_two (x := nOf 10) ia ib rfl (by simp only [sz]; omega) false false true (fun _ _ _ _ => by simp [kdK, nOf]) rfl fun i => by simp [wt]
  | par a b ia ib => exact good_two (x := nOf 7) ia ib rfl (by simp only [sz]; omega) true true false (fun l i j e => by simp [kdK, nOf, e]; omega) rfl fun i => by simp [wt]
/-- The start: the first node goes on. -/
def st0 : StaA := (fun j => decide (j = 0), [])
theorem run_all (t : Tm) : (runA (flat t) 0 (sz t) st0).2 = wt t 0 := by
  obtain ⟨h, _⟩ := good t (flat t) 0 st0 (AtT.self t) (fun j h1 _ => by show decide (j = 0) = false; simp; omega)
  rw [h]
  simp [st0]
/-- The kids lie in the tree. -/
theorem kdA_in : ∀ (t : Tm) (l : List Nd) (i : Nat), AtT l i t → ∀ k, i ≤ k → k < i + sz t → ∀ j ∈ kdA l k, k < j ∧ j < i + sz t := by
  have leaf : ∀ {t : Tm} {x : Nd}, flat t = [x] → sz t = 1 → (∀ l i, kdK l i x.k = []) → ∀ (l : List Nd) (i : Nat), AtT l i t → ∀ k, i ≤ k → k < i + sz t → ∀ j ∈ kdA l k, k < j ∧ j < i + sz t := by
    intro t x e hs hk l i h k h1 h2 j hj
    obtain rfl : k = i := by omega
    rw [kdA_at (at_none h e), hk] at hj
    cases hj
  have one : ∀ {t a : Tm} {x : Nd}, (∀ (l : List Nd) (i : Nat), AtT l i a → ∀ k, i ≤ k → k < i + sz a → ∀ j ∈ kdA l k, k < j ∧ j < i + sz a) → flat t = x :: flat a → sz t = 1 + sz a → (∀ l i j, j ∈ kdK l i x.k → j = i + 1) →
      ∀ (l : List Nd) (i : Nat), AtT l i t → ∀ k, i ≤ k → k < i + sz t → ∀ j ∈ kdA l k, k < j ∧ j < i + sz t := by
    intro t a x ia e hs hk l i h k h1 h2 j hj
    obtain ⟨hx, ha⟩ := at_one h e
    have := sz_pos a
    by_cases hki : k = i
    · subst hki
      rw [kdA_at hx] at hj
      have := hk _ _ _ hj
      omega
    · have := ia l (i + 1) ha k (by omega) (by omega) j hj
      omega
  have two : ∀ {t a b : Tm} {x : Nd}, (∀ (l : List Nd) (i : Nat), AtT l i a → ∀ k, i ≤ k → k < i + sz a → ∀ j ∈ kdA l k, k < j ∧ j < i + sz a) → (∀ (l : List Nd) (i : Nat), AtT l i b → ∀ k, i ≤ k → k < i + sz b → ∀ j ∈ kdA l k, k < j ∧ j < i + sz b) →
      flat t = x :: (flat a ++ flat b) → sz t = 1 + sz a + sz b → (∀ l i j, size (l.drop (i + 1)) = sz a → j ∈ kdK l i x.k → j = i + 1 ∨ j = i + 1 + sz a) →
      ∀ (l : List Nd) (i : Nat), AtT l i t → ∀ k, i ≤ k → k < i + sz t → ∀ j ∈ kdA l k, k < j ∧ j < i + sz t := by
    intro t a b x ia ib e hs hk l i h k h1 h2 j hj
    obtain ⟨hx, ha, hb⟩ := at_two h e
    have := sz_pos a
    have := sz_pos b
    by_cases hki : k = i
    · subst hki
      rw [kdA_at hx] at hj
      have := hk _ _ _ ha.size hj
      omega
    · by_cases hka : k < i + 1 + sz a
      · have := ia l (i + 1) ha k (by omega) (by omega) j hj
        omega
      · have := ib l (i + 1 + sz a) hb k (by omega) (by omega) j hj
        omega
  intro t
  induction t with
  | act s => exact leaf (x := nAct s) rfl rfl (fun _ _ => rfl)
  | skip => exact leaf (x := nOf 2) rfl rfl (fun _ _ => rfl)
  | throw => exact leaf (x := nOf 3) rfl rfl (fun _ _ => rfl)
  | yield => exact leaf (x := nOf 4) rfl rfl (fun _ _ => rfl)
  | over s => exact leaf (x := ⟨11, ⟨#[]⟩, s⟩) rfl rfl (fun _ _ => rfl)
  | fin s c ic => exact one (x := nEnd s) ic rfl (by simp only [sz]; omega) (fun _ _ _ => by simp [kdK])
  | block a ia => exact one (x := nOf 9) ia rfl (by simp only [sz]; omega) (fun _ _ _ => by simp [kdK, nOf])
  | seq a b ia ib => exact two (x := nOf 5) ia ib rfl (by simp only [sz]; omega) (fun _ _ _ _ => by simp [kdK, nOf]; intro h; exact .inl h)
  | hand a b ia ib => exact two (x := nOf 8) ia ib rfl (by simp only [sz]; omega) (fun _ _ _ _ => by simp [kdK, nOf]; intro h; exact .inl h)
  | going a b ia ib => exact two (x := nOf 12) ia ib rfl (by simp only [sz]; omega) (fun _ _ _ _ => by simp [kdK, nOf]; intro h; exact .inl h)
  | stack a b ia ib => exact two (x := nOf 13) ia ib rfl (by simp only [sz]; omega) (fun _ _ _ _ => by simp [kdK, nOf]; intro h; exact .inl h)
  | alt a b ia ib => exact two (x := nOf 6) ia ib rfl (by simp only [sz]; omega) (fun _ _ _ _ => by simp [kdK, nOf])
  | pair a b ia ib => exact two (x := nOf 10) ia ib rfl (by simp only [sz]; omega) (fun _ _ _ _ => by simp [kdK, nOf])
  | par a b ia ib => exact two (x := nOf 7) ia ib rfl (by simp only [sz]; omega) (fun l i j e => by simp [kdK, nOf, e]; omega)

/-- The places of the nodes above a place, from the root on. -/
def abv : Tm → Nat → Nat → List Nat
  | .seq a b, i, p => if i = p then [] else i :: (if p < i + 1 + sz a then abv a (i + 1) p else abv b (i + 1 + sz a) p)
  | .alt a b, i, p => if i = p then [] else i :: (if p < i + 1 + sz a then abv a (i + 1) p else abv b (i + 1 + sz a) p)
  | .par a b, i, p => if i = p then [] else i :: (if p < i + 1 + sz a then abv a (i + 1) p else abv b (i + 1 + sz a) p)
  | .hand a b, i, p => if i = p then [] else i :: (if p < i + 1 + sz a then abv a (i + 1) p else abv b (i + 1 + sz a) p)
  | .pair a b, i, p => if i = p then [] else i :: (if p < i + 1 + sz a then abv a (i + 1) p else abv b (i + 1 + sz a) p)
  | .going a b, i, p => if i = p then [] else i :: (if p < i + 1 + sz a then abv a (i + 1) p else abv b (i + 1 + sz a) p)
  | .stack a b, i, p => if i = p then [] else i :: (if p < i + 1 + sz a then abv a (i + 1) p else abv b (i + 1 + sz a) p)
  | .block a, i, p => if i = p then [] else i :: abv a (i + 1) p
  | .fin _ c, i, p => if i = p then [] else i :: abv c (i + 1) p
  | _, _, _ => []
/-- The places above, as Over tells them. -/
def ovs (l : List Nd) (i p : Nat) : List Nat := (List.range' i (p - i)).filter fun j => decide (p < j + Pl.zz l j)
theorem zz_at {l : List Nd} {i : Nat} {t : Tm} (h : AtT l i t) : Pl.zz l i = sz t := h.size
theorem ovs_out {l : List Nd} (hT : Tre l) {i p : Nat} {t : Tm} (h : AtT l i t) (hp : i + sz t ≤ p) : (List.range' i (sz t)).filter (fun j => decide (p < j + Pl.zz l j)) = [] := by
  rw [List.filter_eq_nil_iff]
  intro j hj
  obtain ⟨h1, h2⟩ := List.mem_range'_1.1 hj
  have hl := h.lt
  rw [decide_eq_true_eq]
  by_cases e : i = j
  · subst e
    rw [zz_at h]
    omega
  · have := (Pl.nest hT (i := i) (j := j) (by omega) (by rw [zz_at h]; omega) (by omega)).1
    rw [zz_at h] at this
    omega
theorem ovs_self (l : List Nd) (i : Nat) : ovs l i i = [] := by unfold ovs; rw [Nat.sub_self]; rfl
theorem ovs_head {l : List Nd} {i p : Nat} {t : Tm} (h : AtT l i t) (h1 : i < p) (h2 : p < i + sz t) : ovs l i p = i :: ovs l (i + 1) p := by
  unfold ovs
  obtain ⟨m, hm⟩ : ∃ m, p - i = m + 1 := ⟨p - i - 1, by omega⟩
  rw [hm, List.range'_succ, List.filter_cons, if_pos (by rw [decide_eq_true_eq, zz_at h]; exact h2), show p - (i + 1) = m by omega]
theorem ovs_past {l : List Nd} (hT : Tre l) {i p : Nat} {a : Tm} (h : AtT l i a) (hp : i + sz a ≤ p) : ovs l i p = ovs l (i + sz a) p := by
  unfold ovs
  rw [show p - i = sz a + (p - (i + sz a)) by omega, ← List.range'_append_1, List.filter_append, ovs_out hT h hp, List.nil_append]
def OvG (t : Tm) : Prop := ∀ (l : List Nd) (i p : Nat), Tre l → AtT l i t → i ≤ p → p < i + sz t → ovs l i p = abv t i p
theorem ov_leaf {t : Tm} (hs : sz t = 1) (ha : ∀ i p, abv t i p = []) : OvG t := by
  intro l i p hT h h1 h2
  obtain rfl : p = i := by omega
  rw [ovs_self, ha]
theorem ov_one {t a : Tm} {x : Nd} (ia : OvG a) (e : flat t = x :: flat a) (hs : sz t = 1 + sz a) (ha : ∀ i p, abv t i p = if i = p then [] else i :: abv a (i + 1) p) : OvG t := by
  intro l i p hT h h1 h2
  obtain ⟨hx, hta⟩ := at_one h e
  rw [ha]
  by_cases hip : i = p
  · rw [if_pos hip, hip, ovs_self]
  · rw [if_neg hip, ovs_head h (by omega) h2, ia l (i + 1) p hT hta (by omega) (by omega)]
theorem ov_two {t a b : Tm} {x : Nd} (ia : OvG a) (ib : OvG b) (e : flat t = x :: (flat a ++ flat b)) (hs : sz t = 1 + sz a + sz b)
    (ha : ∀ i p, abv t i p = if i = p then [] else i :: (if p < i + 1 + sz a then abv a (i + 1) p else abv b (i + 1 + sz a) p)) : OvG t := by
  intro l i p hT h h1 h2
  obtain ⟨hx, hta, htb⟩ := at_two h e
  rw [ha]
  by_cases hip : i = p
  · rw [if_pos hip, hip, ovs_self]
  · rw [if_neg hip, ovs_head h (by omega) h2]
    split
    · rw [ia l (i + 1) p hT hta (by omega) (by omega)]
    · rw [ovs_past hT hta (by omega), ib l (i + 1 + sz a) p hT htb (by omega) (by omega)]
theorem ov_all : ∀ t : Tm, OvG t := by
  intro t
  induction t with
  | fin s c ic => exact ov_one (x := nEnd s) ic rfl (by simp only [sz]; omega) fun _ _ => rfl
  | block a ia => exact ov_one (x := nOf 9) ia rfl (by simp only [sz]; omega) fun _ _ => rfl
  | seq a b ia ib => exact ov_two (x := nOf 5) ia ib rfl (by simp only [sz]; omega) fun _ _ => rfl
  | hand a b ia ib => exact ov_two (x := nOf 8) ia ib rfl (by simp only [sz]; omega) fun _ _ => rfl
  | going a b ia ib => exact ov_two (x := nOf 12) ia ib rfl (by simp only [sz]; omega) fun _ _ => rfl
  | stack a b ia ib => exact ov_two (x := nOf 13) ia ib rfl (by simp only [sz]; omega) fun _ _ => rfl
  | alt a b ia ib => exact ov_two (x := nOf 6) ia ib rfl (by simp only [sz]; omega) fun _ _ => rfl
  | pair a b ia ib => exact ov_two (x := nOf 10) ia ib rfl (by simp only [sz]; omega) fun _ _ => rfl
  | par a b ia ib => exact ov_two (x := nOf 7) ia ib rfl (by simp only [sz]; omega) fun _ _ => rfl
  | _ => exact ov_leaf rfl fun _ _ => rfl
theorem ov_abv (t : Tm) {p : Nat} (hp : p < sz t) : Pl.ov (flat t) p = abv t 0 p := by
  rw [← ov_all t (flat t) 0 p (tre_flat t) (AtT.self t) (Nat.zero_le _) (by omega)]
  unfold Pl.ov ovs
  rw [Nat.sub_zero, List.range_eq_range']

/-- The kind of a node. -/
def kiA (l : List Nd) (u : Nat) : Int := match l[u]? with
  | some x => x.k
  | none => 0
theorem kiA_at {l : List Nd} {i : Nat} {x : Nd} (h : l[i]? = some x) : kiA l i = x.k := by unfold kiA; rw [h]
/-- Those of a row of places up to the first block; and whether there is one. -/
def wth (l : List Nd) : List Nat → List Nat × Bool
  | [] => ([], false)
  | u :: r => if kiA l u = 9 then ([], true) else (u :: (wth l r).1, (wth l r).2)
theorem wth_no (l : List Nd) : ∀ R : List Nat, (wth l R).2 = false → (wth l R).1 = R
  | [], _ => rfl
  | u :: r, h => by
    rw [wth] at h ⊢
    split
    · rename_i h9
      rw [if_pos h9] at h
      cases h
    · rename_i h9
      rw [if_neg h9] at h
      show u :: (wth l r).1 = _
      rw [wth_no l r h]
theorem wth_snoc (l : List Nd) (i : Nat) : ∀ R : List Nat, wth l (R ++ [i]) = if (wth l R).2 = true then wth l R else if kiA l i = 9 then (R, true) else (R ++ [i], false)
  | [] => by simp [wth]
  | u :: r => by
    rw [List.cons_append, wth, wth]
    split
    · simp
    · rw [wth_snoc l i r]
      cases h : (wth l r).2 with
      | true => simp [h]
      | false =>
        simp
        split <;> simp
/-- The kid of a node above in which a place is not. -/
def oth (l : List Nd) (p u : Nat) : List Nd := if p < u + 1 + size (l.drop (u + 1)) then (kids (l.drop u)).getD 1 [] else (kids (l.drop u)).getD 0 []
theorem kidsA_two {n : Nd} (a b : Tm) (q : List Nd) (hk : ar n.k = 2) : kids (n :: (flat a ++ (flat b ++ q))) = [flat a, flat b] := by
  obtain ⟨d1, t1⟩ := tre_flat a
  obtain ⟨d2, t2⟩ := tre_flat b
  have ta := T_append (flat b ++ q) t1
  have tb := T_append q t2
  have s1 : S 1 (flat a ++ (flat b ++ q)) = some ((flat a).length, max 0 d1) := by
    rw [show (1 : Nat) = 0 + 1 from rfl, S_succ, S_zero]
    simp only [List.drop_zero, ta, Nat.zero_add]
  have hd : (flat a ++ (flat b ++ q)).drop (flat a).length = flat b ++ q := List.drop_left ..
  have s2 : S 2 (flat a ++ (flat b ++ q)) = some ((flat a).length + (flat b).length, max (max 0 d1) d2) := by
    rw [show (2 : Nat) = 1 + 1 from rfl, S_succ, s1]
    simp only [hd, tb]
  have hT : T (n :: (flat a ++ (flat b ++ q))) = some ((flat a).length + (flat b).length + 1, max (max 0 d1) d2 + 1) := by
    rw [T_cons, if_neg (by omega), hk, show (2 : Int).toNat = 2 from rfl, s2]
  have e0 : size (n :: (flat a ++ (flat b ++ q))) ≠ 0 := by
    unfold Rw.size
    rw [hT]
    show (flat a).length + (flat b).length + 1 ≠ 0
    omega
  have za : size (flat a ++ (flat b ++ q)) = (flat a).length := by unfold Rw.size; rw [ta]
  have zb : size (flat b ++ q) = (flat b).length := by unfold Rw.size; rw [tb]
  unfold kids
  rw [if_neg e0]
  show kidsN (ar n.k).toNat _ = _
  rw [hk, show (2 : Int).toNat = 0 + 1 + 1 from rfl, kidsN, kidsN, kidsN, S_zero, s1]
  simp only [Option.getD_some, List.drop_zero, hd, za, zb, List.nil_append]
  rw [List.take_left, List.take_left]
  rfl
/-- What is beside a place, of the nodes above it. -/
def bsd (l : List Nd) (p : Nat) (R : List Nat) : List (List Nd) := R.filterMap fun u => if kiA l u = 7 then some (oth l p u) else none
def UpG (t : Tm) : Prop := ∀ (l : List Nd) (i p : Nat), AtT l i t → i ≤ p → p < i + sz t → bsd l p (wth l (abv t i p).reverse).1 = (pth t i p).1.map flat ∧ (wth l (abv t i p).reverse).2 = (pth t i p).2
theorem up_leaf {t : Tm} (ha : ∀ i p, abv t i p = []) (hp : ∀ i p, pth t i p = ([], false)) : UpG t := by
  intro l i p _ _ _
  rw [ha, hp]
  exact ⟨rfl, rfl⟩
/-- One node more above. -/
theorem up_step {l : List Nd} {i p : Nat} {R : List Nat} {u : List Tm} {f : Bool} (h1 : bsd l p (wth l R.reverse).1 = u.map flat) (h2 : (wth l R.reverse).2 = f) (h7 : kiA l i ≠ 7) (h9 : kiA l i ≠ 9) :
    bsd l p (wth l (i :: R).reverse).1 = u.map flat ∧ (wth l (i :: R).reverse).2 = f := by
  rw [List.reverse_cons, wth_snoc, h2, if_neg h9]
  cases f with
  | true => rw [if_pos rfl]; exact ⟨h1, h2⟩
  | false =>
    rw [if_neg (by simp)]
    refine ⟨?_, rfl⟩
    rw [wth_no l _ h2] at h1
    show bsd l p (R.reverse ++ [i]) = _
    rw [← h1]
    unfold bsd
    rw [List.filterMap_append]
    simp [h7]
theorem up_two {t a b : Tm} {x : Nd} (ia : UpG a) (ib : UpG b) (e : flat t = x :: (flat a ++ flat b)) (hs : sz t = 1 + sz a + sz b) (h7 : x.k ≠ 7) (h9 : x.k ≠ 9)
    (ha : ∀ i p, abv t i p = if i = p then [] else i :: (if p < i + 1 + sz a then abv a (i + 1) p else abv b (i + 1 + sz a) p))
    (hp : ∀ i p, pth t i p = if i = p then ([], false) else if p < i + 1 + sz a then pth a (i + 1) p else pth b (i + 1 + sz a) p) : UpG t := by
  intro l i p h h1 h2
  obtain ⟨hx, hta, htb⟩ := at_two h e
  rw [ha, hp]
  by_cases hip : i = p
  · rw [if_pos hip, if_pos hip]
    exact ⟨rfl, rfl⟩
  · rw [if_neg hip, if_neg hip]
    split
    · obtain ⟨u1, u2⟩ := ia l (i + 1) p hta (by omega) (by omega)
      exact up_step u1 u2 (by rw [kiA_at hx]; exact h7) (by rw [kiA_at hx]; exact h9)
    · obtain ⟨u1, u2⟩ := ib l (i + 1 + sz a) p htb (by omega) (by omega)
      exact up_step u1 u2 (by rw [kiA_at hx]; exact h7) (by rw [kiA_at hx]; exact h9)
theorem up_fin {s : Int} {c : Tm} (ic : UpG c) : UpG (.fin s c) := by
  intro l i p h h1 h2
  obtain ⟨hx, hta⟩ := at_one (x := nEnd s) h rfl
  simp only [abv, pth]
  simp only [sz] at h2
  by_cases hip : i = p
  · rw [if_pos hip, if_pos hip]
    exact ⟨rfl, rfl⟩
  · rw [if_neg hip, if_neg hip]
    obtain ⟨u1, u2⟩ := ic l (i + 1) p hta (by omega) (by omega)
    exact up_step u1 u2 (by rw [kiA_at hx]; simp) (by rw [kiA_at hx]; simp)
theorem up_block {a : Tm} (ia : UpG a) : UpG (.block a) := by
  intro l i p h h1 h2
  obtain ⟨hx, hta⟩ := at_one (x := nOf 9) h rfl
  simp only [abv, pth]
  simp only [sz] at h2
  by_cases hip : i = p
  · rw [if_pos hip, if_pos hip]
    exact ⟨rfl, rfl⟩
  · rw [if_neg hip, if_neg hip]
    obtain ⟨u1, u2⟩ := ia l (i + 1) p hta (by omega) (by omega)
    rw [List.reverse_cons, wth_snoc]
    cases hf : (wth l (abv a (i + 1) p).reverse).2 with
    | true =>
      rw [if_pos rfl]
      exact ⟨u1, hf⟩
    | false =>
      rw [if_neg (by simp), if_pos (by rw [kiA_at hx]; rfl)]
      rw [wth_no l _ hf] at u1
      exact ⟨u1, rfl⟩
theorem up_par {a b : Tm} (ia : UpG a) (ib : UpG b) : UpG (.par a b) := by
  intro l i p h h1 h2
  obtain ⟨hx, hta, htb⟩ := at_two (x := nOf 7) h rfl
  have hki : kiA l i = 7 := kiA_at hx
  have hko : ∃ q, l.drop i = nOf 7 :: (flat a ++ (flat b ++ q)) := by
    obtain ⟨q, e⟩ := h.drop
    exact ⟨q, by rw [e]; simp [flat]⟩
  obtain ⟨q, hq⟩ := hko
  have hks : kids (l.drop i) = [flat a, flat b] := by rw [hq]; exact kidsA_two a b q rfl
  have step : ∀ {R : List Nat} {u : List Tm} {f : Bool} {c : Tm}, bsd l p (wth l R.reverse).1 = u.map flat → (wth l R.reverse).2 = f → oth l p i = flat c →
      bsd l p (wth l (i :: R).reverse).1 = (if f = true then (u, f) else (u ++ [c], false)).1.map flat ∧ (wth l (i :: R).reverse).2 = (if f = true then (u, f) else (u ++ [c], false)).2 := by
    intro R u f c e1 e2 e3
    rw [List.reverse_cons, wth_snoc, e2, if_neg (by omega : ¬ kiA l i = 9)]
    cases f with
    | true => rw [if_pos rfl, if_pos rfl]; exact ⟨e1, e2⟩
    | false =>
      rw [if_neg (by simp), if_neg (by simp)]
      refine ⟨?_, rfl⟩
      rw [wth_no l _ e2] at e1
      show bsd l p (R.reverse ++ [i]) = _
      unfold bsd at e1 ⊢
      rw [List.filterMap_append, e1]
      simp [hki, e3]
  simp only [abv, pth]
  simp only [sz] at h2
  by_cases hip : i = p
  · rw [if_pos hip, if_pos hip]
    exact ⟨rfl, rfl⟩
  · rw [if_neg hip, if_neg hip]
    by_cases hpa : p < i + 1 + sz a
    · rw [if_pos hpa, if_pos hpa]
      obtain ⟨u1, u2⟩ := ia l (i + 1) p hta (by omega) (by omega)
      have := step (c := b) u1 u2 (by unfold oth; rw [hta.size, if_pos hpa, hks]; rfl)
      exact this
    · rw [if_neg hpa, if_neg hpa]
      obtain ⟨u1, u2⟩ := ib l (i + 1 + sz a) p htb (by omega) (by omega)
      have := step (c := a) u1 u2 (by unfold oth; rw [hta.size, if_neg hpa, hks]; rfl)
      exact this
theorem up_all : ∀ t : Tm, UpG t := by
  intro t
  induction t with
  | fin s c ic => exact up_fin ic
  | block a ia => exact up_block ia
  | par a b ia ib => exact up_par ia ib
  | seq a b ia ib => exact up_two (x := nOf 5) ia ib rfl (by simp only [sz]; omega) (by simp [nOf]) (by simp [nOf]) (fun _ _ => rfl) fun _ _ => rfl
  | hand a b ia ib => exact up_two (x := nOf 8) ia ib rfl (by simp only [sz]; omega) (by simp [nOf]) (by simp [nOf]) (fun _ _ => rfl) fun _ _ => rfl
  | going a b ia ib => exact up_two (x := nOf 12) ia ib rfl (by simp only [sz]; omega) (by simp [nOf]) (by simp [nOf]) (fun _ _ => rfl) fun _ _ => rfl
  | stack a b ia ib => exact up_two (x := nOf 13) ia ib rfl (by simp only [sz]; omega) (by simp [nOf]) (by simp [nOf]) (fun _ _ => rfl) fun _ _ => rfl
  | alt a b ia ib => exact up_two (x := nOf 6) ia ib rfl (by simp only [sz]; omega) (by simp [nOf]) (by simp [nOf]) (fun _ _ => rfl) fun _ _ => rfl
  | pair a b ia ib => exact up_two (x := nOf 10) ia ib rfl (by simp only [sz]; omega) (by simp [nOf]) (by simp [nOf]) (fun _ _ => rfl) fun _ _ => rfl
  | _ => exact up_leaf (fun _ _ => rfl) fun _ _ => rfl
/-- The nodes above a place lie in the tree. -/
theorem abv_in {t : Tm} {p : Nat} (hp : p < sz t) : ∀ u ∈ abv t 0 p, u < p := by
  intro u hu
  rw [← ov_abv t hp] at hu
  exact (Pl.mem_ov.1 hu).1
end Go.Proofs.YtpingbiibbmcaaaGreat.Do

namespace Go.Proofs.YtpingbiibbmcaaaGreat.Sp
open Go Go.Proofs.YtpingbiibbmcaaaGreat.Rw Go.Proofs.YtpingbiibbmcaaaGreat.So Go.Proofs.YtpingbiibbmcaaaGreat.Se Go.Proofs.YtpingbiibbmcaaaGreat.Tr Go.Proofs.YtpingbiibbmcaaaGreat.Mn Go.Proofs.YtpingbiibbmcaaaGreat.Do

/-- A move farther on. -/
def far (k : Nat) (m : Mo) : Mo := ⟨m.p + k, m.h, m.l, m.r⟩
theorem far_up (k : Nat) (f : Tm → Tm) (l : List Mo) : (l.map (far k)).map (upm f) = (l.map (upm f)).map (far k) := by
  rw [List.map_map, List.map_map]
  rfl
theorem mvs_far (k : Nat) : ∀ (t : Tm) (d : Bool) (i : Nat), mvs d t (i + k) = (mvs d t i).map (far k) := by
  intro t
  induction t with
  | act s => intro d i; rfl
  | alt a b => intro d i; rfl
  | yield => intro d i; cases d <;> rfl
  | pair a b => intro d i; cases d <;> rfl
  | seq a b ia ib => intro d i; simp only [mvs]; rw [show i + k + 1 = i + 1 + k by omega, ia, far_up]
  | hand a b ia ib => intro d i; simp only [mvs]; rw [show i + k + 1 = i + 1 + k by omega, ia, far_up]
  | going a b ia ib => intro d i; simp only [mvs]; rw [show i + k + 1 = i + 1 + k by omega, ia, far_up]
  | stack a b ia ib => intro d i; simp only [mvs]; rw [show i + k + 1 = i + 1 + k by omega, ia, far_up]
  | block a ia => intro d i; simp only [mvs]; rw [show i + k + 1 = i + 1 + k by omega, ia, far_up]
  | par a b ia ib =>
    intro d i
    simp only [mvs]
    rw [show i + k + 1 + sz a = i + 1 + sz a + k by omega, ib, show i + k + 1 = i + 1 + k by omega, ia, far_up, far_up, List.map_append]
  | _ => intro d i; rfl
theorem mv_over {t : Tm} {d : Bool} {i : Nat} {m : Mo} (h : m ∈ mvs d t i) : isOver t = false ∧ isFin t = false := by
  cases t <;> first | exact ⟨rfl, rfl⟩ | exact absurd h (by simp [mvs])
theorem mv_par_l {a b : Tm} {m : Mo} (h : m ∈ mvs true a 0) : (⟨m.p + 1, m.h, m.l, .par m.r b⟩ : Mo) ∈ mvs true (.par a b) 0 := by
  refine List.mem_append_left _ (List.mem_map.2 ⟨far 1 m, ?_, rfl⟩)
  rw [Bool.true_or, mvs_far 1 a true 0]
  exact List.mem_map.2 ⟨m, h, rfl⟩
theorem mv_par_r {a b : Tm} {m : Mo} (h : m ∈ mvs true b 0) : (⟨m.p + (1 + sz a), m.h, m.l, .par a m.r⟩ : Mo) ∈ mvs true (.par a b) 0 := by
  refine List.mem_append_right _ (List.mem_map.2 ⟨far (1 + sz a) m, ?_, rfl⟩)
  have e : mvs true b (0 + 1 + sz a) = (mvs true b 0).map (far (1 + sz a)) := by rw [← mvs_far (1 + sz a) b true 0, ← Nat.add_assoc]
  rw [Bool.true_or, e]
  exact List.mem_map.2 ⟨m, h, rfl⟩
theorem par_stay_r {x b : Tm} (hb : isOver b = false ∧ isFin b = false) : sPar x b = .par x b := by
  cases x <;> try rfl
  · cases b <;> first | rfl | cases hb.1
  · cases b <;> first | rfl | cases hb.2
theorem par_stay_l {a y : Tm} (ha : isOver a = false ∧ isFin a = false) : sPar a y = .par a y := by
  cases a <;> first | rfl | exact Bool.noConfusion ha.1 | exact Bool.noConfusion ha.2
/-- A move of the one, and one of the other, come to the same in either order. -/
theorem beside {a b : Tm} (na : Nf a) (nb : Nf b) {m n : Mo} (hm : m ∈ mvs true a 0) (hn : n ∈ mvs true b 0) :
    S (.par m.r b) = .par (S m.r) b ∧ S (.par a n.r) = .par a (S n.r) ∧
    (⟨n.p + (1 + sz (S m.r)), n.h, n.l, .par (S m.r) n.r⟩ : Mo) ∈ mvs true (.par (S m.r) b) 0 ∧ (⟨m.p + 1, m.h, m.l, .par m.r (S n.r)⟩ : Mo) ∈ mvs true (.par a (S n.r)) 0 ∧
    S (.par (S m.r) n.r) = S (.par m.r (S n.r)) := by
  refine ⟨?_, ?_, mv_par_r hn, mv_par_l hm, ?_⟩
  · rw [S_par, nf_S b nb]; exact par_stay_r (mv_over hn)
  · rw [S_par, nf_S a na]; exact par_stay_l (mv_over hm)
  · rw [S_par, S_par, S_twice, S_twice]
end Go.Proofs.YtpingbiibbmcaaaGreat.Sp

namespace Go.Proofs.YtpingbiibbmcaaaGreat.Me
open Go Go.RowKit Go.Proofs.YtpingbiibbmcaaaGreat.Rw Go.Proofs.YtpingbiibbmcaaaGreat.So Go.Proofs.YtpingbiibbmcaaaGreat.Se Go.Proofs.YtpingbiibbmcaaaGreat.Do
set_option maxRecDepth 20000

/-- A move: where, and how. -/
structure Mv where
  p : Int
  h : Int
deriving DecidableEq
/-- The moves at a place, by its kind. -/
def hw (k : Int) (f : Bool) (z : Int) : List Mv := if k = 1 then [⟨z, 1⟩] else if k = 6 then [⟨z, 2⟩, ⟨z, 3⟩] else ⟨z, 4⟩ :: if f then [⟨z, 5⟩] else []
def kn (l : List Nd) (z : Int) : Int := match l[z.toNat]? with | some x => x.k | none => 0
/-- The moves of a row. -/
noncomputable def enR (l : List Nd) : List Mv := (av l).flatMap fun z => hw (kn l z) (fr l z) z
theorem hw_len (k : Int) (f : Bool) (z : Int) : (hw k f z).length ≤ 2 := by
  unfold hw
  split
  · simp
  · split
    · simp
    · cases f <;> simp
theorem flat_two {α β : Type} (f : α → List β) (h : ∀ a, (f a).length ≤ 2) : ∀ l : List α, (l.flatMap f).length ≤ 2 * l.length
  | [] => by simp
  | a :: l => by
    rw [List.flatMap_cons, List.length_append, List.length_cons]
    have := h a
    have := flat_two f h l
    omega
theorem enR_len (l : List Nd) : (enR l).length ≤ 2 * l.length := by
  have h1 := flat_two (fun z => hw (kn l z) (fr l z) z) (fun z => hw_len _ _ _) (av l)
  have h2 := av_len l
  unfold enR
  omega
/-- A move's cells. -/
def mcl (m : Mv) : List Value := [.int .i64 m.p, .int .i64 m.h]
def mcls : List Mv → List Value
  | [] => []
  | m :: l => mcl m ++ mcls l
theorem mcls_len : ∀ l : List Mv, (mcls l).length = l.length * 2
  | [] => rfl
  | m :: l => by rw [mcls, List.length_append, mcls_len l]; simp [mcl]; omega
theorem mcls_append : ∀ l m : List Mv, mcls (l ++ m) = mcls l ++ mcls m
  | [], _ => rfl
  | x :: l, m => by rw [List.cons_append, mcls, mcls_append l m, mcls, List.append_assoc]
theorem mcls_at : ∀ (l : List Mv) (k : Nat) (h : k < l.length), (mcls l)[k * 2]? = some (.int .i64 l[k].p) ∧ (mcls l)[k * 2 + 1]? = some (.int .i64 l[k].h)
  | [], k, h => by simp at h
  | x :: l, 0, _ => ⟨rfl, rfl⟩
  | x :: l, k + 1, h => by
    have := mcls_at l k (by simpa using h)
    simpa [mcls, mcl, show (k + 1) * 2 = k * 2 + 1 + 1 by omega] using this
/-- A slice of moves that reads as these. -/
def Mvs (w : World) (v : Value) (l : List Mv) : Prop := Ap.Rd w 2 v l.length (mcls l)
theorem Mvs.below {w w' : World} {v : Value} {l : List Mv} (h : Mvs w v l) (hb : Below w.heap.size w w') : Mvs w' v l := Ap.Rd.below h hb
def AtM (w : World) (b off : Nat) (l : List Mv) : Prop := ∀ k, (h : k < l.length) → w.cell? ⟨b, off + k * 2, none⟩ = some (.int .i64 l[k].p) ∧ w.cell? ⟨b, off + k * 2 + 1, none⟩ = some (.int .i64 l[k].h)
theorem AtM.below {w w' : World} {b off : Nat} {l : List Mv} (h : AtM w b off l) (hb : Below w.heap.size w w') : AtM w' b off l := fun k hk => by
  obtain ⟨h1, h2⟩ := h k hk
  exact ⟨by rw [hb.cell (Ap.cell_lt h1)]; exact h1, by rw [hb.cell (Ap.cell_lt h2)]; exact h2⟩
theorem Mvs.form {w : World} {v : Value} {l : List Mv} (h : Mvs w v l) :
    (l = [] ∧ ∃ a cap, v = .slice a 0 cap) ∨ ∃ b off cap, v = .slice (some ⟨b, off, none⟩) l.length cap ∧ l.length ≤ cap ∧ AtM w b off l := by
  obtain ⟨_, a, cap, rfl, hle, _, hcell⟩ := h
  by_cases h0 : 0 < l.length
  · obtain ⟨b, off, rfl, hj⟩ := hcell h0
    refine Or.inr ⟨b, off, cap, rfl, hle, fun k hk => ?_⟩
    obtain ⟨h1, h2⟩ := mcls_at l k hk
    exact ⟨hj _ _ h1, by rw [Nat.add_assoc]; exact hj _ _ h2⟩
  · have : l = [] := List.eq_nil_of_length_eq_zero (by omega)
    subst this
    exact Or.inl ⟨rfl, a, cap, rfl⟩
theorem mvs_new (w : World) (l : List Mv) (ty : TypeId) : Mvs (w.alloc (.cells (mcls l).toArray ty)) (.slice (some ⟨w.heap.size, 0, none⟩) l.length l.length) l := by
  refine ⟨mcls_len l, some ⟨w.heap.size, 0, none⟩, l.length, rfl, Nat.le_refl _, fun h => (by cases h), fun _ => ⟨w.heap.size, 0, rfl, fun j u hu => ?_⟩⟩
  rw [Nat.zero_add, World.cell?_alloc_new]
  simpa using hu
theorem infoMv : (Tryz.prog.info? 42).map (fun i => (i.zero, i.size, i.bytes)) = some (some (.agg #[.int .i64 0, .int .i64 0]), 2, 16) := by kernel_rfl
/-- A row of moves of a call's own. -/
def GotM (base : Nat) (w : World) (v : Value) (l : List Mv) : Prop := w.ownsRow base 42 2 v l.length (mcls l) ∧ base ≤ w.heap.size
theorem GotM.mvs {base : Nat} {w : World} {v : Value} {l : List Mv} (h : GotM base w v l) : Mvs w v l := Ap.Rd.owned h.1
theorem GotM.start {base : Nat} {w : World} (hb : base ≤ w.heap.size) : GotM base w (.slice none 0 0) [] := ⟨⟨rfl, .inl ⟨rfl, rfl⟩⟩, hb⟩
theorem GotM.below {base : Nat} {w w' : World} {v : Value} {l : List Mv} (h : GotM base w v l) (hb : Below w.heap.size w w') : GotM base w' v l := ⟨Ap.own_below h.1 hb, Nat.le_trans h.2 hb.size⟩
theorem GotM.row {base : Nat} {w : World} {v y : Value} {l m : List Mv} (h : GotM base w v l) (hy : Mvs w y m) (hl : l.length + m.length ≤ 1000000) :
    ∃ v' w', (Builtin.append_ #[68, 68] 68 #[v, y]).run Tryz.prog w = .ok v' w' ∧ GotM base w' v' (l ++ m) ∧ Below base w w' := by
  obtain ⟨i0, hi, hz, hs1, hb8⟩ := info_parts infoMv
  have one : ∀ l : List Mv, ∀ u ∈ mcls l, u.oneCell' = true := by
    intro l
    induction l with
    | nil => intro u hu; cases hu
    | cons x l ih =>
      intro u hu
      simp only [mcls, mcl, List.cons_append, List.nil_append, List.mem_cons] at hu
      rcases hu with rfl | rfl | hu
      · rfl
      · rfl
      · exact ih u hu
  obtain ⟨v', w', h1, h2, _, h4, _⟩ := Ap.run_append_rd (P := Tryz.prog) (ty := 68) Tryz.underlying68 hi hz hs1 hb8 (by rfl) (by omega) h.1 h.2 hy (one m) (by unfold maxLen; omega) (by omega)
  exact ⟨v', w', h1, ⟨by rw [List.length_append, mcls_append]; exact h2, Nat.le_trans h.2 h4.size⟩, h4⟩
theorem GotM.new {base : Nat} {w : World} {v : Value} {l : List Mv} (m : List Mv) (h : GotM base w v l) (hl : l.length + m.length ≤ 1000000) :
    ∃ v' w', (Builtin.append_ #[68, 68] 68 #[v, .slice (some ⟨w.heap.size, 0, none⟩) m.length m.length]).run Tryz.prog (w.alloc (.cells (mcls m).toArray 42)) = .ok v' w' ∧ GotM base w' v' (l ++ m) ∧ Below base w w' := by
  obtain ⟨v', w', h1, h2, h3⟩ := (h.below (below1 w _)).row (mvs_new w m 42) hl
  exact ⟨v', w', h1, h2, ((below1 w _).mono h.2).trans h3⟩
end Go.Proofs.YtpingbiibbmcaaaGreat.Me
