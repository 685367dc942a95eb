/- What trees mean: plain. Rows of traces, and of pairs, in memory, and in which blocks they lie. -/
import Derived.Test.YtghnonbcojbohaaGreatDoorQ15
import Derived.Test.YtghnonbcojbohaaGreatDoorQ13
import Derived.Test.YtghnonbcojbohaaGreatDoorQ05

namespace Go.Proofs.YtghnonbcojbohaaGreatDoor.Mn
open Go Tr Rw So

def nm (l : List Nd) : ByteArray := match l with | [] => ⟨#[]⟩ | n :: _ => n.n
def sg (l : List Nd) : Int := match l with | [] => 0 | n :: _ => n.s
/-- The traces of a tree, by those of its kids. -/
def stepT (t : List Nd → List Tr) (p : List Nd → List Pr) (l : List Nd) : List Tr :=
  if hd l = 1 then [⟨[nm l], 1⟩] else if hd l = 2 then [tick] else if hd l = 3 then [bang] else if hd l = 4 then [tick, ⟨[], 3⟩] else if hd l = 11 then [⟨[], sg l⟩]
  else if hd l = 9 then norm (blk (p (k0 l))) else norm (two (hd l) (t (k0 l)) (t (k1 l)))
/-- The pairs of a tree, by what its kids are. -/
def stepP (t : List Nd → List Tr) (p : List Nd → List Pr) (l : List Nd) : List Pr :=
  if hd l = 10 then pnorm (going (t (k0 l)) (t (k1 l)) ++ [way]) else if hd l = 12 then pnorm (going (t (k0 l)) (t (k1 l))) else if hd l = 13 then pnorm (stack (p (k0 l)) (t (k1 l)))
  else if hd l = 14 then pnorm (fin (sg l) (t (k0 l))) else pnorm (twoP (hd l) (p (k0 l)) (p (k1 l)))
def mF : Nat → (List Nd → List Tr) × (List Nd → List Pr)
  | 0 => (fun _ => [], fun _ => [])
  | f + 1 => (stepT (mF f).1 (mF f).2, stepP (mF f).1 (mF f).2)
theorem stepT_congr {t t' : List Nd → List Tr} {p p' : List Nd → List Pr} (l : List Nd) (h : ∀ i, t ((kids l).getD i []) = t' ((kids l).getD i [])) (g : ∀ i, p ((kids l).getD i []) = p' ((kids l).getD i [])) : stepT t p l = stepT t' p' l := by
  unfold stepT k0 k1
  simp only [h, g]
theorem stepP_congr {t t' : List Nd → List Tr} {p p' : List Nd → List Pr} (l : List Nd) (h : ∀ i, t ((kids l).getD i []) = t' ((kids l).getD i [])) (g : ∀ i, p ((kids l).getD i []) = p' ((kids l).getD i [])) : stepP t p l = stepP t' p' l := by
  unfold stepP k0 k1
  simp only [h, g]
theorem mF_nil : ∀ f : Nat, (mF f).1 [] = [] ∧ (mF f).2 [] = []
  | 0 => ⟨rfl, rfl⟩
  | f + 1 => by
    obtain ⟨h1, h2⟩ := mF_nil f
    have e0 : k0 [] = [] := rfl
    have e1 : k1 [] = [] := rfl
    constructor
    · show stepT (mF f).1 (mF f).2 [] = []
      unfold stepT
      rw [e0, e1, h1]
      rfl
    · show stepP (mF f).1 (mF f).2 [] = []
      unfold stepP
      rw [e0, e1, h2]
      rfl
theorem mF_fuel : ∀ (f : Nat) (l : List Nd), l.length ≤ f → (mF (f + 1)).1 l = (mF f).1 l ∧ (mF (f + 1)).2 l = (mF f).2 l
  | 0, l, h => by
    have : l = [] := List.eq_nil_of_length_eq_zero (by omega)
    subst this
    rw [(mF_nil 1).1, (mF_nil 1).2]
    exact ⟨rfl, rfl⟩
  | f + 1, l, h => by
    by_cases h0 : 0 < l.length
    · have hk : ∀ i, ((kids l).getD i []).length ≤ f := fun i => by have := getD_short l i h0; omega
      exact ⟨stepT_congr l (fun i => (mF_fuel f _ (hk i)).1) (fun i => (mF_fuel f _ (hk i)).2), stepP_congr l (fun i => (mF_fuel f _ (hk i)).1) (fun i => (mF_fuel f _ (hk i)).2)⟩
    · have : l = [] := List.eq_nil_of_length_eq_zero (by omega)
      subst this
      rw [(mF_nil _).1, (mF_nil _).2, (mF_nil _).1, (mF_nil _).2]
      exact ⟨rfl, rfl⟩
/-- The traces, and the pairs, of a tree. -/
def Mt (l : List Nd) : List Tr := (mF l.length).1 l
def Mp (l : List Nd) : List Pr := (mF l.length).2 l
theorem mF_M (f : Nat) (l : List Nd) (h : l.length ≤ f) : (mF f).1 l = Mt l ∧ (mF f).2 l = Mp l := by
  have : ∀ g, (mF (l.length + g)).1 l = Mt l ∧ (mF (l.length + g)).2 l = Mp l := by
    intro g
    induction g with
    | zero => exact ⟨rfl, rfl⟩
    | succ g ih => rw [← Nat.add_assoc, (mF_fuel _ _ (by omega)).1, (mF_fuel _ _ (by omega)).2]; exact ih
  have h' := this (f - l.length)
  rw [show l.length + (f - l.length) = f by omega] at h'
  exact h'
theorem M_eq {l : List Nd} (h : 0 < l.length) : Mt l = stepT Mt Mp l ∧ Mp l = stepP Mt Mp l := by
  obtain ⟨n, hn⟩ : ∃ n, l.length = n + 1 := ⟨l.length - 1, by omega⟩
  have hk : ∀ i, ((kids l).getD i []).length ≤ n := fun i => by have := getD_short l i h; omega
  unfold Mt Mp
  rw [hn]
  exact ⟨stepT_congr l (fun i => (mF_M n _ (hk i)).1) (fun i => (mF_M n _ (hk i)).2), stepP_congr l (fun i => (mF_M n _ (hk i)).1) (fun i => (mF_M n _ (hk i)).2)⟩

/-- How many Acts of which f asks for the name. -/
def acF (f : ByteArray → Bool) (l : List Nd) : Nat := l.countP fun x => decide (x.k = 1) && f x.n
abbrev acs (l : List Nd) : Nat := acF all l
theorem acF_append (f : ByteArray → Bool) (l m : List Nd) : acF f (l ++ m) = acF f l + acF f m := List.countP_append
theorem acF_cons (f : ByteArray → Bool) (x : Nd) (l : List Nd) (h : x.k ≠ 1) : acF f (x :: l) = acF f l := by
  unfold acF
  rw [List.countP_cons]
  simp [h]
theorem acs_cnt (l : List Nd) : acs l = cnt l [1] := by
  unfold acs acF cnt
  congr 1
  funext x
  simp [all]
/-- A tree of a node that has two. -/
theorem cut2 {l : List Nd} (h : Tre l) (h2 : ar (hd l) = 2) : ∃ a b, kids l = [a, b] ∧ k0 l = a ∧ k1 l = b ∧ Tre a ∧ Tre b ∧ a.length + b.length + 1 = l.length ∧ (∀ f, acF f l = acF f a + acF f b) ∧ (l.all rgt = true → a.all rgt = true ∧ b.all rgt = true) := by
  obtain ⟨x, hx, he⟩ := h.flat
  obtain ⟨a, b, hk, t1, t2, s1, s2⟩ := h.two h2
  rw [hk] at he
  have he' : l = x :: (a ++ b) := by rw [he]; simp
  refine ⟨a, b, hk, by unfold k0; rw [hk]; rfl, by unfold k1; rw [hk]; rfl, t1, t2, by rw [he']; simp, fun f => ?_, fun hr => ?_⟩
  · have h1 : x.k ≠ 1 := fun e => by rw [hx, e] at h2; exact absurd h2 (by decide)
    rw [he', acF_cons f x _ h1, acF_append]
  · rw [he'] at hr
    simp only [List.all_cons, List.all_append, Bool.and_eq_true] at hr
    exact hr.2
theorem cut1 {l : List Nd} (h : Tre l) (h1 : ar (hd l) = 1) : ∃ a, kids l = [a] ∧ k0 l = a ∧ Tre a ∧ a.length + 1 = l.length ∧ (∀ f, acF f l = acF f a) ∧ (l.all rgt = true → a.all rgt = true) := by
  obtain ⟨x, hx, he⟩ := h.flat
  obtain ⟨a, hk, t1, s1⟩ := h.one h1
  rw [hk] at he
  have he' : l = x :: a := by rw [he]; simp
  refine ⟨a, hk, by unfold k0; rw [hk]; rfl, t1, by rw [he']; simp, fun f => ?_, fun hr => ?_⟩
  · have h1 : x.k ≠ 1 := fun e => by rw [hx, e] at h1; exact absurd h1 (by decide)
    rw [he', acF_cons f x _ h1]
  · rw [he'] at hr
    simp only [List.all_cons, Bool.and_eq_true] at hr
    exact hr.2
theorem cut0 {l : List Nd} (h : Tre l) (h0 : ar (hd l) = 0) : ∃ x, l = [x] ∧ hd l = x.k := by
  obtain ⟨x, hx, he⟩ := h.flat
  have hk : kids l = [] := List.eq_nil_of_length_eq_zero (by rw [h.kids.1, h0]; rfl)
  rw [hk] at he
  exact ⟨x, he, hx⟩

/-- What goes on plain: by its first node. -/
theorem shape3 {l : List Nd} (ht : Tre l) (h : Is 3 l = true) :
    (ar (hd l) = 0 ∧ (hd l = 1 ∨ hd l = 2 ∨ hd l = 3 ∨ hd l = 4 ∨ hd l = 11)) ∨ (hd l = 9 ∧ Is 4 (k0 l) = true) ∨ ((hd l = 5 ∨ hd l = 6 ∨ hd l = 7 ∨ hd l = 8) ∧ Is 3 (k0 l) = true ∧ Is 3 (k1 l) = true ∧ (hd l = 8 → Is 1 (k1 l) = true)) := by
  have e := eq_5_3 (l := l)
  rcases kinds ht.ar with hk | hk | hk | hk | hk | hk | hk | hk | hk | hk | hk | hk | hk | hk
  · exact .inl ⟨by rw [hk]; rfl, by omega⟩
  · exact .inl ⟨by rw [hk]; rfl, by omega⟩
  · exact .inl ⟨by rw [hk]; rfl, by omega⟩
  · exact .inl ⟨by rw [hk]; rfl, by omega⟩
  · rw [eq_5_3 hk] at h
    simp only [Bool.or_eq_true, Bool.and_eq_true] at h
    exact .inr (.inr ⟨by omega, h.elim (fun h => one_three h.1) (fun h => h.1), h.elim (fun h => one_three h.2) (fun h => one_three h.2), fun h8 => by omega⟩)
  · rw [eq_6_3 hk] at h
    simp only [Bool.or_false, Bool.and_eq_true] at h
    exact .inr (.inr ⟨by omega, one_three h.1, one_three h.2, fun h8 => by omega⟩)
  · rw [eq_7_3 hk] at h
    simp only [Bool.or_eq_true, Bool.and_eq_true] at h
    exact .inr (.inr ⟨by omega, h.elim (fun h => one_three h.1) (fun h => h.1), h.elim (fun h => one_three h.2) (fun h => h.2), fun h8 => by omega⟩)
  · rw [eq_8_3 hk] at h
    simp only [Bool.or_eq_true, Bool.and_eq_true] at h
    exact .inr (.inr ⟨by omega, h.elim (fun h => one_three h.1) (fun h => h.1), h.elim (fun h => one_three h.2) (fun h => one_three h.2), fun _ => h.elim (fun h => h.2) (fun h => h.2)⟩)
  · rw [eq_9_3 hk] at h
    simp only [Bool.or_eq_true] at h
    exact .inr (.inl ⟨hk, h.elim two_four id⟩)
  · rw [eq_10_3 hk] at h; cases h
  · exact .inl ⟨by rw [hk]; rfl, by omega⟩
  · rw [eq_12_3 hk] at h; cases h
  · rw [eq_13_3 hk] at h; cases h
  · rw [eq_14_3 hk] at h; cases h
theorem shape4 {l : List Nd} (ht : Tre l) (h : Is 4 l = true) :
    ((hd l = 5 ∨ hd l = 6 ∨ hd l = 7) ∧ Is 4 (k0 l) = true ∧ Is 4 (k1 l) = true) ∨ ((hd l = 10 ∨ hd l = 12) ∧ Is 3 (k0 l) = true ∧ Is 1 (k1 l) = true) ∨ (hd l = 13 ∧ Is 4 (k0 l) = true ∧ Is 1 (k1 l) = true) ∨ (hd l = 14 ∧ Is 1 (k0 l) = true) := by
  rcases kinds ht.ar with hk | hk | hk | hk | hk | hk | hk | hk | hk | hk | hk | hk | hk | hk
  · rw [eq_1_4 hk] at h; cases h
  · rw [eq_2_4 hk] at h; cases h
  · rw [eq_3_4 hk] at h; cases h
  · rw [eq_4_4 hk] at h; cases h
  · rw [eq_5_4 hk] at h
    simp only [Bool.or_eq_true, Bool.and_eq_true] at h
    exact .inl ⟨by omega, h.elim (fun h => two_four h.1) (fun h => h.1), h.elim (fun h => two_four h.2) (fun h => two_four h.2)⟩
  · rw [eq_6_4 hk] at h
    simp only [Bool.or_false, Bool.and_eq_true] at h
    exact .inl ⟨by omega, two_four h.1, two_four h.2⟩
  · rw [eq_7_4 hk] at h
    simp only [Bool.or_eq_true, Bool.and_eq_true] at h
    exact .inl ⟨by omega, h.elim (fun h => two_four h.1) (fun h => h.1), h.elim (fun h => two_four h.2) (fun h => h.2)⟩
  · rw [eq_8_4 hk] at h; cases h
  · rw [eq_9_4 hk] at h; cases h
  · rw [eq_10_4 hk] at h
    simp only [Bool.or_false, Bool.and_eq_true] at h
    exact .inr (.inl ⟨by omega, one_three h.1, h.2⟩)
  · rw [eq_11_4 hk] at h; cases h
  · rw [eq_12_4 hk] at h
    simp only [Bool.false_or, Bool.and_eq_true] at h
    exact .inr (.inl ⟨by omega, h.1, h.2⟩)
  · rw [eq_13_4 hk] at h
    simp only [Bool.false_or, Bool.and_eq_true] at h
    exact .inr (.inr (.inl ⟨hk, h.1, h.2⟩))
  · rw [eq_14_4 hk] at h
    simp only [Bool.false_or] at h
    exact .inr (.inr (.inr ⟨hk, h⟩))
/-- Terms: by their first node. -/
theorem shape1 {l : List Nd} (ht : Tre l) (h : Is 1 l = true) :
    (hd l = 1 ∨ hd l = 2 ∨ hd l = 3 ∨ hd l = 4) ∨ (hd l = 9 ∧ Is 2 (k0 l) = true) ∨ ((hd l = 5 ∨ hd l = 6 ∨ hd l = 7 ∨ hd l = 8) ∧ Is 1 (k0 l) = true ∧ Is 1 (k1 l) = true) := by
  rcases shape3 ht (one_three h) with ⟨_, hk⟩ | ⟨hk, _⟩ | ⟨hk, _⟩
  · rcases hk with hk | hk | hk | hk | hk
    · exact .inl (by omega)
    · exact .inl (by omega)
    · exact .inl (by omega)
    · exact .inl (by omega)
    · rw [eq_11_1 hk] at h; cases h
  · rw [eq_9_1 hk] at h
    exact .inr (.inl ⟨hk, h⟩)
  · refine .inr (.inr ⟨hk, ?_⟩)
    rw [← Bool.and_eq_true]
    rcases hk with hk | hk | hk | hk
    · rw [← eq_5_1 hk]; exact h
    · rw [← eq_6_1 hk]; exact h
    · rw [← eq_7_1 hk]; exact h
    · rw [← eq_8_1 hk]; exact h
theorem shape2 {l : List Nd} (ht : Tre l) (h : Is 2 l = true) :
    (hd l = 10 ∧ Is 1 (k0 l) = true ∧ Is 1 (k1 l) = true) ∨ ((hd l = 5 ∨ hd l = 6 ∨ hd l = 7) ∧ Is 2 (k0 l) = true ∧ Is 2 (k1 l) = true) := by
  rcases shape4 ht (two_four h) with ⟨hk, _⟩ | ⟨hk, _⟩ | ⟨hk, _⟩ | ⟨hk, _⟩
  · refine .inr ⟨hk, ?_⟩
    rw [← Bool.and_eq_true]
    rcases hk with hk | hk | hk
    · rw [← eq_5_2 hk]; exact h
    · rw [← eq_6_2 hk]; exact h
    · rw [← eq_7_2 hk]; exact h
  · rcases hk with hk | hk
    · refine .inl ⟨hk, ?_⟩
      rw [← Bool.and_eq_true, ← eq_10_2 hk]
      exact h
    · rw [eq_12_2 hk] at h; cases h
  · rw [eq_13_2 hk] at h; cases h
  · rw [eq_14_2 hk] at h; cases h

theorem stepT_9 {t : List Nd → List Tr} {p : List Nd → List Pr} {l : List Nd} (h : hd l = 9) : stepT t p l = norm (blk (p (k0 l))) := by unfold stepT; rw [h]; rfl
theorem stepT_2 {t : List Nd → List Tr} {p : List Nd → List Pr} {l : List Nd} (h : hd l = 5 ∨ hd l = 6 ∨ hd l = 7 ∨ hd l = 8) : stepT t p l = norm (two (hd l) (t (k0 l)) (t (k1 l))) := by
  unfold stepT
  rcases h with h | h | h | h <;> rw [h] <;> rfl
theorem stepP_10 {t : List Nd → List Tr} {p : List Nd → List Pr} {l : List Nd} (h : hd l = 10) : stepP t p l = pnorm (going (t (k0 l)) (t (k1 l)) ++ [way]) := by unfold stepP; rw [h]; rfl
theorem stepP_12 {t : List Nd → List Tr} {p : List Nd → List Pr} {l : List Nd} (h : hd l = 12) : stepP t p l = pnorm (going (t (k0 l)) (t (k1 l))) := by unfold stepP; rw [h]; rfl
theorem stepP_13 {t : List Nd → List Tr} {p : List Nd → List Pr} {l : List Nd} (h : hd l = 13) : stepP t p l = pnorm (stack (p (k0 l)) (t (k1 l))) := by unfold stepP; rw [h]; rfl
theorem stepP_14 {t : List Nd → List Tr} {p : List Nd → List Pr} {l : List Nd} (h : hd l = 14) : stepP t p l = pnorm (fin (sg l) (t (k0 l))) := by unfold stepP; rw [h]; rfl
theorem stepP_2 {t : List Nd → List Tr} {p : List Nd → List Pr} {l : List Nd} (h : hd l = 5 ∨ hd l = 6 ∨ hd l = 7) : stepP t p l = pnorm (twoP (hd l) (p (k0 l)) (p (k1 l))) := by
  unfold stepP
  rcases h with h | h | h <;> rw [h] <;> rfl

/-- What is known of the traces, and the pairs, of a tree. -/
structure GT (l : List Nd) : Prop where
  len : (Mt l).length ≤ K l.length (acs l)
  cnt : ∀ f, CT f (acF f l) (Mt l)
  up : Up (Mt l)
  sg : l.all rgt = true → ST (Mt l)
structure GP (l : List Nd) : Prop where
  len : (Mp l).length ≤ K l.length (acs l)
  cnt : ∀ f, CP f (acF f l) (Mp l)
  up : PUp (Mp l)
  sg : l.all rgt = true → SP (Mp l)
theorem two_up (p q : Tr) (h : cmp p q < 0) : Up [p, q] := List.pairwise_cons.2 ⟨fun t ht => by rw [List.mem_singleton] at ht; rw [ht]; exact h, List.pairwise_singleton _ _⟩
theorem rgt_sg {x : Nd} (h : rgt x = true) (hk : x.k = 11 ∨ x.k = 14) : Sgn x.s := by
  obtain ⟨k, n, s⟩ := x
  rw [rgt_sign n s hk] at h
  simp only [Bool.and_eq_true, decide_eq_true_eq] at h
  unfold Sgn
  show s = 1 ∨ s = 2 ∨ s = 3
  omega
theorem good : ∀ (m : Nat) (l : List Nd), l.length ≤ m → Tre l → (Is 3 l = true → GT l) ∧ (Is 4 l = true → GP l)
  | 0, l, h, ht => absurd ht.pos (by omega)
  | m + 1, l, h, ht => by
    obtain ⟨eT, eP⟩ := M_eq ht.pos
    constructor
    · intro hi
      rcases shape3 ht hi with ⟨h0, hk⟩ | ⟨hk, hi⟩ | ⟨hk, hi, hj, _⟩
      · obtain ⟨x, rfl, hx⟩ := cut0 ht h0
        have one : ∀ t : Tr, Mt [x] = [t] → (∀ f, t.a.countP f ≤ acF f [x]) → ([x].all rgt = true → Sgn t.e) → GT [x] := fun t e h1 h2 =>
          ⟨by rw [e]; exact K_pos _ _, fun f u hu => by rw [e, List.mem_singleton] at hu; rw [hu]; exact h1 f, by rw [e]; exact up_one t, fun hr u hu => by rw [e, List.mem_singleton] at hu; rw [hu]; exact h2 hr⟩
        rcases hk with hk | hk | hk | hk | hk
        · refine one ⟨[x.n], 1⟩ (by rw [eT]; unfold stepT; rw [hk]; rfl) (fun f => ?_) fun _ => sgn1
          have h1 : x.k = 1 := by rw [← hx]; exact hk
          simp [acF, h1]
        · exact one tick (by rw [eT]; unfold stepT; rw [hk]; rfl) (fun f => Nat.zero_le _) fun _ => sgn1
        · exact one bang (by rw [eT]; unfold stepT; rw [hk]; rfl) (fun f => Nat.zero_le _) fun _ => Or.inr (Or.inl rfl)
        · have e : Mt [x] = [tick, ⟨[], 3⟩] := by rw [eT]; unfold stepT; rw [hk]; rfl
          refine ⟨by rw [e]; show 2 ≤ K 1 _; unfold K; have := fac_pos (acs [x]); omega, fun f u hu => ?_, by rw [e]; exact two_up _ _ (by decide), fun _ u hu => ?_⟩
          · rw [e] at hu
            rcases List.mem_cons.1 hu with rfl | hu
            · exact Nat.zero_le _
            · rw [List.mem_singleton] at hu; rw [hu]; exact Nat.zero_le _
          · rw [e] at hu
            rcases List.mem_cons.1 hu with rfl | hu
            · exact sgn1
            · rw [List.mem_singleton] at hu; rw [hu]; exact sgn3
        · refine one ⟨[], x.s⟩ (by rw [eT]; unfold stepT; rw [hk]; rfl) (fun f => Nat.zero_le _) fun hr => ?_
          simp only [List.all_cons, List.all_nil, Bool.and_true] at hr
          exact rgt_sg hr (.inl (by rw [← hx]; exact hk))
      · obtain ⟨a, hkk, e0, ta, hl, hc, hr⟩ := cut1 ht (by rw [hk]; rfl)
        rw [e0] at hi
        have ga := (good m a (by omega) ta).2 hi
        rw [stepT_9 hk, e0] at eT
        refine ⟨?_, fun f => ?_, by rw [eT]; exact up_norm _, fun h => by rw [eT]; exact (blk_st (ga.sg (hr h))).norm⟩
        · rw [eT, ← hl]
          refine Nat.le_trans (length_norm _) (Nat.le_trans (blk_len ga.len) ?_)
          unfold acs
          rw [hc all]
          exact Nat.le_refl _
        · rw [eT, hc f]; exact (blk_ct (ga.cnt f)).norm
      · obtain ⟨a, b, hkk, e0, e1, ta, tb, hl, hc, hr⟩ := cut2 ht (by rcases hk with hk | hk | hk | hk <;> rw [hk] <;> rfl)
        rw [e0] at hi
        rw [e1] at hj
        have ga := (good m a (by omega) ta).1 hi
        have gb := (good m b (by omega) tb).1 hj
        rw [stepT_2 hk, e0, e1] at eT
        refine ⟨?_, fun f => ?_, by rw [eT]; exact up_norm _, fun h => by rw [eT]; exact (two_st (ga.sg (hr h).1) (gb.sg (hr h).2)).norm⟩
        · rw [eT, ← hl]
          refine Nat.le_trans (length_norm _) (Nat.le_trans (two_len (ga.cnt all) (gb.cnt all) ga.len gb.len) ?_)
          unfold acs
          rw [hc all]
          exact Nat.le_refl _
        · rw [eT, hc f]; exact (two_ct (ga.cnt f) (gb.cnt f)).norm
    · intro hi
      rcases shape4 ht hi with ⟨hk, hi, hj⟩ | ⟨hk, hi, hj⟩ | ⟨hk, hi, hj⟩ | ⟨hk, hi⟩
      · obtain ⟨a, b, hkk, e0, e1, ta, tb, hl, hc, hr⟩ := cut2 ht (by rcases hk with hk | hk | hk <;> rw [hk] <;> rfl)
        rw [e0] at hi
        rw [e1] at hj
        have ga := (good m a (by omega) ta).2 hi
        have gb := (good m b (by omega) tb).2 hj
        rw [stepP_2 hk, e0, e1] at eP
        refine ⟨?_, fun f => ?_, by rw [eP]; exact pup_norm _, fun h => by rw [eP]; exact (twoP_sp (ga.sg (hr h).1) (gb.sg (hr h).2)).norm⟩
        · rw [eP, ← hl]
          refine Nat.le_trans (plength_norm _) (Nat.le_trans (twoP_len (ga.cnt all) (gb.cnt all) ga.len gb.len) ?_)
          unfold acs
          rw [hc all]
          exact Nat.le_refl _
        · rw [eP, hc f]; exact (twoP_cp (ga.cnt f) (gb.cnt f)).norm
      · obtain ⟨a, b, hkk, e0, e1, ta, tb, hl, hc, hr⟩ := cut2 ht (by rcases hk with hk | hk <;> rw [hk] <;> rfl)
        rw [e0] at hi
        rw [e1] at hj
        have ga := (good m a (by omega) ta).1 hi
        have gb := (good m b (by omega) tb).1 (one_three hj)
        rcases hk with hk | hk
        · rw [stepP_10 hk, e0, e1] at eP
          refine ⟨?_, fun f => ?_, by rw [eP]; exact pup_norm _, fun h => by rw [eP]; exact (way_sp (going_sp (ga.sg (hr h).1) (gb.sg (hr h).2))).norm⟩
          · rw [eP, ← hl]
            refine Nat.le_trans (plength_norm _) (Nat.le_trans (way_len (going_len ga.len gb.len)) ?_)
            unfold acs
            rw [hc all]
            exact Nat.le_refl _
          · rw [eP, hc f]; exact (way_cp (going_cp (ga.cnt f) (gb.cnt f))).norm
        · rw [stepP_12 hk, e0, e1] at eP
          refine ⟨?_, fun f => ?_, by rw [eP]; exact pup_norm _, fun h => by rw [eP]; exact (going_sp (ga.sg (hr h).1) (gb.sg (hr h).2)).norm⟩
          · rw [eP, ← hl]
            refine Nat.le_trans (plength_norm _) (Nat.le_trans (going_len ga.len gb.len) ?_)
            unfold acs
            rw [hc all]
            exact K_more (by omega) (Nat.le_refl _)
          · rw [eP, hc f]; exact (going_cp (ga.cnt f) (gb.cnt f)).norm
      · obtain ⟨a, b, hkk, e0, e1, ta, tb, hl, hc, hr⟩ := cut2 ht (by rw [hk]; rfl)
        rw [e0] at hi
        rw [e1] at hj
        have ga := (good m a (by omega) ta).2 hi
        have gb := (good m b (by omega) tb).1 (one_three hj)
        rw [stepP_13 hk, e0, e1] at eP
        refine ⟨?_, fun f => ?_, by rw [eP]; exact pup_norm _, fun h => by rw [eP]; exact (stack_sp (ga.sg (hr h).1) (gb.sg (hr h).2)).norm⟩
        · rw [eP, ← hl]
          refine Nat.le_trans (plength_norm _) (Nat.le_trans (stack_len ga.len gb.len) ?_)
          unfold acs
          rw [hc all]
          exact K_more (by omega) (Nat.le_refl _)
        · rw [eP, hc f]; exact (stack_cp (ga.cnt f) (gb.cnt f)).norm
      · obtain ⟨a, hkk, e0, ta, hl, hc, hr⟩ := cut1 ht (by rw [hk]; rfl)
        rw [e0] at hi
        have ga := (good m a (by omega) ta).1 (one_three hi)
        rw [stepP_14 hk, e0] at eP
        have hsg : l.all rgt = true → Sgn (sg l) := fun h => by
          obtain ⟨x, hx, he⟩ := ht.flat
          rw [he] at h ⊢
          simp only [List.all_cons, Bool.and_eq_true] at h
          exact rgt_sg h.1 (.inr (by rw [← hx]; exact hk))
        refine ⟨?_, fun f => ?_, by rw [eP]; exact pup_norm _, fun h => by rw [eP]; exact (fin_sp (hsg h) (ga.sg (hr h))).norm⟩
        · rw [eP, ← hl]
          refine Nat.le_trans (plength_norm _) ?_
          unfold fin
          rw [List.length_map]
          refine Nat.le_trans ga.len ?_
          unfold acs
          rw [hc all]
          exact K_more (by omega) (Nat.le_refl _)
        · rw [eP, hc f]; exact (fin_cp (ga.cnt f)).norm
theorem gt {l : List Nd} (ht : Tre l) (h : Is 3 l = true) : GT l := (good l.length l (Nat.le_refl _) ht).1 h
theorem gp {l : List Nd} (ht : Tre l) (h : Is 4 l = true) : GP l := (good l.length l (Nat.le_refl _) ht).2 h
/-- Each term has a trace that does not give way. -/
theorem live : ∀ (m : Nat) (l : List Nd), l.length ≤ m → Tre l → acs l ≤ 19 → (Is 1 l = true → LT (Mt l)) ∧ (Is 2 l = true → LP (Mp l))
  | 0, l, h, ht, _ => absurd ht.pos (by omega)
  | m + 1, l, h, ht, h19 => by
    obtain ⟨eT, eP⟩ := M_eq ht.pos
    constructor
    · intro hi
      rcases shape1 ht hi with hk | ⟨hk, hi⟩ | ⟨hk, hi, hj⟩
      · rcases hk with hk | hk | hk | hk
        · exact ⟨⟨[nm l], 1⟩, by rw [eT]; unfold stepT; rw [hk]; exact List.mem_singleton.2 rfl, .inl rfl⟩
        · exact ⟨tick, by rw [eT]; unfold stepT; rw [hk]; exact List.mem_singleton.2 rfl, .inl rfl⟩
        · exact ⟨bang, by rw [eT]; unfold stepT; rw [hk]; exact List.mem_singleton.2 rfl, .inr rfl⟩
        · exact ⟨tick, by rw [eT]; unfold stepT; rw [hk]; exact List.mem_cons_self, .inl rfl⟩
      · obtain ⟨a, hkk, e0, ta, hl, hc, hr⟩ := cut1 ht (by rw [hk]; rfl)
        rw [e0] at hi
        have := hc all
        have la := (live m a (by omega) ta (by unfold acs at h19 ⊢; omega)).2 hi
        rw [eT, stepT_9 hk, e0]
        exact (blk_lt la).norm
      · obtain ⟨a, b, hkk, e0, e1, ta, tb, hl, hc, hr⟩ := cut2 ht (by rcases hk with hk | hk | hk | hk <;> rw [hk] <;> rfl)
        rw [e0] at hi
        rw [e1] at hj
        have := hc all
        unfold acs at h19
        have la := (live m a (by omega) ta (by unfold acs; omega)).1 hi
        have lb := (live m b (by omega) tb (by unfold acs; omega)).1 hj
        rw [eT, stepT_2 hk, e0, e1]
        exact (two_lt ((gt ta (one_three hi)).cnt all) ((gt tb (one_three hj)).cnt all) (by omega) la lb).norm
    · intro hi
      rcases shape2 ht hi with ⟨hk, hi, hj⟩ | ⟨hk, hi, hj⟩
      · obtain ⟨a, b, hkk, e0, e1, ta, tb, hl, hc, hr⟩ := cut2 ht (by rw [hk]; rfl)
        rw [e0] at hi
        rw [e1] at hj
        have := hc all
        unfold acs at h19
        have la := (live m a (by omega) ta (by unfold acs; omega)).1 hi
        have lb := (live m b (by omega) tb (by unfold acs; omega)).1 hj
        rw [eP, stepP_10 hk, e0, e1]
        exact ((going_lp la lb).more).norm
      · obtain ⟨a, b, hkk, e0, e1, ta, tb, hl, hc, hr⟩ := cut2 ht (by rcases hk with hk | hk | hk <;> rw [hk] <;> rfl)
        rw [e0] at hi
        rw [e1] at hj
        have := hc all
        unfold acs at h19
        have la := (live m a (by omega) ta (by unfold acs; omega)).2 hi
        have lb := (live m b (by omega) tb (by unfold acs; omega)).2 hj
        rw [eP, stepP_2 hk, e0, e1]
        exact (twoP_lp ((gp ta (two_four hi)).cnt all) ((gp tb (two_four hj)).cnt all) (by omega) la lb).norm
theorem live1 {l : List Nd} (ht : Tre l) (h : acs l ≤ 19) (hi : Is 1 l = true) : LT (Mt l) := (live l.length l (Nat.le_refl _) ht h).1 hi
end Go.Proofs.YtghnonbcojbohaaGreatDoor.Mn

namespace Go.Proofs.YtghnonbcojbohaaGreatDoor.Mn
open Go Go.RowKit Tr
set_option maxRecDepth 20000

/-- The cells of a row, element by element, sz cells each. -/
def Cl {α : Type} (E : α → List Value → Prop) (sz : Nat) : List α → List Value → Prop
  | [], cs => cs = []
  | x :: l, cs => E x (cs.take sz) ∧ Cl E sz l (cs.drop sz)
theorem Cl.len {α : Type} {E : α → List Value → Prop} {sz : Nat} (hE : ∀ x cs, E x cs → cs.length = sz) : ∀ {l : List α} {cs : List Value}, Cl E sz l cs → cs.length = l.length * sz
  | [], cs, h => by rw [show cs = [] from h]; simp
  | x :: l, cs, h => by
    have h1 := hE _ _ h.1
    have h2 := Cl.len hE h.2
    rw [List.length_take] at h1
    rw [List.length_drop] at h2
    rw [List.length_cons, Nat.add_mul, Nat.one_mul]
    omega
theorem Cl.imp {α : Type} {E E' : α → List Value → Prop} {sz : Nat} (hE : ∀ x cs, E x cs → E' x cs) : ∀ {l : List α} {cs : List Value}, Cl E sz l cs → Cl E' sz l cs
  | [], _, h => h
  | _ :: _, _, h => ⟨hE _ _ h.1, Cl.imp hE h.2⟩
theorem Cl.append {α : Type} {E : α → List Value → Prop} {sz : Nat} (hE : ∀ x cs, E x cs → cs.length = sz) {m : List α} {ds : List Value} (hd : Cl E sz m ds) : ∀ {l : List α} {cs : List Value}, Cl E sz l cs → Cl E sz (l ++ m) (cs ++ ds)
  | [], cs, h => by rw [show cs = [] from h]; exact hd
  | x :: l, cs, h => by
    have h1 := hE _ _ h.1
    rw [List.length_take] at h1
    refine ⟨?_, ?_⟩
    · rw [List.take_append_of_le_length (by omega)]; exact h.1
    · rw [List.drop_append_of_le_length (by omega)]; exact Cl.append hE hd h.2
theorem Cl.one {α : Type} {E : α → List Value → Prop} {sz : Nat} {x : α} {cs : List Value} (h : E x cs) (hl : cs.length = sz) : Cl E sz [x] cs :=
  ⟨by rw [List.take_of_length_le (by omega)]; exact h, List.drop_eq_nil_of_le (by omega)⟩
theorem Cl.at {α : Type} {E : α → List Value → Prop} {sz : Nat} : ∀ {l : List α} {cs : List Value}, Cl E sz l cs → ∀ k (hk : k < l.length), E l[k] ((cs.drop (k * sz)).take sz)
  | [], _, _, k, hk => by simp at hk
  | x :: l, cs, h, 0, _ => by simpa using h.1
  | x :: l, cs, h, k + 1, hk => by
    have := Cl.at h.2 k (by simpa using hk)
    rw [List.drop_drop] at this
    rw [show (k + 1) * sz = sz + k * sz by rw [Nat.add_mul]; omega]
    exact this
theorem Cl.take {α : Type} {E : α → List Value → Prop} {sz : Nat} (hE : ∀ x cs, E x cs → cs.length = sz) : ∀ {l : List α} {cs : List Value}, Cl E sz l cs → ∀ k, Cl E sz (l.take k) (cs.take (k * sz))
  | [], cs, h, k => by rw [show cs = [] from h]; simp [Cl]
  | x :: l, cs, h, 0 => by simp [Cl]
  | x :: l, cs, h, k + 1 => by
    have h1 := hE _ _ h.1
    rw [List.length_take] at h1
    have e : (k + 1) * sz = k * sz + sz := by rw [Nat.add_mul]; omega
    refine ⟨?_, ?_⟩
    · rw [List.take_take, Nat.min_eq_left (by omega)]; exact h.1
    · rw [List.drop_take, show (k + 1) * sz - sz = k * sz by omega]; exact Cl.take hE h.2 k
theorem Cl.drop {α : Type} {E : α → List Value → Prop} {sz : Nat} : ∀ {l : List α} {cs : List Value}, Cl E sz l cs → ∀ k, Cl E sz (l.drop k) (cs.drop (k * sz))
  | [], cs, h, k => by rw [show cs = [] from h]; simp [Cl]
  | x :: l, cs, h, 0 => by simpa using h
  | x :: l, cs, h, k + 1 => by
    have := Cl.drop h.2 k
    rw [List.drop_drop] at this
    rw [show (k + 1) * sz = sz + k * sz by rw [Nat.add_mul]; omega]
    exact this
theorem Cl.cells {α : Type} {E : α → List Value → Prop} {sz : Nat} (P : Value → Prop) (hE : ∀ x cs, E x cs → ∀ u ∈ cs, P u) : ∀ {l : List α} {cs : List Value}, Cl E sz l cs → ∀ u ∈ cs, P u
  | [], cs, h, u, hu => by rw [show cs = [] from h] at hu; cases hu
  | x :: l, cs, h, u, hu => by
    rw [← List.take_append_drop sz cs] at hu
    rcases List.mem_append.1 hu with hu | hu
    · exact hE _ _ h.1 u hu
    · exact Cl.cells P hE h.2 u hu

/-- The cells of one trace, of one pair. -/
def ET (ok : Nat → Prop) (w : World) (t : Tr) (cs : List Value) : Prop := ∃ a, cs = [a, .int .i64 t.e] ∧ StrsO ok w a t.a
def EP (ok : Nat → Prop) (w : World) (x : Pr) (cs : List Value) : Prop := ∃ a b, cs = [a, .int .i64 x.p.e, b, .int .i64 x.q.e] ∧ StrsO ok w a x.p.a ∧ StrsO ok w b x.q.a
theorem ET.len {ok : Nat → Prop} {w : World} (t : Tr) (cs : List Value) (h : ET ok w t cs) : cs.length = 2 := by
  obtain ⟨a, rfl, _⟩ := h
  rfl
theorem EP.len {ok : Nat → Prop} {w : World} (t : Pr) (cs : List Value) (h : EP ok w t cs) : cs.length = 4 := by
  obtain ⟨a, b, rfl, _⟩ := h
  rfl
theorem strsO_one {ok : Nat → Prop} {w : World} {a : Value} {l : List ByteArray} (h : StrsO ok w a l) : a.oneCell' = true := by
  obtain ⟨_, x, c, rfl, _⟩ := h
  rfl
theorem ET.one {ok : Nat → Prop} {w : World} (t : Tr) (cs : List Value) (h : ET ok w t cs) : ∀ u ∈ cs, u.oneCell' = true := by
  obtain ⟨a, rfl, h⟩ := h
  intro u hu
  simp only [List.mem_cons, List.mem_nil_iff, or_false] at hu
  rcases hu with rfl | rfl
  · exact strsO_one h
  · rfl
theorem EP.one {ok : Nat → Prop} {w : World} (t : Pr) (cs : List Value) (h : EP ok w t cs) : ∀ u ∈ cs, u.oneCell' = true := by
  obtain ⟨a, b, rfl, h, h'⟩ := h
  intro u hu
  simp only [List.mem_cons, List.mem_nil_iff, or_false] at hu
  rcases hu with rfl | rfl | rfl | rfl
  · exact strsO_one h
  · rfl
  · exact strsO_one h'
  · rfl
theorem ET.map {ok ok' : Nat → Prop} {w w' : World} (h : ∀ v l, StrsO ok w v l → StrsO ok' w' v l) (t : Tr) (cs : List Value) (hx : ET ok w t cs) : ET ok' w' t cs := by
  obtain ⟨a, rfl, hx⟩ := hx
  exact ⟨a, rfl, h _ _ hx⟩
theorem EP.map {ok ok' : Nat → Prop} {w w' : World} (h : ∀ v l, StrsO ok w v l → StrsO ok' w' v l) (t : Pr) (cs : List Value) (hx : EP ok w t cs) : EP ok' w' t cs := by
  obtain ⟨a, b, rfl, hx, hy⟩ := hx
  exact ⟨a, b, rfl, h _ _ hx, h _ _ hy⟩

/-- Rows of traces, of pairs, all in blocks that are as ok says. -/
def TsO (ok : Nat → Prop) (w : World) (v : Value) (l : List Tr) : Prop := ∃ cs, Ap.RdO ok w 2 v l.length cs ∧ Cl (ET ok w) 2 l cs
def PsO (ok : Nat → Prop) (w : World) (v : Value) (l : List Pr) : Prop := ∃ cs, Ap.RdO ok w 4 v l.length cs ∧ Cl (EP ok w) 4 l cs
abbrev any : Nat → Prop := fun _ => True
theorem TsO.imp {ok ok' : Nat → Prop} {w : World} {v : Value} {l : List Tr} (h : TsO ok w v l) (hi : ∀ b, b < w.heap.size → ok b → ok' b) : TsO ok' w v l := by
  obtain ⟨cs, h1, h2⟩ := h
  exact ⟨cs, h1.imp hi, h2.imp (ET.map fun _ _ h => Ap.RdO.imp h hi)⟩
theorem PsO.imp {ok ok' : Nat → Prop} {w : World} {v : Value} {l : List Pr} (h : PsO ok w v l) (hi : ∀ b, b < w.heap.size → ok b → ok' b) : PsO ok' w v l := by
  obtain ⟨cs, h1, h2⟩ := h
  exact ⟨cs, h1.imp hi, h2.imp (EP.map fun _ _ h => Ap.RdO.imp h hi)⟩
theorem TsO.below {ok : Nat → Prop} {w w' : World} {v : Value} {l : List Tr} (h : TsO ok w v l) (hb : Below w.heap.size w w') : TsO ok w' v l := by
  obtain ⟨cs, h1, h2⟩ := h
  exact ⟨cs, h1.below hb, h2.imp (ET.map fun _ _ h => Ap.RdO.below h hb)⟩
theorem PsO.below {ok : Nat → Prop} {w w' : World} {v : Value} {l : List Pr} (h : PsO ok w v l) (hb : Below w.heap.size w w') : PsO ok w' v l := by
  obtain ⟨cs, h1, h2⟩ := h
  exact ⟨cs, h1.below hb, h2.imp (EP.map fun _ _ h => Ap.RdO.below h hb)⟩
theorem so_below {ok : Nat → Prop} {w w' : World} {v : Value} {l : List ByteArray} (h : StrsO ok w v l) (hb : Below w.heap.size w w') : StrsO ok w' v l := Ap.RdO.below h hb
theorem so_strs {ok : Nat → Prop} {w : World} {v : Value} {l : List ByteArray} (h : StrsO ok w v l) : Strs w v l := Ap.RdO.rd h
theorem so_of {w : World} {v : Value} {l : List ByteArray} (h : Strs w v l) : StrsO any w v l := Ap.RdO.of (by omega) h
theorem cells_cl {w : World} : ∀ {cs : List Value} {l : List Tr}, TrCells w cs l → Cl (ET any w) 2 l cs
  | [], [], _ => rfl
  | a :: e :: cs, t :: l, h => ⟨⟨a, by simp [h.2.1], so_of h.1⟩, by simpa using cells_cl h.2.2⟩
  | [], _ :: _, h => h.elim
  | [_], [], h => h.elim
  | [_], _ :: _, h => h.elim
  | _ :: _ :: _, [], h => h.elim
theorem cl_cells {ok : Nat → Prop} {w : World} : ∀ {l : List Tr} {cs : List Value}, Cl (ET ok w) 2 l cs → TrCells w cs l
  | [], cs, h => by rw [show cs = [] from h]; trivial
  | t :: l, cs, h => by
    obtain ⟨⟨a, h1, h2⟩, h3⟩ := h
    match cs, h1, h3 with
    | x :: y :: cs, h1, h3 =>
      simp only [List.take_succ_cons, List.take_zero, List.cons.injEq, and_true] at h1
      obtain ⟨rfl, rfl⟩ := h1
      exact ⟨so_strs h2, rfl, cl_cells h3⟩
    | [x], h1, _ => simp at h1
    | [], h1, _ => simp at h1
theorem TsO.of {w : World} {v : Value} {l : List Tr} (h : Trs w v l) : TsO any w v l := by
  obtain ⟨cs, h1, h2⟩ := h
  exact ⟨cs, Ap.RdO.of (by omega) h1, cells_cl h2⟩
theorem TsO.trs {ok : Nat → Prop} {w : World} {v : Value} {l : List Tr} (h : TsO ok w v l) : Trs w v l := by
  obtain ⟨cs, h1, h2⟩ := h
  exact ⟨cs, h1.rd, cl_cells h2⟩
theorem take2 {cs : List Value} {k : Nat} {a b : Value} (h : (cs.drop (k * 2)).take 2 = [a, b]) : cs[2 * k]? = some a ∧ cs[2 * k + 1]? = some b := by
  have h0 : ((cs.drop (k * 2)).take 2)[0]? = some a := by rw [h]; rfl
  have h1 : ((cs.drop (k * 2)).take 2)[1]? = some b := by rw [h]; rfl
  rw [List.getElem?_take_of_lt (by omega), List.getElem?_drop] at h0 h1
  rw [Nat.mul_comm] at h0 h1
  exact ⟨by simpa using h0, h1⟩
theorem take4 {cs : List Value} {k : Nat} {a b c d : Value} (h : (cs.drop (k * 4)).take 4 = [a, b, c, d]) : cs[k * 4]? = some a ∧ cs[k * 4 + 1]? = some b ∧ cs[k * 4 + 2]? = some c ∧ cs[k * 4 + 3]? = some d := by
  have h0 : ((cs.drop (k * 4)).take 4)[0]? = some a := by rw [h]; rfl
  have h1 : ((cs.drop (k * 4)).take 4)[1]? = some b := by rw [h]; rfl
  have h2 : ((cs.drop (k * 4)).take 4)[2]? = some c := by rw [h]; rfl
  have h3 : ((cs.drop (k * 4)).take 4)[3]? = some d := by rw [h]; rfl
  rw [List.getElem?_take_of_lt (by omega), List.getElem?_drop] at h0 h1 h2 h3
  exact ⟨by simpa using h0, h1, h2, h3⟩
/-- A trace of a row: its two cells. -/
theorem TsO.val {ok : Nat → Prop} {w : World} {v : Value} {l : List Tr} (h : TsO ok w v l) : ∃ a cap, v = .slice a l.length cap ∧ l.length ≤ cap ∧
    ∀ k, (hk : k < l.length) → ∃ b off x, a = some ⟨b, off, none⟩ ∧ ok b ∧ w.cell? ⟨b, off + k * 2, none⟩ = some x ∧ w.cell? ⟨b, off + k * 2 + 1, none⟩ = some (.int .i64 l[k].e) ∧ StrsO ok w x l[k].a := by
  obtain ⟨cs, ⟨_, a, cap, rfl, hcap, _, hcell⟩, hc⟩ := h
  refine ⟨a, cap, rfl, hcap, fun k hk => ?_⟩
  obtain ⟨b, off, rfl, ho, _, hj⟩ := hcell (by omega)
  obtain ⟨x, h1, h2⟩ := hc.at k hk
  obtain ⟨e1, e2⟩ := take2 h1
  rw [Nat.mul_comm] at e1 e2
  exact ⟨b, off, x, rfl, ho, hj _ _ e1, by rw [Nat.add_assoc]; exact hj _ _ e2, h2⟩
theorem PsO.val {ok : Nat → Prop} {w : World} {v : Value} {l : List Pr} (h : PsO ok w v l) : ∃ a cap, v = .slice a l.length cap ∧ l.length ≤ cap ∧
    ∀ k, (hk : k < l.length) → ∃ b off x y, a = some ⟨b, off, none⟩ ∧ ok b ∧ w.cell? ⟨b, off + k * 4, none⟩ = some x ∧ w.cell? ⟨b, off + k * 4 + 1, none⟩ = some (.int .i64 l[k].p.e) ∧ w.cell? ⟨b, off + k * 4 + 2, none⟩ = some y ∧ w.cell? ⟨b, off + k * 4 + 3, none⟩ = some (.int .i64 l[k].q.e) ∧ StrsO ok w x l[k].p.a ∧ StrsO ok w y l[k].q.a := by
  obtain ⟨cs, ⟨_, a, cap, rfl, hcap, _, hcell⟩, hc⟩ := h
  refine ⟨a, cap, rfl, hcap, fun k hk => ?_⟩
  obtain ⟨b, off, rfl, ho, _, hj⟩ := hcell (by omega)
  obtain ⟨x, y, h1, h2, h3⟩ := hc.at k hk
  obtain ⟨e1, e2, e3, e4⟩ := take4 h1
  exact ⟨b, off, x, y, rfl, ho, hj _ _ e1, by rw [Nat.add_assoc]; exact hj _ _ e2, by rw [Nat.add_assoc]; exact hj _ _ e3, by rw [Nat.add_assoc]; exact hj _ _ e4, h2, h3⟩

/-- A call that tells a row: all of it in blocks that were there, as ok says, or in new ones. -/
def OutT (ok : Nat → Prop) (l : List Tr) (w : World) (e : Ending) (w' : World) : Prop := ∃ a c, e = .returned (.slice a l.length c) ∧ TsO (fun b => ok b ∨ w.heap.size ≤ b) w' (.slice a l.length c) l ∧ Below w.heap.size w w'
def OutP (ok : Nat → Prop) (l : List Pr) (w : World) (e : Ending) (w' : World) : Prop := ∃ a c, e = .returned (.slice a l.length c) ∧ PsO (fun b => ok b ∨ w.heap.size ≤ b) w' (.slice a l.length c) l ∧ Below w.heap.size w w'
theorem OutT.up {ok ok' : Nat → Prop} {l : List Tr} {w w1 w2 : World} {e : Ending} (h : OutT ok' l w1 e w2) (hb : Below w.heap.size w w1) (hi : ∀ b, ok' b → ok b ∨ w.heap.size ≤ b) : OutT ok l w e w2 := by
  obtain ⟨a, c, rfl, ht, hb'⟩ := h
  have := hb.size
  exact ⟨a, c, rfl, ht.imp fun b _ h => h.elim (hi b) fun h => .inr (by omega), hb.trans (hb'.mono hb.size)⟩
theorem OutP.up {ok ok' : Nat → Prop} {l : List Pr} {w w1 w2 : World} {e : Ending} (h : OutP ok' l w1 e w2) (hb : Below w.heap.size w w1) (hi : ∀ b, ok' b → ok b ∨ w.heap.size ≤ b) : OutP ok l w e w2 := by
  obtain ⟨a, c, rfl, ht, hb'⟩ := h
  have := hb.size
  exact ⟨a, c, rfl, ht.imp fun b _ h => h.elim (hi b) fun h => .inr (by omega), hb.trans (hb'.mono hb.size)⟩
end Go.Proofs.YtghnonbcojbohaaGreatDoor.Mn
