/- What trees mean: plain. The program's Strip: a loop with a goto. -/
import Derived.Test.YtpkbpooiaddcaaaGreatQ13
import Derived.Test.YtpkbpooiaddcaaaGreatQ10
import Derived.WalkMore
import Derived.ScopeJumps
import Derived.Deep.Upon

namespace Go.Proofs.YtpkbpooiaddcaaaGreat.Mn
open Go Tr Rw So

def nm (l : List Nd) : ByteArray := match l with | [] => ⟨#[]⟩ | n :: _ => n.n
def sg (l : List Nd) : Int := match l with | [] => 0 | n :: _ => n.s
/-- The traces of a tree, by those of its kids. -/
def stepT (t : List Nd → List Tr) (p : List Nd → List Pr) (l : List Nd) : List Tr :=
  if hd l = 1 then [⟨[nm l], 1⟩] else if hd l = 2 then [tick] else if hd l = 3 then [bang] else if hd l = 4 then [tick, ⟨[], 3⟩] else if hd l = 11 then [⟨[], sg l⟩]
  else if hd l = 9 then norm (blk (p (k0 l))) else norm (two (hd l) (t (k0 l)) (t (k1 l)))
/-- The pairs of a tree, by what its kids are. -/
def stepP (t : List Nd → List Tr) (p : List Nd → List Pr) (l : List Nd) : List Pr :=
  if hd l = 10 then pnorm (going (t (k0 l)) (t (k1 l)) ++ [way]) else if hd l = 12 then pnorm (going (t (k0 l)) (t (k1 l))) else if hd l = 13 then pnorm (stack (p (k0 l)) (t (k1 l)))
  else if hd l = 14 then pnorm (fin (sg l) (t (k0 l))) else pnorm (twoP (hd l) (p (k0 l)) (p (k1 l)))
def mF : Nat → (List Nd → List Tr) × (List Nd → List Pr)
  | 0 => (fun _ => [], fun _ => [])
  | f + 1 => (stepT (mF f).1 (mF f).2, stepP (mF f).1 (mF f).2)
theorem stepT_congr {t t' : List Nd → List Tr} {p p' : List Nd → List Pr} (l : List Nd) (h : ∀ i, t ((kids l).getD i []) = t' ((kids l).getD i [])) (g : ∀ i, p ((kids l).getD i []) = p' ((kids l).getD i [])) : stepT t p l = stepT t' p' l := by
  unfold stepT k0 k1
  simp only [h, g]
theorem stepP_congr {t t' : List Nd → List Tr} {p p' : List Nd → List Pr} (l : List Nd) (h : ∀ i, t ((kids l).getD i []) = t' ((kids l).getD i [])) (g : ∀ i, p ((kids l).getD i []) = p' ((kids l).getD i [])) : stepP t p l = stepP t' p' l := by
  unfold stepP k0 k1
  simp only [h, g]
theorem mF_nil : ∀ f : Nat, (mF f).1 [] = [] ∧ (mF f).2 [] = []
  | 0 => ⟨rfl, rfl⟩
  | f + 1 => by
    obtain ⟨h1, h2⟩ := mF_nil f
    have e0 : k0 [] = [] := rfl
    have e1 : k1 [] = [] := rfl
    constructor
    · show stepT (mF f).1 (mF f).2 [] = []
      unfold stepT
      rw [e0, e1, h1]
      rfl
    · show stepP (mF f).1 (mF f).2 [] = []
      unfold stepP
      rw [e0, e1, h2]
      rfl
theorem mF_fuel : ∀ (f : Nat) (l : List Nd), l.length ≤ f → (mF (f + 1)).1 l = (mF f).1 l ∧ (mF (f + 1)).2 l = (mF f).2 l
  | 0, l, h => by
    have : l = [] := List.eq_nil_of_length_eq_zero (by omega)
    subst this
    rw [(mF_nil 1).1, (mF_nil 1).2]
    exact ⟨rfl, rfl⟩
  | f + 1, l, h => by
    by_cases h0 : 0 < l.length
    · have hk : ∀ i, ((kids l).getD i []).length ≤ f := fun i => by have := getD_short l i h0; omega
      exact ⟨stepT_congr l (fun i => (mF_fuel f _ (hk i)).1) (fun i => (mF_fuel f _ (hk i)).2), stepP_congr l (fun i => (mF_fuel f _ (hk i)).1) (fun i => (mF_fuel f _ (hk i)).2)⟩
    · have : l = [] := List.eq_nil_of_length_eq_zero (by omega)
      subst this
      rw [(mF_nil _).1, (mF_nil _).2, (mF_nil _).1, (mF_nil _).2]
      exact ⟨rfl, rfl⟩
/-- The traces, and the pairs, of a tree. -/
def Mt (l : List Nd) : List Tr := (mF l.length).1 l
def Mp (l : List Nd) : List Pr := (mF l.length).2 l
theorem mF_M (f : Nat) (l : List Nd) (h : l.length ≤ f) : (mF f).1 l = Mt l ∧ (mF f).2 l = Mp l := by
  have : ∀ g, (mF (l.length + g)).1 l = Mt l ∧ (mF (l.length + g)).2 l = Mp l := by
    intro g
    induction g with
    | zero => exact ⟨rfl, rfl⟩
    | succ g ih => rw [← Nat.add_assoc, (mF_fuel _ _ (by omega)).1, (mF_fuel _ _ (by omega)).2]; exact ih
  have h' := this (f - l.length)
  rw [show l.length + (f - l.length) = f by omega] at h'
  exact h'
theorem M_eq {l : List Nd} (h : 0 < l.length) : Mt l = stepT Mt Mp l ∧ Mp l = stepP Mt Mp l := by
  obtain ⟨n, hn⟩ : ∃ n, l.length = n + 1 := ⟨l.length - 1, by omega⟩
  have hk : ∀ i, ((kids l).getD i []).length ≤ n := fun i => by have := getD_short l i h; omega
  unfold Mt Mp
  rw [hn]
  exact ⟨stepT_congr l (fun i => (mF_M n _ (hk i)).1) (fun i => (mF_M n _ (hk i)).2), stepP_congr l (fun i => (mF_M n _ (hk i)).1) (fun i => (mF_M n _ (hk i)).2)⟩

/-- How many Acts of which f asks for the name. -/
def acF (f : ByteArray → Bool) (l : List Nd) : Nat := l.countP fun x => decide (x.k = 1) && f x.n
abbrev acs (l : List Nd) : Nat := acF all l
theorem acF_append (f : ByteArray → Bool) (l m : List Nd) : acF f (l ++ m) = acF f l + acF f m := List.countP_append
theorem acF_cons (f : ByteArray → Bool) (x : Nd) (l : List Nd) (h : x.k ≠ 1) : acF f (x :: l) = acF f l := by
  unfold acF
  rw [List.countP_cons]
  simp [h]
theorem acs_cnt (l : List Nd) : acs l = cnt l [1] := by
  unfold acs acF cnt
  congr 1
  funext x
  simp [all]
/-- A tree of a node that has two. -/
theorem cut2 {l : List Nd} (h : Tre l) (h2 : ar (hd l) = 2) : ∃ a b, kids l = [a, b] ∧ k0 l = a ∧ k1 l = b ∧ Tre a ∧ Tre b ∧ a.length + b.length + 1 = l.length ∧ (∀ f, acF f l = acF f a + acF f b) ∧ (l.all rgt = true → a.all rgt = true ∧ b.all rgt = true) := by
  obtain ⟨x, hx, he⟩ := h.flat
  obtain ⟨a, b, hk, t1, t2, s1, s2⟩ := h.two h2
  rw [hk] at he
  have he' : l = x :: (a ++ b) := by rw [he]; simp
  refine ⟨a, b, hk, by unfold k0; rw [hk]; rfl, by unfold k1; rw [hk]; rfl, t1, t2, by rw [he']; simp, fun f => ?_, fun hr => ?_⟩
  · have h1 : x.k ≠ 1 := fun e => by rw [hx, e] at h2; exact absurd h2 (by decide)
    rw [he', acF_cons f x _ h1, acF_append]
  · rw [he'] at hr
    simp only [List.all_cons, List.all_append, Bool.and_eq_true] at hr
    exact hr.2
theorem cut1 {l : List Nd} (h : Tre l) (h1 : ar (hd l) = 1) : ∃ a, kids l = [a] ∧ k0 l = a ∧ Tre a ∧ a.length + 1 = l.length ∧ (∀ f, acF f l = acF f a) ∧ (l.all rgt = true → a.all rgt = true) := by
  obtain ⟨x, hx, he⟩ := h.flat
  obtain ⟨a, hk, t1, s1⟩ := h.one h1
  rw [hk] at he
  have he' : l = x :: a := by rw [he]; simp
  refine ⟨a, hk, by unfold k0; rw [hk]; rfl, t1, by rw [he']; simp, fun f => ?_, fun hr => ?_⟩
  · have h1 : x.k ≠ 1 := fun e => by rw [hx, e] at h1; exact absurd h1 (by decide)
    rw [he', acF_cons f x _ h1]
  · rw [he'] at hr
    simp only [List.all_cons, Bool.and_eq_true] at hr
    exact hr.2
theorem cut0 {l : List Nd} (h : Tre l) (h0 : ar (hd l) = 0) : ∃ x, l = [x] ∧ hd l = x.k := by
  obtain ⟨x, hx, he⟩ := h.flat
  have hk : kids l = [] := List.eq_nil_of_length_eq_zero (by rw [h.kids.1, h0]; rfl)
  rw [hk] at he
  exact ⟨x, he, hx⟩

/-- What goes on plain: by its first node. -/
theorem shape3 {l : List Nd} (ht : Tre l) (h : Is 3 l = true) :
    (ar (hd l) = 0 ∧ (hd l = 1 ∨ hd l = 2 ∨ hd l = 3 ∨ hd l = 4 ∨ hd l = 11)) ∨ (hd l = 9 ∧ Is 4 (k0 l) = true) ∨ ((hd l = 5 ∨ hd l = 6 ∨ hd l = 7 ∨ hd l = 8) ∧ Is 3 (k0 l) = true ∧ Is 3 (k1 l) = true ∧ (hd l = 8 → Is 1 (k1 l) = true)) := by
  have e := eq_5_3 (l := l)
  rcases kinds ht.ar with hk | hk | hk | hk | hk | hk | hk | hk | hk | hk | hk | hk | hk | hk
  · exact .inl ⟨by rw [hk]; rfl, by omega⟩
  · exact .inl ⟨by rw [hk]; rfl, by omega⟩
  · exact .inl ⟨by rw [hk]; rfl, by omega⟩
  · exact .inl ⟨by rw [hk]; rfl, by omega⟩
  · rw [eq_5_3 hk] at h
    simp only [Bool.or_eq_true, Bool.and_eq_true] at h
    exact .inr (.inr ⟨by omega, h.elim (fun h => one_three h.1) (fun h => h.1), h.elim (fun h => one_three h.2) (fun h => one_three h.2), fun h8 => by omega⟩)
  · rw [eq_6_3 hk] at h
    simp only [Bool.or_false, Bool.and_eq_true] at h
    exact .inr (.inr ⟨by omega, one_three h.1, one_three h.2, fun h8 => by omega⟩)
  · rw [eq_7_3 hk] at h
    simp only [Bool.or_eq_true, Bool.and_eq_true] at h
    exact .inr (.inr ⟨by omega, h.elim (fun h => one_three h.1) (fun h => h.1), h.elim (fun h => one_three h.2) (fun h => h.2), fun h8 => by omega⟩)
  · rw [eq_8_3 hk] at h
    simp only [Bool.or_eq_true, Bool.and_eq_true] at h
    exact .inr (.inr ⟨by omega, h.elim (fun h => one_three h.1) (fun h => h.1), h.elim (fun h => one_three h.2) (fun h => one_three h.2), fun _ => h.elim (fun h => h.2) (fun h => h.2)⟩)
  · rw [eq_9_3 hk] at h
    simp only [Bool.or_eq_true] at h
    exact .inr (.inl ⟨hk, h.elim two_four id⟩)
  · rw [eq_10_3 hk] at h; cases h
  · exact .inl ⟨by rw [hk]; rfl, by omega⟩
  · rw [eq_12_3 hk] at h; cases h
  · rw [eq_13_3 hk] at h; cases h
  · rw [eq_14_3 hk] at h; cases h
theorem shape4 {l : List Nd} (ht : Tre l) (h : Is 4 l = true) :
    ((hd l = 5 ∨ hd l = 6 ∨ hd l = 7) ∧ Is 4 (k0 l) = true ∧ Is 4 (k1 l) = true) ∨ ((hd l = 10 ∨ hd l = 12) ∧ Is 3 (k0 l) = true ∧ Is 1 (k1 l) = true) ∨ (hd l = 13 ∧ Is 4 (k0 l) = true ∧ Is 1 (k1 l) = true) ∨ (hd l = 14 ∧ Is 1 (k0 l) = true) := by
  rcases kinds ht.ar with hk | hk | hk | hk | hk | hk | hk | hk | hk | hk | hk | hk | hk | hk
  · rw [eq_1_4 hk] at h; cases h
  · rw [eq_2_4 hk] at h; cases h
  · rw [eq_3_4 hk] at h; cases h
  · rw [eq_4_4 hk] at h; cases h
  · rw [eq_5_4 hk] at h
    simp only [Bool.or_eq_true, Bool.and_eq_true] at h
    exact .inl ⟨by omega, h.elim (fun h => two_four h.1) (fun h => h.1), h.elim (fun h => two_four h.2) (fun h => two_four h.2)⟩
  · rw [eq_6_4 hk] at h
    simp only [Bool.or_false, Bool.and_eq_true] at h
    exact .inl ⟨by omega, two_four h.1, two_four h.2⟩
  · rw [eq_7_4 hk] at h
    simp only [Bool.or_eq_true, Bool.and_eq_true] at h
    exact .inl ⟨by omega, h.elim (fun h => two_four h.1) (fun h => h.1), h.elim (fun h => two_four h.2) (fun h => h.2)⟩
  · rw [eq_8_4 hk] at h; cases h
  · rw [eq_9_4 hk] at h; cases h
  · rw [eq_10_4 hk] at h
    simp only [Bool.or_false, Bool.and_eq_true] at h
    exact .inr (.inl ⟨by omega, one_three h.1, h.2⟩)
  · rw [eq_11_4 hk] at h; cases h
  · rw [eq_12_4 hk] at h
    simp only [Bool.false_or, Bool.and_eq_true] at h
    exact .inr (.inl ⟨by omega, h.1, h.2⟩)
  · rw [eq_13_4 hk] at h
    simp only [Bool.false_or, Bool.and_eq_true] at h
    exact .inr (.inr (.inl ⟨hk, h.1, h.2⟩))
  · rw [eq_14_4 hk] at h
    simp only [Bool.false_or] at h
    exact .inr (.inr (.inr ⟨hk, h⟩))
/-- Terms: by their first node. -/
theorem shape1 {l : List Nd} (ht : Tre l) (h : Is 1 l = true) :
    (hd l = 1 ∨ hd l = 2 ∨ hd l = 3 ∨ hd l = 4) ∨ (hd l = 9 ∧ Is 2 (k0 l) = true) ∨ ((hd l = 5 ∨ hd l = 6 ∨ hd l = 7 ∨ hd l = 8) ∧ Is 1 (k0 l) = true ∧ Is 1 (k1 l) = true) := by
  rcases shape3 ht (one_three h) with ⟨_, hk⟩ | ⟨hk, _⟩ | ⟨hk, _⟩
  · rcases hk with hk | hk | hk | hk | hk
    · exact .inl (by omega)
    · exact .inl (by omega)
    · exact .inl (by omega)
    · exact .inl (by omega)
    · rw [eq_11_1 hk] at h; cases h
  · rw [eq_9_1 hk] at h
    exact .inr (.inl ⟨hk, h⟩)
  · refine .inr (.inr ⟨hk, ?_⟩)
    rw [← Bool.and_eq_true]
    rcases hk with hk | hk | hk | hk
    · rw [← eq_5_1 hk]; exact h
    · rw [← eq_6_1 hk]; exact h
    · rw [← eq_7_1 hk]; exact h
    · rw [← eq_8_1 hk]; exact h
theorem shape2 {l : List Nd} (ht : Tre l) (h : Is 2 l = true) :
    (hd l = 10 ∧ Is 1 (k0 l) = true ∧ Is 1 (k1 l) = true) ∨ ((hd l = 5 ∨ hd l = 6 ∨ hd l = 7) ∧ Is 2 (k0 l) = true ∧ Is 2 (k1 l) = true) := by
  rcases shape4 ht (two_four h) with ⟨hk, _⟩ | ⟨hk, _⟩ | ⟨hk, _⟩ | ⟨hk, _⟩
  · refine .inr ⟨hk, ?_⟩
    rw [← Bool.and_eq_true]
    rcases hk with hk | hk | hk
    · rw [← eq_5_2 hk]; exact h
    · rw [← eq_6_2 hk]; exact h
    · rw [← eq_7_2 hk]; exact h
  · rcases hk with hk | hk
    · refine .inl ⟨hk, ?_⟩
      rw [← Bool.and_eq_true, ← eq_10_2 hk]
      exact h
    · rw [eq_12_2 hk] at h; cases h
  · rw [eq_13_2 hk] at h; cases h
  · rw [eq_14_2 hk] at h; cases h

theorem stepT_9 {t : List Nd → List Tr} {p : List Nd → List Pr} {l : List Nd} (h : hd l = 9) : stepT t p l = norm (blk (p (k0 l))) := by unfold stepT; rw [h]; rfl
theorem stepT_2 {t : List Nd → List Tr} {p : List Nd → List Pr} {l : List Nd} (h : hd l = 5 ∨ hd l = 6 ∨ hd l = 7 ∨ hd l = 8) : stepT t p l = norm (two (hd l) (t (k0 l)) (t (k1 l))) := by
  unfold stepT
  rcases h with h | h | h | h <;> rw [h] <;> rfl
theorem stepP_10 {t : List Nd → List Tr} {p : List Nd → List Pr} {l : List Nd} (h : hd l = 10) : stepP t p l = pnorm (going (t (k0 l)) (t (k1 l)) ++ [way]) := by unfold stepP; rw [h]; rfl
theorem stepP_12 {t : List Nd → List Tr} {p : List Nd → List Pr} {l : List Nd} (h : hd l = 12) : stepP t p l = pnorm (going (t (k0 l)) (t (k1 l))) := by unfold stepP; rw [h]; rfl
theorem stepP_13 {t : List Nd → List Tr} {p : List Nd → List Pr} {l : List Nd} (h : hd l = 13) : stepP t p l = pnorm (stack (p (k0 l)) (t (k1 l))) := by unfold stepP; rw [h]; rfl
theorem stepP_14 {t : List Nd → List Tr} {p : List Nd → List Pr} {l : List Nd} (h : hd l = 14) : stepP t p l = pnorm (fin (sg l) (t (k0 l))) := by unfold stepP; rw [h]; rfl
theorem stepP_2 {t : List Nd → List Tr} {p : List Nd → List Pr} {l : List Nd} (h : hd l = 5 ∨ hd l = 6 ∨ hd l = 7) : stepP t p l = pnorm (twoP (hd l) (p (k0 l)) (p (k1 l))) := by
  unfold stepP
  rcases h with h | h | h <;> rw [h] <;> rfl

/-- What is known of the traces, and the pairs, of a tree. -/
structure GT (l : List Nd) : Prop where
  len : (Mt l).length ≤ K l.length (acs l)
  cnt : ∀ f, CT f (acF f l) (Mt l)
  up : Up (Mt l)
  sg : l.all rgt = true → ST (Mt l)
structure GP (l : List Nd) : Prop where
  len : (Mp l).length ≤ K l.length (acs l)
  cnt : ∀ f, CP f (acF f l) (Mp l)
  up : PUp (Mp l)
  sg : l.all rgt = true → SP (Mp l)
theorem two_up (p q : Tr) (h : cmp p q < 0) : Up [p, q] := List.pairwise_cons.2 ⟨fun t ht => by rw [List.mem_singleton] at ht; rw [ht]; exact h, List.pairwise_singleton _ _⟩
theorem rgt_sg {x : Nd} (h : rgt x = true) (hk : x.k = 11 ∨ x.k = 14) : Sgn x.s := by
  obtain ⟨k, n, s⟩ := x
  rw [rgt_sign n s hk] at h
  simp only [Bool.and_eq_true, decide_eq_true_eq] at h
  unfold Sgn
  show s = 1 ∨ s = 2 ∨ s = 3
  omega
theorem good : ∀ (m : Nat) (l : List Nd), l.length ≤ m → Tre l → (Is 3 l = true → GT l) ∧ (Is 4 l = true → GP l)
  | 0, l, h, ht => absurd ht.pos (by omega)
  | m + 1, l, h, ht => by
    obtain ⟨eT, eP⟩ := M_eq ht.pos
    constructor
    · intro hi
      rcases shape3 ht hi with ⟨h0, hk⟩ | ⟨hk, hi⟩ | ⟨hk, hi, hj, _⟩
      · obtain ⟨x, rfl, hx⟩ := cut0 ht h0
        have one : ∀ t : Tr, Mt [x] = [t] → (∀ f, t.a.countP f ≤ acF f [x]) → ([x].all rgt = true → Sgn t.e) → GT [x] := fun t e h1 h2 =>
          ⟨by rw [e]; exact K_pos _ _, fun f u hu => by rw [e, List.mem_singleton] at hu; rw [hu]; exact h1 f, by rw [e]; exact up_one t, fun hr u hu => by rw [e, List.mem_singleton] at hu; rw [hu]; exact h2 hr⟩
        rcases hk with hk | hk | hk | hk | hk
        · refine one ⟨[x.n], 1⟩ (by rw [eT]; unfold stepT; rw [hk]; rfl) (fun f => ?_) fun _ => sgn1
          have h1 : x.k = 1 := by rw [← hx]; exact hk
          simp [acF, h1]
        · exact one tick (by rw [eT]; unfold stepT; rw [hk]; rfl) (fun f => Nat.zero_le _) fun _ => sgn1
        · exact one bang (by rw [eT]; unfold stepT; rw [hk]; rfl) (fun f => Nat.zero_le _) fun _ => Or.inr (Or.inl rfl)
        · have e : Mt [x] = [tick, ⟨[], 3⟩] := by rw [eT]; unfold stepT; rw [hk]; rfl
          refine ⟨by rw [e]; show 2 ≤ K 1 _; unfold K; have := fac_pos (acs [x]); omega, fun f u hu => ?_, by rw [e]; exact two_up _ _ (by decide), fun _ u hu => ?_⟩
          · rw [e] at hu
            rcases List.mem_cons.1 hu with rfl | hu
            · exact Nat.zero_le _
            · rw [List.mem_singleton] at hu; rw [hu]; exact Nat.zero_le _
          · rw [e] at hu
            rcases List.mem_cons.1 hu with rfl | hu
            · exact sgn1
            · rw [List.mem_singleton] at hu; rw [hu]; exact sgn3
        · refine one ⟨[], x.s⟩ (by rw [eT]; unfold stepT; rw [hk]; rfl) (fun f => Nat.zero_le _) fun hr => ?_
          simp only [List.all_cons, List.all_nil, Bool.and_true] at hr
          exact rgt_sg hr (.inl (by rw [← hx]; exact hk))
      · obtain ⟨a, hkk, e0, ta, hl, hc, hr⟩ := cut1 ht (by rw [hk]; rfl)
        rw [e0] at hi
        have ga := (good m a (by omega) ta).2 hi
        rw [stepT_9 hk, e0] at eT
        refine ⟨?_, fun f => ?_, by rw [eT]; exact up_norm _, fun h => by rw [eT]; exact (blk_st (ga.sg (hr h))).norm⟩
        · rw [eT, ← hl]
          refine Nat.le_trans (length_norm _) (Nat.le_trans (blk_len ga.len) ?_)
          unfold acs
          rw [hc all]
          exact Nat.le_refl _
        · rw [eT, hc f]; exact (blk_ct (ga.cnt f)).norm
      · obtain ⟨a, b, hkk, e0, e1, ta, tb, hl, hc, hr⟩ := cut2 ht (by rcases hk with hk | hk | hk | hk <;> rw [hk] <;> rfl)
        rw [e0] at hi
        rw [e1] at hj
        have ga := (good m a (by omega) ta).1 hi
        have gb := (good m b (by omega) tb).1 hj
        rw [stepT_2 hk, e0, e1] at eT
        refine ⟨?_, fun f => ?_, by rw [eT]; exact up_norm _, fun h => by rw [eT]; exact (two_st (ga.sg (hr h).1) (gb.sg (hr h).2)).norm⟩
        · rw [eT, ← hl]
          refine Nat.le_trans (length_norm _) (Nat.le_trans (two_len (ga.cnt all) (gb.cnt all) ga.len gb.len) ?_)
          unfold acs
          rw [hc all]
          exact Nat.le_refl _
        · rw [eT, hc f]; exact (two_ct (ga.cnt f) (gb.cnt f)).norm
    · intro hi
      rcases shape4 ht hi with ⟨hk, hi, hj⟩ | ⟨hk, hi, hj⟩ | ⟨hk, hi, hj⟩ | ⟨hk, hi⟩
      · obtain ⟨a, b, hkk, e0, e1, ta, tb, hl, hc, hr⟩ := cut2 ht (by rcases hk with hk | hk | hk <;> rw [hk] <;> rfl)
        rw [e0] at hi
        rw [e1] at hj
        have ga := (good m a (by omega) ta).2 hi
        have gb := (good m b (by omega) tb).2 hj
        rw [stepP_2 hk, e0, e1] at eP
        refine ⟨?_, fun f => ?_, by rw [eP]; exact pup_norm _, fun h => by rw [eP]; exact (twoP_sp (ga.sg (hr h).1) (gb.sg (hr h).2)).norm⟩
        · rw [eP, ← hl]
          refine Nat.le_trans (plength_norm _) (Nat.le_trans (twoP_len (ga.cnt all) (gb.cnt all) ga.len gb.len) ?_)
          unfold acs
          rw [hc all]
          exact Nat.le_refl _
        · rw [eP, hc f]; exact (twoP_cp (ga.cnt f) (gb.cnt f)).norm
      · obtain ⟨a, b, hkk, e0, e1, ta, tb, hl, hc, hr⟩ := cut2 ht (by rcases hk with hk | hk <;> rw [hk] <;> rfl)
        rw [e0] at hi
        rw [e1] at hj
        have ga := (good m a (by omega) ta).1 hi
        have gb := (good m b (by omega) tb).1 (one_three hj)
        rcases hk with hk | hk
        · rw [stepP_10 hk, e0, e1] at eP
          refine ⟨?_, fun f => ?_, by rw [eP]; exact pup_norm _, fun h => by rw [eP]; exact (way_sp (going_sp (ga.sg (hr h).1) (gb.sg (hr h).2))).norm⟩
          · rw [eP, ← hl]
            refine Nat.le_trans (plength_norm _) (Nat.le_trans (way_len (going_len ga.len gb.len)) ?_)
            unfold acs
            rw [hc all]
            exact Nat.le_refl _
          · rw [eP, hc f]; exact (way_cp (going_cp (ga.cnt f) (gb.cnt f))).norm
        · rw [stepP_12 hk, e0, e1] at eP
          refine ⟨?_, fun f => ?_, by rw [eP]; exact pup_norm _, fun h => by rw [eP]; exact (going_sp (ga.sg (hr h).1) (gb.sg (hr h).2)).norm⟩
          · rw [eP, ← hl]
            refine Nat.le_trans (plength_norm _) (Nat.le_trans (going_len ga.len gb.len) ?_)
            unfold acs
            rw [hc all]
            exact K_more (by omega) (Nat.le_refl _)
          · rw [eP, hc f]; exact (going_cp (ga.cnt f) (gb.cnt f)).norm
      · obtain ⟨a, b, hkk, e0, e1, ta, tb, hl, hc, hr⟩ := cut2 ht (by rw [hk]; rfl)
        rw [e0] at hi
        rw [e1] at hj
        have ga := (good m a (by omega) ta).2 hi
        have gb := (good m b (by omega) tb).1 (one_three hj)
        rw [stepP_13 hk, e0, e1] at eP
        refine ⟨?_, fun f => ?_, by rw [eP]; exact pup_norm _, fun h => by rw [eP]; exact (stack_sp (ga.sg (hr h).1) (gb.sg (hr h).2)).norm⟩
        · rw [eP, ← hl]
          refine Nat.le_trans (plength_norm _) (Nat.le_trans (stack_len ga.len gb.len) ?_)
          unfold acs
          rw [hc all]
          exact K_more (by omega) (Nat.le_refl _)
        · rw [eP, hc f]; exact (stack_cp (ga.cnt f) (gb.cnt f)).norm
      · obtain ⟨a, hkk, e0, ta, hl, hc, hr⟩ := cut1 ht (by rw [hk]; rfl)
        rw [e0] at hi
        have ga := (good m a (by omega) ta).1 (one_three hi)
        rw [stepP_14 hk, e0] at eP
        have hsg : l.all rgt = true → Sgn (sg l) := fun h => by
          obtain ⟨x, hx, he⟩ := ht.flat
          rw [he] at h ⊢
          simp only [List.all_cons, Bool.and_eq_true] at h
          exact rgt_sg h.1 (.inr (by rw [← hx]; exact hk))
        refine ⟨?_, fun f => ?_, by rw [eP]; exact pup_norm _, fun h => by rw [eP]; exact (fin_sp (hsg h) (ga.sg (hr h))).norm⟩
        · rw [eP, ← hl]
          refine Nat.le_trans (plength_norm _) ?_
          unfold fin
          rw [List.length_map]
          refine Nat.le_trans ga.len ?_
          unfold acs
          rw [hc all]
          exact K_more (by omega) (Nat.le_refl _)
        · rw [eP, hc f]; exact (fin_cp (ga.cnt f)).norm
theorem gt {l : List Nd} (ht : Tre l) (h : Is 3 l = true) : GT l := (good l.length l (Nat.le_refl _) ht).1 h
theorem gp {l : List Nd} (ht : Tre l) (h : Is 4 l = true) : GP l := (good l.length l (Nat.le_refl _) ht).2 h
/-- Each term has a trace that does not give way. -/
theorem live : ∀ (m : Nat) (l : List Nd), l.length ≤ m → Tre l → acs l ≤ 19 → (Is 1 l = true → LT (Mt l)) ∧ (Is 2 l = true → LP (Mp l))
  | 0, l, h, ht, _ => absurd ht.pos (by omega)
  | m + 1, l, h, ht, h19 => by
    obtain ⟨eT, eP⟩ := M_eq ht.pos
    constructor
    · intro hi
      rcases shape1 ht hi with hk | ⟨hk, hi⟩ | ⟨hk, hi, hj⟩
      · rcases hk with hk | hk | hk | hk
        · exact ⟨⟨[nm l], 1⟩, by rw [eT]; unfold stepT; rw [hk]; exact List.mem_singleton.2 rfl, .inl rfl⟩
        · exact ⟨tick, by rw [eT]; unfold stepT; rw [hk]; exact List.mem_singleton.2 rfl, .inl rfl⟩
        · exact ⟨bang, by rw [eT]; unfold stepT; rw [hk]; exact List.mem_singleton.2 rfl, .inr rfl⟩
        · exact ⟨tick, by rw [eT]; unfold stepT; rw [hk]; exact List.mem_cons_self, .inl rfl⟩
      · obtain ⟨a, hkk, e0, ta, hl, hc, hr⟩ := cut1 ht (by rw [hk]; rfl)
        rw [e0] at hi
        have := hc all
        have la := (live m a (by omega) ta (by unfold acs at h19 ⊢; omega)).2 hi
        rw [eT, stepT_9 hk, e0]
        exact (blk_lt la).norm
      · obtain ⟨a, b, hkk, e0, e1, ta, tb, hl, hc, hr⟩ := cut2 ht (by rcases hk with hk | hk | hk | hk <;> rw [hk] <;> rfl)
        rw [e0] at hi
        rw [e1] at hj
        have := hc all
        unfold acs at h19
        have la := (live m a (by omega) ta (by unfold acs; omega)).1 hi
        have lb := (live m b (by omega) tb (by unfold acs; omega)).1 hj
        rw [eT, stepT_2 hk, e0, e1]
        exact (two_lt ((gt ta (one_three hi)).cnt all) ((gt tb (one_three hj)).cnt all) (by omega) la lb).norm
    · intro hi
      rcases shape2 ht hi with ⟨hk, hi, hj⟩ | ⟨hk, hi, hj⟩
      · obtain ⟨a, b, hkk, e0, e1, ta, tb, hl, hc, hr⟩ := cut2 ht (by rw [hk]; rfl)
        rw [e0] at hi
        rw [e1] at hj
        have := hc all
        unfold acs at h19
        have la := (live m a (by omega) ta (by unfold acs; omega)).1 hi
        have lb := (live m b (by omega) tb (by unfold acs; omega)).1 hj
        rw [eP, stepP_10 hk, e0, e1]
        exact ((going_lp la lb).more).norm
      · obtain ⟨a, b, hkk, e0, e1, ta, tb, hl, hc, hr⟩ := cut2 ht (by rcases hk with hk | hk | hk <;> rw [hk] <;> rfl)
        rw [e0] at hi
        rw [e1] at hj
        have := hc all
        unfold acs at h19
        have la := (live m a (by omega) ta (by unfold acs; omega)).2 hi
        have lb := (live m b (by omega) tb (by unfold acs; omega)).2 hj
        rw [eP, stepP_2 hk, e0, e1]
        exact (twoP_lp ((gp ta (two_four hi)).cnt all) ((gp tb (two_four hj)).cnt all) (by omega) la lb).norm
theorem live1 {l : List Nd} (ht : Tre l) (h : acs l ≤ 19) (hi : Is 1 l = true) : LT (Mt l) := (live l.length l (Nat.le_refl _) ht h).1 hi
end Go.Proofs.YtpkbpooiaddcaaaGreat.Mn

namespace Go.Proofs.YtpkbpooiaddcaaaGreat.Rf
open Go Go.RowKit Go.Proofs.YtpkbpooiaddcaaaGreat.Rw
set_option maxRecDepth 20000

def lenOf : Value → Nat
  | .slice _ n _ => n
  | _ => 0
theorem pat_len {l : List Nd} (h : patB l = true) : 3 ≤ l.length := by
  match l, h with
  | a :: x :: c :: r, _ => simp
theorem strip_yes {l : List Nd} (h : patB l = true) : strip l = (l.getD 1 alt) :: strip (l.drop 3) := by
  match l, h with
  | a :: x :: c :: r, h =>
    simp only [patB, Bool.and_eq_true, decide_eq_true_eq] at h
    obtain ⟨⟨rfl, h1⟩, rfl⟩ := h
    exact strip_pat x h1 r
theorem strip_no {l : List Nd} (h : patB l = false) (h0 : 0 < l.length) : strip l = l[0] :: strip (l.drop 1) := by
  match l, h0 with
  | a :: r, _ => exact strip_not fun hp => by rw [patB_iff.2 hp] at h; cases h
set_option maxHeartbeats 8000000 in
theorem stripP_any (v : Value) (l : List Nd) (w : World) (hv : Nds w v l) (hl : l.length ≤ 1000000) :
    Calls Tryz.prog 22 #[v] w fun e w' => ∃ y, e = .returned y ∧ Nds w' y (strip l) ∧ Below w.heap.size w w' := by
  have HV0 := Lib.hid hv
  obtain ⟨_, a0, c0, rfl, hmc0, -⟩ := hv
  obtain ⟨m, hm⟩ : ∃ m, l.length = m := ⟨_, rfl⟩
  rw [hm] at HV0 hmc0 hl ⊢
  have HM0 := Lib.hid hm
  obtain ⟨sl, hsl⟩ : ∃ sl, strip l = sl := ⟨_, rfl⟩
  rw [hsl]
  have HSL := Lib.hid hsl
  obtain ⟨M, hM⟩ : ∃ M, m = M := ⟨_, rfl⟩
  have hl2 : M ≤ 1000000 := by omega
  have hmM : m + 0 ≤ M := by omega
  clear hm hsl hM
  go_enter Tryz.func22, Tryz.ntmps22
  go_wp2_with fail
  refine wp_scope_jumps 0 (fun a' wr => ∃ (r S : List Nd) (a0 : Option Addr) (m c0 : Nat) (a : Option Addr) (n c : Nat) (u4 u5 u6 u7 u8 u9 u10 u11 u12 u13 u14 u15 u16 u17 u18 u19 u20 u21 u22 u23 u24 u25 : Value), m + n ≤ M ∧ m ≤ c0 ∧ a' = { tmps := #[.slice a0 m c0, undef, .slice none 0 0, .slice a n c, u4, u5, u6, u7, u8, u9, u10, u11, u12, u13, u14, u15, u16, u17, u18, u19, u20, u21, u22, u23, u24, u25], defers := [] } ∧ Hid (r.length = m) ∧ Hid (Nds w (.slice a0 m c0) r) ∧ Hid (S ++ strip r = sl) ∧ Hid (S.length = n) ∧ Hid (Got w wr (.slice a n c) S)) (fun a' _ => lenOf (a'.tmps.getD 0 undef)) rfl ?_ ?_
  · go_wp2_with fail
    go_step3
    have HR := HM0
    have HV := HV0
    have HS : Hid ([] ++ strip l = sl) := HSL
    have HL : Hid (([] : List Nd).length = 0) := Lib.hid rfl
    have HG : Hid (Got w w (.slice none 0 0) []) := Lib.hid (Got.start w)
    by_cases hz : m = 0
    · have g0 : ((m : Int) == 0) = true := by rw [beq_iff_eq]; omega
      have HZ : Hid (sl = ([] : List Nd)) := by
        show _ = _
        rw [← HS.out]
        have : l = [] := List.eq_nil_of_length_eq_zero (by rw [HR.out]; exact hz)
        rw [this]
        exact List.append_nil _
      clear hz
      go_wp2_with fail
      simp only [Exit.jump]
      go_ret
      exact ⟨_, rfl, by rw [HZ.out]; exact HG.out.nds, HG.out.2⟩
    · have g0 : ((m : Int) == 0) = false := by rw [beq_eq_false_iff_ne]; omega
      rcases HV.out.form with ⟨h0, _⟩ | ⟨b, off, cc, he, _, hat⟩
      · exact absurd (by rw [← HR.out, h0]; rfl) hz
      · have ha0 : a0 = some ⟨b, off, none⟩ := by injection he
        clear he
        subst ha0
        have HATW := Lib.hid hat
        obtain ⟨p, hp⟩ : ∃ p, patB l = p := ⟨_, rfl⟩
        have HP := Lib.hid hp
        have HCM := Lib.hid (mayP_any _ l w (HV.out.below HG.out.2) (by rw [HR.out]; omega))
        clear hp hat
        rw [HP.out] at HCM
        go_wp2_with fail
        refine HCM.out.mono ?_
        rintro e w1 ⟨rfl, hb1⟩
        replace HG := Lib.hid (HG.out.below hb1)
        have HAT := Lib.hid (At.below HATW.out HG.out.2)
        clear hb1 HCM
        cases p with
        | true =>
          have hp3 : 3 ≤ m := by
            have := pat_len HP.out
            rwa [HR.out] at this
          obtain ⟨e1, e2, e3⟩ := HAT.out 1 (by rw [HR.out]; omega)
          have c1 : w1.cell? ⟨b, off + 3, none⟩ = some (.int .i64 (l[1]'(by rw [HR.out]; omega)).k) := by simpa using e1
          have c2 : w1.cell? ⟨b, off + 3 + 1, none⟩ = some (.string (l[1]'(by rw [HR.out]; omega)).n) := by simpa using e2
          have c3 : w1.cell? ⟨b, off + 3 + 2, none⟩ = some (.int .i64 (l[1]'(by rw [HR.out]; omega)).s) := by simpa using e3
          have hst : strip l = (l[1]'(by rw [HR.out]; omega)) :: strip (l.drop 3) := (strip_yes HP.out).trans (by rw [List.getD_eq_getElem?_getD, List.getElem?_eq_getElem (by rw [HR.out]; omega)]; rfl)
          have hdn := drop_nds HATW.out (by rw [HR.out]; exact hmc0) 3 (by rw [HR.out]; omega)
          rw [HR.out] at hdn
          have HR' : Hid ((l.drop 3).length = m - 3) := by
            show _ = _
            rw [List.length_drop, HR.out]
          obtain ⟨x, hx⟩ : ∃ x, l[1]'(by rw [HR.out]; omega) = x := ⟨_, rfl⟩
          rw [hx] at c1 c2 c3 hst
          clear e1 e2 e3 hx
          have HS' : Hid ((([] : List Nd) ++ [x]) ++ strip (l.drop 3) = sl) := by
            show _ = _
            rw [← HS.out, hst]
            simp
          clear hst
          obtain ⟨v', w3, hrun, hgot⟩ := HG.out.one x (by rw [HL.out]; omega)
          obtain ⟨a', c', rfl⟩ := hgot.slice
          have HL' : Hid ((([] : List Nd) ++ [x]).length = 0 + 1) := by
            show _ = _
            rw [List.length_append, HL.out]
            rfl
          rw [HL'.out] at hrun hgot
          have R := Lib.hid hrun
          have HG' := Lib.hid hgot
          have HDN := Lib.hid hdn
          clear hrun hgot hdn
          have hdd : (3 : Int) ≤ (m : Int) := by omega
          by_cases hcd : c0 = 3
          · have HV' : Hid (Nds w (.slice (some ⟨b, off, none⟩) (m - 3) 0) (l.drop 3)) := Lib.hid (by
              have e : l.drop 3 = [] := List.drop_eq_nil_of_le (by rw [HR.out]; omega)
              rw [e, show m - 3 = 0 by omega]
              exact empty_nds _ _ _ _)
            go_wp2_with (at_builtin; refine Ap.wpList_append_run (by rfl) (.tmp 10) (.tmp 14) _ _ rfl _ _ rfl rfl _ w3 R.out ?_)
            go_step3
            exact ⟨rfl, ⟨l.drop 3, ([] : List Nd) ++ [x], _, m - 3, 0, a', 0 + 1, c', _, _, _, _, _, _, _, _, _, _, _, _, _, _, _, _, _, _, _, _, _, _, by omega, by omega, rfl, HR', HV', HS', HL', HG'⟩⟩
          · have HV' := HDN
            go_wp2_with (at_builtin; refine Ap.wpList_append_run (by rfl) (.tmp 10) (.tmp 14) _ _ rfl _ _ rfl rfl _ w3 R.out ?_)
            go_step3
            exact ⟨rfl, ⟨l.drop 3, ([] : List Nd) ++ [x], _, m - 3, c0 - 3, a', 0 + 1, c', _, _, _, _, _, _, _, _, _, _, _, _, _, _, _, _, _, _, _, _, _, _, by omega, by omega, rfl, HR', HV', HS', HL', HG'⟩⟩
        | false =>
          obtain ⟨e1, e2, e3⟩ := HAT.out 0 (by rw [HR.out]; omega)
          have c1 : w1.cell? ⟨b, off, none⟩ = some (.int .i64 (l[0]'(by rw [HR.out]; omega)).k) := by simpa using e1
          have c2 : w1.cell? ⟨b, off + 1, none⟩ = some (.string (l[0]'(by rw [HR.out]; omega)).n) := by simpa using e2
          have c3 : w1.cell? ⟨b, off + 2, none⟩ = some (.int .i64 (l[0]'(by rw [HR.out]; omega)).s) := by simpa using e3
          have hst : strip l = (l[0]'(by rw [HR.out]; omega)) :: strip (l.drop 1) := strip_no HP.out (by rw [HR.out]; omega)
          have hdn := drop_nds HATW.out (by rw [HR.out]; exact hmc0) 1 (by rw [HR.out]; omega)
          rw [HR.out] at hdn
          have HR' : Hid ((l.drop 1).length = m - 1) := by
            show _ = _
            rw [List.length_drop, HR.out]
          obtain ⟨x, hx⟩ : ∃ x, l[0]'(by rw [HR.out]; omega) = x := ⟨_, rfl⟩
          rw [hx] at c1 c2 c3 hst
          clear e1 e2 e3 hx
          have HS' : Hid ((([] : List Nd) ++ [x]) ++ strip (l.drop 1) = sl) := by
            show _ = _
            rw [← HS.out, hst]
            simp
          clear hst
          obtain ⟨v', w3, hrun, hgot⟩ := HG.out.one x (by rw [HL.out]; omega)
          obtain ⟨a', c', rfl⟩ := hgot.slice
          have HL' : Hid ((([] : List Nd) ++ [x]).length = 0 + 1) := by
            show _ = _
            rw [List.length_append, HL.out]
            rfl
          rw [HL'.out] at hrun hgot
          have R := Lib.hid hrun
          have HG' := Lib.hid hgot
          have HDN := Lib.hid hdn
          clear hrun hgot hdn
          have hdd : (1 : Int) ≤ (m : Int) := by omega
          by_cases hcd : c0 = 1
          · have HV' : Hid (Nds w (.slice (some ⟨b, off, none⟩) (m - 1) 0) (l.drop 1)) := Lib.hid (by
              have e : l.drop 1 = [] := List.drop_eq_nil_of_le (by rw [HR.out]; omega)
              rw [e, show m - 1 = 0 by omega]
              exact empty_nds _ _ _ _)
            go_wp2_with (at_builtin; refine Ap.wpList_append_run (by rfl) (.tmp 18) (.tmp 22) _ _ rfl _ _ rfl rfl _ w3 R.out ?_)
            go_step3
            exact ⟨rfl, ⟨l.drop 1, ([] : List Nd) ++ [x], _, m - 1, 0, a', 0 + 1, c', _, _, _, _, _, _, _, _, _, _, _, _, _, _, _, _, _, _, _, _, _, _, by omega, by omega, rfl, HR', HV', HS', HL', HG'⟩⟩
          · have HV' := HDN
            go_wp2_with (at_builtin; refine Ap.wpList_append_run (by rfl) (.tmp 18) (.tmp 22) _ _ rfl _ _ rfl rfl _ w3 R.out ?_)
            go_step3
            exact ⟨rfl, ⟨l.drop 1, ([] : List Nd) ++ [x], _, m - 1, c0 - 1, a', 0 + 1, c', _, _, _, _, _, _, _, _, _, _, _, _, _, _, _, _, _, _, _, _, _, _, by omega, by omega, rfl, HR', HV', HS', HL', HG'⟩⟩
  · rintro a' wr ⟨r, S, a0, m, c0, a, n, c, u4, u5, u6, u7, u8, u9, u10, u11, u12, u13, u14, u15, u16, u17, u18, u19, u20, u21, u22, u23, u24, u25, hmM, hmc0, rfl, HR, HV, HS, HL, HG⟩
    by_cases hz : m = 0
    · have g0 : ((m : Int) == 0) = true := by rw [beq_iff_eq]; omega
      have HZ : Hid (sl = S) := by
        show _ = _
        rw [← HS.out]
        have : r = [] := List.eq_nil_of_length_eq_zero (by rw [HR.out]; exact hz)
        rw [this]
        exact List.append_nil _
      clear hz
      go_wp2_with fail
      simp only [Exit.jump]
      go_ret
      exact ⟨_, rfl, by rw [HZ.out]; exact HG.out.nds, HG.out.2⟩
    · have g0 : ((m : Int) == 0) = false := by rw [beq_eq_false_iff_ne]; omega
      rcases HV.out.form with ⟨h0, _⟩ | ⟨b, off, cc, he, _, hat⟩
      · exact absurd (by rw [← HR.out, h0]; rfl) hz
      · have ha0 : a0 = some ⟨b, off, none⟩ := by injection he
        clear he
        subst ha0
        have HATW := Lib.hid hat
        obtain ⟨p, hp⟩ : ∃ p, patB r = p := ⟨_, rfl⟩
        have HP := Lib.hid hp
        have HCM := Lib.hid (mayP_any _ r wr (HV.out.below HG.out.2) (by rw [HR.out]; omega))
        clear hp hat
        rw [HP.out] at HCM
        go_wp2_with fail
        refine HCM.out.mono ?_
        rintro e w1 ⟨rfl, hb1⟩
        replace HG := Lib.hid (HG.out.below hb1)
        have HAT := Lib.hid (At.below HATW.out HG.out.2)
        clear hb1 HCM
        cases p with
        | true =>
          have hp3 : 3 ≤ m := by
            have := pat_len HP.out
            rwa [HR.out] at this
          obtain ⟨e1, e2, e3⟩ := HAT.out 1 (by rw [HR.out]; omega)
          have c1 : w1.cell? ⟨b, off + 3, none⟩ = some (.int .i64 (r[1]'(by rw [HR.out]; omega)).k) := by simpa using e1
          have c2 : w1.cell? ⟨b, off + 3 + 1, none⟩ = some (.string (r[1]'(by rw [HR.out]; omega)).n) := by simpa using e2
          have c3 : w1.cell? ⟨b, off + 3 + 2, none⟩ = some (.int .i64 (r[1]'(by rw [HR.out]; omega)).s) := by simpa using e3
          have hst : strip r = (r[1]'(by rw [HR.out]; omega)) :: strip (r.drop 3) := (strip_yes HP.out).trans (by rw [List.getD_eq_getElem?_getD, List.getElem?_eq_getElem (by rw [HR.out]; omega)]; rfl)
          have hdn := drop_nds HATW.out (by rw [HR.out]; exact hmc0) 3 (by rw [HR.out]; omega)
          rw [HR.out] at hdn
          have HR' : Hid ((r.drop 3).length = m - 3) := by
            show _ = _
            rw [List.length_drop, HR.out]
          obtain ⟨x, hx⟩ : ∃ x, r[1]'(by rw [HR.out]; omega) = x := ⟨_, rfl⟩
          rw [hx] at c1 c2 c3 hst
          clear e1 e2 e3 hx
          have HS' : Hid ((S ++ [x]) ++ strip (r.drop 3) = sl) := by
            show _ = _
            rw [← HS.out, hst]
            simp
          clear hst
          obtain ⟨v', w3, hrun, hgot⟩ := HG.out.one x (by rw [HL.out]; omega)
          obtain ⟨a', c', rfl⟩ := hgot.slice
          have HL' : Hid ((S ++ [x]).length = n + 1) := by
            show _ = _
            rw [List.length_append, HL.out]
            rfl
          rw [HL'.out] at hrun hgot
          have R := Lib.hid hrun
          have HG' := Lib.hid hgot
          have HDN := Lib.hid hdn
          clear hrun hgot hdn
          have hdd : (3 : Int) ≤ (m : Int) := by omega
          by_cases hcd : c0 = 3
          · have HV' : Hid (Nds w (.slice (some ⟨b, off, none⟩) (m - 3) 0) (r.drop 3)) := Lib.hid (by
              have e : r.drop 3 = [] := List.drop_eq_nil_of_le (by rw [HR.out]; omega)
              rw [e, show m - 3 = 0 by omega]
              exact empty_nds _ _ _ _)
            go_wp2_with (at_builtin; refine Ap.wpList_append_run (by rfl) (.tmp 10) (.tmp 14) _ _ rfl _ _ rfl rfl _ w3 R.out ?_)
            go_step3
            refine ⟨rfl, ⟨r.drop 3, S ++ [x], _, m - 3, 0, a', n + 1, c', _, _, _, _, _, _, _, _, _, _, _, _, _, _, _, _, _, _, _, _, _, _, by omega, by omega, rfl, HR', HV', HS', HL', HG'⟩, ?_⟩
            simp [lenOf]
            omega
          · have HV' := HDN
            go_wp2_with (at_builtin; refine Ap.wpList_append_run (by rfl) (.tmp 10) (.tmp 14) _ _ rfl _ _ rfl rfl _ w3 R.out ?_)
            go_step3
            refine ⟨rfl, ⟨r.drop 3, S ++ [x], _, m - 3, c0 - 3, a', n + 1, c', _, _, _, _, _, _, _, _, _, _, _, _, _, _, _, _, _, _, _, _, _, _, by omega, by omega, rfl, HR', HV', HS', HL', HG'⟩, ?_⟩
            simp [lenOf]
            omega
        | false =>
          obtain ⟨e1, e2, e3⟩ := HAT.out 0 (by rw [HR.out]; omega)
          have c1 : w1.cell? ⟨b, off, none⟩ = some (.int .i64 (r[0]'(by rw [HR.out]; omega)).k) := by simpa using e1
          have c2 : w1.cell? ⟨b, off + 1, none⟩ = some (.string (r[0]'(by rw [HR.out]; omega)).n) := by simpa using e2
          have c3 : w1.cell? ⟨b, off + 2, none⟩ = some (.int .i64 (r[0]'(by rw [HR.out]; omega)).s) := by simpa using e3
          have hst : strip r = (r[0]'(by rw [HR.out]; omega)) :: strip (r.drop 1) := strip_no HP.out (by rw [HR.out]; omega)
          have hdn := drop_nds HATW.out (by rw [HR.out]; exact hmc0) 1 (by rw [HR.out]; omega)
          rw [HR.out] at hdn
          have HR' : Hid ((r.drop 1).length = m - 1) := by
            show _ = _
            rw [List.length_drop, HR.out]
          obtain ⟨x, hx⟩ : ∃ x, r[0]'(by rw [HR.out]; omega) = x := ⟨_, rfl⟩
          rw [hx] at c1 c2 c3 hst
          clear e1 e2 e3 hx
          have HS' : Hid ((S ++ [x]) ++ strip (r.drop 1) = sl) := by
            show _ = _
            rw [← HS.out, hst]
            simp
          clear hst
          obtain ⟨v', w3, hrun, hgot⟩ := HG.out.one x (by rw [HL.out]; omega)
          obtain ⟨a', c', rfl⟩ := hgot.slice
          have HL' : Hid ((S ++ [x]).length = n + 1) := by
            show _ = _
            rw [List.length_append, HL.out]
            rfl
          rw [HL'.out] at hrun hgot
          have R := Lib.hid hrun
          have HG' := Lib.hid hgot
          have HDN := Lib.hid hdn
          clear hrun hgot hdn
          have hdd : (1 : Int) ≤ (m : Int) := by omega
          by_cases hcd : c0 = 1
          · have HV' : Hid (Nds w (.slice (some ⟨b, off, none⟩) (m - 1) 0) (r.drop 1)) := Lib.hid (by
              have e : r.drop 1 = [] := List.drop_eq_nil_of_le (by rw [HR.out]; omega)
              rw [e, show m - 1 = 0 by omega]
              exact empty_nds _ _ _ _)
            go_wp2_with (at_builtin; refine Ap.wpList_append_run (by rfl) (.tmp 18) (.tmp 22) _ _ rfl _ _ rfl rfl _ w3 R.out ?_)
            go_step3
            refine ⟨rfl, ⟨r.drop 1, S ++ [x], _, m - 1, 0, a', n + 1, c', _, _, _, _, _, _, _, _, _, _, _, _, _, _, _, _, _, _, _, _, _, _, by omega, by omega, rfl, HR', HV', HS', HL', HG'⟩, ?_⟩
            simp [lenOf]
            omega
          · have HV' := HDN
            go_wp2_with (at_builtin; refine Ap.wpList_append_run (by rfl) (.tmp 18) (.tmp 22) _ _ rfl _ _ rfl rfl _ w3 R.out ?_)
            go_step3
            refine ⟨rfl, ⟨r.drop 1, S ++ [x], _, m - 1, c0 - 1, a', n + 1, c', _, _, _, _, _, _, _, _, _, _, _, _, _, _, _, _, _, _, _, _, _, _, by omega, by omega, rfl, HR', HV', HS', HL', HG'⟩, ?_⟩
            simp [lenOf]
            omega
end Go.Proofs.YtpkbpooiaddcaaaGreat.Rf
