/- What trees mean: plain. The program's comes: the walks. -/
import Derived.Test.YtgaediondmdnbaaGreatQ16
import Derived.Test.YtgaediondmdnbaaGreatQ10
import Derived.StillTailTactics

namespace Go.Proofs.YtgaediondmdnbaaGreat.Mn
open Go Tr Rw So

def nm (l : List Nd) : ByteArray := match l with | [] => ⟨#[]⟩ | n :: _ => n.n
def sg (l : List Nd) : Int := match l with | [] => 0 | n :: _ => n.s
/-- The traces of a tree, by those of its kids. -/
def stepT (t : List Nd → List Tr) (p : List Nd → List Pr) (l : List Nd) : List Tr :=
  if hd l = 1 then [⟨[nm l], 1⟩] else if hd l = 2 then [tick] else if hd l = 3 then [bang] else if hd l = 4 then [tick, ⟨[], 3⟩] else if hd l = 11 then [⟨[], sg l⟩]
  else if hd l = 9 then norm (blk (p (k0 l))) else norm (two (hd l) (t (k0 l)) (t (k1 l)))
/-- The pairs of a tree, by what its kids are. -/
def stepP (t : List Nd → List Tr) (p : List Nd → List Pr) (l : List Nd) : List Pr :=
  if hd l = 10 then pnorm (going (t (k0 l)) (t (k1 l)) ++ [way]) else if hd l = 12 then pnorm (going (t (k0 l)) (t (k1 l))) else if hd l = 13 then pnorm (stack (p (k0 l)) (t (k1 l)))
  else if hd l = 14 then pnorm (fin (sg l) (t (k0 l))) else pnorm (twoP (hd l) (p (k0 l)) (p (k1 l)))
def mF : Nat → (List Nd → List Tr) × (List Nd → List Pr)
  | 0 => (fun _ => [], fun _ => [])
  | f + 1 => (stepT (mF f).1 (mF f).2, stepP (mF f).1 (mF f).2)
theorem stepT_congr {t t' : List Nd → List Tr} {p p' : List Nd → List Pr} (l : List Nd) (h : ∀ i, t ((kids l).getD i []) = t' ((kids l).getD i [])) (g : ∀ i, p ((kids l).getD i []) = p' ((kids l).getD i [])) : stepT t p l = stepT t' p' l := by
  unfold stepT k0 k1
  simp only [h, g]
theorem stepP_congr {t t' : List Nd → List Tr} {p p' : List Nd → List Pr} (l : List Nd) (h : ∀ i, t ((kids l).getD i []) = t' ((kids l).getD i [])) (g : ∀ i, p ((kids l).getD i []) = p' ((kids l).getD i [])) : stepP t p l = stepP t' p' l := by
  unfold stepP k0 k1
  simp only [h, g]
theorem mF_nil : ∀ f : Nat, (mF f).1 [] = [] ∧ (mF f).2 [] = []
  | 0 => ⟨rfl, rfl⟩
  | f + 1 => by
    obtain ⟨h1, h2⟩ := mF_nil f
    have e0 : k0 [] = [] := rfl
    have e1 : k1 [] = [] := rfl
    constructor
    · show stepT (mF f).1 (mF f).2 [] = []
      unfold stepT
      rw [e0, e1, h1]
      rfl
    · show stepP (mF f).1 (mF f).2 [] = []
      unfold stepP
      rw [e0, e1, h2]
      rfl
theorem mF_fuel : ∀ (f : Nat) (l : List Nd), l.length ≤ f → (mF (f + 1)).1 l = (mF f).1 l ∧ (mF (f + 1)).2 l = (mF f).2 l
  | 0, l, h => by
    have : l = [] := List.eq_nil_of_length_eq_zero (by omega)
    subst this
    rw [(mF_nil 1).1, (mF_nil 1).2]
    exact ⟨rfl, rfl⟩
  | f + 1, l, h => by
    by_cases h0 : 0 < l.length
    · have hk : ∀ i, ((kids l).getD i []).length ≤ f := fun i => by have := getD_short l i h0; omega
      exact ⟨stepT_congr l (fun i => (mF_fuel f _ (hk i)).1) (fun i => (mF_fuel f _ (hk i)).2), stepP_congr l (fun i => (mF_fuel f _ (hk i)).1) (fun i => (mF_fuel f _ (hk i)).2)⟩
    · have : l = [] := List.eq_nil_of_length_eq_zero (by omega)
      subst this
      rw [(mF_nil _).1, (mF_nil _).2, (mF_nil _).1, (mF_nil _).2]
      exact ⟨rfl, rfl⟩
/-- The traces, and the pairs, of a tree. -/
def Mt (l : List Nd) : List Tr := (mF l.length).1 l
def Mp (l : List Nd) : List Pr := (mF l.length).2 l
theorem mF_M (f : Nat) (l : List Nd) (h : l.length ≤ f) : (mF f).1 l = Mt l ∧ (mF f).2 l = Mp l := by
  have : ∀ g, (mF (l.length + g)).1 l = Mt l ∧ (mF (l.length + g)).2 l = Mp l := by
    intro g
    induction g with
    | zero => exact ⟨rfl, rfl⟩
    | succ g ih => rw [← Nat.add_assoc, (mF_fuel _ _ (by omega)).1, (mF_fuel _ _ (by omega)).2]; exact ih
  have h' := this (f - l.length)
  rw [show l.length + (f - l.length) = f by omega] at h'
  exact h'
theorem M_eq {l : List Nd} (h : 0 < l.length) : Mt l = stepT Mt Mp l ∧ Mp l = stepP Mt Mp l := by
  obtain ⟨n, hn⟩ : ∃ n, l.length = n + 1 := ⟨l.length - 1, by omega⟩
  have hk : ∀ i, ((kids l).getD i []).length ≤ n := fun i => by have := getD_short l i h; omega
  unfold Mt Mp
  rw [hn]
  exact ⟨stepT_congr l (fun i => (mF_M n _ (hk i)).1) (fun i => (mF_M n _ (hk i)).2), stepP_congr l (fun i => (mF_M n _ (hk i)).1) (fun i => (mF_M n _ (hk i)).2)⟩

/-- How many Acts of which f asks for the name. -/
def acF (f : ByteArray → Bool) (l : List Nd) : Nat := l.countP fun x => decide (x.k = 1) && f x.n
abbrev acs (l : List Nd) : Nat := acF all l
theorem acF_append (f : ByteArray → Bool) (l m : List Nd) : acF f (l ++ m) = acF f l + acF f m := List.countP_append
theorem acF_cons (f : ByteArray → Bool) (x : Nd) (l : List Nd) (h : x.k ≠ 1) : acF f (x :: l) = acF f l := by
  unfold acF
  rw [List.countP_cons]
  simp [h]
theorem acs_cnt (l : List Nd) : acs l = cnt l [1] := by
  unfold acs acF cnt
  congr 1
  funext x
  simp [all]
/-- A tree of a node that has two. -/
theorem cut2 {l : List Nd} (h : Tre l) (h2 : ar (hd l) = 2) : ∃ a b, kids l = [a, b] ∧ k0 l = a ∧ k1 l = b ∧ Tre a ∧ Tre b ∧ a.length + b.length + 1 = l.length ∧ (∀ f, acF f l = acF f a + acF f b) ∧ (l.all rgt = true → a.all rgt = true ∧ b.all rgt = true) := by
  obtain ⟨x, hx, he⟩ := h.flat
  obtain ⟨a, b, hk, t1, t2, s1, s2⟩ := h.two h2
  rw [hk] at he
  have he' : l = x :: (a ++ b) := by rw [he]; simp
  refine ⟨a, b, hk, by unfold k0; rw [hk]; rfl, by unfold k1; rw [hk]; rfl, t1, t2, by rw [he']; simp, fun f => ?_, fun hr => ?_⟩
  · have h1 : x.k ≠ 1 := fun e => by rw [hx, e] at h2; exact absurd h2 (by decide)
    rw [he', acF_cons f x _ h1, acF_append]
  · rw [he'] at hr
    simp only [List.all_cons, List.all_append, Bool.and_eq_true] at hr
    exact hr.2
theorem cut1 {l : List Nd} (h : Tre l) (h1 : ar (hd l) = 1) : ∃ a, kids l = [a] ∧ k0 l = a ∧ Tre a ∧ a.length + 1 = l.length ∧ (∀ f, acF f l = acF f a) ∧ (l.all rgt = true → a.all rgt = true) := by
  obtain ⟨x, hx, he⟩ := h.flat
  obtain ⟨a, hk, t1, s1⟩ := h.one h1
  rw [hk] at he
  have he' : l = x :: a := by rw [he]; simp
  refine ⟨a, hk, by unfold k0; rw [hk]; rfl, t1, by rw [he']; simp, fun f => ?_, fun hr => ?_⟩
  · have h1 : x.k ≠ 1 := fun e => by rw [hx, e] at h1; exact absurd h1 (by decide)
    rw [he', acF_cons f x _ h1]
  · rw [he'] at hr
    simp only [List.all_cons, Bool.and_eq_true] at hr
    exact hr.2
theorem cut0 {l : List Nd} (h : Tre l) (h0 : ar (hd l) = 0) : ∃ x, l = [x] ∧ hd l = x.k := by
  obtain ⟨x, hx, he⟩ := h.flat
  have hk : kids l = [] := List.eq_nil_of_length_eq_zero (by rw [h.kids.1, h0]; rfl)
  rw [hk] at he
  exact ⟨x, he, hx⟩

/-- What goes on plain: by its first node. -/
theorem shape3 {l : List Nd} (ht : Tre l) (h : Is 3 l = true) :
    (ar (hd l) = 0 ∧ (hd l = 1 ∨ hd l = 2 ∨ hd l = 3 ∨ hd l = 4 ∨ hd l = 11)) ∨ (hd l = 9 ∧ Is 4 (k0 l) = true) ∨ ((hd l = 5 ∨ hd l = 6 ∨ hd l = 7 ∨ hd l = 8) ∧ Is 3 (k0 l) = true ∧ Is 3 (k1 l) = true ∧ (hd l = 8 → Is 1 (k1 l) = true)) := by
  have e := eq_5_3 (l := l)
  rcases kinds ht.ar with hk | hk | hk | hk | hk | hk | hk | hk | hk | hk | hk | hk | hk | hk
  · exact .inl ⟨by rw [hk]; rfl, by omega⟩
  · exact .inl ⟨by rw [hk]; rfl, by omega⟩
  · exact .inl ⟨by rw [hk]; rfl, by omega⟩
  · exact .inl ⟨by rw [hk]; rfl, by omega⟩
  · rw [eq_5_3 hk] at h
    simp only [Bool.or_eq_true, Bool.and_eq_true] at h
    exact .inr (.inr ⟨by omega, h.elim (fun h => one_three h.1) (fun h => h.1), h.elim (fun h => one_three h.2) (fun h => one_three h.2), fun h8 => by omega⟩)
  · rw [eq_6_3 hk] at h
    simp only [Bool.or_false, Bool.and_eq_true] at h
    exact .inr (.inr ⟨by omega, one_three h.1, one_three h.2, fun h8 => by omega⟩)
  · rw [eq_7_3 hk] at h
    simp only [Bool.or_eq_true, Bool.and_eq_true] at h
    exact .inr (.inr ⟨by omega, h.elim (fun h => one_three h.1) (fun h => h.1), h.elim (fun h => one_three h.2) (fun h => h.2), fun h8 => by omega⟩)
  · rw [eq_8_3 hk] at h
    simp only [Bool.or_eq_true, Bool.and_eq_true] at h
    exact .inr (.inr ⟨by omega, h.elim (fun h => one_three h.1) (fun h => h.1), h.elim (fun h => one_three h.2) (fun h => one_three h.2), fun _ => h.elim (fun h => h.2) (fun h => h.2)⟩)
  · rw [eq_9_3 hk] at h
    simp only [Bool.or_eq_true] at h
    exact .inr (.inl ⟨hk, h.elim two_four id⟩)
  · rw [eq_10_3 hk] at h; cases h
  · exact .inl ⟨by rw [hk]; rfl, by omega⟩
  · rw [eq_12_3 hk] at h; cases h
  · rw [eq_13_3 hk] at h; cases h
  · rw [eq_14_3 hk] at h; cases h
theorem shape4 {l : List Nd} (ht : Tre l) (h : Is 4 l = true) :
    ((hd l = 5 ∨ hd l = 6 ∨ hd l = 7) ∧ Is 4 (k0 l) = true ∧ Is 4 (k1 l) = true) ∨ ((hd l = 10 ∨ hd l = 12) ∧ Is 3 (k0 l) = true ∧ Is 1 (k1 l) = true) ∨ (hd l = 13 ∧ Is 4 (k0 l) = true ∧ Is 1 (k1 l) = true) ∨ (hd l = 14 ∧ Is 1 (k0 l) = true) := by
  rcases kinds ht.ar with hk | hk | hk | hk | hk | hk | hk | hk | hk | hk | hk | hk | hk | hk
  · rw [eq_1_4 hk] at h; cases h
  · rw [eq_2_4 hk] at h; cases h
  · rw [eq_3_4 hk] at h; cases h
  · rw [eq_4_4 hk] at h; cases h
  · rw [eq_5_4 hk] at h
    simp only [Bool.or_eq_true, Bool.and_eq_true] at h
    exact .inl ⟨by omega, h.elim (fun h => two_four h.1) (fun h => h.1), h.elim (fun h => two_four h.2) (fun h => two_four h.2)⟩
  · rw [eq_6_4 hk] at h
    simp only [Bool.or_false, Bool.and_eq_true] at h
    exact .inl ⟨by omega, two_four h.1, two_four h.2⟩
  · rw [eq_7_4 hk] at h
    simp only [Bool.or_eq_true, Bool.and_eq_true] at h
    exact .inl ⟨by omega, h.elim (fun h => two_four h.1) (fun h => h.1), h.elim (fun h => two_four h.2) (fun h => h.2)⟩
  · rw [eq_8_4 hk] at h; cases h
  · rw [eq_9_4 hk] at h; cases h
  · rw [eq_10_4 hk] at h
    simp only [Bool.or_false, Bool.and_eq_true] at h
    exact .inr (.inl ⟨by omega, one_three h.1, h.2⟩)
  · rw [eq_11_4 hk] at h; cases h
  · rw [eq_12_4 hk] at h
    simp only [Bool.false_or, Bool.and_eq_true] at h
    exact .inr (.inl ⟨by omega, h.1, h.2⟩)
  · rw [eq_13_4 hk] at h
    simp only [Bool.false_or, Bool.and_eq_true] at h
    exact .inr (.inr (.inl ⟨hk, h.1, h.2⟩))
  · rw [eq_14_4 hk] at h
    simp only [Bool.false_or] at h
    exact .inr (.inr (.inr ⟨hk, h⟩))
/-- Terms: by their first node. -/
theorem shape1 {l : List Nd} (ht : Tre l) (h : Is 1 l = true) :
    (hd l = 1 ∨ hd l = 2 ∨ hd l = 3 ∨ hd l = 4) ∨ (hd l = 9 ∧ Is 2 (k0 l) = true) ∨ ((hd l = 5 ∨ hd l = 6 ∨ hd l = 7 ∨ hd l = 8) ∧ Is 1 (k0 l) = true ∧ Is 1 (k1 l) = true) := by
  rcases shape3 ht (one_three h) with ⟨_, hk⟩ | ⟨hk, _⟩ | ⟨hk, _⟩
  · rcases hk with hk | hk | hk | hk | hk
    · exact .inl (by omega)
    · exact .inl (by omega)
    · exact .inl (by omega)
    · exact .inl (by omega)
    · rw [eq_11_1 hk] at h; cases h
  · rw [eq_9_1 hk] at h
    exact .inr (.inl ⟨hk, h⟩)
  · refine .inr (.inr ⟨hk, ?_⟩)
    rw [← Bool.and_eq_true]
    rcases hk with hk | hk | hk | hk
    · rw [← eq_5_1 hk]; exact h
    · rw [← eq_6_1 hk]; exact h
    · rw [← eq_7_1 hk]; exact h
    · rw [← eq_8_1 hk]; exact h
theorem shape2 {l : List Nd} (ht : Tre l) (h : Is 2 l = true) :
    (hd l = 10 ∧ Is 1 (k0 l) = true ∧ Is 1 (k1 l) = true) ∨ ((hd l = 5 ∨ hd l = 6 ∨ hd l = 7) ∧ Is 2 (k0 l) = true ∧ Is 2 (k1 l) = true) := by
  rcases shape4 ht (two_four h) with ⟨hk, _⟩ | ⟨hk, _⟩ | ⟨hk, _⟩ | ⟨hk, _⟩
  · refine .inr ⟨hk, ?_⟩
    rw [← Bool.and_eq_true]
    rcases hk with hk | hk | hk
    · rw [← eq_5_2 hk]; exact h
    · rw [← eq_6_2 hk]; exact h
    · rw [← eq_7_2 hk]; exact h
  · rcases hk with hk | hk
    · refine .inl ⟨hk, ?_⟩
      rw [← Bool.and_eq_true, ← eq_10_2 hk]
      exact h
    · rw [eq_12_2 hk] at h; cases h
  · rw [eq_13_2 hk] at h; cases h
  · rw [eq_14_2 hk] at h; cases h

theorem stepT_9 {t : List Nd → List Tr} {p : List Nd → List Pr} {l : List Nd} (h : hd l = 9) : stepT t p l = norm (blk (p (k0 l))) := by unfold stepT; rw [h]; rfl
theorem stepT_2 {t : List Nd → List Tr} {p : List Nd → List Pr} {l : List Nd} (h : hd l = 5 ∨ hd l = 6 ∨ hd l = 7 ∨ hd l = 8) : stepT t p l = norm (two (hd l) (t (k0 l)) (t (k1 l))) := by
  unfold stepT
  rcases h with h | h | h | h <;> rw [h] <;> rfl
theorem stepP_10 {t : List Nd → List Tr} {p : List Nd → List Pr} {l : List Nd} (h : hd l = 10) : stepP t p l = pnorm (going (t (k0 l)) (t (k1 l)) ++ [way]) := by unfold stepP; rw [h]; rfl
theorem stepP_12 {t : List Nd → List Tr} {p : List Nd → List Pr} {l : List Nd} (h : hd l = 12) : stepP t p l = pnorm (going (t (k0 l)) (t (k1 l))) := by unfold stepP; rw [h]; rfl
theorem stepP_13 {t : List Nd → List Tr} {p : List Nd → List Pr} {l : List Nd} (h : hd l = 13) : stepP t p l = pnorm (stack (p (k0 l)) (t (k1 l))) := by unfold stepP; rw [h]; rfl
theorem stepP_14 {t : List Nd → List Tr} {p : List Nd → List Pr} {l : List Nd} (h : hd l = 14) : stepP t p l = pnorm (fin (sg l) (t (k0 l))) := by unfold stepP; rw [h]; rfl
theorem stepP_2 {t : List Nd → List Tr} {p : List Nd → List Pr} {l : List Nd} (h : hd l = 5 ∨ hd l = 6 ∨ hd l = 7) : stepP t p l = pnorm (twoP (hd l) (p (k0 l)) (p (k1 l))) := by
  unfold stepP
  rcases h with h | h | h <;> rw [h] <;> rfl

/-- What is known of the traces, and the pairs, of a tree. -/
structure GT (l : List Nd) : Prop where
  len : (Mt l).length ≤ K l.length (acs l)
  cnt : ∀ f, CT f (acF f l) (Mt l)
  up : Up (Mt l)
  sg : l.all rgt = true → ST (Mt l)
structure GP (l : List Nd) : Prop where
  len : (Mp l).length ≤ K l.length (acs l)
  cnt : ∀ f, CP f (acF f l) (Mp l)
  up : PUp (Mp l)
  sg : l.all rgt = true → SP (Mp l)
theorem two_up (p q : Tr) (h : cmp p q < 0) : Up [p, q] := List.pairwise_cons.2 ⟨fun t ht => by rw [List.mem_singleton] at ht; rw [ht]; exact h, List.pairwise_singleton _ _⟩
theorem rgt_sg {x : Nd} (h : rgt x = true) (hk : x.k = 11 ∨ x.k = 14) : Sgn x.s := by
  obtain ⟨k, n, s⟩ := x
  rw [rgt_sign n s hk] at h
  simp only [Bool.and_eq_true, decide_eq_true_eq] at h
  unfold Sgn
  show s = 1 ∨ s = 2 ∨ s = 3
  omega
theorem good : ∀ (m : Nat) (l : List Nd), l.length ≤ m → Tre l → (Is 3 l = true → GT l) ∧ (Is 4 l = true → GP l)
  | 0, l, h, ht => absurd ht.pos (by omega)
  | m + 1, l, h, ht => by
    obtain ⟨eT, eP⟩ := M_eq ht.pos
    constructor
    · intro hi
      rcases shape3 ht hi with ⟨h0, hk⟩ | ⟨hk, hi⟩ | ⟨hk, hi, hj, _⟩
      · obtain ⟨x, rfl, hx⟩ := cut0 ht h0
        have one : ∀ t : Tr, Mt [x] = [t] → (∀ f, t.a.countP f ≤ acF f [x]) → ([x].all rgt = true → Sgn t.e) → GT [x] := fun t e h1 h2 =>
          ⟨by rw [e]; exact K_pos _ _, fun f u hu => by rw [e, List.mem_singleton] at hu; rw [hu]; exact h1 f, by rw [e]; exact up_one t, fun hr u hu => by rw [e, List.mem_singleton] at hu; rw [hu]; exact h2 hr⟩
        rcases hk with hk | hk | hk | hk | hk
        · refine one ⟨[x.n], 1⟩ (by rw [eT]; unfold stepT; rw [hk]; rfl) (fun f => ?_) fun _ => sgn1
          have h1 : x.k = 1 := by rw [← hx]; exact hk
          simp [acF, h1]
        · exact one tick (by rw [eT]; unfold stepT; rw [hk]; rfl) (fun f => Nat.zero_le _) fun _ => sgn1
        · exact one bang (by rw [eT]; unfold stepT; rw [hk]; rfl) (fun f => Nat.zero_le _) fun _ => Or.inr (Or.inl rfl)
        · have e : Mt [x] = [tick, ⟨[], 3⟩] := by rw [eT]; unfold stepT; rw [hk]; rfl
          refine ⟨by rw [e]; show 2 ≤ K 1 _; unfold K; have := fac_pos (acs [x]); omega, fun f u hu => ?_, by rw [e]; exact two_up _ _ (by decide), fun _ u hu => ?_⟩
          · rw [e] at hu
            rcases List.mem_cons.1 hu with rfl | hu
            · exact Nat.zero_le _
            · rw [List.mem_singleton] at hu; rw [hu]; exact Nat.zero_le _
          · rw [e] at hu
            rcases List.mem_cons.1 hu with rfl | hu
            · exact sgn1
            · rw [List.mem_singleton] at hu; rw [hu]; exact sgn3
        · refine one ⟨[], x.s⟩ (by rw [eT]; unfold stepT; rw [hk]; rfl) (fun f => Nat.zero_le _) fun hr => ?_
          simp only [List.all_cons, List.all_nil, Bool.and_true] at hr
          exact rgt_sg hr (.inl (by rw [← hx]; exact hk))
      · obtain ⟨a, hkk, e0, ta, hl, hc, hr⟩ := cut1 ht (by rw [hk]; rfl)
        rw [e0] at hi
        have ga := (good m a (by omega) ta).2 hi
        rw [stepT_9 hk, e0] at eT
        refine ⟨?_, fun f => ?_, by rw [eT]; exact up_norm _, fun h => by rw [eT]; exact (blk_st (ga.sg (hr h))).norm⟩
        · rw [eT, ← hl]
          refine Nat.le_trans (length_norm _) (Nat.le_trans (blk_len ga.len) ?_)
          unfold acs
          rw [hc all]
          exact Nat.le_refl _
        · rw [eT, hc f]; exact (blk_ct (ga.cnt f)).norm
      · obtain ⟨a, b, hkk, e0, e1, ta, tb, hl, hc, hr⟩ := cut2 ht (by rcases hk with hk | hk | hk | hk <;> rw [hk] <;> rfl)
        rw [e0] at hi
        rw [e1] at hj
        have ga := (good m a (by omega) ta).1 hi
        have gb := (good m b (by omega) tb).1 hj
        rw [stepT_2 hk, e0, e1] at eT
        refine ⟨?_, fun f => ?_, by rw [eT]; exact up_norm _, fun h => by rw [eT]; exact (two_st (ga.sg (hr h).1) (gb.sg (hr h).2)).norm⟩
        · rw [eT, ← hl]
          refine Nat.le_trans (length_norm _) (Nat.le_trans (two_len (ga.cnt all) (gb.cnt all) ga.len gb.len) ?_)
          unfold acs
          rw [hc all]
          exact Nat.le_refl _
        · rw [eT, hc f]; exact (two_ct (ga.cnt f) (gb.cnt f)).norm
    · intro hi
      rcases shape4 ht hi with ⟨hk, hi, hj⟩ | ⟨hk, hi, hj⟩ | ⟨hk, hi, hj⟩ | ⟨hk, hi⟩
      · obtain ⟨a, b, hkk, e0, e1, ta, tb, hl, hc, hr⟩ := cut2 ht (by rcases hk with hk | hk | hk <;> rw [hk] <;> rfl)
        rw [e0] at hi
        rw [e1] at hj
        have ga := (good m a (by omega) ta).2 hi
        have gb := (good m b (by omega) tb).2 hj
        rw [stepP_2 hk, e0, e1] at eP
        refine ⟨?_, fun f => ?_, by rw [eP]; exact pup_norm _, fun h => by rw [eP]; exact (twoP_sp (ga.sg (hr h).1) (gb.sg (hr h).2)).norm⟩
        · rw [eP, ← hl]
          refine Nat.le_trans (plength_norm _) (Nat.le_trans (twoP_len (ga.cnt all) (gb.cnt all) ga.len gb.len) ?_)
          unfold acs
          rw [hc all]
          exact Nat.le_refl _
        · rw [eP, hc f]; exact (twoP_cp (ga.cnt f) (gb.cnt f)).norm
      · obtain ⟨a, b, hkk, e0, e1, ta, tb, hl, hc, hr⟩ := cut2 ht (by rcases hk with hk | hk <;> rw [hk] <;> rfl)
        rw [e0] at hi
        rw [e1] at hj
        have ga := (good m a (by omega) ta).1 hi
        have gb := (good m b (by omega) tb).1 (one_three hj)
        rcases hk with hk | hk
        · rw [stepP_10 hk, e0, e1] at eP
          refine ⟨?_, fun f => ?_, by rw [eP]; exact pup_norm _, fun h => by rw [eP]; exact (way_sp (going_sp (ga.sg (hr h).1) (gb.sg (hr h).2))).norm⟩
          · rw [eP, ← hl]
            refine Nat.le_trans (plength_norm _) (Nat.le_trans (way_len (going_len ga.len gb.len)) ?_)
            unfold acs
            rw [hc all]
            exact Nat.le_refl _
          · rw [eP, hc f]; exact (way_cp (going_cp (ga.cnt f) (gb.cnt f))).norm
        · rw [stepP_12 hk, e0, e1] at eP
          refine ⟨?_, fun f => ?_, by rw [eP]; exact pup_norm _, fun h => by rw [eP]; exact (going_sp (ga.sg (hr h).1) (gb.sg (hr h).2)).norm⟩
          · rw [eP, ← hl]
            refine Nat.le_trans (plength_norm _) (Nat.le_trans (going_len ga.len gb.len) ?_)
            unfold acs
            rw [hc all]
            exact K_more (by omega) (Nat.le_refl _)
          · rw [eP, hc f]; exact (going_cp (ga.cnt f) (gb.cnt f)).norm
      · obtain ⟨a, b, hkk, e0, e1, ta, tb, hl, hc, hr⟩ := cut2 ht (by rw [hk]; rfl)
        rw [e0] at hi
        rw [e1] at hj
        have ga := (good m a (by omega) ta).2 hi
        have gb := (good m b (by omega) tb).1 (one_three hj)
        rw [stepP_13 hk, e0, e1] at eP
        refine ⟨?_, fun f => ?_, by rw [eP]; exact pup_norm _, fun h => by rw [eP]; exact (stack_sp (ga.sg (hr h).1) (gb.sg (hr h).2)).norm⟩
        · rw [eP, ← hl]
          refine Nat.le_trans (plength_norm _) (Nat.le_trans (stack_len ga.len gb.len) ?_)
          unfold acs
          rw [hc all]
          exact K_more (by omega) (Nat.le_refl _)
        · rw [eP, hc f]; exact (stack_cp (ga.cnt f) (gb.cnt f)).norm
      · obtain ⟨a, hkk, e0, ta, hl, hc, hr⟩ := cut1 ht (by rw [hk]; rfl)
        rw [e0] at hi
        have ga := (good m a (by omega) ta).1 (one_three hi)
        rw [stepP_14 hk, e0] at eP
        have hsg : l.all rgt = true → Sgn (sg l) := fun h => by
          obtain ⟨x, hx, he⟩ := ht.flat
          rw [he] at h ⊢
          simp only [List.all_cons, Bool.and_eq_true] at h
          exact rgt_sg h.1 (.inr (by rw [← hx]; exact hk))
        refine ⟨?_, fun f => ?_, by rw [eP]; exact pup_norm _, fun h => by rw [eP]; exact (fin_sp (hsg h) (ga.sg (hr h))).norm⟩
        · rw [eP, ← hl]
          refine Nat.le_trans (plength_norm _) ?_
          unfold fin
          rw [List.length_map]
          refine Nat.le_trans ga.len ?_
          unfold acs
          rw [hc all]
          exact K_more (by omega) (Nat.le_refl _)
        · rw [eP, hc f]; exact (fin_cp (ga.cnt f)).norm
theorem gt {l : List Nd} (ht : Tre l) (h : Is 3 l = true) : GT l := (good l.length l (Nat.le_refl _) ht).1 h
theorem gp {l : List Nd} (ht : Tre l) (h : Is 4 l = true) : GP l := (good l.length l (Nat.le_refl _) ht).2 h
/-- Each term has a trace that does not give way. -/
theorem live : ∀ (m : Nat) (l : List Nd), l.length ≤ m → Tre l → acs l ≤ 19 → (Is 1 l = true → LT (Mt l)) ∧ (Is 2 l = true → LP (Mp l))
  | 0, l, h, ht, _ => absurd ht.pos (by omega)
  | m + 1, l, h, ht, h19 => by
    obtain ⟨eT, eP⟩ := M_eq ht.pos
    constructor
    · intro hi
      rcases shape1 ht hi with hk | ⟨hk, hi⟩ | ⟨hk, hi, hj⟩
      · rcases hk with hk | hk | hk | hk
        · exact ⟨⟨[nm l], 1⟩, by rw [eT]; unfold stepT; rw [hk]; exact List.mem_singleton.2 rfl, .inl rfl⟩
        · exact ⟨tick, by rw [eT]; unfold stepT; rw [hk]; exact List.mem_singleton.2 rfl, .inl rfl⟩
        · exact ⟨bang, by rw [eT]; unfold stepT; rw [hk]; exact List.mem_singleton.2 rfl, .inr rfl⟩
        · exact ⟨tick, by rw [eT]; unfold stepT; rw [hk]; exact List.mem_cons_self, .inl rfl⟩
      · obtain ⟨a, hkk, e0, ta, hl, hc, hr⟩ := cut1 ht (by rw [hk]; rfl)
        rw [e0] at hi
        have := hc all
        have la := (live m a (by omega) ta (by unfold acs at h19 ⊢; omega)).2 hi
        rw [eT, stepT_9 hk, e0]
        exact (blk_lt la).norm
      · obtain ⟨a, b, hkk, e0, e1, ta, tb, hl, hc, hr⟩ := cut2 ht (by rcases hk with hk | hk | hk | hk <;> rw [hk] <;> rfl)
        rw [e0] at hi
        rw [e1] at hj
        have := hc all
        unfold acs at h19
        have la := (live m a (by omega) ta (by unfold acs; omega)).1 hi
        have lb := (live m b (by omega) tb (by unfold acs; omega)).1 hj
        rw [eT, stepT_2 hk, e0, e1]
        exact (two_lt ((gt ta (one_three hi)).cnt all) ((gt tb (one_three hj)).cnt all) (by omega) la lb).norm
    · intro hi
      rcases shape2 ht hi with ⟨hk, hi, hj⟩ | ⟨hk, hi, hj⟩
      · obtain ⟨a, b, hkk, e0, e1, ta, tb, hl, hc, hr⟩ := cut2 ht (by rw [hk]; rfl)
        rw [e0] at hi
        rw [e1] at hj
        have := hc all
        unfold acs at h19
        have la := (live m a (by omega) ta (by unfold acs; omega)).1 hi
        have lb := (live m b (by omega) tb (by unfold acs; omega)).1 hj
        rw [eP, stepP_10 hk, e0, e1]
        exact ((going_lp la lb).more).norm
      · obtain ⟨a, b, hkk, e0, e1, ta, tb, hl, hc, hr⟩ := cut2 ht (by rcases hk with hk | hk | hk <;> rw [hk] <;> rfl)
        rw [e0] at hi
        rw [e1] at hj
        have := hc all
        unfold acs at h19
        have la := (live m a (by omega) ta (by unfold acs; omega)).2 hi
        have lb := (live m b (by omega) tb (by unfold acs; omega)).2 hj
        rw [eP, stepP_2 hk, e0, e1]
        exact (twoP_lp ((gp ta (two_four hi)).cnt all) ((gp tb (two_four hj)).cnt all) (by omega) la lb).norm
theorem live1 {l : List Nd} (ht : Tre l) (h : acs l ≤ 19) (hi : Is 1 l = true) : LT (Mt l) := (live l.length l (Nat.le_refl _) ht h).1 hi
end Go.Proofs.YtgaediondmdnbaaGreat.Mn

namespace Go.Proofs.YtgaediondmdnbaaGreat.Se
open Go Go.RowKit Go.Proofs.YtgaediondmdnbaaGreat.Rw Go.Proofs.YtgaediondmdnbaaGreat.So
set_option maxRecDepth 20000

set_option maxHeartbeats 1000000 in
theorem comes_seq (base : Nat) (a d : Tm) (bk ck : Nat) (y0 y1 : Value) (w : World) (q0 : w.cell? ⟨bk, 0, none⟩ = some y0) (q1 : w.cell? ⟨bk, 1, none⟩ = some y1) (h0 : NdO base w y0 a) (h1 : Nds w y1 (flat d)) (PB : Hid (PS d)) (hb : base ≤ w.heap.size) (hl : sz a + sz d ≤ 900) :
    Calls Tryz.prog 36 #[.agg #[.int .i64 5, .string ⟨#[]⟩, .int .i64 0], .slice (some ⟨bk, 0, none⟩) 2 ck] w (OutB base (sSeq S a d) w) := by
  have HL := Lib.hid hl
  have HB := Lib.hid hb
  have hlt : bk < w.heap.size := Ap.cell_lt q0
  have CK : Hid (∀ w1, Below w.heap.size w w1 → w1.cell? ⟨bk, 0, none⟩ = some y0 ∧ w1.cell? ⟨bk, 1, none⟩ = some y1) := Lib.hid fun w1 hb => by rw [hb.cell (p := ⟨bk, 0, none⟩) hlt, hb.cell (p := ⟨bk, 1, none⟩) hlt]; exact ⟨q0, q1⟩
  have A0 := Lib.hid (fun w1 (hb : Below w.heap.size w w1) => h0.below hb)
  have A1 := Lib.hid (fun w1 (hb : Below w.heap.size w w1) => h1.below hb)
  obtain ⟨_, a0, c0, rfl, -⟩ := id h0
  obtain ⟨_, a1, c1, rfl, -⟩ := id h1
  unfold OutB
  clear q0 q1 h0 h1 hl hb
  go_enter Tryz.func36, Tryz.ntmps36
  go_wp2_with fail
  have BW0 := below1 w (.cells #[.int .i64 5, .string ⟨#[]⟩, .int .i64 0] 42)
  have BC := box_cells w 5 0 ⟨#[]⟩ 42
  generalize w.alloc (.cells #[.int .i64 5, .string ⟨#[]⟩, .int .i64 0] 42) = W at BW0 BC ⊢
  have BW := Lib.hid BW0
  obtain ⟨x0, x1, x2⟩ := BC W (Below.refl _ _)
  obtain ⟨z0, z1⟩ := CK.out W BW0
  have BD := Lib.hid (BW.out.drew)
  clear BW0 BC
  go_still_tail 8, (by kernel_rfl)
  change wpList _ _ _ _ _ W.drew
  go_wp2_with fail
  refine (turn5P_any base a d _ _ _ (A0.out _ BD.out) (A1.out _ BD.out) PB.out (Nat.le_trans HB.out BD.out.size) HL.out).mono ?_
  rintro e w1 ⟨y, rfl, hn, hb⟩
  have N1 := Lib.hid hn
  have D1 := Lib.hid (BD.out.trans (hb.mono BD.out.size))
  clear hn hb
  go_wp2_with fail
  go_ret
  exact ⟨_, rfl, N1.out, D1.out⟩
set_option maxHeartbeats 1000000 in
theorem comes_hand (base : Nat) (a d : Tm) (bk ck : Nat) (y0 y1 : Value) (w : World) (q0 : w.cell? ⟨bk, 0, none⟩ = some y0) (q1 : w.cell? ⟨bk, 1, none⟩ = some y1) (h0 : NdO base w y0 a) (h1 : Nds w y1 (flat d)) (PB : Hid (PS d)) (g14 : Hid (kd a ≠ 14)) (hb : base ≤ w.heap.size) (hl : sz a + sz d ≤ 900) :
    Calls Tryz.prog 36 #[.agg #[.int .i64 8, .string ⟨#[]⟩, .int .i64 0], .slice (some ⟨bk, 0, none⟩) 2 ck] w (OutB base (sHand S a d) w) := by
  have HL := Lib.hid hl
  have HB := Lib.hid hb
  have hlt : bk < w.heap.size := Ap.cell_lt q0
  have CK : Hid (∀ w1, Below w.heap.size w w1 → w1.cell? ⟨bk, 0, none⟩ = some y0 ∧ w1.cell? ⟨bk, 1, none⟩ = some y1) := Lib.hid fun w1 hb => by rw [hb.cell (p := ⟨bk, 0, none⟩) hlt, hb.cell (p := ⟨bk, 1, none⟩) hlt]; exact ⟨q0, q1⟩
  have A0 := Lib.hid (fun w1 (hb : Below w.heap.size w w1) => h0.below hb)
  have A1 := Lib.hid (fun w1 (hb : Below w.heap.size w w1) => h1.below hb)
  obtain ⟨_, a0, c0, rfl, -⟩ := id h0
  obtain ⟨_, a1, c1, rfl, -⟩ := id h1
  unfold OutB
  clear q0 q1 h0 h1 hl hb
  go_enter Tryz.func36, Tryz.ntmps36
  go_wp2_with fail
  have BW0 := below1 w (.cells #[.int .i64 8, .string ⟨#[]⟩, .int .i64 0] 42)
  have BC := box_cells w 8 0 ⟨#[]⟩ 42
  generalize w.alloc (.cells #[.int .i64 8, .string ⟨#[]⟩, .int .i64 0] 42) = W at BW0 BC ⊢
  have BW := Lib.hid BW0
  obtain ⟨x0, x1, x2⟩ := BC W (Below.refl _ _)
  obtain ⟨z0, z1⟩ := CK.out W BW0
  have BD := Lib.hid (BW.out.drew)
  clear BW0 BC
  go_still_tail 8, (by kernel_rfl)
  change wpList _ _ _ _ _ W.drew
  go_wp2_with fail
  refine (turn8P_any base a d _ _ _ (A0.out _ BD.out) (A1.out _ BD.out) PB.out g14.out (Nat.le_trans HB.out BD.out.size) HL.out).mono ?_
  rintro e w1 ⟨y, rfl, hn, hb⟩
  have N1 := Lib.hid hn
  have D1 := Lib.hid (BD.out.trans (hb.mono BD.out.size))
  clear hn hb
  go_wp2_with fail
  go_ret
  exact ⟨_, rfl, N1.out, D1.out⟩
set_option maxHeartbeats 1000000 in
theorem comes_par (base : Nat) (a d : Tm) (bk ck : Nat) (y0 y1 : Value) (w : World) (q0 : w.cell? ⟨bk, 0, none⟩ = some y0) (q1 : w.cell? ⟨bk, 1, none⟩ = some y1) (h0 : NdO base w y0 a) (h1 : Nds w y1 (flat d)) (hb : base ≤ w.heap.size) (hl : sz a + sz d ≤ 900) :
    Calls Tryz.prog 36 #[.agg #[.int .i64 7, .string ⟨#[]⟩, .int .i64 0], .slice (some ⟨bk, 0, none⟩) 2 ck] w (OutB base (sPar a d) w) := by
  have HL := Lib.hid hl
  have HB := Lib.hid hb
  have hlt : bk < w.heap.size := Ap.cell_lt q0
  have CK : Hid (∀ w1, Below w.heap.size w w1 → w1.cell? ⟨bk, 0, none⟩ = some y0 ∧ w1.cell? ⟨bk, 1, none⟩ = some y1) := Lib.hid fun w1 hb => by rw [hb.cell (p := ⟨bk, 0, none⟩) hlt, hb.cell (p := ⟨bk, 1, none⟩) hlt]; exact ⟨q0, q1⟩
  have A0 := Lib.hid (fun w1 (hb : Below w.heap.size w w1) => h0.below hb)
  have A1 := Lib.hid (fun w1 (hb : Below w.heap.size w w1) => h1.below hb)
  obtain ⟨_, a0, c0, rfl, -⟩ := id h0
  obtain ⟨_, a1, c1, rfl, -⟩ := id h1
  unfold OutB
  clear q0 q1 h0 h1 hl hb
  go_enter Tryz.func36, Tryz.ntmps36
  go_wp2_with fail
  have BW0 := below1 w (.cells #[.int .i64 7, .string ⟨#[]⟩, .int .i64 0] 42)
  have BC := box_cells w 7 0 ⟨#[]⟩ 42
  generalize w.alloc (.cells #[.int .i64 7, .string ⟨#[]⟩, .int .i64 0] 42) = W at BW0 BC ⊢
  have BW := Lib.hid BW0
  obtain ⟨x0, x1, x2⟩ := BC W (Below.refl _ _)
  obtain ⟨z0, z1⟩ := CK.out W BW0
  have BD := Lib.hid (BW.out.drew)
  clear BW0 BC
  go_still_tail 7, (by kernel_rfl)
  change wpList _ _ _ _ _ W.drew
  go_wp2_with fail
  refine (besideP_any base a d _ _ _ (A0.out _ BD.out).nds (A1.out _ BD.out) (Nat.le_trans HB.out BD.out.size) HL.out).mono ?_
  rintro e w1 ⟨y, rfl, hn, hb⟩
  have N1 := Lib.hid hn
  have D1 := Lib.hid (BD.out.trans (hb.mono BD.out.size))
  clear hn hb
  go_wp2_with fail
  go_ret
  exact ⟨_, rfl, N1.out, D1.out⟩
set_option maxHeartbeats 1000000 in
theorem comes_going (base : Nat) (a d : Tm) (bk ck : Nat) (y0 y1 : Value) (w : World) (q0 : w.cell? ⟨bk, 0, none⟩ = some y0) (q1 : w.cell? ⟨bk, 1, none⟩ = some y1) (h0 : NdO base w y0 a) (h1 : Nds w y1 (flat d)) (hb : base ≤ w.heap.size) (hl : sz a + sz d ≤ 900) :
    Calls Tryz.prog 36 #[.agg #[.int .i64 12, .string ⟨#[]⟩, .int .i64 0], .slice (some ⟨bk, 0, none⟩) 2 ck] w (OutB base (sGoing a d) w) := by
  have HL := Lib.hid hl
  have HB := Lib.hid hb
  have hlt : bk < w.heap.size := Ap.cell_lt q0
  have CK : Hid (∀ w1, Below w.heap.size w w1 → w1.cell? ⟨bk, 0, none⟩ = some y0 ∧ w1.cell? ⟨bk, 1, none⟩ = some y1) := Lib.hid fun w1 hb => by rw [hb.cell (p := ⟨bk, 0, none⟩) hlt, hb.cell (p := ⟨bk, 1, none⟩) hlt]; exact ⟨q0, q1⟩
  have A0 := Lib.hid (fun w1 (hb : Below w.heap.size w w1) => h0.below hb)
  have A1 := Lib.hid (fun w1 (hb : Below w.heap.size w w1) => h1.below hb)
  obtain ⟨_, a0, c0, rfl, -⟩ := id h0
  obtain ⟨_, a1, c1, rfl, -⟩ := id h1
  unfold OutB
  clear q0 q1 h0 h1 hl hb
  go_enter Tryz.func36, Tryz.ntmps36
  go_wp2_with fail
  have BW0 := below1 w (.cells #[.int .i64 12, .string ⟨#[]⟩, .int .i64 0] 42)
  have BC := box_cells w 12 0 ⟨#[]⟩ 42
  generalize w.alloc (.cells #[.int .i64 12, .string ⟨#[]⟩, .int .i64 0] 42) = W at BW0 BC ⊢
  have BW := Lib.hid BW0
  obtain ⟨x0, x1, x2⟩ := BC W (Below.refl _ _)
  obtain ⟨z0, z1⟩ := CK.out W BW0
  have BD := Lib.hid (BW.out.drew)
  clear BW0 BC
  go_still_tail 7, (by kernel_rfl)
  change wpList _ _ _ _ _ W.drew
  go_wp2_with fail
  refine (goingP_any base a d _ _ _ (A0.out _ BD.out).nds (A1.out _ BD.out) (Nat.le_trans HB.out BD.out.size) HL.out).mono ?_
  rintro e w1 ⟨y, rfl, hn, hb⟩
  have N1 := Lib.hid hn
  have D1 := Lib.hid (BD.out.trans (hb.mono BD.out.size))
  clear hn hb
  go_wp2_with fail
  go_ret
  exact ⟨_, rfl, N1.out, D1.out⟩
set_option maxHeartbeats 1000000 in
theorem comes_stack (base : Nat) (a d : Tm) (bk ck : Nat) (y0 y1 : Value) (w : World) (q0 : w.cell? ⟨bk, 0, none⟩ = some y0) (q1 : w.cell? ⟨bk, 1, none⟩ = some y1) (h0 : NdO base w y0 a) (h1 : Nds w y1 (flat d)) (hb : base ≤ w.heap.size) (hl : sz a + sz d ≤ 900) :
    Calls Tryz.prog 36 #[.agg #[.int .i64 13, .string ⟨#[]⟩, .int .i64 0], .slice (some ⟨bk, 0, none⟩) 2 ck] w (OutB base (stk a d) w) := by
  have HL := Lib.hid hl
  have HB := Lib.hid hb
  have hlt : bk < w.heap.size := Ap.cell_lt q0
  have CK : Hid (∀ w1, Below w.heap.size w w1 → w1.cell? ⟨bk, 0, none⟩ = some y0 ∧ w1.cell? ⟨bk, 1, none⟩ = some y1) := Lib.hid fun w1 hb => by rw [hb.cell (p := ⟨bk, 0, none⟩) hlt, hb.cell (p := ⟨bk, 1, none⟩) hlt]; exact ⟨q0, q1⟩
  have A0 := Lib.hid (fun w1 (hb : Below w.heap.size w w1) => h0.below hb)
  have A1 := Lib.hid (fun w1 (hb : Below w.heap.size w w1) => h1.below hb)
  obtain ⟨_, a0, c0, rfl, -⟩ := id h0
  obtain ⟨_, a1, c1, rfl, -⟩ := id h1
  unfold OutB
  clear q0 q1 h0 h1 hl hb
  go_enter Tryz.func36, Tryz.ntmps36
  go_wp2_with fail
  have BW0 := below1 w (.cells #[.int .i64 13, .string ⟨#[]⟩, .int .i64 0] 42)
  have BC := box_cells w 13 0 ⟨#[]⟩ 42
  generalize w.alloc (.cells #[.int .i64 13, .string ⟨#[]⟩, .int .i64 0] 42) = W at BW0 BC ⊢
  have BW := Lib.hid BW0
  obtain ⟨x0, x1, x2⟩ := BC W (Below.refl _ _)
  obtain ⟨z0, z1⟩ := CK.out W BW0
  have BD := Lib.hid (BW.out.drew)
  clear BW0 BC
  go_still_tail 6, (by kernel_rfl)
  change wpList _ _ _ _ _ W.drew
  go_wp2_with fail
  refine (stackedP_any base a d _ _ _ (A0.out _ BD.out).nds (A1.out _ BD.out) (Nat.le_trans HB.out BD.out.size) HL.out).mono ?_
  rintro e w1 ⟨y, rfl, hn, hb⟩
  have N1 := Lib.hid hn
  have D1 := Lib.hid (BD.out.trans (hb.mono BD.out.size))
  clear hn hb
  go_wp2_with fail
  go_ret
  exact ⟨_, rfl, N1.out, D1.out⟩
set_option maxHeartbeats 1000000 in
theorem comes_block (base : Nat) (a : Tm) (bk ck : Nat) (y0 : Value) (w : World) (q0 : w.cell? ⟨bk, 0, none⟩ = some y0) (h0 : Nds w y0 (flat a)) (PB : Hid (∀ s c, a = .fin s c → PS c)) (hb : base ≤ w.heap.size) (hl : sz a ≤ 900) :
    Calls Tryz.prog 36 #[.agg #[.int .i64 9, .string ⟨#[]⟩, .int .i64 0], .slice (some ⟨bk, 0, none⟩) 1 ck] w (OutB base (sBlock S a) w) := by
  have HL := Lib.hid hl
  have HB := Lib.hid hb
  have hlt : bk < w.heap.size := Ap.cell_lt q0
  have CK : Hid (∀ w1, Below w.heap.size w w1 → w1.cell? ⟨bk, 0, none⟩ = some y0 ∧ True) := Lib.hid fun w1 hb => by rw [hb.cell (p := ⟨bk, 0, none⟩) hlt]; exact ⟨q0, trivial⟩
  have A0 := Lib.hid (fun w1 (hb : Below w.heap.size w w1) => h0.below hb)
  obtain ⟨_, a0, c0, rfl, -⟩ := id h0
  unfold OutB
  clear q0 h0 hl hb
  go_enter Tryz.func36, Tryz.ntmps36
  go_wp2_with fail
  have BW0 := below1 w (.cells #[.int .i64 9, .string ⟨#[]⟩, .int .i64 0] 42)
  have BC := box_cells w 9 0 ⟨#[]⟩ 42
  generalize w.alloc (.cells #[.int .i64 9, .string ⟨#[]⟩, .int .i64 0] 42) = W at BW0 BC ⊢
  have BW := Lib.hid BW0
  obtain ⟨x0, x1, x2⟩ := BC W (Below.refl _ _)
  obtain ⟨z0, -⟩ := CK.out W BW0
  have BD := Lib.hid (BW.out.drew)
  clear BW0 BC
  go_still_tail 4, (by kernel_rfl)
  change wpList _ _ _ _ _ W.drew
  go_wp2_with fail
  refine (inBlockP_any base a _ _ (A0.out _ BD.out) PB.out (Nat.le_trans HB.out BD.out.size) HL.out).mono ?_
  rintro e w1 ⟨y, rfl, hn, hb⟩
  have N1 := Lib.hid hn
  have D1 := Lib.hid (BD.out.trans (hb.mono BD.out.size))
  clear hn hb
  go_wp2_with fail
  go_ret
  exact ⟨_, rfl, N1.out, D1.out⟩
set_option maxHeartbeats 1000000 in
theorem comes_skip (base : Nat) (v : Value) (w : World) (hv : Rws w v []) (hb : base ≤ w.heap.size) :
    Calls Tryz.prog 36 #[.agg #[.int .i64 2, .string ⟨#[]⟩, .int .i64 0], v] w (OutB base (.over 1) w) := by
  have HB := Lib.hid hb
  obtain ⟨cs, hRd, -⟩ := hv
  obtain ⟨_, ak, ck, rfl, -⟩ := hRd
  unfold OutB
  clear hb
  go_enter Tryz.func36, Tryz.ntmps36
  go_wp2_with fail
  have B0 := Lib.hid (below1 w (.cells #[.int .i64 2, .string ⟨#[]⟩, .int .i64 0] 42))
  refine (overP_any 1 _).mono ?_
  rintro e w1 ⟨rfl, hb1⟩
  have D1 := Lib.hid (B0.out.trans (hb1.mono B0.out.size))
  clear hb1
  go_wp2_with fail
  refine (mkP0 base 11 1 (.over 1) rfl _ (Nat.le_trans HB.out D1.out.size)).mono ?_
  rintro e w2 ⟨y, rfl, hn, hb⟩
  have N2 := Lib.hid hn
  have D2 := Lib.hid (D1.out.trans (hb.mono D1.out.size))
  clear hn hb
  go_wp2_with fail
  go_ret
  exact ⟨_, rfl, N2.out, D2.out⟩
set_option maxHeartbeats 1000000 in
theorem comes_throw (base : Nat) (v : Value) (w : World) (hv : Rws w v []) (hb : base ≤ w.heap.size) :
    Calls Tryz.prog 36 #[.agg #[.int .i64 3, .string ⟨#[]⟩, .int .i64 0], v] w (OutB base (.over 2) w) := by
  have HB := Lib.hid hb
  obtain ⟨cs, hRd, -⟩ := hv
  obtain ⟨_, ak, ck, rfl, -⟩ := hRd
  unfold OutB
  clear hb
  go_enter Tryz.func36, Tryz.ntmps36
  go_wp2_with fail
  have B0 := Lib.hid (below1 w (.cells #[.int .i64 3, .string ⟨#[]⟩, .int .i64 0] 42))
  refine (overP_any 2 _).mono ?_
  rintro e w1 ⟨rfl, hb1⟩
  have D1 := Lib.hid (B0.out.trans (hb1.mono B0.out.size))
  clear hb1
  go_wp2_with fail
  refine (mkP0 base 11 2 (.over 2) rfl _ (Nat.le_trans HB.out D1.out.size)).mono ?_
  rintro e w2 ⟨y, rfl, hn, hb⟩
  have N2 := Lib.hid hn
  have D2 := Lib.hid (D1.out.trans (hb.mono D1.out.size))
  clear hn hb
  go_wp2_with fail
  go_ret
  exact ⟨_, rfl, N2.out, D2.out⟩
theorem mkP_any (base : Nat) (k s : Int) (nm : ByteArray) (ls : List (List Nd)) (t : Tm) (h : flat t = ⟨k, nm, s⟩ :: ls.flatten) (v : Value) (w : World) (hv : Rws w v ls) (hl : ls.length ≤ 2) (hs : sz t ≤ 1000) (hb : base ≤ w.heap.size) :
    Calls Tryz.prog 59 #[.agg #[.int .i64 k, .string nm, .int .i64 s], v] w (OutB base t w) := mkP base ⟨k, nm, s⟩ ls t h v w hv hl hs hb
set_option maxHeartbeats 1000000 in
theorem comes_any (base : Nat) (k s : Int) (nm : ByteArray) (ls : List (List Nd)) (t : Tm) (h : flat t = ⟨k, nm, s⟩ :: ls.flatten) (hk : k ≠ 2 ∧ k ≠ 3 ∧ k ≠ 5 ∧ k ≠ 7 ∧ k ≠ 8 ∧ k ≠ 9 ∧ k ≠ 12 ∧ k ≠ 13) (v : Value) (w : World) (hv : Rws w v ls) (hl : ls.length ≤ 2) (hs : sz t ≤ 1000) (hb : base ≤ w.heap.size) :
    Calls Tryz.prog 36 #[.agg #[.int .i64 k, .string nm, .int .i64 s], v] w (OutB base t w) := by
  have HB := Lib.hid hb
  have HT := Lib.hid (fun w1 (hb : Below w.heap.size w w1) => hv.below hb)
  have HM := Lib.hid (fun v w1 (h1 : Rws w1 v ls) (h2 : base ≤ w1.heap.size) => mkP_any base k s nm ls t h v w1 h1 hl hs h2)
  obtain ⟨cs, hRd, -⟩ := hv
  obtain ⟨_, ak, ck, rfl, -⟩ := hRd
  obtain ⟨q2, q3, q5, q7, q8, q9, q12, q13⟩ := hk
  have f2 : (k == 2) = false := by rw [beq_eq_false_iff_ne]; exact q2
  have f3 : (k == 3) = false := by rw [beq_eq_false_iff_ne]; exact q3
  have f5 : (k == 5) = false := by rw [beq_eq_false_iff_ne]; exact q5
  have f7 : (k == 7) = false := by rw [beq_eq_false_iff_ne]; exact q7
  have f8 : (k == 8) = false := by rw [beq_eq_false_iff_ne]; exact q8
  have f9 : (k == 9) = false := by rw [beq_eq_false_iff_ne]; exact q9
  have f12 : (k == 12) = false := by rw [beq_eq_false_iff_ne]; exact q12
  have f13 : (k == 13) = false := by rw [beq_eq_false_iff_ne]; exact q13
  unfold OutB
  clear hb h hl hs q2 q3 q5 q7 q8 q9 q12 q13
  go_enter Tryz.func36, Tryz.ntmps36
  go_wp2_with fail
  have B0 := Lib.hid (below1 w (.cells #[.int .i64 k, .string nm, .int .i64 s] 42))
  refine (HM.out _ _ (HT.out _ B0.out) (Nat.le_trans HB.out B0.out.size)).mono ?_
  rintro e w2 ⟨y, rfl, hn, hb⟩
  have N2 := Lib.hid hn
  have D2 := Lib.hid (B0.out.trans (hb.mono B0.out.size))
  clear hn hb
  go_wp2_with fail
  go_ret
  exact ⟨_, rfl, N2.out, D2.out⟩
end Go.Proofs.YtgaediondmdnbaaGreat.Se
