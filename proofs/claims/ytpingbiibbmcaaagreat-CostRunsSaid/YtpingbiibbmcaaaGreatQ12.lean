/- Plain: trees of the fourteen kinds of nodes, the rows that they are, their sorts. The program's On. The program's Right: the walk. What may be refused: plain. Rows of which some actions are put in an Alt with a Throw; places; what is stripped. The document's mixed at any two rows: the walk of the step. Plain: what comes of a tree of itself; it is not longer, it is of the kind that it was, and nothing more comes of it. What may be refused: plain. Places, marks; all names of some; all marks are the whole rewritten. The document's mixed at any two rows. Plain: whole trees, what is settled is whole; what it has; where it ends. -/
import Derived.Test.YtpingbiibbmcaaaGreatQ10
import Derived.Test.YtpingbiibbmcaaaGreatQ11
import Derived.Test.YtpingbiibbmcaaaGreatQ09
import Derived.Test.YtpingbiibbmcaaaGreatQ02

namespace Go.Proofs.YtpingbiibbmcaaaGreat.Se
open Go Go.Proofs.YtpingbiibbmcaaaGreat.Rw Go.Proofs.YtpingbiibbmcaaaGreat.So

inductive Tm
  | act (s : ByteArray)
  | skip
  | throw
  | yield
  | over (s : Int)
  | block (a : Tm)
  | fin (s : Int) (c : Tm)
  | seq (a b : Tm)
  | alt (a b : Tm)
  | par (a b : Tm)
  | hand (a b : Tm)
  | pair (a b : Tm)
  | going (a b : Tm)
  | stack (a b : Tm)
deriving DecidableEq

/-- A node of an action; one that has ended; one of what has ended and can be taken back. -/
abbrev nAct (s : ByteArray) : Nd := ⟨1, s, 0⟩
abbrev nOver (s : Int) : Nd := ⟨11, ⟨#[]⟩, s⟩
abbrev nEnd (s : Int) : Nd := ⟨14, ⟨#[]⟩, s⟩

/-- The row that a tree is. -/
def flat : Tm → List Nd
  | .act s => [nAct s]
  | .skip => [nOf 2]
  | .throw => [nOf 3]
  | .yield => [nOf 4]
  | .over s => [nOver s]
  | .block a => nOf 9 :: flat a
  | .fin s c => nEnd s :: flat c
  | .seq a b => nOf 5 :: (flat a ++ flat b)
  | .alt a b => nOf 6 :: (flat a ++ flat b)
  | .par a b => nOf 7 :: (flat a ++ flat b)
  | .hand a b => nOf 8 :: (flat a ++ flat b)
  | .pair a b => nOf 10 :: (flat a ++ flat b)
  | .going a b => nOf 12 :: (flat a ++ flat b)
  | .stack a b => nOf 13 :: (flat a ++ flat b)

/-- How many nodes a tree has. -/
def sz : Tm → Nat
  | .act _ => 1
  | .skip => 1
  | .throw => 1
  | .yield => 1
  | .over _ => 1
  | .block a => sz a + 1
  | .fin _ c => sz c + 1
  | .seq a b => sz a + sz b + 1
  | .alt a b => sz a + sz b + 1
  | .par a b => sz a + sz b + 1
  | .hand a b => sz a + sz b + 1
  | .pair a b => sz a + sz b + 1
  | .going a b => sz a + sz b + 1
  | .stack a b => sz a + sz b + 1
theorem flat_len : ∀ t : Tm, (flat t).length = sz t := by
  intro t
  induction t <;> simp_all [flat, sz]
theorem sz_pos (t : Tm) : 1 ≤ sz t := by cases t <;> simp [sz]
theorem flat_ne (t : Tm) : flat t ≠ [] := fun e => by
  have h := flat_len t
  have := sz_pos t
  rw [e] at h
  simp at h
  omega

/-- A node with one tree behind it. -/
theorem kids_one {n : Nd} {a : List Nd} (hk : ar n.k = 1) (ha : Tre a) : Tre (n :: a) ∧ kids (n :: a) = [a] := by
  obtain ⟨d1, t1⟩ := ha
  have s1 : S 1 a = some (a.length, max 0 d1) := by
    rw [show (1 : Nat) = 0 + 1 from rfl, S_succ, S_zero]
    simp only [List.drop_zero, t1, Nat.zero_add]
  have hT : T (n :: a) = some (a.length + 1, max 0 d1 + 1) := by
    rw [T_cons, if_neg (by omega), hk, show (1 : Int).toNat = 1 from rfl, s1]
  have ht : Tre (n :: a) := ⟨_, by rw [hT, List.length_cons]⟩
  refine ⟨ht, ?_⟩
  obtain ⟨x, hx, _, _⟩ := ht.one hk
  obtain ⟨_, _, he⟩ := ht.flat
  rw [hx] at he
  injection he with _ he
  simp at he
  rw [hx, he]
theorem tre_leaf {n : Nd} (hk : ar n.k = 0) : Tre [n] := ⟨1, by rw [T_cons, if_neg (by omega), hk]; rfl⟩
theorem tre_flat : ∀ t : Tm, Tre (flat t) := by
  intro t
  induction t with
  | act s => exact tre_leaf rfl
  | skip => exact tre_leaf rfl
  | throw => exact tre_leaf rfl
  | yield => exact tre_leaf rfl
  | over s => exact tre_leaf rfl
  | block a ia => exact (kids_one rfl ia).1
  | fin s c ic => exact (kids_one rfl ic).1
  | seq a b ia ib => exact (kids_mk rfl ia ib).1
  | alt a b ia ib => exact (kids_mk rfl ia ib).1
  | par a b ia ib => exact (kids_mk rfl ia ib).1
  | hand a b ia ib => exact (kids_mk rfl ia ib).1
  | pair a b ia ib => exact (kids_mk rfl ia ib).1
  | going a b ia ib => exact (kids_mk rfl ia ib).1
  | stack a b ia ib => exact (kids_mk rfl ia ib).1
theorem kids_block (a : Tm) : kids (flat (.block a)) = [flat a] := (kids_one (n := nOf 9) rfl (tre_flat a)).2
theorem kids_fin (s : Int) (c : Tm) : kids (flat (.fin s c)) = [flat c] := (kids_one (n := nEnd s) rfl (tre_flat c)).2
theorem kids_seq (a b : Tm) : kids (flat (.seq a b)) = [flat a, flat b] := (kids_mk rfl (tre_flat a) (tre_flat b)).2
theorem kids_alt (a b : Tm) : kids (flat (.alt a b)) = [flat a, flat b] := (kids_mk rfl (tre_flat a) (tre_flat b)).2
theorem kids_par (a b : Tm) : kids (flat (.par a b)) = [flat a, flat b] := (kids_mk rfl (tre_flat a) (tre_flat b)).2
theorem kids_hand (a b : Tm) : kids (flat (.hand a b)) = [flat a, flat b] := (kids_mk rfl (tre_flat a) (tre_flat b)).2
theorem kids_pair (a b : Tm) : kids (flat (.pair a b)) = [flat a, flat b] := (kids_mk rfl (tre_flat a) (tre_flat b)).2
theorem kids_going (a b : Tm) : kids (flat (.going a b)) = [flat a, flat b] := (kids_mk rfl (tre_flat a) (tre_flat b)).2
theorem kids_stack (a b : Tm) : kids (flat (.stack a b)) = [flat a, flat b] := (kids_mk rfl (tre_flat a) (tre_flat b)).2
theorem k0_block (a : Tm) : k0 (flat (.block a)) = flat a := by unfold k0; rw [kids_block]; rfl
theorem k0_fin (s : Int) (a : Tm) : k0 (flat (.fin s a)) = flat a := by unfold k0; rw [kids_fin]; rfl
theorem k0_seq (a b : Tm) : k0 (flat (.seq a b)) = flat a := by unfold k0; rw [kids_seq]; rfl
theorem k1_seq (a b : Tm) : k1 (flat (.seq a b)) = flat b := by unfold k1; rw [kids_seq]; rfl
theorem k0_alt (a b : Tm) : k0 (flat (.alt a b)) = flat a := by unfold k0; rw [kids_alt]; rfl
theorem k1_alt (a b : Tm) : k1 (flat (.alt a b)) = flat b := by unfold k1; rw [kids_alt]; rfl
theorem k0_par (a b : Tm) : k0 (flat (.par a b)) = flat a := by unfold k0; rw [kids_par]; rfl
theorem k1_par (a b : Tm) : k1 (flat (.par a b)) = flat b := by unfold k1; rw [kids_par]; rfl
theorem k0_hand (a b : Tm) : k0 (flat (.hand a b)) = flat a := by unfold k0; rw [kids_hand]; rfl
theorem k1_hand (a b : Tm) : k1 (flat (.hand a b)) = flat b := by unfold k1; rw [kids_hand]; rfl
theorem k0_pair (a b : Tm) : k0 (flat (.pair a b)) = flat a := by unfold k0; rw [kids_pair]; rfl
theorem k1_pair (a b : Tm) : k1 (flat (.pair a b)) = flat b := by unfold k1; rw [kids_pair]; rfl
theorem k0_going (a b : Tm) : k0 (flat (.going a b)) = flat a := by unfold k0; rw [kids_going]; rfl
theorem k1_going (a b : Tm) : k1 (flat (.going a b)) = flat b := by unfold k1; rw [kids_going]; rfl
theorem k0_stack (a b : Tm) : k0 (flat (.stack a b)) = flat a := by unfold k0; rw [kids_stack]; rfl
theorem k1_stack (a b : Tm) : k1 (flat (.stack a b)) = flat b := by unfold k1; rw [kids_stack]; rfl

/-- Is a tree of a sort? As the document's: 1 plain, 2 paired, 3 plain or goes on so, 4 paired or goes on so. -/
def is : Tm → Nat → Bool
  | .act _, s => s == 1 || s == 3
  | .skip, s => s == 1 || s == 3
  | .throw, s => s == 1 || s == 3
  | .yield, s => s == 1 || s == 3
  | .over _, s => s == 3
  | .block a, s => if s = 1 then is a 2 else if s = 3 then is a 4 else false
  | .fin _ c, s => s == 4 && is c 1
  | .seq a b, s => if s = 1 then is a 1 && is b 1 else if s = 2 then is a 2 && is b 2 else if s = 3 then is a 3 && is b 1 else is a 4 && is b 2
  | .alt a b, s => if s = 1 ∨ s = 3 then is a 1 && is b 1 else is a 2 && is b 2
  | .par a b, s => is a s && is b s
  | .hand a b, s => if s = 1 then is a 1 && is b 1 else if s = 3 then is a 3 && is b 1 else false
  | .pair a b, s => if s = 2 ∨ s = 4 then is a 1 && is b 1 else false
  | .going a b, s => if s = 4 then is a 3 && is b 1 else false
  | .stack a b, s => if s = 4 then is a 4 && is b 1 else false
theorem is13 : ∀ t : Tm, (is t 1 = true → is t 3 = true) ∧ (is t 2 = true → is t 4 = true) := by
  intro t
  induction t <;> simp_all [is]
theorem abs0 {p r : Bool} (h : p = true → r = true) : (p || r) = r := by cases p <;> cases r <;> simp_all
theorem abs1 {p q r : Bool} (h : p = true → r = true) : (p && q || r && q) = (r && q) := by cases p <;> cases q <;> cases r <;> simp_all
theorem abs2 {p q r s : Bool} (h : p = true → r = true) (g : q = true → s = true) : (p && q || r && s) = (r && s) := by cases p <;> cases q <;> cases r <;> cases s <;> simp_all
theorem is_flat : ∀ (t : Tm) (s : Nat), s = 1 ∨ s = 2 ∨ s = 3 ∨ s = 4 → Is s (flat t) = is t s := by
  intro t
  induction t with
  | act s =>
    intro s' hs
    rcases hs with rfl | rfl | rfl | rfl
    · rw [eq_1_1 (l := flat (.act s)) rfl]; rfl
    · rw [eq_1_2 (l := flat (.act s)) rfl]; rfl
    · rw [eq_1_3 (l := flat (.act s)) rfl]; rfl
    · rw [eq_1_4 (l := flat (.act s)) rfl]; rfl
  | skip =>
    intro s' hs
    rcases hs with rfl | rfl | rfl | rfl
    · rw [eq_2_1 (l := flat (.skip)) rfl]; rfl
    · rw [eq_2_2 (l := flat (.skip)) rfl]; rfl
    · rw [eq_2_3 (l := flat (.skip)) rfl]; rfl
    · rw [eq_2_4 (l := flat (.skip)) rfl]; rfl
  | throw =>
    intro s' hs
    rcases hs with rfl | rfl | rfl | rfl
    · rw [eq_3_1 (l := flat (.throw)) rfl]; rfl
    · rw [eq_3_2 (l := flat (.throw)) rfl]; rfl
    · rw [eq_3_3 (l := flat (.throw)) rfl]; rfl
    · rw [eq_3_4 (l := flat (.throw)) rfl]; rfl
  | yield =>
    intro s' hs
    rcases hs with rfl | rfl | rfl | rfl
    · rw [eq_4_1 (l := flat (.yield)) rfl]; rfl
    · rw [eq_4_2 (l := flat (.yield)) rfl]; rfl
    · rw [eq_4_3 (l := flat (.yield)) rfl]; rfl
    · rw [eq_4_4 (l := flat (.yield)) rfl]; rfl
  | over s =>
    intro s' hs
    rcases hs with rfl | rfl | rfl | rfl
    · rw [eq_11_1 (l := flat (.over s)) rfl]; rfl
    · rw [eq_11_2 (l := flat (.over s)) rfl]; rfl
    · rw [eq_11_3 (l := flat (.over s)) rfl]; rfl
    · rw [eq_11_4 (l := flat (.over s)) rfl]; rfl
  | block a ia =>
    intro s' hs
    rcases hs with rfl | rfl | rfl | rfl
    · rw [eq_9_1 (l := flat (.block a)) rfl, k0_block, ia _ (Or.inr (Or.inl rfl))]; rfl
    · rw [eq_9_2 (l := flat (.block a)) rfl]; rfl
    · rw [eq_9_3 (l := flat (.block a)) rfl, k0_block, ia _ (Or.inr (Or.inl rfl)), ia _ (Or.inr (Or.inr (Or.inr rfl))), abs0 (is13 a).2]; rfl
    · rw [eq_9_4 (l := flat (.block a)) rfl]; rfl
  | fin e c ic =>
    intro s' hs
    rcases hs with rfl | rfl | rfl | rfl
    · rw [eq_14_1 (l := flat (.fin e c)) rfl]; rfl
    · rw [eq_14_2 (l := flat (.fin e c)) rfl]; rfl
    · rw [eq_14_3 (l := flat (.fin e c)) rfl]; rfl
    · rw [eq_14_4 (l := flat (.fin e c)) rfl, k0_fin, ic _ (Or.inl rfl)]; rfl
  | seq a b ia ib =>
    intro s' hs
    rcases hs with rfl | rfl | rfl | rfl
    · rw [eq_5_1 (l := flat (.seq a b)) rfl, k0_seq, k1_seq, ia _ (Or.inl rfl), ib _ (Or.inl rfl)]; rfl
    · rw [eq_5_2 (l := flat (.seq a b)) rfl, k0_seq, k1_seq, ia _ (Or.inr (Or.inl rfl)), ib _ (Or.inr (Or.inl rfl))]; rfl
    · rw [eq_5_3 (l := flat (.seq a b)) rfl, k0_seq, k1_seq, ia _ (Or.inl rfl), ia _ (Or.inr (Or.inr (Or.inl rfl))), ib _ (Or.inl rfl), abs1 (is13 a).1]; rfl
    · rw [eq_5_4 (l := flat (.seq a b)) rfl, k0_seq, k1_seq, ia _ (Or.inr (Or.inl rfl)), ia _ (Or.inr (Or.inr (Or.inr rfl))), ib _ (Or.inr (Or.inl rfl)), abs1 (is13 a).2]; rfl
  | alt a b ia ib =>
    intro s' hs
    rcases hs with rfl | rfl | rfl | rfl
    · rw [eq_6_1 (l := flat (.alt a b)) rfl, k0_alt, k1_alt, ia _ (Or.inl rfl), ib _ (Or.inl rfl)]; rfl
    · rw [eq_6_2 (l := flat (.alt a b)) rfl, k0_alt, k1_alt, ia _ (Or.inr (Or.inl rfl)), ib _ (Or.inr (Or.inl rfl))]; rfl
    · rw [eq_6_3 (l := flat (.alt a b)) rfl, k0_alt, k1_alt, ia _ (Or.inl rfl), ib _ (Or.inl rfl), Bool.or_false]; rfl
    · rw [eq_6_4 (l := flat (.alt a b)) rfl, k0_alt, k1_alt, ia _ (Or.inr (Or.inl rfl)), ib _ (Or.inr (Or.inl rfl)), Bool.or_false]; rfl
  | par a b ia ib =>
    intro s' hs
    rcases hs with rfl | rfl | rfl | rfl
    · rw [eq_7_1 (l := flat (.par a b)) rfl, k0_par, k1_par, ia _ (Or.inl rfl), ib _ (Or.inl rfl)]; rfl
    · rw [eq_7_2 (l := flat (.par a b)) rfl, k0_par, k1_par, ia _ (Or.inr (Or.inl rfl)), ib _ (Or.inr (Or.inl rfl))]; rfl
    · rw [eq_7_3 (l := flat (.par a b)) rfl, k0_par, k1_par, ia _ (Or.inl rfl), ia _ (Or.inr (Or.inr (Or.inl rfl))), ib _ (Or.inl rfl), ib _ (Or.inr (Or.inr (Or.inl rfl))), abs2 (is13 a).1 (is13 b).1]; rfl
    · rw [eq_7_4 (l := flat (.par a b)) rfl, k0_par, k1_par, ia _ (Or.inr (Or.inl rfl)), ia _ (Or.inr (Or.inr (Or.inr rfl))), ib _ (Or.inr (Or.inl rfl)), ib _ (Or.inr (Or.inr (Or.inr rfl))), abs2 (is13 a).2 (is13 b).2]; rfl
  | hand a b ia ib =>
    intro s' hs
    rcases hs with rfl | rfl | rfl | rfl
    · rw [eq_8_1 (l := flat (.hand a b)) rfl, k0_hand, k1_hand, ia _ (Or.inl rfl), ib _ (Or.inl rfl)]; rfl
    · rw [eq_8_2 (l := flat (.hand a b)) rfl]; rfl
    · rw [eq_8_3 (l := flat (.hand a b)) rfl, k0_hand, k1_hand, ia _ (Or.inl rfl), ia _ (Or.inr (Or.inr (Or.inl rfl))), ib _ (Or.inl rfl), abs1 (is13 a).1]; rfl
    · rw [eq_8_4 (l := flat (.hand a b)) rfl]; rfl
  | pair a b ia ib =>
    intro s' hs
    rcases hs with rfl | rfl | rfl | rfl
    · rw [eq_10_1 (l := flat (.pair a b)) rfl]; rfl
    · rw [eq_10_2 (l := flat (.pair a b)) rfl, k0_pair, k1_pair, ia _ (Or.inl rfl), ib _ (Or.inl rfl)]; rfl
    · rw [eq_10_3 (l := flat (.pair a b)) rfl]; rfl
    · rw [eq_10_4 (l := flat (.pair a b)) rfl, k0_pair, k1_pair, ia _ (Or.inl rfl), ib _ (Or.inl rfl), Bool.or_false]; rfl
  | going a b ia ib =>
    intro s' hs
    rcases hs with rfl | rfl | rfl | rfl
    · rw [eq_12_1 (l := flat (.going a b)) rfl]; rfl
    · rw [eq_12_2 (l := flat (.going a b)) rfl]; rfl
    · rw [eq_12_3 (l := flat (.going a b)) rfl]; rfl
    · rw [eq_12_4 (l := flat (.going a b)) rfl, k0_going, k1_going, ia _ (Or.inr (Or.inr (Or.inl rfl))), ib _ (Or.inl rfl)]; rfl
  | stack a b ia ib =>
    intro s' hs
    rcases hs with rfl | rfl | rfl | rfl
    · rw [eq_13_1 (l := flat (.stack a b)) rfl]; rfl
    · rw [eq_13_2 (l := flat (.stack a b)) rfl]; rfl
    · rw [eq_13_3 (l := flat (.stack a b)) rfl]; rfl
    · rw [eq_13_4 (l := flat (.stack a b)) rfl, k0_stack, k1_stack, ia _ (Or.inr (Or.inr (Or.inr rfl))), ib _ (Or.inl rfl)]; rfl

/-- Each row that is a tree, of right nodes, is such a tree. -/
theorem rgt_of {x : Nd} (h : rgt x = true) (h1 : x.k ≠ 1) (h2 : ¬ (x.k = 11 ∨ x.k = 14)) : x = nOf x.k := by
  obtain ⟨k, n, s⟩ := x
  have h0 : ¬ ar k < 0 := fun h0 => by unfold rgt at h; rw [if_pos h0] at h; cases h
  rw [rgt_other n s h0 h1 h2] at h
  simp only [Bool.and_eq_true, decide_eq_true_eq, beq_iff_eq] at h
  obtain ⟨hn, rfl⟩ := h
  rw [empty_of hn]
  rfl
theorem rgt_end {x : Nd} (h : rgt x = true) (h2 : x.k = 11 ∨ x.k = 14) : x = ⟨x.k, ⟨#[]⟩, x.s⟩ ∧ 1 ≤ x.s ∧ x.s ≤ 3 := by
  obtain ⟨k, n, s⟩ := x
  rw [rgt_sign n s h2] at h
  simp only [Bool.and_eq_true, decide_eq_true_eq] at h
  rw [empty_of h.1]
  exact ⟨rfl, h.2⟩
theorem rgt_name {x : Nd} (h : rgt x = true) (h1 : x.k = 1) : x = nAct x.n := by
  obtain ⟨k, n, s⟩ := x
  obtain rfl : k = 1 := h1
  rw [rgt_act n s] at h
  simp only [Bool.and_eq_true, beq_iff_eq] at h
  obtain ⟨⟨_, rfl⟩, _⟩ := h
  rfl
theorem tm_of : ∀ (m : Nat) (l : List Nd), l.length ≤ m → Tre l → l.all rgt = true → ∃ t, flat t = l
  | 0, l, h, ht, _ => absurd ht.pos (by omega)
  | m + 1, l, h, ht, hr => by
    obtain ⟨x, hx, he⟩ := ht.flat
    have hxr : rgt x = true := by rw [he, List.all_cons, Bool.and_eq_true] at hr; exact hr.1
    have leaf : ar (hd l) = 0 → l = [x] := fun h0 => by
      have hk : kids l = [] := List.eq_nil_of_length_eq_zero (by rw [ht.kids.1, h0]; rfl)
      rw [hk] at he
      exact he
    have one : ar (hd l) = 1 → ∃ t, l = x :: flat t := fun h1 => by
      obtain ⟨a, hk, ta, la⟩ := ht.one h1
      rw [hk] at he
      have he : l = x :: a := by rw [he]; simp
      have ra : a.all rgt = true := by rw [he, List.all_cons, Bool.and_eq_true] at hr; exact hr.2
      obtain ⟨t, rfl⟩ := tm_of m a (by omega) ta ra
      exact ⟨t, he⟩
    have two : ar (hd l) = 2 → ∃ t u, l = x :: (flat t ++ flat u) := fun h2 => by
      obtain ⟨a, b, hk, ta, tb, la, lb⟩ := ht.two h2
      rw [hk] at he
      have he : l = x :: (a ++ b) := by rw [he]; simp
      have rab : a.all rgt = true ∧ b.all rgt = true := by
        rw [he, List.all_cons, List.all_append, Bool.and_eq_true, Bool.and_eq_true] at hr
        exact hr.2
      obtain ⟨t, rfl⟩ := tm_of m a (by omega) ta rab.1
      obtain ⟨u, rfl⟩ := tm_of m b (by omega) tb rab.2
      exact ⟨t, u, he⟩
    rcases kinds ht.ar with hk | hk | hk | hk | hk | hk | hk | hk | hk | hk | hk | hk | hk | hk
    · refine ⟨.act x.n, ?_⟩
      rw [leaf (by rw [hk]; rfl)]
      exact congrArg (fun y => [y]) (rgt_name hxr (by rw [← hx]; exact hk)).symm
    · refine ⟨.skip, ?_⟩
      rw [leaf (by rw [hk]; rfl)]
      have := rgt_of hxr (by omega) (by omega)
      rw [show x.k = 2 by omega] at this
      rw [this]
      rfl
    · refine ⟨.throw, ?_⟩
      rw [leaf (by rw [hk]; rfl)]
      have := rgt_of hxr (by omega) (by omega)
      rw [show x.k = 3 by omega] at this
      rw [this]
      rfl
    · refine ⟨.yield, ?_⟩
      rw [leaf (by rw [hk]; rfl)]
      have := rgt_of hxr (by omega) (by omega)
      rw [show x.k = 4 by omega] at this
      rw [this]
      rfl
    · obtain ⟨t, u, e⟩ := two (by rw [hk]; rfl)
      refine ⟨.seq t u, ?_⟩
      have := rgt_of hxr (by omega) (by omega)
      rw [show x.k = 5 by omega] at this
      rw [e, this]
      rfl
    · obtain ⟨t, u, e⟩ := two (by rw [hk]; rfl)
      refine ⟨.alt t u, ?_⟩
      have := rgt_of hxr (by omega) (by omega)
      rw [show x.k = 6 by omega] at this
      rw [e, this]
      rfl
    · obtain ⟨t, u, e⟩ := two (by rw [hk]; rfl)
      refine ⟨.par t u, ?_⟩
      have := rgt_of hxr (by omega) (by omega)
      rw [show x.k = 7 by omega] at this
      rw [e, this]
      rfl
    · obtain ⟨t, u, e⟩ := two (by rw [hk]; rfl)
      refine ⟨.hand t u, ?_⟩
      have := rgt_of hxr (by omega) (by omega)
      rw [show x.k = 8 by omega] at this
      rw [e, this]
      rfl
    · obtain ⟨t, e⟩ := one (by rw [hk]; rfl)
      refine ⟨.block t, ?_⟩
      have := rgt_of hxr (by omega) (by omega)
      rw [show x.k = 9 by omega] at this
      rw [e, this]
      rfl
    · obtain ⟨t, u, e⟩ := two (by rw [hk]; rfl)
      refine ⟨.pair t u, ?_⟩
      have := rgt_of hxr (by omega) (by omega)
      rw [show x.k = 10 by omega] at this
      rw [e, this]
      rfl
    · refine ⟨.over x.s, ?_⟩
      rw [leaf (by rw [hk]; rfl)]
      have := (rgt_end hxr (by omega)).1
      rw [show x.k = 11 by omega] at this
      exact congrArg (fun y => [y]) this.symm
    · obtain ⟨t, u, e⟩ := two (by rw [hk]; rfl)
      refine ⟨.going t u, ?_⟩
      have := rgt_of hxr (by omega) (by omega)
      rw [show x.k = 12 by omega] at this
      rw [e, this]
      rfl
    · obtain ⟨t, u, e⟩ := two (by rw [hk]; rfl)
      refine ⟨.stack t u, ?_⟩
      have := rgt_of hxr (by omega) (by omega)
      rw [show x.k = 13 by omega] at this
      rw [e, this]
      rfl
    · obtain ⟨t, e⟩ := one (by rw [hk]; rfl)
      refine ⟨.fin x.s t, ?_⟩
      have := (rgt_end hxr (by omega)).1
      rw [show x.k = 14 by omega] at this
      rw [e]
      exact congrArg (fun y => y :: flat t) this.symm
/-- A whole row is a tree. -/
theorem whole_tm {l : List Nd} (h : whole l = true) : ∃ t, flat t = l := tm_of l.length l (Nat.le_refl _) (whole_tre h) (whole_rgt h)
end Go.Proofs.YtpingbiibbmcaaaGreat.Se

namespace Go.Proofs.YtpingbiibbmcaaaGreat.Sx
open Go Go.RowKit Go.Proofs.YtpingbiibbmcaaaGreat.Rw Go.Proofs.YtpingbiibbmcaaaGreat.So
set_option maxRecDepth 20000
set_option maxHeartbeats 800000 in
theorem onP_any (l : List Nd) (p : Bool) (v : Value) (w : World) (hv : Nds w v l) (hl : l.length ≤ 1000) (hm : Nms l) :
    Calls Tryz.prog 91 #[v, .bool p] w fun e w' => e = .returned (.bool (onB l p)) ∧ Below w.heap.size w w' := by
  have HV := Lib.hid hv
  have HC := Lib.hid (fun w h => ofP_any l v w h hl hm)
  have hr : onB l p = if p then pd (of l) else pl (of l) := rfl
  have h4 := of_le l
  obtain ⟨z, hzz⟩ : ∃ z, of l = z := ⟨_, rfl⟩
  rw [hzz] at hr HC h4
  rw [hr]
  obtain ⟨_, a, cap, rfl, -⟩ := hv
  clear hm hzz hr
  cases p
  · rw [if_neg (by decide)]
    go_enter Tryz.func91, Tryz.ntmps91
    go_wp2_with fail
    refine (HC.out _ HV.out).mono ?_
    rintro e w1 ⟨rfl, hb⟩
    have HB := Lib.hid hb
    clear hb
    go_wp2_with fail
    refine (plP z _ h4).mono ?_
    rintro e w2 ⟨rfl, rfl⟩
    go_wp2_with fail
    go_ret
    exact ⟨rfl, HB.out⟩
  · rw [if_pos rfl]
    go_enter Tryz.func91, Tryz.ntmps91
    go_wp2_with fail
    refine (HC.out _ HV.out).mono ?_
    rintro e w1 ⟨rfl, hb⟩
    have HB := Lib.hid hb
    clear hb
    go_wp2_with fail
    refine (pdP z _ h4).mono ?_
    rintro e w2 ⟨rfl, rfl⟩
    go_wp2_with fail
    go_ret
    exact ⟨rfl, HB.out⟩
end Go.Proofs.YtpingbiibbmcaaaGreat.Sx

namespace Go.Proofs.YtpingbiibbmcaaaGreat.Sx
open Go Go.RowKit Go.Proofs.YtpingbiibbmcaaaGreat.Rw Go.Proofs.YtpingbiibbmcaaaGreat.So
set_option maxRecDepth 20000

end Go.Proofs.YtpingbiibbmcaaaGreat.Sx

namespace Go.Proofs.YtpingbiibbmcaaaGreat.Rf
open Go Rw Go.Proofs.YtpingbiibbmcaaaGreat.So

/-- An Alt, a Throw; an action that is asked for. -/
abbrev alt : Nd := So.nOf 6
abbrev thr : Nd := So.nOf 3
def hit (f : ByteArray → Bool) (x : Nd) : Bool := decide (x.k = 1) && f x.n
def sub1 (f : ByteArray → Bool) (x : Nd) : List Nd := if hit f x then [alt, x, thr] else [x]
def sub (f : ByteArray → Bool) (l : List Nd) : List Nd := l.flatMap (sub1 f)
/-- The trees of a row, and those of the row rewritten. -/
theorem leaf (x : Nd) (hx : ar x.k = 0) (r : List Nd) : T (x :: r) = some (1, 1) := by
  rw [T_cons, hx, if_neg (by decide), show ((0 : Int).toNat) = 0 from rfl, S_zero]
end Go.Proofs.YtpingbiibbmcaaaGreat.Rf

namespace Go.Proofs.YtpingbiibbmcaaaGreat.Tr
open Go Go.RowKit
set_option maxRecDepth 20000

end Go.Proofs.YtpingbiibbmcaaaGreat.Tr

namespace Go.Proofs.YtpingbiibbmcaaaGreat.Se
open Go Go.Proofs.YtpingbiibbmcaaaGreat.Rw Go.Proofs.YtpingbiibbmcaaaGreat.So

/-- A Stack of these, settled. -/
def stk (a d : Tm) : Tm := match a with
  | .fin s c => .fin s (.seq c d)
  | a => .stack a d
/-- A Seq, a Hand, a Par, a Block, a Going of what is settled; S: what comes of others. -/
def sSeq (S : Tm → Tm) (a b : Tm) : Tm := match a with
  | .over s => if s = 1 then S b else .over s
  | .fin s c => if s = 1 then stk (S b) c else .fin s c
  | a => .seq a b
def sHand (S : Tm → Tm) (a b : Tm) : Tm := match a with
  | .over s => if s = 2 then S b else .over s
  | a => .hand a b
def sPar (a b : Tm) : Tm := match a, b with
  | .over s, .over t => .over (Sg.both s t)
  | .fin s c, .fin t d => .fin (Sg.both s t) (.par c d)
  | a, b => .par a b
def sBlock (S : Tm → Tm) (a : Tm) : Tm := match a with
  | .fin s c => if s = 1 then .over 1 else if s = 2 then S c else .block (.fin s c)
  | a => .block a
def sGoing (a b : Tm) : Tm := match a with
  | .over s => if s = 1 then .fin 1 b else .fin s .skip
  | a => .going a b
/-- What comes of a tree; the number is fuel. -/
def se : Nat → Tm → Tm
  | 0, t => t
  | f + 1, t => match t with
    | .skip => .over 1
    | .throw => .over 2
    | .seq a b => sSeq (se f) (se f a) b
    | .hand a b => sHand (se f) (se f a) b
    | .par a b => sPar (se f a) (se f b)
    | .block a => sBlock (se f) (se f a)
    | .going a b => sGoing (se f a) b
    | .stack a b => stk (se f a) b
    | t => t
theorem stk_sz (a d : Tm) : sz (stk a d) = sz a + sz d + 1 := by
  cases a <;> simp [stk, sz]
  omega
theorem se_sz : ∀ (f : Nat) (t : Tm), sz (se f t) ≤ sz t := by
  intro f
  induction f with
  | zero => intro t; exact Nat.le_refl _
  | succ f ih =>
    intro t
    cases t with
    | seq a b =>
      show sz (sSeq (se f) (se f a) b) ≤ _
      have h1 := ih a
      have h2 := ih b
      generalize se f a = x at h1 ⊢
      cases x <;> simp only [sSeq, sz] at h1 ⊢ <;> repeat' split
      all_goals try simp only [stk_sz, sz]
      all_goals omega
    | hand a b =>
      show sz (sHand (se f) (se f a) b) ≤ _
      have h1 := ih a
      have h2 := ih b
      generalize se f a = x at h1 ⊢
      cases x <;> simp only [sHand, sz] at h1 ⊢ <;> repeat' split
      all_goals try simp only [sz]
      all_goals omega
    | par a b =>
      show sz (sPar (se f a) (se f b)) ≤ _
      have h1 := ih a
      have h2 := ih b
      generalize se f a = x at h1 ⊢
      generalize se f b = y at h2 ⊢
      cases x <;> simp only [sPar, sz] at h1 ⊢
      all_goals try omega
      all_goals cases y <;> simp only [sz] at h2 ⊢ <;> omega
    | block a =>
      show sz (sBlock (se f) (se f a)) ≤ _
      have h1 := ih a
      generalize se f a = x at h1 ⊢
      cases x with
      | fin s c =>
        have h2 := ih c
        simp only [sBlock, sz] at h1 ⊢
        repeat' split
        all_goals try simp only [sz]
        all_goals omega
      | _ => simp only [sBlock, sz] at h1 ⊢; omega
    | going a b =>
      show sz (sGoing (se f a) b) ≤ _
      have h1 := ih a
      have := sz_pos b
      generalize se f a = x at h1 ⊢
      cases x <;> simp only [sGoing, sz] at h1 ⊢ <;> repeat' split
      all_goals try simp only [sz]
      all_goals omega
    | stack a b =>
      show sz (stk (se f a) b) ≤ _
      rw [stk_sz]
      have h1 := ih a
      simp only [sz]
      omega
    | _ => exact Nat.le_refl _
theorem se_fuel : ∀ (f : Nat) (t : Tm), sz t ≤ f → se (f + 1) t = se f t := by
  intro f
  induction f with
  | zero => intro t h; have := sz_pos t; omega
  | succ f ih =>
    intro t h
    cases t with
    | seq a b =>
      simp only [sz] at h
      show sSeq (se (f + 1)) (se (f + 1) a) b = sSeq (se f) (se f a) b
      rw [ih a (by omega)]
      unfold sSeq
      rw [ih b (by omega)]
    | hand a b =>
      simp only [sz] at h
      show sHand (se (f + 1)) (se (f + 1) a) b = sHand (se f) (se f a) b
      rw [ih a (by omega)]
      unfold sHand
      rw [ih b (by omega)]
    | par a b =>
      simp only [sz] at h
      show sPar (se (f + 1) a) (se (f + 1) b) = sPar (se f a) (se f b)
      rw [ih a (by omega), ih b (by omega)]
    | block a =>
      simp only [sz] at h
      show sBlock (se (f + 1)) (se (f + 1) a) = sBlock (se f) (se f a)
      rw [ih a (by omega)]
      have h1 := se_sz f a
      generalize se f a = x at h1
      cases x with
      | fin s c =>
        simp only [sz] at h1
        simp only [sBlock, ih c (by omega)]
      | _ => rfl
    | going a b =>
      simp only [sz] at h
      show sGoing (se (f + 1) a) b = sGoing (se f a) b
      rw [ih a (by omega)]
    | stack a b =>
      simp only [sz] at h
      show stk (se (f + 1) a) b = stk (se f a) b
      rw [ih a (by omega)]
    | _ => rfl
/-- What comes of a tree. -/
def S (t : Tm) : Tm := se (sz t) t
theorem se_S (f : Nat) (t : Tm) (h : sz t ≤ f) : se f t = S t := by
  have : ∀ g, se (sz t + g) t = S t := by
    intro g
    induction g with
    | zero => rfl
    | succ g ih => rw [← Nat.add_assoc, se_fuel _ _ (by omega), ih]
  have h' := this (f - sz t)
  rw [show sz t + (f - sz t) = f by omega] at h'
  exact h'
theorem S_sz (t : Tm) : sz (S t) ≤ sz t := se_sz _ _
theorem S_act (s : ByteArray) : S (.act s) = .act s := rfl
theorem S_skip : S .skip = .over 1 := rfl
theorem S_throw : S .throw = .over 2 := rfl
theorem S_yield : S .yield = .yield := rfl
theorem S_over (s : Int) : S (.over s) = .over s := rfl
theorem S_fin (s : Int) (c : Tm) : S (.fin s c) = .fin s c := rfl
theorem S_alt (a b : Tm) : S (.alt a b) = .alt a b := rfl
theorem S_pair (a b : Tm) : S (.pair a b) = .pair a b := rfl
theorem S_seq (a b : Tm) : S (.seq a b) = sSeq S (S a) b := by
  show sSeq (se (sz a + sz b)) (se (sz a + sz b) a) b = _
  rw [se_S _ a (by omega)]
  unfold sSeq
  rw [se_S _ b (by omega)]
theorem S_hand (a b : Tm) : S (.hand a b) = sHand S (S a) b := by
  show sHand (se (sz a + sz b)) (se (sz a + sz b) a) b = _
  rw [se_S _ a (by omega)]
  unfold sHand
  rw [se_S _ b (by omega)]
theorem S_par (a b : Tm) : S (.par a b) = sPar (S a) (S b) := by
  show sPar (se (sz a + sz b) a) (se (sz a + sz b) b) = _
  rw [se_S _ a (by omega), se_S _ b (by omega)]
theorem S_block (a : Tm) : S (.block a) = sBlock S (S a) := by
  show sBlock (se (sz a)) (se (sz a) a) = _
  rw [se_S _ a (by omega)]
  have h := S_sz a
  generalize S a = x at h
  cases x with
  | fin s c =>
    simp only [sz] at h
    simp only [sBlock, se_S _ c (show sz c ≤ sz a by omega)]
  | _ => rfl
theorem S_going (a b : Tm) : S (.going a b) = sGoing (S a) b := by
  show sGoing (se (sz a + sz b) a) b = _
  rw [se_S _ a (by omega)]
theorem S_stack (a b : Tm) : S (.stack a b) = stk (S a) b := by
  show stk (se (sz a + sz b) a) b = _
  rw [se_S _ a (by omega)]
/-- The way by which all of S is gone through. -/
theorem S_ind {P : Tm → Prop} (h : ∀ t, (∀ u, sz u < sz t → P u) → P t) : ∀ t, P t := by
  have : ∀ (n : Nat) (t : Tm), sz t ≤ n → P t := by
    intro n
    induction n with
    | zero => intro t h; have := sz_pos t; omega
    | succ n ih => intro t ht; exact h t fun u hu => ih u (by omega)
  exact fun t => this _ t (Nat.le_refl _)
theorem stk_is {a d : Tm} (ha : is a 4 = true) (hd : is d 1 = true) : is (stk a d) 4 = true := by
  cases a <;> simp_all [stk, is]
/-- What is settled is of the kind that it was. -/
theorem S_is : ∀ t : Tm, (is t 3 = true → is (S t) 3 = true) ∧ (is t 4 = true → is (S t) 4 = true) := by
  apply S_ind
  intro t ih
  cases t with
  | seq a b =>
    have ia := ih a (by simp [sz]; omega)
    have ib := ih b (by simp [sz]; omega)
    have j := is13 b
    rw [S_seq]
    generalize S a = x at ia ⊢
    constructor
    · intro h
      simp [is] at h
      have i1 := ia.1 h.1
      have i2 := ib.1 (j.1 h.2)
      cases x <;> simp only [sSeq] <;> (try split) <;> simp_all [is]
    · intro h
      simp [is] at h
      have i1 := ia.2 h.1
      have i2 := ib.2 (j.2 h.2)
      cases x with
      | fin s c =>
        simp only [sSeq]
        simp [is] at i1
        split
        · exact stk_is i2 i1
        · simpa [is] using i1
      | _ => simp_all [is, sSeq]
  | hand a b =>
    have ia := ih a (by simp [sz]; omega)
    have ib := ih b (by simp [sz]; omega)
    have j := is13 b
    rw [S_hand]
    generalize S a = x at ia ⊢
    constructor
    · intro h
      simp [is] at h
      have i1 := ia.1 h.1
      have i2 := ib.1 (j.1 h.2)
      cases x <;> simp only [sHand] <;> (try split) <;> simp_all [is]
    · intro h
      simp [is] at h
  | par a b =>
    have ia := ih a (by simp [sz]; omega)
    have ib := ih b (by simp [sz]; omega)
    rw [S_par]
    generalize S a = x at ia ⊢
    generalize S b = y at ib ⊢
    constructor
    · intro h
      simp [is] at h
      have i1 := ia.1 h.1
      have i2 := ib.1 h.2
      cases x <;> (try (simp [is] at i1; done)) <;> simp only [sPar] <;> (try (simp_all [is]; done))
      cases y <;> simp_all [is]
    · intro h
      simp [is] at h
      have i1 := ia.2 h.1
      have i2 := ib.2 h.2
      cases x <;> (try (simp [is] at i1; done)) <;> simp only [sPar] <;> (try (simp_all [is]; done))
      cases y <;> simp_all [is]
  | block a =>
    have ia := ih a (by simp [sz])
    have hs := S_sz a
    rw [S_block]
    generalize S a = x at ia hs ⊢
    constructor
    · intro h
      simp [is] at h
      have i1 := ia.2 h
      cases x with
      | fin s c =>
        simp [is] at i1
        simp only [sBlock]
        split
        · rfl
        · split
          · simp only [sz] at hs
            exact (ih c (by simp [sz]; omega)).1 ((is13 c).1 i1)
          · simp [is, i1]
      | _ => simp_all [is, sBlock]
    · intro h
      simp [is] at h
  | going a b =>
    have ia := ih a (by simp [sz]; omega)
    rw [S_going]
    generalize S a = x at ia ⊢
    constructor
    · intro h
      simp [is] at h
    · intro h
      simp [is] at h
      have i1 := ia.1 h.1
      cases x <;> simp only [sGoing] <;> (try split) <;> simp_all [is]
  | stack a b =>
    have ia := ih a (by simp [sz]; omega)
    rw [S_stack]
    constructor
    · intro h
      simp [is] at h
    · intro h
      simp [is] at h
      exact stk_is (ia.2 h.1) h.2
  | _ => simp_all [S_act, S_skip, S_throw, S_yield, S_over, S_fin, S_alt, S_pair, is]
/-- Has it ended? Has it ended, and can be taken back? So that its block goes on? -/
def isOver : Tm → Bool
  | .over _ => true
  | _ => false
def isFin : Tm → Bool
  | .fin _ _ => true
  | _ => false
def isGone : Tm → Bool
  | .fin s _ => s == 1 || s == 2
  | _ => false
/-- Of what nothing more comes. -/
def Nf : Tm → Prop
  | .skip => False
  | .throw => False
  | .seq a _ => Nf a ∧ isOver a = false ∧ isFin a = false
  | .hand a _ => Nf a ∧ isOver a = false
  | .par a b => Nf a ∧ Nf b ∧ (isOver a && isOver b) = false ∧ (isFin a && isFin b) = false
  | .block a => Nf a ∧ isGone a = false
  | .going a _ => Nf a ∧ isOver a = false
  | .stack a _ => Nf a ∧ isFin a = false
  | _ => True
theorem stk_nf {a d : Tm} (ha : Nf a) : Nf (stk a d) := by
  cases a <;> simp_all [stk, Nf, isOver, isFin]
theorem S_nf : ∀ t : Tm, Nf (S t) := by
  apply S_ind
  intro t ih
  cases t with
  | seq a b =>
    have ia := ih a (by simp [sz]; omega)
    have ib := ih b (by simp [sz]; omega)
    rw [S_seq]
    generalize S a = x at ia ⊢
    cases x <;> simp only [sSeq] <;> (try split) <;> first | exact ib | exact stk_nf ib | simp_all [Nf, isOver, isFin, isGone]
  | hand a b =>
    have ia := ih a (by simp [sz]; omega)
    have ib := ih b (by simp [sz]; omega)
    rw [S_hand]
    generalize S a = x at ia ⊢
    cases x <;> simp only [sHand] <;> (try split) <;> first | exact ib | simp_all [Nf, isOver, isFin, isGone]
  | par a b =>
    have ia := ih a (by simp [sz]; omega)
    have ib := ih b (by simp [sz]; omega)
    rw [S_par]
    generalize S a = x at ia ⊢
    generalize S b = y at ib ⊢
    cases x <;> simp only [sPar] <;> (try (simp_all [Nf, isOver, isFin, isGone]; done))
    all_goals cases y <;> simp_all [Nf, isOver, isFin, isGone]
  | block a =>
    have ia := ih a (by simp [sz])
    have hs := S_sz a
    rw [S_block]
    generalize S a = x at ia hs ⊢
    cases x with
    | fin s c =>
      simp only [sBlock]
      split
      · simp [Nf]
      · split
        · simp only [sz] at hs
          exact ih c (by simp [sz]; omega)
        · simp_all [Nf, isGone]
    | _ => simp_all [Nf, sBlock, isGone]
  | going a b =>
    have ia := ih a (by simp [sz]; omega)
    rw [S_going]
    generalize S a = x at ia ⊢
    cases x <;> simp only [sGoing] <;> (try split) <;> simp_all [Nf, isOver, isFin, isGone]
  | stack a b =>
    have ia := ih a (by simp [sz]; omega)
    rw [S_stack]
    exact stk_nf ia
  | _ => simp_all [S_act, S_skip, S_throw, S_yield, S_over, S_fin, S_alt, S_pair, Nf]
theorem nf_S : ∀ t : Tm, Nf t → S t = t := by
  intro t
  induction t with
  | seq a b ia ib =>
    intro h
    rw [S_seq, ia h.1]
    obtain ⟨h1, h2, h3⟩ := h
    cases a <;> simp_all [sSeq, isOver, isFin]
  | hand a b ia ib =>
    intro h
    rw [S_hand, ia h.1]
    obtain ⟨h1, h2⟩ := h
    cases a <;> simp_all [sHand, isOver]
  | par a b ia ib =>
    intro h
    rw [S_par, ia h.1, ib h.2.1]
    obtain ⟨h1, h2, h3, h4⟩ := h
    cases a <;> simp only [sPar]
    all_goals cases b <;> simp_all [isOver, isFin]
  | block a ia =>
    intro h
    rw [S_block, ia h.1]
    obtain ⟨h1, h2⟩ := h
    cases a with
    | fin s c =>
      simp [isGone] at h2
      simp [sBlock, h2]
    | _ => rfl
  | going a b ia ib =>
    intro h
    rw [S_going, ia h.1]
    obtain ⟨h1, h2⟩ := h
    cases a <;> simp_all [sGoing, isOver]
  | stack a b ia ib =>
    intro h
    rw [S_stack, ia h.1]
    obtain ⟨h1, h2⟩ := h
    cases a <;> simp_all [stk, isFin]
  | skip => intro h; exact h.elim
  | throw => intro h; exact h.elim
  | _ => intro _; rfl
theorem S_twice (t : Tm) : S (S t) = S t := nf_S _ (S_nf t)
end Go.Proofs.YtpingbiibbmcaaaGreat.Se

namespace Go.Proofs.YtpingbiibbmcaaaGreat.Rf
open Go Rw Go.Proofs.YtpingbiibbmcaaaGreat.So

/-- The places of the actions that are asked for, of the first k nodes. -/
def plk (f : ByteArray → Bool) (l : List Nd) (k : Nat) : List Nat := (List.range k).filter fun i => l[i]?.any (hit f)
def plc (f : ByteArray → Bool) (l : List Nd) : List Nat := plk f l l.length
end Go.Proofs.YtpingbiibbmcaaaGreat.Rf

namespace Go.Proofs.YtpingbiibbmcaaaGreat.Tr
open Go Go.RowKit
set_option maxRecDepth 20000

end Go.Proofs.YtpingbiibbmcaaaGreat.Tr

namespace Go.Proofs.YtpingbiibbmcaaaGreat.Se
open Go Go.Proofs.YtpingbiibbmcaaaGreat.Rw Go.Proofs.YtpingbiibbmcaaaGreat.So

/-- All nodes are right. -/
def rg (t : Tm) : Bool := (flat t).all rgt
theorem rg_block (a : Tm) : rg (.block a) = rg a := by
  show ((nOf 9 :: flat a).all rgt) = _
  rw [List.all_cons, show rgt (nOf 9) = true by decide +kernel]
  rfl
theorem rg_fin (s : Int) (c : Tm) : rg (.fin s c) = (rgt (nEnd s) && rg c) := by
  show ((nEnd s :: flat c).all rgt) = _
  rw [List.all_cons]
  rfl
theorem rg_two {k : Int} {t a b : Tm} (e : flat t = nOf k :: (flat a ++ flat b)) (hk : rgt (nOf k) = true) : rg t = (rg a && rg b) := by
  unfold rg
  rw [e, List.all_cons, List.all_append, hk]
  rfl
theorem rg_seq (a b : Tm) : rg (.seq a b) = (rg a && rg b) := rg_two (k := 5) rfl (by decide +kernel)
theorem rg_alt (a b : Tm) : rg (.alt a b) = (rg a && rg b) := rg_two (k := 6) rfl (by decide +kernel)
theorem rg_par (a b : Tm) : rg (.par a b) = (rg a && rg b) := rg_two (k := 7) rfl (by decide +kernel)
theorem rg_hand (a b : Tm) : rg (.hand a b) = (rg a && rg b) := rg_two (k := 8) rfl (by decide +kernel)
theorem rg_pair (a b : Tm) : rg (.pair a b) = (rg a && rg b) := rg_two (k := 10) rfl (by decide +kernel)
theorem rg_going (a b : Tm) : rg (.going a b) = (rg a && rg b) := rg_two (k := 12) rfl (by decide +kernel)
theorem rg_stack (a b : Tm) : rg (.stack a b) = (rg a && rg b) := rg_two (k := 13) rfl (by decide +kernel)
theorem rg_skip : rg .skip = true := by decide +kernel
theorem rg_over (s : Int) : rg (.over s) = (decide (1 ≤ s) && decide (s ≤ 3)) := by
  show ([nOver s].all rgt) = _
  rw [List.all_cons, rgt_sign _ _ (.inl rfl), show decide (ByteArray.size ⟨#[]⟩ = 0) = true from rfl, Bool.true_and, List.all_nil, Bool.and_true]
theorem rgt_nEnd (s : Int) : rgt (nEnd s) = (decide (1 ≤ s) && decide (s ≤ 3)) := by
  rw [rgt_sign _ _ (.inr rfl), show decide (ByteArray.size ⟨#[]⟩ = 0) = true from rfl, Bool.true_and]
theorem both_rg {s t : Int} (hs : 1 ≤ s ∧ s ≤ 3) (ht : 1 ≤ t ∧ t ≤ 3) : 1 ≤ Sg.both s t ∧ Sg.both s t ≤ 3 := by
  have h1 : s = 1 ∨ s = 2 ∨ s = 3 := by omega
  have h2 : t = 1 ∨ t = 2 ∨ t = 3 := by omega
  rcases h1 with rfl | rfl | rfl <;> rcases h2 with rfl | rfl | rfl <;> decide
theorem stk_rg {a d : Tm} (ha : rg a = true) (hd : rg d = true) : rg (stk a d) = true := by
  cases a <;> simp_all [stk, rg_stack, rg_fin, rg_seq]
theorem S_rg : ∀ t : Tm, rg t = true → rg (S t) = true := by
  apply S_ind
  intro t ih h
  cases t with
  | act s => exact h
  | skip => decide +kernel
  | throw => decide +kernel
  | yield => exact h
  | over s => exact h
  | fin s c => exact h
  | alt a b => exact h
  | pair a b => exact h
  | seq a b =>
    rw [rg_seq, Bool.and_eq_true] at h
    have ia := ih a (by simp [sz]; omega) h.1
    have ib := ih b (by simp [sz]; omega) h.2
    rw [S_seq]
    generalize S a = x at ia
    cases x <;> simp only [sSeq] <;> (try split) <;> simp_all [rg_seq, rg_fin, stk_rg]
  | hand a b =>
    rw [rg_hand, Bool.and_eq_true] at h
    have ia := ih a (by simp [sz]; omega) h.1
    have ib := ih b (by simp [sz]; omega) h.2
    rw [S_hand]
    generalize S a = x at ia
    cases x <;> simp only [sHand] <;> (try split) <;> simp_all [rg_hand]
  | par a b =>
    rw [rg_par, Bool.and_eq_true] at h
    have ia := ih a (by simp [sz]; omega) h.1
    have ib := ih b (by simp [sz]; omega) h.2
    rw [S_par]
    generalize S a = x at ia ⊢
    generalize S b = y at ib ⊢
    cases x <;> simp only [sPar] <;> (try (simp_all [rg_par]; done))
    · cases y <;> simp only [] <;> (try (simp_all [rg_par]; done))
      simp only [rg_over, Bool.and_eq_true, decide_eq_true_eq] at ia ib ⊢
      exact both_rg ia ib
    · cases y <;> simp only [] <;> (try (simp_all [rg_par]; done))
      simp only [rg_fin, rg_par, rgt_nEnd, Bool.and_eq_true, decide_eq_true_eq] at ia ib ⊢
      exact ⟨both_rg ia.1 ib.1, ia.2, ib.2⟩
  | block a =>
    rw [rg_block] at h
    have ia := ih a (by simp [sz]) h
    have hs := S_sz a
    rw [S_block]
    generalize S a = x at ia hs
    cases x with
    | fin s c =>
      simp only [sBlock]
      simp only [sz] at hs
      have ic := ih c (by simp [sz]; omega)
      repeat' split
      · decide +kernel
      · rw [rg_fin, Bool.and_eq_true] at ia
        exact ic ia.2
      · rw [rg_block]; exact ia
    | _ => simpa [sBlock, rg_block] using ia
  | going a b =>
    rw [rg_going, Bool.and_eq_true] at h
    have ia := ih a (by simp [sz]; omega) h.1
    rw [S_going]
    generalize S a = x at ia
    cases x <;> simp only [sGoing] <;> (try split) <;> simp_all [rg_going, rg_fin, rg_over, rgt_nEnd, rg_skip]
  | stack a b =>
    rw [rg_stack, Bool.and_eq_true] at h
    have ia := ih a (by simp [sz]; omega) h.1
    rw [S_stack]
    exact stk_rg ia h.2
theorem whole_flat (t : Tm) : whole (flat t) = (rg t && decide (sz t ≤ 200)) := by
  unfold whole rg
  rw [flat_len, (tre_flat t).size, flat_len]
  have := sz_pos t
  simp [show 1 ≤ sz t from this]
/-- A tree that goes on, plain or paired, and its row is whole. -/
def Goes (t : Tm) : Prop := rg t = true ∧ sz t ≤ 200 ∧ (is t 3 = true ∨ is t 4 = true)
theorem Goes.S {t : Tm} (h : Goes t) : Goes (S t) := ⟨S_rg t h.1, Nat.le_trans (S_sz t) h.2.1, h.2.2.imp (S_is t).1 (S_is t).2⟩
theorem of_flat {t : Tm} (h : rg t = true) (hz : sz t ≤ 200) : of (flat t) = if is t 1 then 1 else if is t 2 then 2 else if is t 3 then 3 else if is t 4 then 4 else 0 := by
  unfold of first
  rw [whole_flat, h, decide_eq_true hz, is_flat t 1 (by omega), is_flat t 2 (by omega), is_flat t 3 (by omega), is_flat t 4 (by omega)]
  rfl
theorem is_not {t : Tm} : ¬ (is t 3 = true ∧ is t 4 = true) := by
  rw [← is_flat t 3 (by omega), ← is_flat t 4 (by omega)]
  exact apart _ (flat t) (Nat.le_refl _)
theorem on_flat {t : Tm} (h : rg t = true) (hz : sz t ≤ 200) (p : Bool) : onB (flat t) p = if p then is t 4 else is t 3 := by
  have n := is_not (t := t)
  have j := is13 t
  unfold onB
  rw [of_flat h hz]
  cases h1 : is t 1 <;> cases h2 : is t 2 <;> cases h3 : is t 3 <;> cases h4 : is t 4 <;> cases p <;> simp_all
/-- A row that is of a sort is a tree that goes on. -/
theorem goes_of {l : List Nd} (h : of l ≠ 0) : ∃ t, flat t = l ∧ Goes t := by
  have hw : whole l = true := by
    cases hw : whole l with
    | true => rfl
    | false => exact absurd (of_not hw) h
  obtain ⟨t, rfl⟩ := whole_tm hw
  rw [whole_flat, Bool.and_eq_true, decide_eq_true_eq] at hw
  refine ⟨t, rfl, hw.1, hw.2, ?_⟩
  rw [of_flat hw.1 hw.2] at h
  have j := is13 t
  cases h1 : is t 1 <;> cases h2 : is t 2 <;> cases h3 : is t 3 <;> cases h4 : is t 4 <;> simp_all
theorem Goes.of {t : Tm} (h : Goes t) : of (flat t) ≠ 0 := by
  rw [of_flat h.1 h.2.1]
  have h3 := h.2.2
  have j := is13 t
  cases h1 : is t 1 <;> cases h2 : is t 2 <;> cases h3 : is t 3 <;> cases h4 : is t 4 <;> simp_all
/-- Is something to be done, or chosen, where it goes on? Has a block's inside given way? -/
def waits : Tm → Bool
  | .act _ => true
  | .alt _ _ => true
  | .yield => true
  | .pair _ _ => true
  | .seq a _ => waits a
  | .hand a _ => waits a
  | .going a _ => waits a
  | .stack a _ => waits a
  | .block a => waits a
  | .par a b => waits a || waits b
  | _ => false
theorem over_is {a : Tm} (h : isOver a = true) : is a 4 = false := by cases a <;> simp_all [isOver, is]
theorem fin_is {a : Tm} (h : isFin a = true) : is a 3 = false := by cases a <;> simp_all [isFin, is]
/-- How many nodes f counts: those of what is settled are not more, if f counts none that settling makes. -/
def ct (f : Nd → Bool) (t : Tm) : Nat := (flat t).countP f
theorem ct_two {f : Nd → Bool} {n : Nd} {t a b : Tm} (e : flat t = n :: (flat a ++ flat b)) : ct f t = ct f a + ct f b + if f n then 1 else 0 := by
  unfold ct
  rw [e, List.countP_cons, List.countP_append]
theorem ct_one {f : Nd → Bool} {n : Nd} {t a : Tm} (e : flat t = n :: flat a) : ct f t = ct f a + if f n then 1 else 0 := by
  unfold ct
  rw [e, List.countP_cons]
theorem ct_seq (f : Nd → Bool) (a b : Tm) : ct f (.seq a b) = ct f a + ct f b + if f (nOf 5) then 1 else 0 := ct_two rfl
theorem ct_par (f : Nd → Bool) (a b : Tm) : ct f (.par a b) = ct f a + ct f b + if f (nOf 7) then 1 else 0 := ct_two rfl
theorem ct_hand (f : Nd → Bool) (a b : Tm) : ct f (.hand a b) = ct f a + ct f b + if f (nOf 8) then 1 else 0 := ct_two rfl
theorem ct_going (f : Nd → Bool) (a b : Tm) : ct f (.going a b) = ct f a + ct f b + if f (nOf 12) then 1 else 0 := ct_two rfl
theorem ct_stack (f : Nd → Bool) (a b : Tm) : ct f (.stack a b) = ct f a + ct f b + if f (nOf 13) then 1 else 0 := ct_two rfl
theorem ct_block (f : Nd → Bool) (a : Tm) : ct f (.block a) = ct f a + if f (nOf 9) then 1 else 0 := ct_one rfl
theorem ct_fin (f : Nd → Bool) (s : Int) (c : Tm) : ct f (.fin s c) = ct f c + if f (nEnd s) then 1 else 0 := ct_one rfl
end Go.Proofs.YtpingbiibbmcaaaGreat.Se
