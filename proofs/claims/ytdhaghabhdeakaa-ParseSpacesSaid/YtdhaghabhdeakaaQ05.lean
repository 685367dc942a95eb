/- Plain: what is read within other tokens; brackets around a whole; two wholes with a sign between. The document's Lex: the walk. Arguments that are nodes, and rows of nodes: how they lie in memory, and what the reach says of them. Plain: a tree's text, with blanks or without, is read as its tokens. Nodes appended; rows of rows of nodes, and parts of rows. -/
import Derived.Test.YtdhaghabhdeakaaQ04
import Derived.OwnWalk
import Derived.Test.YtdhaghabhdeakaaQ01
import Derived.Deep.Strs
import Derived.Deep.Slices
import Derived.Lib.SmallJoins
import Derived.Test.YtdhaghabhdeakaaQ02
import Derived.Laws.AppendOwn

namespace Go.Proofs.Ytdhaghabhdeakaa.Pa
open Rw

/-- What could go on stands no further than behind the last token. -/
theorem within (f : Nat) : (∀ q p k g, lv f q p k = some g → g.bad = false → g.next ≤ q.length) ∧ (∀ q k g r, mo f q k g = some r → r.bad = false → g.bad = false ∧ (g.next ≤ q.length → r.next ≤ q.length)) ∧ (∀ q p g, pr f q p = some g → g.bad = false → g.next ≤ q.length) ∧ (∀ q p g, ato f q p = some g → g.bad = false → g.next ≤ q.length) := by
  induction f with
  | zero => exact ⟨fun _ _ _ _ h => (by rw [lv] at h; cases h), fun _ _ _ _ h => (by rw [mo] at h; cases h), fun _ _ _ h => (by rw [pr] at h; cases h), fun _ _ _ h => (by rw [ato] at h; cases h)⟩
  | succ f ih =>
    obtain ⟨i1, i2, i3, i4⟩ := ih
    have hlt : ∀ (q : List Kn) i, kd q i ≠ 0 → i < q.length := fun q i h => by
      apply Nat.lt_of_not_le
      intro hle
      exact h (kd_out hle)
    refine ⟨fun q p k g h hb => ?_, fun q k g r h hb => ?_, fun q p g h hb => ?_, fun q p g h hb => ?_⟩
    · rw [lv_succ] at h
      split at h
      · exact i3 _ _ _ h hb
      · obtain ⟨x, hx, hm⟩ := Option.bind_eq_some_iff.1 h
        obtain ⟨h1, h2⟩ := i2 _ _ _ _ hm hb
        exact h2 (i1 _ _ _ _ hx h1)
    · rw [mo_succ] at h
      split at h
      · rename_i hc
        obtain ⟨x, hx, hm⟩ := Option.bind_eq_some_iff.1 h
        obtain ⟨h1, h2⟩ := i2 _ _ _ _ hm hb
        have h1 : x.bad = false := h1
        exact ⟨hc.1, fun _ => h2 (i1 _ _ _ x hx h1)⟩
      · cases h
        exact ⟨hb, id⟩
    · rw [pr_succ] at h
      obtain ⟨x, hx, hm⟩ := Option.bind_eq_some_iff.1 h
      split at hm
      · cases hm
        exact i4 _ _ _ hx hb
      · obtain ⟨y, hy, hz⟩ := Option.map_eq_some_iff.1 hm
        subst hz
        have hb : y.bad = false := hb
        exact i4 _ _ y hy hb
    · rw [ato_succ] at h
      split at h
      · rename_i hc
        cases h
        exact hlt q p (by rw [hc]; decide)
      · split at h
        · cases h
          cases hb
        · rename_i hc
          obtain ⟨x, hx, hm⟩ := Option.bind_eq_some_iff.1 h
          split at hm
          · rename_i hxb
            cases hm
            rw [hb] at hxb
            cases hxb
          · split at hm
            · cases hm
              cases hb
            · rename_i he
              cases hm
              refine hlt q x.next ?_
              have he' : kd q x.next = kd q p + 1 := Decidable.not_not.1 he
              rw [he']
              omega
theorem kd_in {pre t post : List Kn} {i : Nat} (h : i < t.length) : kd (pre ++ (t ++ post)) (pre.length + i) = kd t i ∧ nmAt (pre ++ (t ++ post)) (pre.length + i) = nmAt t i := by
  unfold kd nmAt
  rw [List.getElem?_append_right (Nat.le_add_right _ _), show pre.length + i - pre.length = i by omega, List.getElem?_append_left h]
  exact ⟨rfl, rfl⟩
theorem kd_behind (pre t post : List Kn) : kd (pre ++ (t ++ post)) (pre.length + t.length) = kd post 0 := by
  unfold kd
  rw [List.getElem?_append_right (Nat.le_add_right _ _), show pre.length + t.length - pre.length = t.length by omega, List.getElem?_append_right (Nat.le_refl _), Nat.sub_self]
def mv (d : Nat) (g : Got) : Got := ⟨g.L, d + g.next, g.bad⟩
/-- What is read of tokens is read of them within others, if no sign follows. -/
theorem shift {pre t post : List Kn} (h9 : kd post 0 ≠ 9) (hs : ∀ k, kd post 0 ≠ sg k) (f : Nat) :
    (∀ p k g, p ≤ t.length → lv f t p k = some g → g.bad = false → lv f (pre ++ (t ++ post)) (pre.length + p) k = some (mv pre.length g)) ∧
    (∀ k g r, g.next ≤ t.length → mo f t k g = some r → r.bad = false → mo f (pre ++ (t ++ post)) k (mv pre.length g) = some (mv pre.length r)) ∧
    (∀ p g, p ≤ t.length → pr f t p = some g → g.bad = false → pr f (pre ++ (t ++ post)) (pre.length + p) = some (mv pre.length g)) ∧
    (∀ p g, p ≤ t.length → ato f t p = some g → g.bad = false → ato f (pre ++ (t ++ post)) (pre.length + p) = some (mv pre.length g)) := by
  induction f with
  | zero => exact ⟨fun _ _ _ _ h => (by rw [lv] at h; cases h), fun _ _ _ _ h => (by rw [mo] at h; cases h), fun _ _ _ h => (by rw [pr] at h; cases h), fun _ _ _ h => (by rw [ato] at h; cases h)⟩
  | succ f ih =>
    obtain ⟨i1, i2, i3, i4⟩ := ih
    have hlt : ∀ i, kd t i ≠ 0 → i < t.length := fun i h => by
      apply Nat.lt_of_not_le
      intro hle
      exact h (kd_out hle)
    have hkd : ∀ i, i ≤ t.length → (kd (pre ++ (t ++ post)) (pre.length + i) = kd t i ∨ (i = t.length ∧ kd (pre ++ (t ++ post)) (pre.length + i) = kd post 0)) := fun i hi => by
      by_cases h : i < t.length
      · exact Or.inl (kd_in h).1
      · obtain rfl : i = t.length := by omega
        exact Or.inr ⟨rfl, kd_behind pre t post⟩
    refine ⟨fun p k g hp h hb => ?_, fun k g r hg h hb => ?_, fun p g hp h hb => ?_, fun p g hp h hb => ?_⟩
    · rw [lv_succ] at h ⊢
      split at h
      · rename_i hk
        rw [if_pos hk]
        exact i3 p g hp h hb
      · rename_i hk
        rw [if_neg hk]
        obtain ⟨x, hx, hm⟩ := Option.bind_eq_some_iff.1 h
        have hxb := ((within f).2.1 _ _ _ _ hm hb).1
        rw [i1 p (k + 1) x hp hx hxb, Option.bind_some]
        exact i2 k x g ((within f).1 _ _ _ _ hx hxb) hm hb
    · rw [mo_succ] at h ⊢
      split at h
      · rename_i hc
        have hl := hlt g.next (by rw [hc.2]; exact sg_ne k)
        rw [if_pos (show (mv pre.length g).bad = false ∧ kd (pre ++ (t ++ post)) (mv pre.length g).next = sg k from ⟨hc.1, (kd_in hl).1.trans hc.2⟩)]
        obtain ⟨x, hx, hm⟩ := Option.bind_eq_some_iff.1 h
        have hxb : x.bad = false := ((within f).2.1 _ _ _ _ hm hb).1
        have := i1 (g.next + 1) (k + 1) x (by omega) hx hxb
        rw [show (mv pre.length g).next + 1 = pre.length + (g.next + 1) by show pre.length + g.next + 1 = _; omega, this, Option.bind_some]
        have hn : x.next ≤ t.length := (within f).1 _ _ _ x hx hxb
        exact i2 k (two (sg k) g x) r hn hm hb
      · rename_i hc
        obtain rfl := Option.some.inj h
        rw [if_neg]
        rintro ⟨hc1, hc2⟩
        rcases hkd g.next hg with e | ⟨_, e⟩
        · exact hc ⟨hc1, e.symm.trans hc2⟩
        · exact hs k (e.symm.trans hc2)
    · rw [pr_succ] at h ⊢
      obtain ⟨x, hx, hm⟩ := Option.bind_eq_some_iff.1 h
      split at hm
      · rename_i hc
        obtain rfl := Option.some.inj hm
        rw [i4 p x hp hx hb, Option.bind_some, if_pos]
        refine Or.inr fun e2 => ?_
        have hx9 : kd t x.next ≠ 9 := hc.resolve_left (by rw [hb]; decide)
        rcases hkd x.next ((within f).2.2.2 _ _ _ hx hb) with e | ⟨_, e⟩
        · exact hx9 (e.symm.trans e2)
        · exact h9 (e.symm.trans e2)
      · rename_i hc
        simp only [not_or, Decidable.not_not] at hc
        have hxb : x.bad = false := Bool.eq_false_iff.2 hc.1
        obtain ⟨y, hy, hz⟩ := Option.map_eq_some_iff.1 hm
        subst hz
        have hl := hlt x.next (by rw [hc.2]; decide)
        have hyb : y.bad = false := hb
        rw [i4 p x hp hx hxb, Option.bind_some, if_neg, show (mv pre.length x).next + 1 = pre.length + (x.next + 1) by show pre.length + x.next + 1 = _; omega, i4 (x.next + 1) y (by omega) hy hyb]
        · rfl
        · simp only [not_or, Decidable.not_not]
          exact ⟨by show ¬ x.bad = true; rw [hxb]; decide, (kd_in hl).1.trans hc.2⟩
    · rw [ato_succ] at h ⊢
      have hp' : p < t.length := by
        by_cases hp' : p < t.length
        · exact hp'
        · rw [kd_out (by omega), if_neg (by decide), if_pos (by decide)] at h
          obtain rfl := Option.some.inj h
          cases hb
      rw [(kd_in hp').1, (kd_in hp').2]
      split at h
      · rename_i hc
        obtain rfl := Option.some.inj h
        rw [if_pos hc]
        rfl
      · rename_i hc
        rw [if_neg hc]
        split at h
        · obtain rfl := Option.some.inj h
          cases hb
        · rename_i hc2
          rw [if_neg hc2]
          obtain ⟨x, hx, hm⟩ := Option.bind_eq_some_iff.1 h
          split at hm
          · rename_i hxb
            obtain rfl := Option.some.inj hm
            rw [hb] at hxb
            cases hxb
          · rename_i hxb
            have hxb : x.bad = false := Bool.eq_false_iff.2 hxb
            split at hm
            · obtain rfl := Option.some.inj hm
              cases hb
            · rename_i he
              have he' : kd t x.next = kd t p + 1 := Decidable.not_not.1 he
              have hl := hlt x.next (by rw [he']; omega)
              obtain rfl := Option.some.inj hm
              rw [show pre.length + p + 1 = pre.length + (p + 1) by omega, i1 (p + 1) 0 x (by omega) hx hxb, Option.bind_some, if_neg (by show ¬ x.bad = true; rw [hxb]; decide), show kd (pre ++ (t ++ post)) (mv pre.length x).next = kd t x.next from (kd_in hl).1, he', if_neg (by simp)]
              rfl
/-- A whole, within brackets that open and close. -/
theorem LvR.inside {t : List Kn} {L : List Nd} (h : LvR t 0 0 ⟨L, t.length, false⟩) {q : List Kn} {p : Nat} (hh : Has q p ((1, ⟨#[]⟩) :: (t ++ [(2, ⟨#[]⟩)]))) : AtR q p ⟨L, p + (t.length + 2), false⟩ := by
  have h1 := hh.head.1
  have h2 := hh.tail
  have h3 := h2.right.head.1
  obtain ⟨pre, post, hq, hp⟩ := h2
  have hq' : q = pre ++ (t ++ ((2, ⟨#[]⟩) :: post)) := by rw [hq]; simp
  obtain ⟨f, hf⟩ := h
  have hkd : kd ((2, (⟨#[]⟩ : ByteArray)) :: post : List Kn) 0 = 2 := rfl
  have hs2 : ∀ k, kd ((2, (⟨#[]⟩ : ByteArray)) :: post : List Kn) 0 ≠ sg k := fun k => by
    rw [hkd]
    unfold sg
    repeat' split
    all_goals decide
  have := (shift (pre := pre) (t := t) (post := (2, ⟨#[]⟩) :: post) (by rw [hkd]; decide) hs2 f).1 0 0 _ (Nat.zero_le _) hf rfl
  rw [← hq', Nat.add_zero, ← hp] at this
  have hl : LvR q (p + 1) 0 ⟨L, p + 1 + t.length, false⟩ := ⟨f, by rw [this]; rfl⟩
  have := AtR.open h1 hl rfl h3
  rw [show p + (t.length + 2) = p + 1 + t.length + 1 by omega]
  exact this
theorem has_all (q : List Kn) : Has q 0 q := ⟨[], [], by simp, rfl⟩
theorem nx_end (q : List Kn) {n : Nat} (h : q.length ≤ n) (k : Nat) : Nx q n k := Nx.of_close (Or.inr (Or.inr (kd_out h))) k
/-- Brackets around a whole change nothing. -/
theorem bracketed {t : List Kn} {L : List Nd} (h : LvR t 0 0 ⟨L, t.length, false⟩) : LvR ((1, ⟨#[]⟩) :: (t ++ [(2, ⟨#[]⟩)])) 0 0 ⟨L, t.length + 2, false⟩ := by
  have h1 := h.inside (has_all _)
  rw [Nat.zero_add] at h1
  have hx := nx_end ((1, ⟨#[]⟩) :: (t ++ [(2, ⟨#[]⟩)])) (n := t.length + 2) (by simp) 0
  exact down (PrR.one h1 (Or.inr hx.2)) 4 0 rfl hx
/-- Two wholes, each between brackets, with a sign between. -/
theorem joined {t u : List Kn} {L M : List Nd} {k : Nat} (hk : k < 4) (h : LvR t 0 0 ⟨L, t.length, false⟩) (h' : LvR u 0 0 ⟨M, u.length, false⟩) :
    LvR (((1, ⟨#[]⟩) :: (t ++ [(2, ⟨#[]⟩)])) ++ (sg k, ⟨#[]⟩) :: ((1, ⟨#[]⟩) :: (u ++ [(2, ⟨#[]⟩)]))) 0 0 ⟨nOf (sg k) :: (L ++ M), t.length + 2 + 1 + (u.length + 2), false⟩ := by
  obtain ⟨q, hq⟩ : ∃ q, (((1, ⟨#[]⟩) :: (t ++ [(2, ⟨#[]⟩)])) ++ (sg k, ⟨#[]⟩) :: ((1, ⟨#[]⟩) :: (u ++ [(2, ⟨#[]⟩)])) : List Kn) = q := ⟨_, rfl⟩
  have hh : Has q 0 (((1, ⟨#[]⟩) :: (t ++ [(2, ⟨#[]⟩)])) ++ (sg k, ⟨#[]⟩) :: ((1, ⟨#[]⟩) :: (u ++ [(2, ⟨#[]⟩)]))) := by rw [hq]; exact has_all q
  have hlen : q.length = t.length + 2 + 1 + (u.length + 2) := by rw [← hq]; simp; omega
  rw [hq]
  have g1 := h.inside hh.left
  have hl1 : ((1, (⟨#[]⟩ : ByteArray)) :: (t ++ [(2, ⟨#[]⟩)]) : List Kn).length = t.length + 2 := by simp
  have g2 := hh.right.head.1
  have g3 := h'.inside hh.right.tail
  rw [hl1] at g2 g3
  rw [Nat.zero_add] at g1 g2 g3
  have hx1 := Nx.of_sg g2 hk
  have hx2 := nx_end q (n := t.length + 2 + 1 + (u.length + 2)) (by omega)
  have a1 := down (PrR.one g1 (Or.inr hx1.2)) (3 - k) (k + 1) (by omega) hx1
  have a2 := down (PrR.one g3 (Or.inr (hx2 0).2)) (3 - k) (k + 1) (by omega) (hx2 _)
  have a3 : LvR q 0 k ⟨nOf (sg k) :: (L ++ M), t.length + 2 + 1 + (u.length + 2), false⟩ := LvR.of (by omega) a1 (MoR.step rfl g2 a2 (stop_at (hx2 k) hk))
  have hgo : ∀ n i, i + n = k → LvR q 0 i ⟨nOf (sg k) :: (L ++ M), t.length + 2 + 1 + (u.length + 2), false⟩ := by
    intro n
    induction n with
    | zero =>
      intro i hi
      obtain rfl : i = k := by omega
      exact a3
    | succ n ih =>
      intro i hi
      exact LvR.of (by omega) (ih (i + 1) (by omega)) (stop_at (hx2 i) (by omega))
  exact hgo k 0 (by omega)
end Go.Proofs.Ytdhaghabhdeakaa.Pa

namespace Go.Proofs.Ytdhaghabhdeakaa.To
open Go Go.RowKit
set_option maxRecDepth 20000

theorem LexPost_bad {s : ByteArray} {p : Nat} {e : Int} {w w' : World} (h : F s.data.toList 0 = .bad p e) (hb : Below w.heap.size w w') : LexPost (F s.data.toList 0) s.size w (.returned (.tuple #[.slice none 0 0, .int .i64 (p : Int), .int .i64 e])) w' := by
  rw [h]
  exact ⟨_, rfl, tks_nil _, hb⟩
theorem F_long {l : List UInt8} {n p : Nat} (h : l.takeWhile letB = l.take n) (h8 : 8 < n) (hn : n ≤ l.length) : F l p = .bad p 51 := by
  cases l with
  | nil => simp at hn; omega
  | cons b r =>
    have hb : letB b = true := by
      by_cases hb : letB b = true
      · exact hb
      · rw [List.takeWhile_cons_of_neg hb] at h
        have := congrArg List.length h
        rw [List.length_take] at this
        simp at this hn
        omega
    rw [F_let hb, h, if_pos (by rw [List.length_take]; omega)]
theorem F_word_n {l : List UInt8} {n p : Nat} (h : l.takeWhile letB = l.take n) (h1 : 1 ≤ n) (h8 : ¬ 8 < n) (hn : n ≤ l.length) : F l p = (F (l.drop n) (p + n)).cons ⟨10, p, ⟨(l.take n).toArray⟩⟩ := by
  cases l with
  | nil => simp at hn; omega
  | cons b r =>
    have hl : ((b :: r).take n).length = n := by rw [List.length_take]; omega
    have hb : letB b = true := by
      by_cases hb : letB b = true
      · exact hb
      · rw [List.takeWhile_cons_of_neg hb] at h
        rw [← h] at hl
        simp at hl
        omega
    rw [F_let hb, h, hl, if_neg h8]
/-- How far a name goes. -/
def Wd (s : ByteArray) (p q : Nat) : Prop := (s.data.toList.drop p).takeWhile letB = (s.data.toList.drop p).take (q - p) ∧ q ≤ s.size
theorem Wd.long {s : ByteArray} {p q : Nat} (h : Wd s p q) (h8 : 8 < q - p) : F (s.data.toList.drop p) p = .bad p 51 := F_long h.1 h8 (by have := h.2; simp; omega)
theorem Wd.word {s : ByteArray} {p q : Nat} (h : Wd s p q) (h1 : 1 ≤ q - p) (h8 : ¬ 8 < q - p) : F (s.data.toList.drop p) p = (F (s.data.toList.drop q) q).cons ⟨10, p, s.extract p q⟩ := by
  rw [F_word_n h.1 h1 h8 (by have := h.2; simp; omega), List.drop_drop, ext_take, show p + (q - p) = q by omega]
theorem Wd.none {s : ByteArray} {p : Nat} (h : Wd s p p) (hp : p < s.size) : letB s[p] = false := by
  have h1 := h.1
  rw [drop_at hp, Nat.sub_self, List.take_zero] at h1
  by_cases hb : letB s[p] = true
  · rw [List.takeWhile_cons_of_pos hb] at h1
    cases h1
  · exact Bool.eq_false_iff.2 hb
theorem Wd.stop {s : ByteArray} {p q : Nat} (hpq : p ≤ q) (h : ∀ b ∈ (s.data.toList.drop p).take (q - p), letB b = true) (hq : q < s.size) (hb : letB s[q] = false) : Wd s p q := by
  refine ⟨tw_len h ?_, by omega⟩
  rw [List.drop_drop, show p + (q - p) = q by omega, drop_at hq]
  exact hb
theorem Wd.end {s : ByteArray} {p q : Nat} (hpq : p ≤ q) (h : ∀ b ∈ (s.data.toList.drop p).take (q - p), letB b = true) (hq : ¬ q < s.size) (hq2 : q ≤ s.size) : Wd s p q := by
  refine ⟨tw_len h ?_, hq2⟩
  rw [List.drop_drop, show p + (q - p) = q by omega, List.drop_eq_nil_of_le (by simp; omega)]
  exact trivial
theorem F_blank_at {s : ByteArray} {p : Nat} (hp : p < s.size) (h : s[p] = 32) : F (s.data.toList.drop p) p = F (s.data.toList.drop (p + 1)) (p + 1) := by
  rw [drop_at hp, h, F_blank]
theorem F_byte_at {s : ByteArray} {p : Nat} (hp : p < s.size) (h : letB s[p] = false) (h2 : ¬ s[p] = 32) (h0 : sig s[p] = 0) : F (s.data.toList.drop p) p = .bad p 50 := by
  rw [drop_at hp, F_byte _ _ h h2 h0]
theorem F_sig_at {s : ByteArray} {p : Nat} (hp : p < s.size) (h : letB s[p] = false) (h2 : ¬ s[p] = 32) (h0 : ¬ sig s[p] = 0) : F (s.data.toList.drop p) p = (F (s.data.toList.drop (p + 1)) (p + 1)).cons ⟨sig s[p], p, ⟨#[]⟩⟩ := by
  rw [drop_at hp, F_sig _ _ h h2 h0]
end Go.Proofs.Ytdhaghabhdeakaa.To

namespace Go.Proofs.Ytdhaghabhdeakaa.Rw
open Go Go.RowKit Go.ChangeShapes Go.WideShapes

section
variable {H : Type} {enc : TypeId × Value → H} {P : Program} {w : World}
/-- The datum of a node. -/
def nodeD (x : Nd) : DataW H := .agg [.lit (.int .i64 x.k), .lit (.string x.n.data.toList), .lit (.int .i64 x.s)]
/-- A node's three cells that were read. -/
theorem nd_of {held : Bool} {fuel : Nat} {t ti ts tj : TypeId} {f0 f1 f2 : Field} {cs : List Value} {x : DataW H × List MemPlace} (ut : P.underlying t = some (.struct #[f0, f1, f2])) (ct : P.cellsOf t = 3) (h0 : f0.type = ti) (o0 : f0.offset = 0) (h1 : f1.type = ts) (o1 : f1.offset = 1) (h2 : f2.type = tj) (o2 : f2.offset = 2)
    (ui : P.underlying ti = some (.int .i64)) (ci : P.cellsOf ti = 1) (us : P.underlying ts = some .string) (cs1 : P.cellsOf ts = 1) (uj : P.underlying tj = some (.int .i64)) (cj : P.cellsOf tj = 1)
    (h : DataW.trod enc P w 0 (fun _ => true) held fuel t cs = some x) : ∃ n : Nd, cs = cl n ∧ x.1 = nodeD n := by
  obtain ⟨y0, y1, y2, n, rfl, hl, hy0, hy1, hy2⟩ := Deep.trod_struct3 ut h
  rw [ct] at hl
  match cs, hl with
  | [a, b, c], _ =>
    rw [h0, o0, ci] at hy0
    rw [h1, o1, cs1] at hy1
    rw [h2, o2, cj] at hy2
    obtain ⟨k, e1, e2, _⟩ := DataW.trod_int ui hy0
    obtain ⟨s, e3, e4, _⟩ := DataW.trod_string us hy1
    obtain ⟨j, e5, e6, _⟩ := DataW.trod_int uj hy2
    have e1' : a = .int .i64 k := by simpa using e1
    have e3' : b = .string s := by simpa using e3
    have e5' : c = .int .i64 j := by simpa using e5
    subst e1' e3' e5'
    exact ⟨⟨k, s, j⟩, rfl, by simp [nodeD, e2, e4, e6]⟩
/-- The datum of a row of nodes. -/
def nodesD (l : List Nd) (d : DataW H) : Prop := (l = [] ∧ d = .nil) ∨ ∃ sp : List (DataW H), d = .slice (l.map nodeD) sp
theorem trip_at (f : Nat → Nd) : ∀ (n j : Nat) (u : Value), (cls ((List.range n).map f))[j]? = some u → ∃ i k, i < n ∧ k < 3 ∧ j = i * 3 + k ∧ (cl (f i))[k]? = some u := by
  intro n j u hu
  have hlen : (cls ((List.range n).map f)).length = n * 3 := by rw [cls_len]; simp
  have hj : j < n * 3 := by
    have := (List.getElem?_eq_some_iff.1 hu).1
    omega
  have hk : j / 3 < ((List.range n).map f).length := by simp; omega
  obtain ⟨h1, h2, h3⟩ := cls_at _ (j / 3) hk
  have hx : ((List.range n).map f)[j / 3] = f (j / 3) := by simp
  rw [hx] at h1 h2 h3
  have hr : j % 3 = 0 ∨ j % 3 = 1 ∨ j % 3 = 2 := by omega
  rcases hr with hr | hr | hr
  · rw [← show j = j / 3 * 3 by omega] at h1
    exact ⟨j / 3, 0, by omega, by omega, by omega, by rw [← hu, h1]; rfl⟩
  · rw [← show j = j / 3 * 3 + 1 by omega] at h2
    exact ⟨j / 3, 1, by omega, by omega, by omega, by rw [← hu, h2]; rfl⟩
  · rw [← show j = j / 3 * 3 + 2 by omega] at h3
    exact ⟨j / 3, 2, by omega, by omega, by omega, by rw [← hu, h3]; rfl⟩
/-- A slice of nodes that came in. -/
theorem nds_of {held : Bool} {fuel : Nat} {tt t ti ts tj : TypeId} {f0 f1 f2 : Field} {v : Value} {x : DataW H × List MemPlace} (utt : P.underlying tt = some (.slice t)) (ut : P.underlying t = some (.struct #[f0, f1, f2])) (ct : P.cellsOf t = 3) (h0 : f0.type = ti) (o0 : f0.offset = 0) (h1 : f1.type = ts) (o1 : f1.offset = 1) (h2 : f2.type = tj) (o2 : f2.offset = 2)
    (ui : P.underlying ti = some (.int .i64)) (ci : P.cellsOf ti = 1) (us : P.underlying ts = some .string) (cs1 : P.cellsOf ts = 1) (uj : P.underlying tj = some (.int .i64)) (cj : P.cellsOf tj = 1)
    (h : DataW.trod enc P w 0 (fun _ => true) held fuel tt [v] = some x) : ∃ l : List Nd, Nds w v l ∧ nodesD l x.1 := by
  rcases Deep.open_slice utt h with ⟨hcs, rfl⟩ | ⟨a, len, cap, m, n, D, Pl, hcs, _, hl, hm, hmm, rfl, hel⟩
  · cases hcs
    exact ⟨[], ⟨rfl, none, 0, rfl, Nat.le_refl _, fun _ => ⟨rfl, rfl⟩, fun h => absurd h (by simp)⟩, .inl ⟨rfl, rfl⟩⟩
  · cases hcs
    have hm' : m = cap := by simpa using hmm
    subst hm'
    rw [ct] at hel
    obtain ⟨F, hF⟩ : ∃ F : Nat → Nd, ∀ i, i < len → w.cells? 0 (a.add (i * 3)) 3 = some (cl (F i)) ∧ D i = nodeD (F i) := by
      haveI : Inhabited Nd := ⟨⟨0, ⟨#[]⟩, 0⟩⟩
      refine Deep.choose_lt (α := Nd) (p := fun i z => w.cells? 0 (a.add (i * 3)) 3 = some (cl z) ∧ D i = nodeD z) fun i hi => ?_
      obtain ⟨cs', hc, ht⟩ := hel i (by omega)
      obtain ⟨z, rfl, hz⟩ := nd_of ut ct h0 o0 h1 o1 h2 o2 ui ci us cs1 uj cj ht
      exact ⟨z, hc, hz⟩
    have hlen : ((List.range len).map F).length = len := by simp
    refine ⟨(List.range len).map F, ⟨cls_len _, some a, m, by rw [hlen], by omega, fun h => (by cases h), fun hp => ?_⟩, .inr ⟨(List.range (m - len)).map fun j => D (len + j), ?_⟩⟩
    · rw [hlen] at hp
      obtain ⟨b, off, spot⟩ := a
      have hc0 := (World.cells?_some (hF 0 hp).1).2.2 0 (by omega)
      have hspot : spot = none := by
        have := hc0
        simp [Addr.add, cl] at this
        exact World.cell?_spot this
      subst hspot
      refine ⟨b, off, rfl, fun j u hu => ?_⟩
      obtain ⟨i, k, hi, hk, rfl, hu'⟩ := trip_at F len j u hu
      have hc := (World.cells?_some (hF i hi).1).2.2 k hk
      rw [hu'] at hc
      simpa [Addr.add_lit, Nat.add_assoc] using hc
    · have e : (List.range len).map D = ((List.range len).map F).map nodeD := by
        rw [List.map_map]
        exact List.map_congr_left fun i hi => (hF i (List.mem_range.1 hi)).2
      simp only [e]
/-- The reach, element by element. -/
theorem all_each {e : TypeId} {q : Nat → Bool} : ∀ {l : List (DataW H)}, (DataW.weightsAll P e l).all q = true → ∀ d ∈ l, (d.weights P e).all q = true
  | [], _, d, hd => by cases hd
  | x :: l, h, d, hd => by
    have h' : (DataW.weights P e x ++ DataW.weightsAll P e l).all q = true := h
    rw [List.all_append, Bool.and_eq_true] at h'
    rcases List.mem_cons.1 hd with rfl | hd
    · exact h'.1
    · exact all_each h'.2 d hd
theorem nd_reach {t : TypeId} {f0 f1 f2 : Field} (ut : P.underlying t = some (.struct #[f0, f1, f2])) {x : Nd} (h : ((nodeD x : DataW H).weights P t).all (· ≤ reachBytes) = true) : x.n.size ≤ 140737488355328 := by
  unfold nodeD at h
  rw [DataW.weights, ut] at h
  have h' : (DataW.weights P f0.type (.lit (.int .i64 x.k) : DataW H) ++ (DataW.weights P f1.type (.lit (.string x.n.data.toList) : DataW H) ++ DataW.weightsEach P [f2.type] [.lit (.int .i64 x.s)])).all (· ≤ reachBytes) = true := h
  rw [List.all_append, List.all_append, Bool.and_eq_true, Bool.and_eq_true] at h'
  have h1 : ([x.n.data.toList.length].all (· ≤ reachBytes)) = true := h'.2.1
  have h2 : x.n.data.toList.length = x.n.size := by simp
  rw [h2] at h1
  have h3 : x.n.size ≤ reachBytes := by simpa using h1
  unfold reachBytes at h3
  omega
theorem nds_reach {tt t : TypeId} {f0 f1 f2 : Field} (utt : P.underlying tt = some (.slice t)) (ut : P.underlying t = some (.struct #[f0, f1, f2])) {l : List Nd} {d : DataW H} (hd : nodesD l d) (h : (d.weights P tt).all (· ≤ reachBytes) = true) : Nms l := by
  rcases hd with ⟨rfl, _⟩ | ⟨sp, rfl⟩
  · intro p hp; cases hp
  · rw [DataW.weights, utt] at h
    simp only [List.all_cons, List.all_append, Bool.and_eq_true] at h
    intro x hx
    exact nd_reach ut (all_each h.2.1 _ (List.mem_map.2 ⟨x, hx, rfl⟩))
theorem reach_cons {t : TypeId} {ts : List TypeId} {d : DataW H} {ds : List (DataW H)} (h : (DataW.weightsEach P (t :: ts) (d :: ds)).all (· ≤ reachBytes) = true) : (d.weights P t).all (· ≤ reachBytes) = true ∧ (DataW.weightsEach P ts ds).all (· ≤ reachBytes) = true := by
  have h' : (DataW.weights P t d ++ DataW.weightsEach P ts ds).all (· ≤ reachBytes) = true := h
  rwa [List.all_append, Bool.and_eq_true] at h'
end

theorem own : ownKnob Try.prog.godebug = none := by kernel_rfl
theorem laidOut : laidOutB Try.prog = true := by kernel_rfl
theorem cN : Try.prog.cellsOf 37 = 3 := by kernel_rfl
theorem cStr : Try.prog.cellsOf 9 = 1 := by kernel_rfl
theorem cInt : Try.prog.cellsOf 3 = 1 := by kernel_rfl
section
variable {H : Type} {enc : TypeId × Value → H} {W : World} {base : Nat} {v : Value} {d : DataW H} {p : List MemPlace}
/-- A node that came in. -/
theorem nd_arg (hok : Value.okWide Try.prog W .any base 37 v) (h : DataW.Trod enc Try.prog W 0 (fun _ => true) true 37 v d p) :
    ∃ x : Nd, v = .agg #[.int .i64 x.k, .string x.n, .int .i64 x.s] ∧ d = nodeD x := by
  obtain ⟨cs, rfl, hsz⟩ := okWide_struct Try.underlying37 hok
  obtain ⟨fuel, hf⟩ := h
  obtain ⟨x, hcs, hd⟩ := nd_of Try.underlying37 cN rfl rfl rfl rfl rfl rfl Try.underlying3 cInt Try.underlying9 cStr Try.underlying3 cInt hf
  refine ⟨x, ?_, hd⟩
  have e : cs.toList = cl x := hcs
  cases cs
  simp [cl] at e
  rw [e]
/-- A row of nodes that came in. -/
theorem nds_arg (hok : Value.okWide Try.prog W .any base 23 v) (h : DataW.Trod enc Try.prog W 0 (fun _ => true) true 23 v d p) :
    ∃ l : List Nd, Nds W v l ∧ nodesD l d := by
  obtain ⟨a, len, cap, rfl⟩ := okWide_slice Try.underlying23 hok
  obtain ⟨fuel, hf⟩ := h
  exact nds_of Try.underlying23 Try.underlying37 cN rfl rfl rfl rfl rfl rfl Try.underlying3 cInt Try.underlying9 cStr Try.underlying3 cInt hf
theorem nds_in {l : List Nd} (hd : nodesD l d) (h : (d.weights Try.prog 23).all (· ≤ reachBytes) = true) : Nms l := nds_reach Try.underlying23 Try.underlying37 hd h
/-- A row of integers that came in. -/
theorem is_arg (hok : Value.okWide Try.prog W .any base 84 v) (h : DataW.Trod enc Try.prog W 0 (fun _ => true) true 84 v d p) : ∃ l : List Int, Ints W v l := by
  obtain ⟨a, cap, l, rfl, hle, _, _, hn, hc⟩ := Fr.ints_arg Try.underlying84 Try.underlying3 cInt hok h
  refine ⟨l, by simp, a, cap, rfl, hle, fun e => ?_, fun h0 => ?_⟩
  · have := hn e
    omega
  · rcases hc with rfl | ⟨b, off, rfl, hj⟩
    · simp at h0
    · refine ⟨b, off, rfl, fun j u hu => ?_⟩
      rw [List.getElem?_map, Option.map_eq_some_iff] at hu
      obtain ⟨n, hn', rfl⟩ := hu
      obtain ⟨hj', rfl⟩ := List.getElem?_eq_some_iff.1 hn'
      exact hj j hj'
end
end Go.Proofs.Ytdhaghabhdeakaa.Rw

namespace Go.Proofs.Ytdhaghabhdeakaa.Pa
open Rw To

def tkn (l : List Tk) : List Kn := l.map fun t => (t.k, t.n)
theorem tkn_append (l m : List Tk) : tkn (l ++ m) = tkn l ++ tkn m := List.map_append
theorem pre_pre (ts us : List Tk) (r : Res) : (r.pre us).pre ts = r.pre (ts ++ us) := by cases r <;> simp [Res.pre]
theorem cons_pre (t : Tk) (ts : List Tk) (r : Res) : (r.pre ts).cons t = r.pre (t :: ts) := by cases r <;> rfl
theorem noLet_append {l r : List UInt8} (h : noLet l) (hr : noLet r) : noLet (l ++ r) := by
  cases l with
  | nil => exact hr
  | cons b l => exact h
/-- What is read of a text is read of it ahead of another one that begins with no letter. -/
theorem F_app : ∀ (m : Nat) (l : List UInt8) (p : Nat) (ts : List Tk), l.length ≤ m → F l p = .ok ts → ∀ (r : List UInt8) (p' : Nat), noLet r → ∃ ts', tkn ts' = tkn ts ∧ F (l ++ r) p' = (F r (p' + l.length)).pre ts'
  | _, [], p, ts, _, h, r, p', _ => by
    rw [F_nil] at h
    cases h
    exact ⟨[], rfl, by rw [Res.pre_nil]; rfl⟩
  | 0, b :: l, p, ts, hm, _, _, _, _ => by simp at hm
  | m + 1, b :: l, p, ts, hm, h, r, p', hr => by
    have hl : l.length ≤ m := by simpa using hm
    by_cases hb : letB b = true
    · obtain ⟨w, hw⟩ : ∃ w, (b :: l).takeWhile letB = w := ⟨_, rfl⟩
      obtain ⟨r', hr'⟩ : ∃ r', (b :: l).drop w.length = r' := ⟨_, rfl⟩
      have h1 := tw_pos (r := l) hb
      have hall := tw_all (b :: l)
      have hno := tw_no (b :: l)
      have hsp := tw_split (b :: l)
      rw [F_let hb] at h
      rw [hw] at h h1 hall hno hsp
      rw [hr'] at h hno hsp
      split at h
      · cases h
      · rename_i h8
        cases hf : F r' (p + w.length) with
        | bad a e => rw [hf] at h; cases h
        | ok us =>
          rw [hf] at h
          obtain rfl := Res.ok.inj h
          have hlen : r'.length ≤ m := by rw [← hr', List.length_drop, List.length_cons]; omega
          obtain ⟨us', hk, hF⟩ := F_app m r' _ _ hlen hf r (p' + w.length) hr
          refine ⟨⟨10, (p' : Int), ⟨w.toArray⟩⟩ :: us', by simp only [tkn, List.map_cons] at hk ⊢; rw [hk], ?_⟩
          rw [← hsp, List.append_assoc, F_word _ p' hall h1 (by omega) (noLet_append hno hr), hF, cons_pre, List.length_append, Nat.add_assoc]
    · have hb := Bool.eq_false_iff.2 hb
      by_cases h2 : b = 32
      · subst h2
        rw [F_blank] at h
        obtain ⟨us', hk, hF⟩ := F_app m l _ _ hl h r (p' + 1) hr
        refine ⟨us', hk, ?_⟩
        rw [List.cons_append, F_blank, hF, List.length_cons]
        congr 2
        omega
      · by_cases h0 : sig b = 0
        · rw [F_byte l p hb h2 h0] at h
          cases h
        · rw [F_sig l p hb h2 h0] at h
          cases hf : F l (p + 1) with
          | bad a e => rw [hf] at h; cases h
          | ok us =>
            rw [hf] at h
            obtain rfl := Res.ok.inj h
            obtain ⟨us', hk, hF⟩ := F_app m l _ _ hl hf r (p' + 1) hr
            refine ⟨⟨sig b, (p' : Int), ⟨#[]⟩⟩ :: us', by simp only [tkn, List.map_cons] at hk ⊢; rw [hk], ?_⟩
            rw [List.cons_append, F_sig _ p' hb h2 h0, hF, cons_pre, List.length_cons]
            congr 2
            omega

/-- The byte of a sign between two trees. -/
def sgB (k : Int) : UInt8 := if k = 7 then 124 else if k = 6 then 43 else if k = 8 then 62 else if k = 5 then 59 else 47
def sep (sp : Bool) (k : Int) : List UInt8 := if k = 10 then [47] else if sp then [32, sgB k, 32] else [sgB k]
def brkT (c : Bool) (l : List UInt8) : List UInt8 := if c then 40 :: (l ++ [41]) else l
def Tm.txt (sp : Bool) : Tm → List UInt8
  | .leaf x => (word x).data.toList
  | .blk a => 91 :: (a.txt sp ++ [93])
  | .bin k a b => brkT (decide (a.rank < lim k)) (a.txt sp) ++ sep sp k ++ brkT (decide (b.rank < limR k)) (b.txt sp)
/-- Names that may be. -/
def Tm.nam : Tm → Prop
  | .leaf x => named (word x) = true
  | .blk a => a.nam
  | .bin _ a b => a.nam ∧ b.nam
/-- A text that is read as these tokens, whatever stands behind it that is no letter. -/
def Gives (l : List UInt8) (q : List Kn) : Prop := ∀ (r : List UInt8) (p : Nat), noLet r → ∃ ts, tkn ts = q ∧ F (l ++ r) p = (F r (p + l.length)).pre ts
theorem Gives.append {l m : List UInt8} {q q' : List Kn} (h : Gives l q) (h' : Gives m q') (hm : noLet m) : Gives (l ++ m) (q ++ q') := fun r p hr => by
  obtain ⟨us, hk', hF'⟩ := h' r (p + l.length) hr
  obtain ⟨ts, hk, hF⟩ := h (m ++ r) p (noLet_append hm hr)
  refine ⟨ts ++ us, by rw [tkn_append, hk, hk'], ?_⟩
  rw [List.append_assoc, hF, hF', pre_pre, List.length_append, Nat.add_assoc]
theorem gives_blank {l : List UInt8} {q : List Kn} (h : Gives l q) : Gives (32 :: l) q := fun r p hr => by
  obtain ⟨ts, hk, hF⟩ := h r (p + 1) hr
  refine ⟨ts, hk, ?_⟩
  rw [List.cons_append, F_blank, hF, List.length_cons]
  congr 2
  omega
theorem gives_nil : Gives [] [] := fun r p _ => ⟨[], rfl, by rw [Res.pre_nil]; rfl⟩
theorem gives_sig {b : UInt8} {l : List UInt8} {q : List Kn} (h0 : letB b = false) (h1 : ¬ b = 32) (h2 : ¬ sig b = 0) (h : Gives l q) : Gives (b :: l) ((sig b, ⟨#[]⟩) :: q) := fun r p hr => by
  obtain ⟨ts, hk, hF⟩ := h r (p + 1) hr
  refine ⟨⟨sig b, (p : Int), ⟨#[]⟩⟩ :: ts, by simp only [tkn, List.map_cons] at hk ⊢; rw [hk], ?_⟩
  rw [List.cons_append, F_sig _ p h0 h1 h2, hF, cons_pre, List.length_cons]
  congr 2
  omega
theorem gives_word {n : ByteArray} (h : named n = true) : Gives n.data.toList [(10, n)] := fun r p hr => by
  unfold named at h
  simp only [Bool.and_eq_true, List.all_eq_true, decide_eq_true_eq] at h
  obtain ⟨h1, h2, h3⟩ := h
  have hs : n.data.toList.length = n.size := by simp
  refine ⟨[⟨10, (p : Int), n⟩], rfl, ?_⟩
  rw [F_word r p h1 (by omega) (by omega) hr]
  exact cons_pre _ [] _ ▸ (by rw [Res.pre_nil])
theorem gives_brk {c : Bool} {l : List UInt8} {q : List Kn} (h : Gives l q) : Gives (brkT c l) (Pa.brk c q) := by
  cases c with
  | false => exact h
  | true => exact gives_sig (b := 40) (by decide) (by decide) (by decide) (h.append (gives_sig (b := 41) (by decide) (by decide) (by decide) gives_nil) (by exact (by decide : letB 41 = false)))
theorem gives_sep {sp : Bool} {k : Int} (hk : k = 5 ∨ k = 6 ∨ k = 7 ∨ k = 8 ∨ k = 10) : Gives (sep sp k) [(sgn k, ⟨#[]⟩)] ∧ noLet (sep sp k) := by
  rcases hk with rfl | rfl | rfl | rfl | rfl
  · cases sp
    · exact ⟨gives_sig (b := 59) (by decide) (by decide) (by decide) gives_nil, (by decide : letB 59 = false)⟩
    · exact ⟨gives_blank (gives_sig (b := 59) (by decide) (by decide) (by decide) (gives_blank gives_nil)), let32⟩
  · cases sp
    · exact ⟨gives_sig (b := 43) (by decide) (by decide) (by decide) gives_nil, (by decide : letB 43 = false)⟩
    · exact ⟨gives_blank (gives_sig (b := 43) (by decide) (by decide) (by decide) (gives_blank gives_nil)), let32⟩
  · cases sp
    · exact ⟨gives_sig (b := 124) (by decide) (by decide) (by decide) gives_nil, (by decide : letB 124 = false)⟩
    · exact ⟨gives_blank (gives_sig (b := 124) (by decide) (by decide) (by decide) (gives_blank gives_nil)), let32⟩
  · cases sp
    · exact ⟨gives_sig (b := 62) (by decide) (by decide) (by decide) gives_nil, (by decide : letB 62 = false)⟩
    · exact ⟨gives_blank (gives_sig (b := 62) (by decide) (by decide) (by decide) (gives_blank gives_nil)), let32⟩
  · exact ⟨gives_sig (b := 47) (by decide) (by decide) (by decide) gives_nil, (by decide : letB 47 = false)⟩
end Go.Proofs.Ytdhaghabhdeakaa.Pa

namespace Go.Proofs.Ytdhaghabhdeakaa.Rw
open Go Go.RowKit
set_option maxRecDepth 20000

theorem infoN : (Try.prog.info? 37).map (fun i => (i.zero, i.size, i.bytes)) = some (some (.agg #[.int .i64 0, .string ⟨#[]⟩, .int .i64 0]), 3, 32) := by kernel_rfl
theorem cls_one {l : List Nd} : ∀ u ∈ cls l, u.oneCell' = true := by
  induction l with
  | nil => intro u hu; cases hu
  | cons x l ih =>
    intro u hu
    rw [cls, List.mem_append] at hu
    rcases hu with hu | hu
    · simp [cl] at hu
      rcases hu with rfl | rfl | rfl <;> rfl
    · exact ih u hu

/-- Nodes of any slice appended to a row that the call owns. -/
theorem run_append_nds {w : World} {base : Nat} {v x : Value} {l m : List Nd} (hown : w.ownsRow base 37 3 v l.length (cls l)) (hbase : base ≤ w.heap.size) (hx : Nds w x m) (hlen : l.length + m.length ≤ 2000000) :
    ∃ v' w', (Builtin.append_ #[23, 23] 23 #[v, x]).run Try.prog w = .ok v' w' ∧ w'.ownsRow base 37 3 v' (l ++ m).length (cls (l ++ m)) ∧ w.grownBy w' v.ownBlock ∧ Below base w w' ∧ Ap.Fresh w v v' := by
  obtain ⟨i0, hi, hz, hs1, hb8⟩ := info_parts infoN
  obtain ⟨v', w', h1, h2, h3, h4, h5⟩ := Ap.run_append_rd (P := Try.prog) (ty := 23) Try.underlying23 hi hz hs1 hb8 (by rfl) (by omega) hown hbase hx
    cls_one (by unfold maxLen; omega) (by omega)
  exact ⟨v', w', h1, by rw [cls_append]; simpa using h2, h3, h4, h5⟩
/-- One node, given by itself. -/
theorem run_append_nd {w : World} {base : Nat} {v : Value} {l : List Nd} (x : Nd) (hown : w.ownsRow base 37 3 v l.length (cls l)) (hbase : base ≤ w.heap.size) (hlen : l.length ≤ 2000000) :
    ∃ v' w', (Builtin.append_ #[23, 23] 23 #[v, .slice (some ⟨w.heap.size, 0, none⟩) 1 1]).run Try.prog (w.alloc (.cells #[.int .i64 x.k, .string x.n, .int .i64 x.s] 37)) = .ok v' w' ∧ w'.ownsRow base 37 3 v' (l ++ [x]).length (cls (l ++ [x])) ∧ w.grownBy w' v.ownBlock ∧ Below base w w' ∧ Ap.Fresh w v v' := by
  obtain ⟨i0, hi, hz, hs1, hb8⟩ := info_parts infoN
  obtain ⟨v', w', h1, h2, h3, h4, h5⟩ := Ap.run_append_one (P := Try.prog) (ty := 23) Try.underlying23 hi hz hs1 hb8 (by rfl) (by omega) hown hbase #[.int .i64 x.k, .string x.n, .int .i64 x.s] rfl
    (by intro u hu; simp at hu; rcases hu with rfl | rfl | rfl <;> rfl) (by unfold maxLen; omega) (by omega)
  exact ⟨v', w', h1, by rw [cls_append, List.length_append]; exact h2, h3, h4, h5⟩

/-- A node's block. -/
abbrev nb (x : Nd) : Obj := .cells #[.int .i64 x.k, .string x.n, .int .i64 x.s] 37
theorem below1 (w : World) (x : Obj) : Below w.heap.size w (w.alloc x) := (Below.refl _ _).alloc (Nat.le_refl _) _
/-- Both appends of One. -/
theorem one_runs (x : Nd) (v : Value) (l : List Nd) (w : World) (hv : Nds w v l) (hl : l.length ≤ 1000000) :
    ∃ v1 w1 v2 w2, (Builtin.append_ #[23, 23] 23 #[.slice none 0 0, .slice (some ⟨w.heap.size + 1, 0, none⟩) 1 1]).run Try.prog ((w.alloc (nb x)).alloc (nb x)) = .ok v1 w1 ∧
      (Builtin.append_ #[23, 23] 23 #[v1, v]).run Try.prog w1 = .ok v2 w2 ∧ w2.ownsRow w.heap.size 37 3 v2 (x :: l).length (cls (x :: l)) ∧ Below w.heap.size w w2 := by
  have B0 := below1 w (nb x)
  obtain ⟨v1, w1, hrun1, hown1, hg1, hb1, _⟩ := run_append_nd (w := w.alloc (nb x)) (base := (w.alloc (nb x)).heap.size) (v := .slice none 0 0) (l := []) x ⟨rfl, .inl ⟨rfl, rfl⟩⟩ (Nat.le_refl _) (by simp)
  rw [List.nil_append] at hown1
  have hsz : (w.alloc (nb x)).heap.size = w.heap.size + 1 := by simp
  obtain ⟨v2, w2, hrun2, hown2, hg2, hb2, _⟩ := run_append_nds (Ap.own_base hown1 (show w.heap.size ≤ _ by omega)) (Nat.le_trans B0.size hb1.size) ((hv.below B0).below hb1) (by simp; omega)
  rw [hsz] at hrun1
  exact ⟨v1, w1, v2, w2, hrun1, hrun2, hown2, (B0.trans (hb1.mono (by omega))).trans hb2⟩
/-- Rows of rows of nodes. -/
def RwC (w : World) : List Value → List (List Nd) → Prop
  | [], [] => True
  | a :: cs, r :: rs => Nds w a r ∧ RwC w cs rs
  | _, _ => False
theorem RwC.below {w w' : World} (hb : Below w.heap.size w w') : ∀ {cs : List Value} {ls : List (List Nd)}, RwC w cs ls → RwC w' cs ls
  | [], [], _ => trivial
  | _ :: _, _ :: _, h => ⟨h.1.below hb, RwC.below hb h.2⟩
  | [], _ :: _, h => h.elim
  | _ :: _, [], h => h.elim
theorem RwC.snoc {w : World} {a : Value} {r : List Nd} (ha : Nds w a r) : ∀ {cs : List Value} {ls : List (List Nd)}, RwC w cs ls → RwC w (cs ++ [a]) (ls ++ [r])
  | [], [], _ => ⟨ha, trivial⟩
  | _ :: _, _ :: _, h => ⟨h.1, RwC.snoc ha h.2⟩
  | [], _ :: _, h => h.elim
  | _ :: _, [], h => h.elim
theorem RwC.len {w : World} : ∀ {cs : List Value} {ls : List (List Nd)}, RwC w cs ls → cs.length = ls.length
  | [], [], _ => rfl
  | _ :: _, _ :: _, h => by rw [List.length_cons, List.length_cons, RwC.len h.2]
  | [], _ :: _, h => h.elim
  | _ :: _, [], h => h.elim
def Rws (w : World) (v : Value) (ls : List (List Nd)) : Prop := ∃ cs, Ap.Rd w 1 v ls.length cs ∧ RwC w cs ls
theorem Rws.below {w w' : World} {v : Value} {ls : List (List Nd)} (h : Rws w v ls) (hb : Below w.heap.size w w') : Rws w' v ls := by
  obtain ⟨cs, h1, h2⟩ := h
  exact ⟨cs, h1.below hb, h2.below hb⟩
theorem infoR : (Try.prog.info? 23).map (fun i => (i.zero, i.size, i.bytes)) = some (some (.slice none 0 0), 1, 24) := by kernel_rfl
/-- A part of a slice. -/
theorem part_nds {w : World} {b off : Nat} {l : List Nd} (h : At w b off l) (p n c : Nat) (hp : p + n ≤ l.length) (hn : n ≤ c) : Nds w (.slice (some ⟨b, off + p * 3, none⟩) n c) ((l.drop p).take n) := by
  have hlen : ((l.drop p).take n).length = n := by rw [List.length_take, List.length_drop]; omega
  unfold Nds
  rw [hlen]
  refine ⟨by rw [cls_len, hlen], _, c, rfl, hn, fun e => (by cases e), fun _ => ⟨b, off + p * 3, rfl, fun j u hu => ?_⟩⟩
  have hj : j < n * 3 := by
    have := (List.getElem?_eq_some_iff.1 hu).1
    rw [cls_len, hlen] at this
    exact this
  have hk : j / 3 < ((l.drop p).take n).length := by rw [hlen]; omega
  obtain ⟨h1, h2, h3⟩ := cls_at _ (j / 3) hk
  have hkl : p + j / 3 < l.length := by omega
  have hx : ((l.drop p).take n)[j / 3] = l[p + j / 3] := by simp
  rw [hx] at h1 h2 h3
  obtain ⟨g1, g2, g3⟩ := h (p + j / 3) hkl
  have hr : j % 3 = 0 ∨ j % 3 = 1 ∨ j % 3 = 2 := by omega
  rcases hr with hr | hr | hr
  · have : j = j / 3 * 3 := by omega
    rw [← this, hu] at h1
    rw [Option.some.inj h1, show off + p * 3 + j = off + (p + j / 3) * 3 by omega]
    exact g1
  · have : j = j / 3 * 3 + 1 := by omega
    rw [← this, hu] at h2
    rw [Option.some.inj h2, show off + p * 3 + j = off + (p + j / 3) * 3 + 1 by omega]
    exact g2
  · have : j = j / 3 * 3 + 2 := by omega
    rw [← this, hu] at h3
    rw [Option.some.inj h3, show off + p * 3 + j = off + (p + j / 3) * 3 + 2 by omega]
    exact g3
/-- One kid more. -/
theorem kids_next {l : List Nd} {k p d c' d' : Nat} (h : Far l 0 k p d) (ht : T (l.drop p) = some (c', d')) : kidsN (k + 1) (l.drop 1) = kidsN k (l.drop 1) ++ [(l.drop p).take c'] := by
  obtain ⟨c, hs, rfl⟩ := h
  rw [Nat.zero_add] at hs ht
  rw [kidsN, hs]
  simp only [Option.getD_some, List.drop_drop, Nat.zero_add]
  have : size (l.drop (1 + c)) = c' := by unfold size; rw [ht]
  rw [this]
theorem kids_more {l : List Nd} {k p d : Nat} (h0 : 0 < l.length) (hs : size l ≠ 0) (h : Far l 0 k p d) (hk : (k : Int) < ar l[0].k) : ∃ c' d', T (l.drop p) = some (c', d') := by
  cases ht : T (l.drop p) with
  | some x => exact ⟨x.1, x.2, rfl⟩
  | none =>
    exfalso
    have h1 := h.stop ht
    have hn : ¬ ar l[0].k < 0 := by omega
    have := walk_none (l := l) (i := 0) h0 hn hk h1
    rw [List.drop_zero] at this
    exact hs (size_pos.2 this)
theorem kids_of {l : List Nd} (h0 : 0 < l.length) (hs : size l ≠ 0) : kids l = kidsN (ar l[0].k).toNat (l.drop 1) := by
  cases l with
  | nil => simp at h0
  | cons n r =>
    unfold kids
    rw [if_neg hs]
    rfl
end Go.Proofs.Ytdhaghabhdeakaa.Rw
