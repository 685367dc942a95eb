/- Plain: the sorts of kids, of blocks, of what is made of two. What a text is parsed as; the names in it are short. Plain: the sort of what is made of two trees. A right row is a tree of the grammar. -/
import Derived.Test.YtdhaghabhdeakaaQ15
import Derived.Test.YtdhaghabhdeakaaQ06
import Derived.Test.YtdhaghabhdeakaaQ14

namespace Go.Proofs.Ytdhaghabhdeakaa.So
open Go Go.Proofs.Ytdhaghabhdeakaa.Rw

theorem not_both {l : List Nd} (h3 : Is 3 l = true) : Is 4 l = false := by
  cases h : Is 4 l with
  | false => rfl
  | true => exact absurd ⟨h3, h⟩ (apart _ l (Nat.le_refl _))
theorem not_both' {l : List Nd} (h4 : Is 4 l = true) : Is 3 l = false := by
  cases h : Is 3 l with
  | false => rfl
  | true => exact absurd ⟨h, h4⟩ (apart _ l (Nat.le_refl _))
theorem not_two {l : List Nd} (h : Is 4 l = false) : Is 2 l = false := by
  cases h2 : Is 2 l with
  | false => rfl
  | true => rw [two_four h2] at h; cases h
theorem not_one {l : List Nd} (h : Is 3 l = false) : Is 1 l = false := by
  cases h1 : Is 1 l with
  | false => rfl
  | true => rw [one_three h1] at h; cases h
theorem plain_all {l : List Nd} (h : Is 1 l = true) : Is 1 l = true ∧ Is 2 l = false ∧ Is 3 l = true ∧ Is 4 l = false :=
  ⟨h, not_two (not_both (one_three h)), one_three h, not_both (one_three h)⟩
theorem paired_all {l : List Nd} (h : Is 2 l = true) : Is 1 l = false ∧ Is 2 l = true ∧ Is 3 l = false ∧ Is 4 l = true :=
  ⟨not_one (not_both' (two_four h)), h, not_both' (two_four h), two_four h⟩
theorem whole_mk {l : List Nd} (hr : l.all rgt = true) (ht : Tre l) (hl : l.length ≤ 200) : whole l = true := by
  unfold whole
  simp only [Bool.and_eq_true, decide_eq_true_eq]
  exact ⟨⟨hr, ht.pos, hl⟩, ht.size⟩
theorem whole_rgt {l : List Nd} (h : whole l = true) : l.all rgt = true := by
  unfold whole at h
  simp only [Bool.and_eq_true] at h
  exact h.1.1
theorem of_whole {l : List Nd} (h : whole l = true) : of l = first l := by
  unfold of
  rw [h]
  rfl
theorem of_not {l : List Nd} (h : whole l = false) : of l = 0 := by
  unfold of
  rw [h]
  rfl
theorem kid_whole {l r : List Nd} (h : whole l = true) (hr : r ∈ kids l) : whole r = true := by
  have ht := whole_tre h
  obtain ⟨x, _, he⟩ := ht.flat
  refine whole_mk ?_ (ht.kids.2 r hr) (by have := kids_short hr; have := whole_len h; omega)
  rw [List.all_eq_true]
  intro y hy
  have : y ∈ l := by
    rw [he]
    exact List.mem_cons_of_mem _ (List.mem_flatten.2 ⟨r, hr, hy⟩)
  exact List.all_eq_true.1 (whole_rgt h) y this
theorem first_plain {l : List Nd} (h : Is 1 l = true) : first l = 1 := by unfold first; rw [h]; rfl
theorem first_paired {l : List Nd} (h : Is 2 l = true) : first l = 2 := by
  obtain ⟨h1, h2, _, _⟩ := paired_all h
  unfold first
  rw [h1, h2]
  rfl
/-- The kids of a plain term. -/
theorem kid_of {l : List Nd} (h : of l = 1) : ∀ r ∈ kids l, of r = if hd l = 9 then 2 else 1 := by
  intro r hr
  obtain ⟨hw, hi⟩ := of_one h
  have ht := whole_tre hw
  rw [of_whole (kid_whole hw hr)]
  rcases kinds ht.ar with hk | hk | hk | hk | hk | hk | hk | hk | hk | hk | hk | hk | hk | hk
  case inr.inr.inr.inr.inr.inr.inr.inr.inl =>
    obtain ⟨a, ha, _, _⟩ := ht.one (by rw [hk]; rfl)
    rw [eq_9_1 hk] at hi
    have e : k0 l = a := by unfold k0; rw [ha]; rfl
    rw [e] at hi
    rw [ha, List.mem_singleton] at hr
    subst hr
    rw [hk, if_pos rfl]
    exact first_paired hi
  all_goals
    rw [hk, if_neg (by decide)]
    first
      | (exfalso
         have hn := ht.kids.1
         rw [hk] at hn
         have : kids l = [] := List.eq_nil_of_length_eq_zero hn
         rw [this] at hr
         cases hr)
      | (exfalso
         first
           | (rw [eq_10_1 hk] at hi; cases hi; done)
           | (rw [eq_12_1 hk] at hi; cases hi; done)
           | (rw [eq_13_1 hk] at hi; cases hi; done)
           | (rw [eq_14_1 hk] at hi; cases hi; done))
      | (obtain ⟨a, b, ha, _⟩ := ht.two (by rw [hk]; rfl)
         have e0 : k0 l = a := by unfold k0; rw [ha]; rfl
         have e1 : k1 l = b := by unfold k1; rw [ha]; rfl
         have hh : (Is 1 a && Is 1 b) = true := by
           first
             | (rw [eq_5_1 hk, e0, e1] at hi; exact hi)
             | (rw [eq_6_1 hk, e0, e1] at hi; exact hi)
             | (rw [eq_7_1 hk, e0, e1] at hi; exact hi)
             | (rw [eq_8_1 hk, e0, e1] at hi; exact hi)
         rw [Bool.and_eq_true] at hh
         rw [ha] at hr
         simp only [List.mem_cons, List.not_mem_nil, or_false] at hr
         rcases hr with rfl | rfl
         · exact first_plain hh.1
         · exact first_plain hh.2)

/-- A block of one. -/
def nBlk : Nd := ⟨9, ⟨#[]⟩, 0⟩
theorem T_blk (l : List Nd) : T (nBlk :: l) = match T l with | none => none | some (c, d) => some (c + 1, d + 1) := by
  rw [T_cons, if_neg (show ¬ ar nBlk.k < 0 by decide), show (ar nBlk.k).toNat = 0 + 1 from rfl, S_succ, S_zero]
  simp only [List.drop_zero]
  cases T l with
  | none => rfl
  | some x => obtain ⟨c, d⟩ := x; simp
theorem tre_blk {l : List Nd} : Tre (nBlk :: l) ↔ Tre l := by
  unfold Tre
  rw [T_blk]
  cases T l with
  | none => simp
  | some x => obtain ⟨c, d⟩ := x; simp
theorem kids_blk {l : List Nd} (h : Tre l) : kids (nBlk :: l) = [l] := by
  have ht := tre_blk.2 h
  obtain ⟨a, ha, _, _⟩ := ht.one rfl
  obtain ⟨x, _, he⟩ := ht.flat
  rw [ha] at he
  injection he with _ he
  simp at he
  rw [ha, he]
theorem whole_blk {l : List Nd} (hl : l.length < 200) : whole (nBlk :: l) = whole l := by
  cases h : whole l with
  | true =>
    refine whole_mk ?_ (tre_blk.2 (whole_tre h)) (by simp; omega)
    rw [List.all_cons, whole_rgt h]
    rfl
  | false =>
    cases h' : whole (nBlk :: l) with
    | false => rfl
    | true =>
      have hr := whole_rgt h'
      rw [List.all_cons, Bool.and_eq_true] at hr
      rw [whole_mk hr.2 (tre_blk.1 (whole_tre h')) (by omega)] at h
      cases h
/-- The sort of a block. -/
theorem of_blk {l : List Nd} (hl : l.length < 200) : of (nBlk :: l) = if of l = 2 then 1 else if of l = 4 then 3 else 0 := by
  cases hw : whole l with
  | false =>
    rw [of_not hw, of_not (by rw [whole_blk hl]; exact hw)]
    rfl
  | true =>
    have ht := whole_tre hw
    have hk := kids_blk ht
    have e : k0 (nBlk :: l) = l := by unfold k0; rw [hk]; rfl
    have b1 : Is 1 (nBlk :: l) = Is 2 l := by rw [eq_9_1 rfl, e]
    have b2 : Is 2 (nBlk :: l) = false := eq_9_2 rfl
    have b3 : Is 3 (nBlk :: l) = (Is 2 l || Is 4 l) := by rw [eq_9_3 rfl, e]
    have b4 : Is 4 (nBlk :: l) = false := by rw [eq_9_4 rfl]; rfl
    rw [of_whole (by rw [whole_blk hl]; exact hw), of_whole hw]
    cases h2 : Is 2 l with
    | true =>
      rw [first_paired h2, if_pos rfl]
      exact first_plain (by rw [b1]; exact h2)
    | false =>
      cases h4 : Is 4 l with
      | true =>
        have h3 := not_both' h4
        have h1 := not_one h3
        have f1 : first l = 4 := by unfold first; rw [h1, h2, h3, h4]; rfl
        have f2 : first (nBlk :: l) = 3 := by unfold first; rw [b1, b2, b3, h2, h4]; rfl
        rw [f1, f2]
        rfl
      | false =>
        have f2 : first (nBlk :: l) = 0 := by unfold first; rw [b1, b2, b3, b4, h2, h4]; rfl
        rw [f2]
        have : first l ≠ 2 ∧ first l ≠ 4 := by
          unfold first
          rw [h2, h4]
          constructor <;> (repeat' split) <;> simp_all
        rw [if_neg this.1, if_neg this.2]

/-- A node of two. -/
def nOf (k : Int) : Nd := ⟨k, ⟨#[]⟩, 0⟩
theorem kids_mk {k : Int} {a b : List Nd} (hk : ar k = 2) (ha : Tre a) (hb : Tre b) : Tre (nOf k :: (a ++ b)) ∧ kids (nOf k :: (a ++ b)) = [a, b] := by
  obtain ⟨d1, t1⟩ := ha
  obtain ⟨d2, t2⟩ := hb
  have a1 := T_append b t1
  have s1 : S 1 (a ++ b) = some (a.length, max 0 d1) := by
    rw [show (1 : Nat) = 0 + 1 from rfl, S_succ, S_zero]
    simp only [List.drop_zero, a1, Nat.zero_add]
  have dm : (a ++ b).drop a.length = b := by simp
  have s2 : S 2 (a ++ b) = some (a.length + b.length, max (max 0 d1) d2) := by
    rw [show (2 : Nat) = 1 + 1 from rfl, S_succ, s1]
    simp only [dm, t2]
  have hT : T (nOf k :: (a ++ b)) = some (a.length + b.length + 1, max (max 0 d1) d2 + 1) := by
    rw [T_cons, if_neg (show ¬ ar (nOf k).k < 0 by show ¬ ar k < 0; omega), show (ar (nOf k).k).toNat = 2 by show (ar k).toNat = 2; rw [hk]; rfl, s2]
  have ht : Tre (nOf k :: (a ++ b)) := ⟨_, by rw [hT, List.length_cons, List.length_append]⟩
  refine ⟨ht, ?_⟩
  obtain ⟨x, y, hxy, tx, ty, _, _⟩ := ht.two hk
  obtain ⟨_, _, he⟩ := ht.flat
  rw [hxy] at he
  injection he with _ he
  simp at he
  obtain ⟨dx, hx⟩ := tx
  have hx2 := T_append y hx
  rw [← he, a1] at hx2
  have hlen : a.length = x.length := by
    have := congrArg (fun o => o.map (·.1)) hx2
    simpa using this
  have h1 := congrArg (List.take a.length) he
  have h2 := congrArg (List.drop a.length) he
  rw [List.take_append_of_le_length (Nat.le_refl _), List.take_length, hlen, List.take_append_of_le_length (Nat.le_refl _), List.take_length] at h1
  rw [dm, hlen, List.drop_append_of_le_length (Nat.le_refl _), List.drop_length, List.nil_append] at h2
  rw [hxy, ← h1, ← h2]
theorem whole_mk2 {k : Int} {a b : List Nd} (hk : ar k = 2) (hr : rgt (nOf k) = true) (ha : whole a = true) (hb : whole b = true) (hl : a.length + b.length < 200) : whole (nOf k :: (a ++ b)) = true := by
  refine whole_mk ?_ (kids_mk hk (whole_tre ha) (whole_tre hb)).1 (by simp; omega)
  rw [List.all_cons, List.all_append, whole_rgt ha, whole_rgt hb, hr]
  rfl
end Go.Proofs.Ytdhaghabhdeakaa.So

namespace Go.Proofs.Ytdhaghabhdeakaa.Pa
open Go Go.RowKit Rw
set_option maxRecDepth 20000

structure Prs where
  L : List Nd
  place : Int
  err : Int
/-- The tree of any text, or where and why there is none. -/
def parseG (g : Got) (ts : List To.Tk) (n : Nat) : Prs :=
  if g.bad = true ∨ g.next < ts.length then ⟨[], (match ts[g.next]? with | some t => t.a | none => (n : Int)), 60⟩
  else if 60 < g.L.length then ⟨[], 0, 62⟩
  else if 16 < depth g.L then ⟨[], 0, 63⟩
  else if So.of g.L ≠ 1 then ⟨[], 0, 61⟩
  else ⟨g.L, n, 0⟩
def parseT (ts : List To.Tk) (n : Nat) : Prs := parseG (got (tkn ts)) ts n
def parseR (s : ByteArray) : Prs := match To.lexR s with
  | .bad a e => ⟨[], a, e⟩
  | .ok ts => parseT ts s.size
theorem name_short {n : ByteArray} (h : n.size ≤ 8) : ∀ x ∈ name n, x.n.size ≤ 8 := by
  unfold name
  repeat' split
  all_goals
    intro x hx
    simp only [List.mem_cons, List.not_mem_nil, or_false] at hx
    first
      | (subst hx; exact h)
      | (subst hx; decide)
      | (rcases hx with rfl | rfl | rfl <;> decide)
theorem short (f : Nat) {q : List Kn} (hq : ∀ i, (nmAt q i).size ≤ 8) : (∀ p k g, lv f q p k = some g → ∀ x ∈ g.L, x.n.size ≤ 8) ∧ (∀ k g r, (∀ x ∈ g.L, x.n.size ≤ 8) → mo f q k g = some r → ∀ x ∈ r.L, x.n.size ≤ 8) ∧ (∀ p g, pr f q p = some g → ∀ x ∈ g.L, x.n.size ≤ 8) ∧ (∀ p g, ato f q p = some g → ∀ x ∈ g.L, x.n.size ≤ 8) := by
  have h2 : ∀ (k : Int) (g h : Got), (∀ x ∈ g.L, x.n.size ≤ 8) → (∀ x ∈ h.L, x.n.size ≤ 8) → ∀ x ∈ (two k g h).L, x.n.size ≤ 8 := fun k g h hg hh x hx => by
    rcases List.mem_cons.1 (show x ∈ nOf k :: (g.L ++ h.L) from hx) with rfl | hx
    · exact Nat.zero_le _
    · rcases List.mem_append.1 hx with hx | hx
      · exact hg x hx
      · exact hh x hx
  induction f with
  | zero => exact ⟨fun _ _ _ h => (by rw [lv] at h; cases h), fun _ _ _ _ h => (by rw [mo] at h; cases h), fun _ _ h => (by rw [pr] at h; cases h), fun _ _ h => (by rw [ato] at h; cases h)⟩
  | succ f ih =>
    obtain ⟨i1, i2, i3, i4⟩ := ih
    refine ⟨fun p k g h => ?_, fun k g r hg h => ?_, fun p g h => ?_, fun p g h => ?_⟩
    · rw [lv_succ] at h
      split at h
      · exact i3 _ _ h
      · obtain ⟨x, hx, hm⟩ := Option.bind_eq_some_iff.1 h
        exact i2 _ _ _ (i1 _ _ _ hx) hm
    · rw [mo_succ] at h
      split at h
      · obtain ⟨x, hx, hm⟩ := Option.bind_eq_some_iff.1 h
        exact i2 _ _ _ (h2 _ _ _ hg (i1 _ _ _ hx)) hm
      · obtain rfl := Option.some.inj h
        exact hg
    · rw [pr_succ] at h
      obtain ⟨x, hx, hm⟩ := Option.bind_eq_some_iff.1 h
      split at hm
      · obtain rfl := Option.some.inj hm
        exact i4 _ _ hx
      · obtain ⟨y, hy, rfl⟩ := Option.map_eq_some_iff.1 hm
        exact h2 _ _ _ (i4 _ _ hx) (i4 _ _ hy)
    · rw [ato_succ] at h
      split at h
      · obtain rfl := Option.some.inj h
        exact name_short (hq p)
      · split at h
        · obtain rfl := Option.some.inj h
          intro x hx
          cases hx
        · obtain ⟨x, hx, hm⟩ := Option.bind_eq_some_iff.1 h
          split at hm
          · obtain rfl := Option.some.inj hm
            exact i1 _ _ _ hx
          · split at hm
            · obtain rfl := Option.some.inj hm
              intro y hy
              cases hy
            · obtain rfl := Option.some.inj hm
              intro y hy
              have hy : y ∈ if kd q p = 3 then nOf 9 :: x.L else x.L := hy
              split at hy
              · rcases List.mem_cons.1 hy with rfl | hy
                · decide
                · exact i1 _ _ _ hx y hy
              · exact i1 _ _ _ hx y hy
theorem prt_size {t : To.Tk} {u : ByteArray} (h : To.prt t = some u) : t.n.size ≤ 8 := by
  unfold To.prt at h
  by_cases hn : t.k = 10 ∧ To.named t.n = true
  · have := hn.2
    unfold To.named at this
    simp only [Bool.and_eq_true, decide_eq_true_eq] at this
    omega
  · rw [if_neg hn] at h
    by_cases hk : t.k < 1 ∨ 9 < t.k ∨ t.n ≠ ⟨#[]⟩
    · rw [if_pos hk] at h
      cases h
    · simp only [not_or, Decidable.not_not] at hk
      rw [hk.2.2]
      decide
/-- What a text's tokens are read as has short names, and few nodes. -/
theorem got_facts {s : ByteArray} {ts : List To.Tk} (h : To.lexR s = .ok ts) : (∀ x ∈ (got (tkn ts)).L, x.n.size ≤ 8) ∧ ts.length ≤ 1000 ∧ (got (tkn ts)).next ≤ ts.length ∧ (got (tkn ts)).L.length ≤ 3000 ∧ s.size ≤ 1000 := by
  unfold To.lexR at h
  split at h
  · cases h
  · rename_i hs
    obtain ⟨hp, hn⟩ := To.F_prints _ _ _ _ (Nat.le_refl _) h
    have hl : ∀ l : List To.Tk, (∀ t ∈ l, (To.prt t).isSome = true) → l.length ≤ To.lenS l := by
      intro l
      induction l with
      | nil => intro _; exact Nat.le_refl _
      | cons t l ih =>
        intro hh
        obtain ⟨u, hu⟩ := Option.isSome_iff_exists.1 (hh t List.mem_cons_self)
        obtain ⟨_, h1, _⟩ := To.prt_read hu [] 0 trivial
        have := ih (fun x hx => hh x (List.mem_cons_of_mem _ hx))
        rw [To.lenS, hu, List.length_cons]
        simp
        omega
    have hlen : ts.length ≤ 1000 := by
      have := hl ts hp
      simp at hn
      omega
    have hq : ∀ i, (nmAt (tkn ts) i).size ≤ 8 := fun i => by
      by_cases hi : i < ts.length
      · rw [(kd_at hi).2]
        obtain ⟨u, hu⟩ := Option.isSome_iff_exists.1 (hp ts[i] (List.getElem_mem hi))
        exact prt_size hu
      · unfold nmAt
        rw [List.getElem?_eq_none (by rw [tkn_len]; omega)]
        decide
    obtain ⟨f, hf⟩ := got_is (tkn ts)
    obtain ⟨a1, a2, a3⟩ := (few f).1 _ _ _ _ (Nat.zero_le _) hf
    rw [tkn_len] at a2
    exact ⟨(short f hq).1 _ _ _ hf, hlen, a2, by omega, by omega⟩
def ParsePost (r : Prs) (w : World) (e : Ending) (w' : World) : Prop := ∃ y, e = .returned (.tuple #[y, .int .i64 r.place, .int .i64 r.err]) ∧ Nds w' y r.L ∧ Below w.heap.size w w'
theorem nds_nil (w : World) : Nds w (.slice none 0 0) [] := ⟨rfl, none, 0, rfl, Nat.le_refl _, fun _ => ⟨rfl, rfl⟩, fun h => absurd h (Nat.lt_irrefl 0)⟩
theorem lex_err {s : ByteArray} {a : Nat} {e : Int} (h : To.lexR s = .bad a e) : e = 50 ∨ e = 51 ∨ e = 52 := by
  unfold To.lexR at h
  split at h
  · cases h
    omega
  · have := (To.F_bad _ _ _ _ _ (Nat.le_refl _) h).2.2
    omega
set_option maxHeartbeats 400000 in
theorem parse_bad (s : ByteArray) (w : World) (a : Nat) (e0 : Int) (h : To.lexR s = .bad a e0) : Calls Try.prog 12 #[.string s] w (ParsePost (parseR s) w) := by
  have he := lex_err h
  have HP : Hid (parseR s = ⟨[], a, e0⟩) := by show _ = _; unfold parseR; rw [h]
  rw [HP.out]
  have L1 := Lib.hid (To.lexR_any s)
  rw [h] at L1
  have L2 : Hid (∀ w', Calls Try.prog 28 #[.string s] w' fun e w'' => ∃ y, e = .returned (.tuple #[y, .int .i64 (a : Int), .int .i64 e0]) ∧ To.Tks w'' y [] ∧ Below w'.heap.size w' w'') := L1
  have g0 : (e0 != 0) = true := by rw [bne_iff_ne]; omega
  clear h he L1
  go_enter Try.func12, Try.ntmps12
  go_wp2_with fail
  refine (L2.out _).mono ?_
  rintro e wa ⟨y, rfl, -, hb⟩
  have HB := Lib.hid hb
  clear hb
  go_wp2_with fail
  go_ret3
  exact ⟨_, rfl, nds_nil _, HB.out⟩
end Go.Proofs.Ytdhaghabhdeakaa.Pa

namespace Go.Proofs.Ytdhaghabhdeakaa.So
open Go Go.RowKit Go.Proofs.Ytdhaghabhdeakaa.Rw
set_option maxRecDepth 20000

theorem mk_5_11 {a b : List Nd} (ha : of a = 1) (hb : of b = 1) (hl : a.length + b.length < 200) : of (nOf 5 :: (a ++ b)) = 1 := by
  have wa := (of_one ha).1
  have wb := (of_one hb).1
  obtain ⟨a1, a2, a3, a4⟩ := plain_all (of_one ha).2
  obtain ⟨b1, b2, b3, b4⟩ := plain_all (of_one hb).2
  rw [of_whole (whole_mk2 (k := 5) rfl (by decide +kernel) wa wb hl)]
  have hk := (kids_mk (k := 5) rfl (whole_tre wa) (whole_tre wb)).2
  have e0 : k0 (nOf 5 :: (a ++ b)) = a := by unfold k0; rw [hk]; rfl
  have e1 : k1 (nOf 5 :: (a ++ b)) = b := by unfold k1; rw [hk]; rfl
  have f1 := eq_5_1 (l := nOf 5 :: (a ++ b)) rfl
  rw [e0, a1, e1, b1] at f1
  have g1 : Is 1 (nOf 5 :: (a ++ b)) = true := f1
  exact first_plain g1
theorem mk_6_11 {a b : List Nd} (ha : of a = 1) (hb : of b = 1) (hl : a.length + b.length < 200) : of (nOf 6 :: (a ++ b)) = 1 := by
  have wa := (of_one ha).1
  have wb := (of_one hb).1
  obtain ⟨a1, a2, a3, a4⟩ := plain_all (of_one ha).2
  obtain ⟨b1, b2, b3, b4⟩ := plain_all (of_one hb).2
  rw [of_whole (whole_mk2 (k := 6) rfl (by decide +kernel) wa wb hl)]
  have hk := (kids_mk (k := 6) rfl (whole_tre wa) (whole_tre wb)).2
  have e0 : k0 (nOf 6 :: (a ++ b)) = a := by unfold k0; rw [hk]; rfl
  have e1 : k1 (nOf 6 :: (a ++ b)) = b := by unfold k1; rw [hk]; rfl
  have f1 := eq_6_1 (l := nOf 6 :: (a ++ b)) rfl
  rw [e0, a1, e1, b1] at f1
  have g1 : Is 1 (nOf 6 :: (a ++ b)) = true := f1
  exact first_plain g1
theorem mk_7_11 {a b : List Nd} (ha : of a = 1) (hb : of b = 1) (hl : a.length + b.length < 200) : of (nOf 7 :: (a ++ b)) = 1 := by
  have wa := (of_one ha).1
  have wb := (of_one hb).1
  obtain ⟨a1, a2, a3, a4⟩ := plain_all (of_one ha).2
  obtain ⟨b1, b2, b3, b4⟩ := plain_all (of_one hb).2
  rw [of_whole (whole_mk2 (k := 7) rfl (by decide +kernel) wa wb hl)]
  have hk := (kids_mk (k := 7) rfl (whole_tre wa) (whole_tre wb)).2
  have e0 : k0 (nOf 7 :: (a ++ b)) = a := by unfold k0; rw [hk]; rfl
  have e1 : k1 (nOf 7 :: (a ++ b)) = b := by unfold k1; rw [hk]; rfl
  have f1 := eq_7_1 (l := nOf 7 :: (a ++ b)) rfl
  rw [e0, a1, e1, b1] at f1
  have g1 : Is 1 (nOf 7 :: (a ++ b)) = true := f1
  exact first_plain g1
theorem mk_8_11 {a b : List Nd} (ha : of a = 1) (hb : of b = 1) (hl : a.length + b.length < 200) : of (nOf 8 :: (a ++ b)) = 1 := by
  have wa := (of_one ha).1
  have wb := (of_one hb).1
  obtain ⟨a1, a2, a3, a4⟩ := plain_all (of_one ha).2
  obtain ⟨b1, b2, b3, b4⟩ := plain_all (of_one hb).2
  rw [of_whole (whole_mk2 (k := 8) rfl (by decide +kernel) wa wb hl)]
  have hk := (kids_mk (k := 8) rfl (whole_tre wa) (whole_tre wb)).2
  have e0 : k0 (nOf 8 :: (a ++ b)) = a := by unfold k0; rw [hk]; rfl
  have e1 : k1 (nOf 8 :: (a ++ b)) = b := by unfold k1; rw [hk]; rfl
  have f1 := eq_8_1 (l := nOf 8 :: (a ++ b)) rfl
  rw [e0, a1, e1, b1] at f1
  have g1 : Is 1 (nOf 8 :: (a ++ b)) = true := f1
  exact first_plain g1
theorem mk_10_11 {a b : List Nd} (ha : of a = 1) (hb : of b = 1) (hl : a.length + b.length < 200) : of (nOf 10 :: (a ++ b)) = 2 := by
  have wa := (of_one ha).1
  have wb := (of_one hb).1
  obtain ⟨a1, a2, a3, a4⟩ := plain_all (of_one ha).2
  obtain ⟨b1, b2, b3, b4⟩ := plain_all (of_one hb).2
  rw [of_whole (whole_mk2 (k := 10) rfl (by decide +kernel) wa wb hl)]
  have hk := (kids_mk (k := 10) rfl (whole_tre wa) (whole_tre wb)).2
  have e0 : k0 (nOf 10 :: (a ++ b)) = a := by unfold k0; rw [hk]; rfl
  have e1 : k1 (nOf 10 :: (a ++ b)) = b := by unfold k1; rw [hk]; rfl
  have f2 := eq_10_2 (l := nOf 10 :: (a ++ b)) rfl
  rw [e0, a1, e1, b1] at f2
  have g2 : Is 2 (nOf 10 :: (a ++ b)) = true := f2
  exact first_paired g2
theorem mk_5_12 {a b : List Nd} (ha : of a = 1) (hb : of b = 2) (hl : a.length + b.length < 200) : of (nOf 5 :: (a ++ b)) = 0 := by
  have wa := (of_one ha).1
  have wb := (of_two hb).1
  obtain ⟨a1, a2, a3, a4⟩ := plain_all (of_one ha).2
  obtain ⟨b1, b2, b3, b4⟩ := paired_all (of_two hb).2.1
  rw [of_whole (whole_mk2 (k := 5) rfl (by decide +kernel) wa wb hl)]
  have hk := (kids_mk (k := 5) rfl (whole_tre wa) (whole_tre wb)).2
  have e0 : k0 (nOf 5 :: (a ++ b)) = a := by unfold k0; rw [hk]; rfl
  have e1 : k1 (nOf 5 :: (a ++ b)) = b := by unfold k1; rw [hk]; rfl
  have f1 := eq_5_1 (l := nOf 5 :: (a ++ b)) rfl
  rw [e0, a1, e1, b1] at f1
  have g1 : Is 1 (nOf 5 :: (a ++ b)) = false := f1
  have f2 := eq_5_2 (l := nOf 5 :: (a ++ b)) rfl
  rw [e0, a2, e1, b2] at f2
  have g2 : Is 2 (nOf 5 :: (a ++ b)) = false := f2
  have f3 := eq_5_3 (l := nOf 5 :: (a ++ b)) rfl
  rw [e0, a1, e1, b1, a3] at f3
  have g3 : Is 3 (nOf 5 :: (a ++ b)) = false := f3
  have f4 := eq_5_4 (l := nOf 5 :: (a ++ b)) rfl
  rw [e0, a2, e1, b2, a4] at f4
  have g4 : Is 4 (nOf 5 :: (a ++ b)) = false := f4
  unfold first
  rw [g1, g2, g3, g4]
  rfl
theorem mk_6_12 {a b : List Nd} (ha : of a = 1) (hb : of b = 2) (hl : a.length + b.length < 200) : of (nOf 6 :: (a ++ b)) = 0 := by
  have wa := (of_one ha).1
  have wb := (of_two hb).1
  obtain ⟨a1, a2, a3, a4⟩ := plain_all (of_one ha).2
  obtain ⟨b1, b2, b3, b4⟩ := paired_all (of_two hb).2.1
  rw [of_whole (whole_mk2 (k := 6) rfl (by decide +kernel) wa wb hl)]
  have hk := (kids_mk (k := 6) rfl (whole_tre wa) (whole_tre wb)).2
  have e0 : k0 (nOf 6 :: (a ++ b)) = a := by unfold k0; rw [hk]; rfl
  have e1 : k1 (nOf 6 :: (a ++ b)) = b := by unfold k1; rw [hk]; rfl
  have f1 := eq_6_1 (l := nOf 6 :: (a ++ b)) rfl
  rw [e0, a1, e1, b1] at f1
  have g1 : Is 1 (nOf 6 :: (a ++ b)) = false := f1
  have f2 := eq_6_2 (l := nOf 6 :: (a ++ b)) rfl
  rw [e0, a2, e1, b2] at f2
  have g2 : Is 2 (nOf 6 :: (a ++ b)) = false := f2
  have f3 := eq_6_3 (l := nOf 6 :: (a ++ b)) rfl
  rw [e0, a1, e1, b1] at f3
  have g3 : Is 3 (nOf 6 :: (a ++ b)) = false := f3
  have f4 := eq_6_4 (l := nOf 6 :: (a ++ b)) rfl
  rw [e0, a2, e1, b2] at f4
  have g4 : Is 4 (nOf 6 :: (a ++ b)) = false := f4
  unfold first
  rw [g1, g2, g3, g4]
  rfl
theorem mk_7_12 {a b : List Nd} (ha : of a = 1) (hb : of b = 2) (hl : a.length + b.length < 200) : of (nOf 7 :: (a ++ b)) = 0 := by
  have wa := (of_one ha).1
  have wb := (of_two hb).1
  obtain ⟨a1, a2, a3, a4⟩ := plain_all (of_one ha).2
  obtain ⟨b1, b2, b3, b4⟩ := paired_all (of_two hb).2.1
  rw [of_whole (whole_mk2 (k := 7) rfl (by decide +kernel) wa wb hl)]
  have hk := (kids_mk (k := 7) rfl (whole_tre wa) (whole_tre wb)).2
  have e0 : k0 (nOf 7 :: (a ++ b)) = a := by unfold k0; rw [hk]; rfl
  have e1 : k1 (nOf 7 :: (a ++ b)) = b := by unfold k1; rw [hk]; rfl
  have f1 := eq_7_1 (l := nOf 7 :: (a ++ b)) rfl
  rw [e0, a1, e1, b1] at f1
  have g1 : Is 1 (nOf 7 :: (a ++ b)) = false := f1
  have f2 := eq_7_2 (l := nOf 7 :: (a ++ b)) rfl
  rw [e0, a2, e1, b2] at f2
  have g2 : Is 2 (nOf 7 :: (a ++ b)) = false := f2
  have f3 := eq_7_3 (l := nOf 7 :: (a ++ b)) rfl
  rw [e0, a1, e1, b1, a3, b3] at f3
  have g3 : Is 3 (nOf 7 :: (a ++ b)) = false := f3
  have f4 := eq_7_4 (l := nOf 7 :: (a ++ b)) rfl
  rw [e0, a2, e1, b2, a4, b4] at f4
  have g4 : Is 4 (nOf 7 :: (a ++ b)) = false := f4
  unfold first
  rw [g1, g2, g3, g4]
  rfl
theorem mk_8_12 {a b : List Nd} (ha : of a = 1) (hb : of b = 2) (hl : a.length + b.length < 200) : of (nOf 8 :: (a ++ b)) = 0 := by
  have wa := (of_one ha).1
  have wb := (of_two hb).1
  obtain ⟨a1, a2, a3, a4⟩ := plain_all (of_one ha).2
  obtain ⟨b1, b2, b3, b4⟩ := paired_all (of_two hb).2.1
  rw [of_whole (whole_mk2 (k := 8) rfl (by decide +kernel) wa wb hl)]
  have hk := (kids_mk (k := 8) rfl (whole_tre wa) (whole_tre wb)).2
  have e0 : k0 (nOf 8 :: (a ++ b)) = a := by unfold k0; rw [hk]; rfl
  have e1 : k1 (nOf 8 :: (a ++ b)) = b := by unfold k1; rw [hk]; rfl
  have f1 := eq_8_1 (l := nOf 8 :: (a ++ b)) rfl
  rw [e0, a1, e1, b1] at f1
  have g1 : Is 1 (nOf 8 :: (a ++ b)) = false := f1
  have f2 := eq_8_2 (l := nOf 8 :: (a ++ b)) rfl
  have g2 : Is 2 (nOf 8 :: (a ++ b)) = false := f2
  have f3 := eq_8_3 (l := nOf 8 :: (a ++ b)) rfl
  rw [e0, a1, e1, b1, a3] at f3
  have g3 : Is 3 (nOf 8 :: (a ++ b)) = false := f3
  have f4 := eq_8_4 (l := nOf 8 :: (a ++ b)) rfl
  have g4 : Is 4 (nOf 8 :: (a ++ b)) = false := f4
  unfold first
  rw [g1, g2, g3, g4]
  rfl
theorem mk_10_12 {a b : List Nd} (ha : of a = 1) (hb : of b = 2) (hl : a.length + b.length < 200) : of (nOf 10 :: (a ++ b)) = 0 := by
  have wa := (of_one ha).1
  have wb := (of_two hb).1
  obtain ⟨a1, a2, a3, a4⟩ := plain_all (of_one ha).2
  obtain ⟨b1, b2, b3, b4⟩ := paired_all (of_two hb).2.1
  rw [of_whole (whole_mk2 (k := 10) rfl (by decide +kernel) wa wb hl)]
  have hk := (kids_mk (k := 10) rfl (whole_tre wa) (whole_tre wb)).2
  have e0 : k0 (nOf 10 :: (a ++ b)) = a := by unfold k0; rw [hk]; rfl
  have e1 : k1 (nOf 10 :: (a ++ b)) = b := by unfold k1; rw [hk]; rfl
  have f1 := eq_10_1 (l := nOf 10 :: (a ++ b)) rfl
  have g1 : Is 1 (nOf 10 :: (a ++ b)) = false := f1
  have f2 := eq_10_2 (l := nOf 10 :: (a ++ b)) rfl
  rw [e0, a1, e1, b1] at f2
  have g2 : Is 2 (nOf 10 :: (a ++ b)) = false := f2
  have f3 := eq_10_3 (l := nOf 10 :: (a ++ b)) rfl
  have g3 : Is 3 (nOf 10 :: (a ++ b)) = false := f3
  have f4 := eq_10_4 (l := nOf 10 :: (a ++ b)) rfl
  rw [e0, a1, e1, b1] at f4
  have g4 : Is 4 (nOf 10 :: (a ++ b)) = false := f4
  unfold first
  rw [g1, g2, g3, g4]
  rfl
theorem mk_5_21 {a b : List Nd} (ha : of a = 2) (hb : of b = 1) (hl : a.length + b.length < 200) : of (nOf 5 :: (a ++ b)) = 0 := by
  have wa := (of_two ha).1
  have wb := (of_one hb).1
  obtain ⟨a1, a2, a3, a4⟩ := paired_all (of_two ha).2.1
  obtain ⟨b1, b2, b3, b4⟩ := plain_all (of_one hb).2
  rw [of_whole (whole_mk2 (k := 5) rfl (by decide +kernel) wa wb hl)]
  have hk := (kids_mk (k := 5) rfl (whole_tre wa) (whole_tre wb)).2
  have e0 : k0 (nOf 5 :: (a ++ b)) = a := by unfold k0; rw [hk]; rfl
  have e1 : k1 (nOf 5 :: (a ++ b)) = b := by unfold k1; rw [hk]; rfl
  have f1 := eq_5_1 (l := nOf 5 :: (a ++ b)) rfl
  rw [e0, a1, e1, b1] at f1
  have g1 : Is 1 (nOf 5 :: (a ++ b)) = false := f1
  have f2 := eq_5_2 (l := nOf 5 :: (a ++ b)) rfl
  rw [e0, a2, e1, b2] at f2
  have g2 : Is 2 (nOf 5 :: (a ++ b)) = false := f2
  have f3 := eq_5_3 (l := nOf 5 :: (a ++ b)) rfl
  rw [e0, a1, e1, b1, a3] at f3
  have g3 : Is 3 (nOf 5 :: (a ++ b)) = false := f3
  have f4 := eq_5_4 (l := nOf 5 :: (a ++ b)) rfl
  rw [e0, a2, e1, b2, a4] at f4
  have g4 : Is 4 (nOf 5 :: (a ++ b)) = false := f4
  unfold first
  rw [g1, g2, g3, g4]
  rfl
theorem mk_6_21 {a b : List Nd} (ha : of a = 2) (hb : of b = 1) (hl : a.length + b.length < 200) : of (nOf 6 :: (a ++ b)) = 0 := by
  have wa := (of_two ha).1
  have wb := (of_one hb).1
  obtain ⟨a1, a2, a3, a4⟩ := paired_all (of_two ha).2.1
  obtain ⟨b1, b2, b3, b4⟩ := plain_all (of_one hb).2
  rw [of_whole (whole_mk2 (k := 6) rfl (by decide +kernel) wa wb hl)]
  have hk := (kids_mk (k := 6) rfl (whole_tre wa) (whole_tre wb)).2
  have e0 : k0 (nOf 6 :: (a ++ b)) = a := by unfold k0; rw [hk]; rfl
  have e1 : k1 (nOf 6 :: (a ++ b)) = b := by unfold k1; rw [hk]; rfl
  have f1 := eq_6_1 (l := nOf 6 :: (a ++ b)) rfl
  rw [e0, a1, e1, b1] at f1
  have g1 : Is 1 (nOf 6 :: (a ++ b)) = false := f1
  have f2 := eq_6_2 (l := nOf 6 :: (a ++ b)) rfl
  rw [e0, a2, e1, b2] at f2
  have g2 : Is 2 (nOf 6 :: (a ++ b)) = false := f2
  have f3 := eq_6_3 (l := nOf 6 :: (a ++ b)) rfl
  rw [e0, a1, e1, b1] at f3
  have g3 : Is 3 (nOf 6 :: (a ++ b)) = false := f3
  have f4 := eq_6_4 (l := nOf 6 :: (a ++ b)) rfl
  rw [e0, a2, e1, b2] at f4
  have g4 : Is 4 (nOf 6 :: (a ++ b)) = false := f4
  unfold first
  rw [g1, g2, g3, g4]
  rfl
theorem mk_7_21 {a b : List Nd} (ha : of a = 2) (hb : of b = 1) (hl : a.length + b.length < 200) : of (nOf 7 :: (a ++ b)) = 0 := by
  have wa := (of_two ha).1
  have wb := (of_one hb).1
  obtain ⟨a1, a2, a3, a4⟩ := paired_all (of_two ha).2.1
  obtain ⟨b1, b2, b3, b4⟩ := plain_all (of_one hb).2
  rw [of_whole (whole_mk2 (k := 7) rfl (by decide +kernel) wa wb hl)]
  have hk := (kids_mk (k := 7) rfl (whole_tre wa) (whole_tre wb)).2
  have e0 : k0 (nOf 7 :: (a ++ b)) = a := by unfold k0; rw [hk]; rfl
  have e1 : k1 (nOf 7 :: (a ++ b)) = b := by unfold k1; rw [hk]; rfl
  have f1 := eq_7_1 (l := nOf 7 :: (a ++ b)) rfl
  rw [e0, a1, e1, b1] at f1
  have g1 : Is 1 (nOf 7 :: (a ++ b)) = false := f1
  have f2 := eq_7_2 (l := nOf 7 :: (a ++ b)) rfl
  rw [e0, a2, e1, b2] at f2
  have g2 : Is 2 (nOf 7 :: (a ++ b)) = false := f2
  have f3 := eq_7_3 (l := nOf 7 :: (a ++ b)) rfl
  rw [e0, a1, e1, b1, a3, b3] at f3
  have g3 : Is 3 (nOf 7 :: (a ++ b)) = false := f3
  have f4 := eq_7_4 (l := nOf 7 :: (a ++ b)) rfl
  rw [e0, a2, e1, b2, a4, b4] at f4
  have g4 : Is 4 (nOf 7 :: (a ++ b)) = false := f4
  unfold first
  rw [g1, g2, g3, g4]
  rfl
theorem mk_8_21 {a b : List Nd} (ha : of a = 2) (hb : of b = 1) (hl : a.length + b.length < 200) : of (nOf 8 :: (a ++ b)) = 0 := by
  have wa := (of_two ha).1
  have wb := (of_one hb).1
  obtain ⟨a1, a2, a3, a4⟩ := paired_all (of_two ha).2.1
  obtain ⟨b1, b2, b3, b4⟩ := plain_all (of_one hb).2
  rw [of_whole (whole_mk2 (k := 8) rfl (by decide +kernel) wa wb hl)]
  have hk := (kids_mk (k := 8) rfl (whole_tre wa) (whole_tre wb)).2
  have e0 : k0 (nOf 8 :: (a ++ b)) = a := by unfold k0; rw [hk]; rfl
  have e1 : k1 (nOf 8 :: (a ++ b)) = b := by unfold k1; rw [hk]; rfl
  have f1 := eq_8_1 (l := nOf 8 :: (a ++ b)) rfl
  rw [e0, a1, e1, b1] at f1
  have g1 : Is 1 (nOf 8 :: (a ++ b)) = false := f1
  have f2 := eq_8_2 (l := nOf 8 :: (a ++ b)) rfl
  have g2 : Is 2 (nOf 8 :: (a ++ b)) = false := f2
  have f3 := eq_8_3 (l := nOf 8 :: (a ++ b)) rfl
  rw [e0, a1, e1, b1, a3] at f3
  have g3 : Is 3 (nOf 8 :: (a ++ b)) = false := f3
  have f4 := eq_8_4 (l := nOf 8 :: (a ++ b)) rfl
  have g4 : Is 4 (nOf 8 :: (a ++ b)) = false := f4
  unfold first
  rw [g1, g2, g3, g4]
  rfl
theorem mk_10_21 {a b : List Nd} (ha : of a = 2) (hb : of b = 1) (hl : a.length + b.length < 200) : of (nOf 10 :: (a ++ b)) = 0 := by
  have wa := (of_two ha).1
  have wb := (of_one hb).1
  obtain ⟨a1, a2, a3, a4⟩ := paired_all (of_two ha).2.1
  obtain ⟨b1, b2, b3, b4⟩ := plain_all (of_one hb).2
  rw [of_whole (whole_mk2 (k := 10) rfl (by decide +kernel) wa wb hl)]
  have hk := (kids_mk (k := 10) rfl (whole_tre wa) (whole_tre wb)).2
  have e0 : k0 (nOf 10 :: (a ++ b)) = a := by unfold k0; rw [hk]; rfl
  have e1 : k1 (nOf 10 :: (a ++ b)) = b := by unfold k1; rw [hk]; rfl
  have f1 := eq_10_1 (l := nOf 10 :: (a ++ b)) rfl
  have g1 : Is 1 (nOf 10 :: (a ++ b)) = false := f1
  have f2 := eq_10_2 (l := nOf 10 :: (a ++ b)) rfl
  rw [e0, a1, e1, b1] at f2
  have g2 : Is 2 (nOf 10 :: (a ++ b)) = false := f2
  have f3 := eq_10_3 (l := nOf 10 :: (a ++ b)) rfl
  have g3 : Is 3 (nOf 10 :: (a ++ b)) = false := f3
  have f4 := eq_10_4 (l := nOf 10 :: (a ++ b)) rfl
  rw [e0, a1, e1, b1] at f4
  have g4 : Is 4 (nOf 10 :: (a ++ b)) = false := f4
  unfold first
  rw [g1, g2, g3, g4]
  rfl
theorem mk_5_22 {a b : List Nd} (ha : of a = 2) (hb : of b = 2) (hl : a.length + b.length < 200) : of (nOf 5 :: (a ++ b)) = 2 := by
  have wa := (of_two ha).1
  have wb := (of_two hb).1
  obtain ⟨a1, a2, a3, a4⟩ := paired_all (of_two ha).2.1
  obtain ⟨b1, b2, b3, b4⟩ := paired_all (of_two hb).2.1
  rw [of_whole (whole_mk2 (k := 5) rfl (by decide +kernel) wa wb hl)]
  have hk := (kids_mk (k := 5) rfl (whole_tre wa) (whole_tre wb)).2
  have e0 : k0 (nOf 5 :: (a ++ b)) = a := by unfold k0; rw [hk]; rfl
  have e1 : k1 (nOf 5 :: (a ++ b)) = b := by unfold k1; rw [hk]; rfl
  have f2 := eq_5_2 (l := nOf 5 :: (a ++ b)) rfl
  rw [e0, a2, e1, b2] at f2
  have g2 : Is 2 (nOf 5 :: (a ++ b)) = true := f2
  exact first_paired g2
theorem mk_6_22 {a b : List Nd} (ha : of a = 2) (hb : of b = 2) (hl : a.length + b.length < 200) : of (nOf 6 :: (a ++ b)) = 2 := by
  have wa := (of_two ha).1
  have wb := (of_two hb).1
  obtain ⟨a1, a2, a3, a4⟩ := paired_all (of_two ha).2.1
  obtain ⟨b1, b2, b3, b4⟩ := paired_all (of_two hb).2.1
  rw [of_whole (whole_mk2 (k := 6) rfl (by decide +kernel) wa wb hl)]
  have hk := (kids_mk (k := 6) rfl (whole_tre wa) (whole_tre wb)).2
  have e0 : k0 (nOf 6 :: (a ++ b)) = a := by unfold k0; rw [hk]; rfl
  have e1 : k1 (nOf 6 :: (a ++ b)) = b := by unfold k1; rw [hk]; rfl
  have f2 := eq_6_2 (l := nOf 6 :: (a ++ b)) rfl
  rw [e0, a2, e1, b2] at f2
  have g2 : Is 2 (nOf 6 :: (a ++ b)) = true := f2
  exact first_paired g2
theorem mk_7_22 {a b : List Nd} (ha : of a = 2) (hb : of b = 2) (hl : a.length + b.length < 200) : of (nOf 7 :: (a ++ b)) = 2 := by
  have wa := (of_two ha).1
  have wb := (of_two hb).1
  obtain ⟨a1, a2, a3, a4⟩ := paired_all (of_two ha).2.1
  obtain ⟨b1, b2, b3, b4⟩ := paired_all (of_two hb).2.1
  rw [of_whole (whole_mk2 (k := 7) rfl (by decide +kernel) wa wb hl)]
  have hk := (kids_mk (k := 7) rfl (whole_tre wa) (whole_tre wb)).2
  have e0 : k0 (nOf 7 :: (a ++ b)) = a := by unfold k0; rw [hk]; rfl
  have e1 : k1 (nOf 7 :: (a ++ b)) = b := by unfold k1; rw [hk]; rfl
  have f2 := eq_7_2 (l := nOf 7 :: (a ++ b)) rfl
  rw [e0, a2, e1, b2] at f2
  have g2 : Is 2 (nOf 7 :: (a ++ b)) = true := f2
  exact first_paired g2
theorem mk_8_22 {a b : List Nd} (ha : of a = 2) (hb : of b = 2) (hl : a.length + b.length < 200) : of (nOf 8 :: (a ++ b)) = 0 := by
  have wa := (of_two ha).1
  have wb := (of_two hb).1
  obtain ⟨a1, a2, a3, a4⟩ := paired_all (of_two ha).2.1
  obtain ⟨b1, b2, b3, b4⟩ := paired_all (of_two hb).2.1
  rw [of_whole (whole_mk2 (k := 8) rfl (by decide +kernel) wa wb hl)]
  have hk := (kids_mk (k := 8) rfl (whole_tre wa) (whole_tre wb)).2
  have e0 : k0 (nOf 8 :: (a ++ b)) = a := by unfold k0; rw [hk]; rfl
  have e1 : k1 (nOf 8 :: (a ++ b)) = b := by unfold k1; rw [hk]; rfl
  have f1 := eq_8_1 (l := nOf 8 :: (a ++ b)) rfl
  rw [e0, a1, e1, b1] at f1
  have g1 : Is 1 (nOf 8 :: (a ++ b)) = false := f1
  have f2 := eq_8_2 (l := nOf 8 :: (a ++ b)) rfl
  have g2 : Is 2 (nOf 8 :: (a ++ b)) = false := f2
  have f3 := eq_8_3 (l := nOf 8 :: (a ++ b)) rfl
  rw [e0, a1, e1, b1, a3] at f3
  have g3 : Is 3 (nOf 8 :: (a ++ b)) = false := f3
  have f4 := eq_8_4 (l := nOf 8 :: (a ++ b)) rfl
  have g4 : Is 4 (nOf 8 :: (a ++ b)) = false := f4
  unfold first
  rw [g1, g2, g3, g4]
  rfl
theorem mk_10_22 {a b : List Nd} (ha : of a = 2) (hb : of b = 2) (hl : a.length + b.length < 200) : of (nOf 10 :: (a ++ b)) = 0 := by
  have wa := (of_two ha).1
  have wb := (of_two hb).1
  obtain ⟨a1, a2, a3, a4⟩ := paired_all (of_two ha).2.1
  obtain ⟨b1, b2, b3, b4⟩ := paired_all (of_two hb).2.1
  rw [of_whole (whole_mk2 (k := 10) rfl (by decide +kernel) wa wb hl)]
  have hk := (kids_mk (k := 10) rfl (whole_tre wa) (whole_tre wb)).2
  have e0 : k0 (nOf 10 :: (a ++ b)) = a := by unfold k0; rw [hk]; rfl
  have e1 : k1 (nOf 10 :: (a ++ b)) = b := by unfold k1; rw [hk]; rfl
  have f1 := eq_10_1 (l := nOf 10 :: (a ++ b)) rfl
  have g1 : Is 1 (nOf 10 :: (a ++ b)) = false := f1
  have f2 := eq_10_2 (l := nOf 10 :: (a ++ b)) rfl
  rw [e0, a1, e1, b1] at f2
  have g2 : Is 2 (nOf 10 :: (a ++ b)) = false := f2
  have f3 := eq_10_3 (l := nOf 10 :: (a ++ b)) rfl
  have g3 : Is 3 (nOf 10 :: (a ++ b)) = false := f3
  have f4 := eq_10_4 (l := nOf 10 :: (a ++ b)) rfl
  rw [e0, a1, e1, b1] at f4
  have g4 : Is 4 (nOf 10 :: (a ++ b)) = false := f4
  unfold first
  rw [g1, g2, g3, g4]
  rfl
end Go.Proofs.Ytdhaghabhdeakaa.So

namespace Go.Proofs.Ytdhaghabhdeakaa.Pa
open Go Go.RowKit Rw So
set_option maxRecDepth 20000

/-- A row, and the tree that it is. -/
def Cv : Tm → List Nd → Prop
  | .leaf x, l => l = [x] ∧ 1 ≤ x.k ∧ x.k ≤ 4
  | .blk a, l => Tre l ∧ So.hd l = 9 ∧ ∃ la, kids l = [la] ∧ Cv a la ∧ l = nOf 9 :: la
  | .bin k a b, l => Tre l ∧ So.hd l = k ∧ ∃ la lb, kids l = [la, lb] ∧ Cv a la ∧ Cv b lb ∧ l = nOf k :: (la ++ lb)
theorem Cv.row : ∀ {t : Tm} {l : List Nd}, Cv t l → t.row = l
  | .leaf x, l, h => h.1.symm
  | .blk a, l, h => by
    obtain ⟨_, _, la, _, ha, rfl⟩ := h
    show nOf 9 :: a.row = _
    rw [ha.row]
  | .bin k a b, l, h => by
    obtain ⟨_, _, la, lb, _, ha, hb, rfl⟩ := h
    show nOf k :: (a.row ++ b.row) = _
    rw [ha.row, hb.row]
theorem flat_of {l : List Nd} (h : Tre l) : ∃ n, So.hd l = n.k ∧ l = n :: (kids l).flatten ∧ n ∈ l := by
  cases l with
  | nil => exact absurd h.pos (Nat.lt_irrefl 0)
  | cons n r =>
    have hs : size (n :: r) ≠ 0 := by rw [h.size]; simp
    have := kids_flat hs
    rw [h.size, List.take_length] at this
    exact ⟨n, rfl, this.symm, List.mem_cons_self⟩
theorem bare_of {x : Nd} (h : rgt x = true) (h1 : ¬ x.k = 1) (h2 : ¬ (x.k = 11 ∨ x.k = 14)) : x = nOf x.k := by
  obtain ⟨k, n, s⟩ := x
  have h0 : ¬ ar k < 0 := fun h0 => by
    unfold rgt at h
    rw [if_pos h0] at h
    cases h
  rw [rgt_other n s h0 h1 h2] at h
  simp only [Bool.and_eq_true, decide_eq_true_eq, beq_iff_eq] at h
  obtain ⟨h3, rfl⟩ := h
  rw [empty_of h3]
  rfl
theorem act_of {x : Nd} (h : rgt x = true) (h1 : x.k = 1) : name (word x) = [x] ∧ To.named (word x) = true := by
  obtain ⟨k, n, s⟩ := x
  simp only at h1
  subst h1
  rw [rgt_act n s] at h
  simp only [Bool.and_eq_true, decide_eq_true_eq, beq_iff_eq, Bool.not_eq_true'] at h
  obtain ⟨⟨⟨hl, h1, h8⟩, rfl⟩, hw⟩ := h
  have hn : ¬ (n = w1 ∨ n = w2 ∨ n = w3 ∨ n = w4 ∨ n = w5 ∨ n = w6) := of_decide_eq_false hw
  simp only [not_or] at hn
  obtain ⟨g1, g2, g3, g4, g5, g6⟩ := hn
  have hwd : word ⟨1, n, 0⟩ = n := rfl
  rw [hwd]
  constructor
  · unfold name
    rw [if_neg g1, if_neg g2, if_neg g3, if_neg g4, if_neg g5, if_neg g6]
  · unfold To.named
    rw [show n.data.toList.all To.letB = true from hl, decide_eq_true h1, decide_eq_true h8]
    rfl
theorem leaf_of {x : Nd} (h : rgt x = true) (hk : x.k = 1 ∨ x.k = 2 ∨ x.k = 3 ∨ x.k = 4) : (Tm.leaf x).ok ∧ (Tm.leaf x).nam := by
  rcases hk with h1 | h1 | h1 | h1
  · exact act_of h h1
  all_goals
    have hx := bare_of h (by omega) (by omega)
    rw [h1] at hx
    subst hx
    exact ⟨(by show name (word _) = _; decide +kernel), (by show To.named (word _) = true; decide +kernel)⟩
theorem all_kid {n : Nd} {ls : List (List Nd)} {r : List Nd} (h : (n :: ls.flatten).all rgt = true) (hr : r ∈ ls) : r.all rgt = true := by
  rw [List.all_eq_true] at h ⊢
  exact fun x hx => h x (List.mem_cons_of_mem _ (List.mem_flatten.2 ⟨r, hr, hx⟩))
/-- A right row is a tree of the grammar, its names may be. -/
theorem conv : ∀ (m : Nat) (l : List Nd), l.length ≤ m → Tre l → l.all rgt = true → (Is 1 l = true ∨ Is 2 l = true) → ∃ t, Cv t l ∧ t.ok ∧ t.nam
  | 0, l, hm, ht, _, _ => by have := ht.pos; omega
  | m + 1, l, hm, ht, hr, hi => by
    obtain ⟨n, hhd, hfl, hmem⟩ := flat_of ht
    have hrn : rgt n = true := List.all_eq_true.1 hr n hmem
    rw [Is_one, Is_two] at hi
    unfold plainB pairedB at hi
    by_cases hk : So.hd l = 1 ∨ So.hd l = 2 ∨ So.hd l = 3 ∨ So.hd l = 4
    · have h0 : Rw.ar (So.hd l) = 0 := by rcases hk with h | h | h | h <;> rw [h] <;> decide
      have hkids : kids l = [] := List.eq_nil_of_length_eq_zero (by rw [ht.kids.1, h0]; rfl)
      rw [hkids] at hfl
      have hl : l = [n] := hfl
      rw [hhd] at hk
      exact ⟨.leaf n, ⟨hl, by omega, by omega⟩, leaf_of hrn hk⟩
    · rw [if_neg hk] at hi
      have htwo : ∀ (s1 s2 : Nat), (s1 = 1 ∨ s1 = 2) → (s2 = 1 ∨ s2 = 2) → (So.hd l = 5 ∨ So.hd l = 6 ∨ So.hd l = 7 ∨ So.hd l = 8 ∨ So.hd l = 10) → Is s1 (k0 l) = true → Is s2 (k1 l) = true → ∃ t, Cv t l ∧ t.ok ∧ t.nam := by
        intro s1 s2 hs1 hs2 hkk i1 i2
        have h2 : Rw.ar (So.hd l) = 2 := by rcases hkk with h | h | h | h | h <;> rw [h] <;> decide
        obtain ⟨a, b, hkids, ta, tb, la, lb⟩ := ht.two h2
        have e0 : k0 l = a := by unfold k0; rw [hkids]; rfl
        have e1 : k1 l = b := by unfold k1; rw [hkids]; rfl
        rw [e0] at i1
        rw [e1] at i2
        have hra : a.all rgt = true := all_kid (n := n) (ls := kids l) (by rw [← hfl]; exact hr) (by rw [hkids]; simp)
        have hrb : b.all rgt = true := all_kid (n := n) (ls := kids l) (by rw [← hfl]; exact hr) (by rw [hkids]; simp)
        obtain ⟨x, cx, ox, nx⟩ := conv m a (by omega) ta hra (by rcases hs1 with rfl | rfl; exact Or.inl i1; exact Or.inr i1)
        obtain ⟨y, cy, oy, ny⟩ := conv m b (by omega) tb hrb (by rcases hs2 with rfl | rfl; exact Or.inl i2; exact Or.inr i2)
        have hn : n = nOf (So.hd l) := by
          rw [hhd] at hkk ⊢
          exact bare_of hrn (by omega) (by omega)
        refine ⟨.bin (So.hd l) x y, ⟨ht, rfl, a, b, hkids, cx, cy, ?_⟩, ⟨hkk, ox, oy⟩, nx, ny⟩
        have : l = n :: (kids l).flatten := hfl
        rw [hkids] at this
        rw [← hn]
        simpa using this
      by_cases h9 : So.hd l = 9
      · have hpair : ¬ So.hd l = 10 := by omega
        have hpar : ¬ (So.hd l = 5 ∨ So.hd l = 6 ∨ So.hd l = 7) := by omega
        have hpl : ¬ (So.hd l = 5 ∨ So.hd l = 6 ∨ So.hd l = 7 ∨ So.hd l = 8) := by omega
        rw [if_neg hpl, if_pos h9, if_neg hpair, if_neg hpar] at hi
        have i2 : Is 2 (k0 l) = true := hi.resolve_right (by decide)
        have h1 : Rw.ar (So.hd l) = 1 := by rw [h9]; decide
        obtain ⟨a, hkids, ta, la⟩ := ht.one h1
        have e0 : k0 l = a := by unfold k0; rw [hkids]; rfl
        rw [e0] at i2
        have hra : a.all rgt = true := all_kid (n := n) (ls := kids l) (by rw [← hfl]; exact hr) (by rw [hkids]; simp)
        obtain ⟨x, cx, ox, nx⟩ := conv m a (by omega) ta hra (Or.inr i2)
        have hn : n = nOf 9 := by
          rw [← h9, hhd]
          exact bare_of hrn (by omega) (by omega)
        refine ⟨.blk x, ⟨ht, h9, a, hkids, cx, ?_⟩, ox, nx⟩
        have : l = n :: (kids l).flatten := hfl
        rw [hkids] at this
        rw [← hn]
        simpa using this
      · rw [if_neg h9] at hi
        rcases hi with hi | hi
        · split at hi
          · rename_i hpl
            rw [Bool.and_eq_true] at hi
            exact htwo 1 1 (Or.inl rfl) (Or.inl rfl) (by omega) hi.1 hi.2
          · cases hi
        · split at hi
          · rename_i hpl
            rw [Bool.and_eq_true] at hi
            exact htwo 1 1 (Or.inl rfl) (Or.inl rfl) (by omega) hi.1 hi.2
          · split at hi
            · rename_i hpl
              rw [Bool.and_eq_true] at hi
              exact htwo 2 2 (Or.inr rfl) (Or.inr rfl) (by omega) hi.1 hi.2
            · cases hi
end Go.Proofs.Ytdhaghabhdeakaa.Pa
