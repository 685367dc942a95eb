/- Plain: the sorts of kids, of blocks, of what is made of two. -/
import Derived.Test.YtpkbpooiaddcaaaSon
namespace Go.Proofs.Ytpkbpooiaddcaaa.So
open Go Go.Proofs.Ytpkbpooiaddcaaa.Rw

theorem not_both {l : List Nd} (h3 : Is 3 l = true) : Is 4 l = false := by
  cases h : Is 4 l with
  | false => rfl
  | true => exact absurd ⟨h3, h⟩ (apart _ l (Nat.le_refl _))
theorem not_both' {l : List Nd} (h4 : Is 4 l = true) : Is 3 l = false := by
  cases h : Is 3 l with
  | false => rfl
  | true => exact absurd ⟨h, h4⟩ (apart _ l (Nat.le_refl _))
theorem not_two {l : List Nd} (h : Is 4 l = false) : Is 2 l = false := by
  cases h2 : Is 2 l with
  | false => rfl
  | true => rw [two_four h2] at h; cases h
theorem not_one {l : List Nd} (h : Is 3 l = false) : Is 1 l = false := by
  cases h1 : Is 1 l with
  | false => rfl
  | true => rw [one_three h1] at h; cases h
theorem plain_all {l : List Nd} (h : Is 1 l = true) : Is 1 l = true ∧ Is 2 l = false ∧ Is 3 l = true ∧ Is 4 l = false :=
  ⟨h, not_two (not_both (one_three h)), one_three h, not_both (one_three h)⟩
theorem paired_all {l : List Nd} (h : Is 2 l = true) : Is 1 l = false ∧ Is 2 l = true ∧ Is 3 l = false ∧ Is 4 l = true :=
  ⟨not_one (not_both' (two_four h)), h, not_both' (two_four h), two_four h⟩
theorem whole_mk {l : List Nd} (hr : l.all rgt = true) (ht : Tre l) (hl : l.length ≤ 200) : whole l = true := by
  unfold whole
  simp only [Bool.and_eq_true, decide_eq_true_eq]
  exact ⟨⟨hr, ht.pos, hl⟩, ht.size⟩
theorem whole_rgt {l : List Nd} (h : whole l = true) : l.all rgt = true := by
  unfold whole at h
  simp only [Bool.and_eq_true] at h
  exact h.1.1
theorem of_whole {l : List Nd} (h : whole l = true) : of l = first l := by
  unfold of
  rw [h]
  rfl
theorem of_not {l : List Nd} (h : whole l = false) : of l = 0 := by
  unfold of
  rw [h]
  rfl
theorem kid_whole {l r : List Nd} (h : whole l = true) (hr : r ∈ kids l) : whole r = true := by
  have ht := whole_tre h
  obtain ⟨x, _, he⟩ := ht.flat
  refine whole_mk ?_ (ht.kids.2 r hr) (by have := kids_short hr; have := whole_len h; omega)
  rw [List.all_eq_true]
  intro y hy
  have : y ∈ l := by
    rw [he]
    exact List.mem_cons_of_mem _ (List.mem_flatten.2 ⟨r, hr, hy⟩)
  exact List.all_eq_true.1 (whole_rgt h) y this
theorem first_plain {l : List Nd} (h : Is 1 l = true) : first l = 1 := by unfold first; rw [h]; rfl
theorem first_paired {l : List Nd} (h : Is 2 l = true) : first l = 2 := by
  obtain ⟨h1, h2, _, _⟩ := paired_all h
  unfold first
  rw [h1, h2]
  rfl
/-- The kids of a plain term. -/
theorem kid_of {l : List Nd} (h : of l = 1) : ∀ r ∈ kids l, of r = if hd l = 9 then 2 else 1 := by
  intro r hr
  obtain ⟨hw, hi⟩ := of_one h
  have ht := whole_tre hw
  rw [of_whole (kid_whole hw hr)]
  rcases kinds ht.ar with hk | hk | hk | hk | hk | hk | hk | hk | hk | hk | hk | hk | hk | hk
  case inr.inr.inr.inr.inr.inr.inr.inr.inl =>
    obtain ⟨a, ha, _, _⟩ := ht.one (by rw [hk]; rfl)
    rw [eq_9_1 hk] at hi
    have e : k0 l = a := by unfold k0; rw [ha]; rfl
    rw [e] at hi
    rw [ha, List.mem_singleton] at hr
    subst hr
    rw [hk, if_pos rfl]
    exact first_paired hi
  all_goals
    rw [hk, if_neg (by decide)]
    first
      | (exfalso
         have hn := ht.kids.1
         rw [hk] at hn
         have : kids l = [] := List.eq_nil_of_length_eq_zero hn
         rw [this] at hr
         cases hr)
      | (exfalso
         first
           | (rw [eq_10_1 hk] at hi; cases hi; done)
           | (rw [eq_12_1 hk] at hi; cases hi; done)
           | (rw [eq_13_1 hk] at hi; cases hi; done)
           | (rw [eq_14_1 hk] at hi; cases hi; done))
      | (obtain ⟨a, b, ha, _⟩ := ht.two (by rw [hk]; rfl)
         have e0 : k0 l = a := by unfold k0; rw [ha]; rfl
         have e1 : k1 l = b := by unfold k1; rw [ha]; rfl
         have hh : (Is 1 a && Is 1 b) = true := by
           first
             | (rw [eq_5_1 hk, e0, e1] at hi; exact hi)
             | (rw [eq_6_1 hk, e0, e1] at hi; exact hi)
             | (rw [eq_7_1 hk, e0, e1] at hi; exact hi)
             | (rw [eq_8_1 hk, e0, e1] at hi; exact hi)
         rw [Bool.and_eq_true] at hh
         rw [ha] at hr
         simp only [List.mem_cons, List.not_mem_nil, or_false] at hr
         rcases hr with rfl | rfl
         · exact first_plain hh.1
         · exact first_plain hh.2)

/-- A block of one. -/
def nBlk : Nd := ⟨9, ⟨#[]⟩, 0⟩
theorem T_blk (l : List Nd) : T (nBlk :: l) = match T l with | none => none | some (c, d) => some (c + 1, d + 1) := by
  rw [T_cons, if_neg (show ¬ ar nBlk.k < 0 by decide), show (ar nBlk.k).toNat = 0 + 1 from rfl, S_succ, S_zero]
  simp only [List.drop_zero]
  cases T l with
  | none => rfl
  | some x => obtain ⟨c, d⟩ := x; simp
theorem tre_blk {l : List Nd} : Tre (nBlk :: l) ↔ Tre l := by
  unfold Tre
  rw [T_blk]
  cases T l with
  | none => simp
  | some x => obtain ⟨c, d⟩ := x; simp
theorem kids_blk {l : List Nd} (h : Tre l) : kids (nBlk :: l) = [l] := by
  have ht := tre_blk.2 h
  obtain ⟨a, ha, _, _⟩ := ht.one rfl
  obtain ⟨x, _, he⟩ := ht.flat
  rw [ha] at he
  injection he with _ he
  simp at he
  rw [ha, he]
theorem whole_blk {l : List Nd} (hl : l.length < 200) : whole (nBlk :: l) = whole l := by
  cases h : whole l with
  | true =>
    refine whole_mk ?_ (tre_blk.2 (whole_tre h)) (by simp; omega)
    rw [List.all_cons, whole_rgt h]
    rfl
  | false =>
    cases h' : whole (nBlk :: l) with
    | false => rfl
    | true =>
      have hr := whole_rgt h'
      rw [List.all_cons, Bool.and_eq_true] at hr
      rw [whole_mk hr.2 (tre_blk.1 (whole_tre h')) (by omega)] at h
      cases h
/-- The sort of a block. -/
theorem of_blk {l : List Nd} (hl : l.length < 200) : of (nBlk :: l) = if of l = 2 then 1 else if of l = 4 then 3 else 0 := by
  cases hw : whole l with
  | false =>
    rw [of_not hw, of_not (by rw [whole_blk hl]; exact hw)]
    rfl
  | true =>
    have ht := whole_tre hw
    have hk := kids_blk ht
    have e : k0 (nBlk :: l) = l := by unfold k0; rw [hk]; rfl
    have b1 : Is 1 (nBlk :: l) = Is 2 l := by rw [eq_9_1 rfl, e]
    have b2 : Is 2 (nBlk :: l) = false := eq_9_2 rfl
    have b3 : Is 3 (nBlk :: l) = (Is 2 l || Is 4 l) := by rw [eq_9_3 rfl, e]
    have b4 : Is 4 (nBlk :: l) = false := by rw [eq_9_4 rfl]; rfl
    rw [of_whole (by rw [whole_blk hl]; exact hw), of_whole hw]
    cases h2 : Is 2 l with
    | true =>
      rw [first_paired h2, if_pos rfl]
      exact first_plain (by rw [b1]; exact h2)
    | false =>
      cases h4 : Is 4 l with
      | true =>
        have h3 := not_both' h4
        have h1 := not_one h3
        have f1 : first l = 4 := by unfold first; rw [h1, h2, h3, h4]; rfl
        have f2 : first (nBlk :: l) = 3 := by unfold first; rw [b1, b2, b3, h2, h4]; rfl
        rw [f1, f2]
        rfl
      | false =>
        have f2 : first (nBlk :: l) = 0 := by unfold first; rw [b1, b2, b3, b4, h2, h4]; rfl
        rw [f2]
        have : first l ≠ 2 ∧ first l ≠ 4 := by
          unfold first
          rw [h2, h4]
          constructor <;> (repeat' split) <;> simp_all
        rw [if_neg this.1, if_neg this.2]

/-- A node of two. -/
def nOf (k : Int) : Nd := ⟨k, ⟨#[]⟩, 0⟩
theorem kids_mk {k : Int} {a b : List Nd} (hk : ar k = 2) (ha : Tre a) (hb : Tre b) : Tre (nOf k :: (a ++ b)) ∧ kids (nOf k :: (a ++ b)) = [a, b] := by
  obtain ⟨d1, t1⟩ := ha
  obtain ⟨d2, t2⟩ := hb
  have a1 := T_append b t1
  have s1 : S 1 (a ++ b) = some (a.length, max 0 d1) := by
    rw [show (1 : Nat) = 0 + 1 from rfl, S_succ, S_zero]
    simp only [List.drop_zero, a1, Nat.zero_add]
  have dm : (a ++ b).drop a.length = b := by simp
  have s2 : S 2 (a ++ b) = some (a.length + b.length, max (max 0 d1) d2) := by
    rw [show (2 : Nat) = 1 + 1 from rfl, S_succ, s1]
    simp only [dm, t2]
  have hT : T (nOf k :: (a ++ b)) = some (a.length + b.length + 1, max (max 0 d1) d2 + 1) := by
    rw [T_cons, if_neg (show ¬ ar (nOf k).k < 0 by show ¬ ar k < 0; omega), show (ar (nOf k).k).toNat = 2 by show (ar k).toNat = 2; rw [hk]; rfl, s2]
  have ht : Tre (nOf k :: (a ++ b)) := ⟨_, by rw [hT, List.length_cons, List.length_append]⟩
  refine ⟨ht, ?_⟩
  obtain ⟨x, y, hxy, tx, ty, _, _⟩ := ht.two hk
  obtain ⟨_, _, he⟩ := ht.flat
  rw [hxy] at he
  injection he with _ he
  simp at he
  obtain ⟨dx, hx⟩ := tx
  have hx2 := T_append y hx
  rw [← he, a1] at hx2
  have hlen : a.length = x.length := by
    have := congrArg (fun o => o.map (·.1)) hx2
    simpa using this
  have h1 := congrArg (List.take a.length) he
  have h2 := congrArg (List.drop a.length) he
  rw [List.take_append_of_le_length (Nat.le_refl _), List.take_length, hlen, List.take_append_of_le_length (Nat.le_refl _), List.take_length] at h1
  rw [dm, hlen, List.drop_append_of_le_length (Nat.le_refl _), List.drop_length, List.nil_append] at h2
  rw [hxy, ← h1, ← h2]
theorem whole_mk2 {k : Int} {a b : List Nd} (hk : ar k = 2) (hr : rgt (nOf k) = true) (ha : whole a = true) (hb : whole b = true) (hl : a.length + b.length < 200) : whole (nOf k :: (a ++ b)) = true := by
  refine whole_mk ?_ (kids_mk hk (whole_tre ha) (whole_tre hb)).1 (by simp; omega)
  rw [List.all_cons, List.all_append, whole_rgt ha, whole_rgt hb, hr]
  rfl
end Go.Proofs.Ytpkbpooiaddcaaa.So
