/- Traces as plain data: their order, sets of them, rows mixed; no program is named here. -/
import Derived.WalkKit
namespace Go.Proofs.YtmhmfnjjdcdkcaaDoor.Tr
open Go

/-- Comes one text ahead of another, by bytes? -/
def ls (x y : ByteArray) : Bool := Op.bytesLess x.toList y.toList

theorem bl_irrefl : ∀ x : List UInt8, Op.bytesLess x x = false
  | [] => rfl
  | a :: x => by simp [Op.bytesLess, bl_irrefl x]
theorem bl_trans : ∀ x y z : List UInt8, Op.bytesLess x y = true → Op.bytesLess y z = true → Op.bytesLess x z = true
  | [], y, z, h1, h2 => by
    cases y <;> cases z <;> simp_all [Op.bytesLess]
  | a :: x, y, z, h1, h2 => by
    cases y with
    | nil => simp [Op.bytesLess] at h1
    | cons b y =>
      cases z with
      | nil => simp [Op.bytesLess] at h2
      | cons c z =>
        simp only [Op.bytesLess, Bool.or_eq_true, decide_eq_true_eq, Bool.and_eq_true, beq_iff_eq] at h1 h2 ⊢
        rcases h1 with h1 | ⟨rfl, h1⟩
        · rcases h2 with h2 | ⟨rfl, h2⟩
          · exact .inl (UInt8.lt_trans h1 h2)
          · exact .inl h1
        · rcases h2 with h2 | ⟨rfl, h2⟩
          · exact .inl h2
          · exact .inr ⟨rfl, bl_trans x y z h1 h2⟩
theorem bl_tri : ∀ x y : List UInt8, Op.bytesLess x y = false → Op.bytesLess y x = false → x = y
  | [], [], _, _ => rfl
  | [], _ :: _, h, _ => by simp [Op.bytesLess] at h
  | _ :: _, [], _, h => by simp [Op.bytesLess] at h
  | a :: x, b :: y, h1, h2 => by
    simp only [Op.bytesLess, Bool.or_eq_false_iff, decide_eq_false_iff_not, Bool.and_eq_false_iff, beq_eq_false_iff_ne] at h1 h2
    obtain ⟨h1, h1'⟩ := h1
    obtain ⟨h2, h2'⟩ := h2
    have e : a = b := by
      rw [UInt8.lt_iff_toNat_lt] at h1 h2
      exact UInt8.toNat_inj.1 (by omega)
    subst e
    rw [bl_tri x y (h1'.resolve_left (fun h => h rfl)) (h2'.resolve_left (fun h => h rfl))]

theorem toList_inj {x y : ByteArray} (h : x.toList = y.toList) : x = y := by
  rw [ByteArray.toList_eq, ByteArray.toList_eq] at h
  cases x; cases y
  simp at h
  rw [h]

theorem ls_irrefl (x : ByteArray) : ls x x = false := bl_irrefl _
theorem ls_trans {x y z : ByteArray} (h1 : ls x y = true) (h2 : ls y z = true) : ls x z = true := bl_trans _ _ _ h1 h2
theorem ls_tri {x y : ByteArray} (h1 : ls x y = false) (h2 : ls y x = false) : x = y := toList_inj (bl_tri _ _ h1 h2)
theorem ls_asymm {x y : ByteArray} (h : ls x y = true) : ls y x = false := by
  cases h2 : ls y x with
  | false => rfl
  | true =>
    have := ls_trans h h2
    rw [ls_irrefl] at this
    cases this

/-- How one row of actions stands to another. -/
def row : List ByteArray → List ByteArray → Int
  | x :: a, y :: b => if ls x y then -1 else if ls y x then 1 else row a b
  | a, b => (a.length : Int) - b.length

theorem row_nil_l (b : List ByteArray) : row [] b = - (b.length : Int) := by simp [row]
theorem row_nil_r (a : List ByteArray) : row a [] = (a.length : Int) := by cases a <;> simp [row]
theorem row_cons (x y : ByteArray) (a b : List ByteArray) : row (x :: a) (y :: b) = if ls x y then -1 else if ls y x then 1 else row a b := rfl

theorem row_self : ∀ a : List ByteArray, row a a = 0
  | [] => rfl
  | x :: a => by rw [row_cons, ls_irrefl]; exact row_self a
theorem row_eq0 : ∀ a b : List ByteArray, row a b = 0 → a = b
  | [], b, h => by
    rw [row_nil_l] at h
    exact (List.eq_nil_of_length_eq_zero (by omega)).symm
  | x :: a, [], h => by
    rw [row_nil_r] at h
    simp at h
    omega
  | x :: a, y :: b, h => by
    rw [row_cons] at h
    cases h1 : ls x y with
    | true => simp [h1] at h
    | false =>
      cases h2 : ls y x with
      | true => simp [h1, h2] at h
      | false =>
        simp [h1, h2] at h
        rw [ls_tri h1 h2, row_eq0 a b h]
theorem row_anti : ∀ a b : List ByteArray, row a b < 0 ↔ 0 < row b a
  | [], b => by rw [row_nil_l, row_nil_r]; omega
  | x :: a, [] => by rw [row_nil_l, row_nil_r]; omega
  | x :: a, y :: b => by
    rw [row_cons, row_cons]
    cases h1 : ls x y with
    | true => simp [ls_asymm h1]
    | false =>
      cases h2 : ls y x with
      | true => simp
      | false => simpa using row_anti a b
theorem row_trans : ∀ a b c : List ByteArray, row a b < 0 → row b c < 0 → row a c < 0
  | [], b, c, h1, h2 => by
    rw [row_nil_l] at h1 ⊢
    cases c with
    | nil => rw [row_nil_r] at h2; omega
    | cons z c => simp
  | x :: a, [], c, h1, h2 => by rw [row_nil_r] at h1; omega
  | x :: a, y :: b, [], h1, h2 => by rw [row_nil_r] at h2; omega
  | x :: a, y :: b, z :: c, h1, h2 => by
    rw [row_cons] at h1 h2 ⊢
    cases hxy : ls x y with
    | true =>
      cases hyz : ls y z with
      | true => simp [ls_trans hxy hyz]
      | false =>
        cases hzy : ls z y with
        | true => simp [hyz, hzy] at h2
        | false => rw [← ls_tri hyz hzy, hxy]; simp
    | false =>
      cases hyx : ls y x with
      | true => simp [hxy, hyx] at h1
      | false =>
        obtain rfl := ls_tri hxy hyx
        cases hyz : ls x z with
        | true => simp
        | false =>
          cases hzy : ls z x with
          | true => simp [hyz, hzy] at h2
          | false =>
            simp [hxy] at h1
            simp [hyz, hzy] at h2
            simpa using row_trans a b c h1 h2

/-- What was done, and how it ended. -/
structure Tr where
  a : List ByteArray
  e : Int

/-- Which of two comes ahead: -1, 0, 1. -/
def cmp (p q : Tr) : Int :=
  if row p.a q.a < 0 then -1 else if 0 < row p.a q.a then 1 else if p.e < q.e then -1 else if q.e < p.e then 1 else 0

theorem cmp_bd (p q : Tr) : -1 ≤ cmp p q ∧ cmp p q ≤ 1 := by unfold cmp; repeat' split; all_goals omega
theorem cmp_self (p : Tr) : cmp p p = 0 := by simp [cmp, row_self]
theorem cmp_eq0 {p q : Tr} (h : cmp p q = 0) : p = q := by
  unfold cmp at h
  have h1 : ¬ row p.a q.a < 0 := fun hh => by rw [if_pos hh] at h; omega
  rw [if_neg h1] at h
  have h2 : ¬ 0 < row p.a q.a := fun hh => by rw [if_pos hh] at h; omega
  rw [if_neg h2] at h
  have h3 : ¬ p.e < q.e := fun hh => by rw [if_pos hh] at h; omega
  rw [if_neg h3] at h
  have h4 : ¬ q.e < p.e := fun hh => by rw [if_pos hh] at h; omega
  cases p; cases q
  simp only [Tr.mk.injEq]
  exact ⟨row_eq0 _ _ (by simp at h1 h2 ⊢; omega), by simp at h3 h4 ⊢; omega⟩
theorem cmp_anti (p q : Tr) : cmp q p = - cmp p q := by
  have h1 := row_anti p.a q.a
  have h2 := row_anti q.a p.a
  unfold cmp
  by_cases a1 : row p.a q.a < 0
  · have := h1.1 a1
    rw [if_pos a1, if_neg (by omega), if_pos this]; rfl
  · rw [if_neg a1]
    by_cases a2 : 0 < row p.a q.a
    · rw [if_pos a2, if_pos (h2.2 a2)]
    · rw [if_neg a2, if_neg (fun hh => a2 (h2.1 hh)), if_neg (fun hh => a1 (h1.2 hh))]
      by_cases a3 : p.e < q.e
      · rw [if_pos a3, if_neg (by omega), if_pos a3]; rfl
      · rw [if_neg a3]
        by_cases a4 : q.e < p.e
        · rw [if_pos a4, if_pos a4, if_neg a3]
        · rw [if_neg a4, if_neg a4, if_neg a3]; rfl
theorem cmp_neg {p q : Tr} : cmp p q < 0 ↔ row p.a q.a < 0 ∨ (row p.a q.a = 0 ∧ p.e < q.e) := by
  unfold cmp
  repeat' split
  all_goals omega
theorem cmp_trans {p q r : Tr} (h1 : cmp p q < 0) (h2 : cmp q r < 0) : cmp p r < 0 := by
  rw [cmp_neg] at h1 h2 ⊢
  rcases h1 with h1 | ⟨h1, e1⟩
  · rcases h2 with h2 | ⟨h2, e2⟩
    · exact .inl (row_trans _ _ _ h1 h2)
    · rw [← row_eq0 _ _ h2]; exact .inl h1
  · rw [row_eq0 _ _ h1]
    rcases h2 with h2 | ⟨h2, e2⟩
    · exact .inl h2
    · exact .inr ⟨h2, by omega⟩
theorem cmp_tri {p q : Tr} (h1 : ¬ cmp p q < 0) (h2 : ¬ cmp q p < 0) : p = q := cmp_eq0 (by have := cmp_anti p q; omega)

/-- Rising, each once. -/
def Up (l : List Tr) : Prop := l.Pairwise fun p q => cmp p q < 0

theorem up_uniq : ∀ l m : List Tr, Up l → Up m → (∀ t, t ∈ l ↔ t ∈ m) → l = m
  | [], [], _, _, _ => rfl
  | [], q :: m, _, _, h => absurd ((h q).2 (by simp)) (by simp)
  | p :: l, [], _, _, h => absurd ((h p).1 (by simp)) (by simp)
  | p :: l, q :: m, hl, hm, h => by
    have hl' := List.pairwise_cons.1 hl
    have hm' := List.pairwise_cons.1 hm
    have e : p = q := by
      have h1 := (h p).1 (by simp)
      have h2 := (h q).2 (by simp)
      rcases List.mem_cons.1 h1 with h1 | h1
      · exact h1
      · rcases List.mem_cons.1 h2 with h2 | h2
        · exact h2.symm
        · have a := hl'.1 q h2
          have b := hm'.1 p h1
          have := cmp_trans a b
          rw [cmp_self] at this
          omega
    subst e
    rw [up_uniq l m hl'.2 hm'.2 fun t => ?_]
    constructor
    · intro ht
      rcases List.mem_cons.1 ((h t).1 (List.mem_cons_of_mem _ ht)) with rfl | ht'
      · have := hl'.1 t ht
        rw [cmp_self] at this
        omega
      · exact ht'
    · intro ht
      rcases List.mem_cons.1 ((h t).2 (List.mem_cons_of_mem _ ht)) with rfl | ht'
      · have := hm'.1 t ht
        rw [cmp_self] at this
        omega
      · exact ht'

/-- One put into a rising row. -/
def ins (t : Tr) : List Tr → List Tr
  | [] => [t]
  | p :: l => if cmp t p < 0 then t :: p :: l else if 0 < cmp t p then p :: ins t l else p :: l
theorem mem_ins (t u : Tr) : ∀ l : List Tr, u ∈ ins t l ↔ u = t ∨ u ∈ l
  | [] => by simp [ins]
  | p :: l => by
    unfold ins
    split
    · simp
    · split
      · simp only [List.mem_cons, mem_ins t u l]
        constructor
        · rintro (h | h | h) <;> simp [h]
        · rintro (h | h | h) <;> simp [h]
      · have e : t = p := cmp_eq0 (by have := cmp_bd t p; omega)
        subst e
        simp
theorem up_ins (t : Tr) : ∀ l : List Tr, Up l → Up (ins t l)
  | [], _ => by simp [ins, Up]
  | p :: l, h => by
    have h' := List.pairwise_cons.1 h
    unfold ins
    split
    · rename_i h1
      refine List.pairwise_cons.2 ⟨fun u hu => ?_, h⟩
      rcases List.mem_cons.1 hu with rfl | hu
      · exact h1
      · exact cmp_trans h1 (h'.1 u hu)
    · split
      · rename_i h1 h2
        refine List.pairwise_cons.2 ⟨fun u hu => ?_, up_ins t l h'.2⟩
        rcases (mem_ins t u l).1 hu with rfl | hu
        · have := cmp_anti u p; omega
        · exact h'.1 u hu
      · exact h
/-- The set of some traces: each once, rising. -/
def norm : List Tr → List Tr
  | [] => []
  | t :: l => ins t (norm l)
theorem up_norm : ∀ l : List Tr, Up (norm l)
  | [] => List.Pairwise.nil
  | t :: l => up_ins t _ (up_norm l)
theorem mem_norm (u : Tr) : ∀ l : List Tr, u ∈ norm l ↔ u ∈ l
  | [] => by simp [norm]
  | t :: l => by simp [norm, mem_ins, mem_norm u l]
theorem norm_eq {l r : List Tr} (hr : Up r) (h : ∀ t, t ∈ r ↔ t ∈ l) : r = norm l :=
  up_uniq _ _ hr (up_norm l) fun t => (h t).trans (mem_norm t l).symm
theorem norm_congr {l m : List Tr} (h : ∀ t, t ∈ l ↔ t ∈ m) : norm l = norm m :=
  norm_eq (up_norm l) fun t => (mem_norm t l).trans (h t)
theorem length_ins (t : Tr) : ∀ l : List Tr, (ins t l).length ≤ l.length + 1
  | [] => by simp [ins]
  | p :: l => by
    unfold ins
    split
    · simp
    · split
      · simp; exact length_ins t l
      · simp
theorem length_norm : ∀ l : List Tr, (norm l).length ≤ l.length
  | [] => Nat.le_refl _
  | t :: l => by have := length_ins t (norm l); have := length_norm l; simp [norm]; omega

/-- Two rising rows as one. -/
def mg : Nat → List Tr → List Tr → List Tr
  | 0, _, _ => []
  | _ + 1, [], b => b
  | _ + 1, a, [] => a
  | n + 1, x :: a, y :: b => if cmp x y < 0 then x :: mg n a (y :: b) else if cmp x y = 0 then x :: mg n a b else y :: mg n (x :: a) b
theorem mem_mg (t : Tr) : ∀ (n : Nat) (a b : List Tr), a.length + b.length < n → (t ∈ mg n a b ↔ t ∈ a ∨ t ∈ b)
  | 0, a, b, h => by omega
  | n + 1, [], b, h => by simp [mg]
  | n + 1, x :: a, [], h => by simp [mg]
  | n + 1, x :: a, y :: b, h => by
    simp only [List.length_cons] at h
    unfold mg
    split
    · rw [List.mem_cons, mem_mg t n a (y :: b) (by simp; omega), List.mem_cons (b := x), or_assoc]
    · split
      · rename_i h0
        obtain rfl := cmp_eq0 h0
        rw [List.mem_cons, mem_mg t n a b (by omega), List.mem_cons, List.mem_cons]
        constructor
        · rintro (h | h | h) <;> simp [h]
        · rintro ((h | h) | h | h) <;> simp [h]
      · rw [List.mem_cons, mem_mg t n (x :: a) b (by simp; omega), List.mem_cons (b := y)]
        constructor
        · rintro (h | h | h) <;> simp [h]
        · rintro (h | h | h) <;> simp [h]
theorem up_mg : ∀ (n : Nat) (a b : List Tr), a.length + b.length < n → Up a → Up b → Up (mg n a b)
  | 0, a, b, h, _, _ => by omega
  | n + 1, [], b, h, _, hb => by simpa [mg] using hb
  | n + 1, x :: a, [], h, ha, _ => by simpa [mg] using ha
  | n + 1, x :: a, y :: b, h, ha, hb => by
    simp only [List.length_cons] at h
    have ha' := List.pairwise_cons.1 ha
    have hb' := List.pairwise_cons.1 hb
    unfold mg
    split
    · rename_i hlt
      refine List.pairwise_cons.2 ⟨fun t ht => ?_, up_mg n a (y :: b) (by simp; omega) ha'.2 hb⟩
      rcases (mem_mg t n a (y :: b) (by simp; omega)).1 ht with ht | ht
      · exact ha'.1 t ht
      · rcases List.mem_cons.1 ht with rfl | ht
        · exact hlt
        · exact cmp_trans hlt (hb'.1 t ht)
    · split
      · rename_i h0
        obtain rfl := cmp_eq0 h0
        refine List.pairwise_cons.2 ⟨fun t ht => ?_, up_mg n a b (by omega) ha'.2 hb'.2⟩
        rcases (mem_mg t n a b (by omega)).1 ht with ht | ht
        · exact ha'.1 t ht
        · exact hb'.1 t ht
      · rename_i h1 h2
        have hgt : cmp y x < 0 := by have := cmp_anti x y; omega
        refine List.pairwise_cons.2 ⟨fun t ht => ?_, up_mg n (x :: a) b (by simp; omega) ha hb'.2⟩
        rcases (mem_mg t n (x :: a) b (by simp; omega)).1 ht with ht | ht
        · rcases List.mem_cons.1 ht with rfl | ht
          · exact hgt
          · exact cmp_trans hgt (ha'.1 t ht)
        · exact hb'.1 t ht
theorem length_mg : ∀ (n : Nat) (a b : List Tr), (mg n a b).length ≤ a.length + b.length
  | 0, a, b => by simp [mg]
  | n + 1, [], b => by simp [mg]
  | n + 1, x :: a, [] => by simp [mg]
  | n + 1, x :: a, y :: b => by
    unfold mg
    split
    · have := length_mg n a (y :: b); simp at this ⊢; omega
    · split
      · have := length_mg n a b; simp at this ⊢; omega
      · have := length_mg n (x :: a) b; simp at this ⊢; omega
theorem mg_norm (l m : List Tr) (n : Nat) (h : (norm l).length + (norm m).length < n) : mg n (norm l) (norm m) = norm (l ++ m) :=
  norm_eq (up_mg n _ _ h (up_norm l) (up_norm m)) fun t => by rw [mem_mg t n _ _ h, mem_norm, mem_norm, List.mem_append]
/-- The fuel is no matter. -/
theorem mg_fuel : ∀ (n m : Nat) (a b : List Tr), a.length + b.length < n → a.length + b.length < m → mg n a b = mg m a b
  | 0, _, a, b, h, _ => by omega
  | _ + 1, 0, a, b, _, h => by omega
  | n + 1, m + 1, [], b, _, _ => by simp [mg]
  | n + 1, m + 1, x :: a, [], _, _ => by simp [mg]
  | n + 1, m + 1, x :: a, y :: b, h1, h2 => by
    simp only [List.length_cons] at h1 h2
    unfold mg
    rw [mg_fuel n m a (y :: b) (by simp; omega) (by simp; omega), mg_fuel n m a b (by omega) (by omega), mg_fuel n m (x :: a) b (by simp; omega) (by simp; omega)]
end Go.Proofs.YtmhmfnjjdcdkcaaDoor.Tr
