/- What is made of the traces, or the pairs, of two: plain; how many they are, which actions they have, how they end. -/
import Derived.Test.YtaapnkoooofalaaQ03
import Derived.Test.YtaapnkoooofalaaQ11

namespace Go.Proofs.Ytaapnkoooofalaa.Mn
open Go Tr
def hnd (p q : Tr) : Tr := if p.e = 2 then ⟨p.a ++ q.a, q.e⟩ else p
def one (k : Int) (p q : Tr) : List Tr := if k = 5 then [thn p q] else if k = 7 then pr p q else [hnd p q]
def two (k : Int) (A B : List Tr) : List Tr := if k = 6 then A ++ B else A.flatMap fun p => B.flatMap (one k p)
def blk1 (x : Pr) : List Tr := if x.p.e = 1 then [x.p] else if x.p.e = 2 then [⟨x.p.a ++ x.q.a, x.q.e⟩] else []
def blk (X : List Pr) : List Tr := X.flatMap blk1
def tick : Tr := ⟨[], 1⟩
def way : Pr := ⟨⟨[], 3⟩, tick⟩
def going1 (B : List Tr) (p : Tr) : List Pr := if p.e = 1 then B.map (Pr.mk p) else [⟨p, tick⟩]
def going (A B : List Tr) : List Pr := A.flatMap (going1 B)
def seq1 (Y : List Pr) (x : Pr) : List Pr := if x.p.e = 1 then Y.map fun y => ⟨thn x.p y.p, thn y.q x.q⟩ else [x]
def seq (X Y : List Pr) : List Pr := X.flatMap (seq1 Y)
def par1 (x y : Pr) : List Pr := (pr x.p y.p).flatMap fun p => (pr x.q y.q).map (Pr.mk p)
def par (X Y : List Pr) : List Pr := X.flatMap fun x => Y.flatMap (par1 x)
def stack1 (C : List Tr) (x : Pr) : List Pr := C.map fun c => ⟨x.p, thn x.q c⟩
def stack (X : List Pr) (C : List Tr) : List Pr := X.flatMap (stack1 C)
def fin (e : Int) (C : List Tr) : List Pr := C.map (Pr.mk ⟨[], e⟩)
def twoP (k : Int) (X Y : List Pr) : List Pr := if k = 5 then seq X Y else if k = 7 then par X Y else X ++ Y
def fac : Nat → Nat
  | 0 => 1
  | n + 1 => (n + 1) * fac n
def bin : Nat → Nat → Nat
  | 0, _ => 1
  | _ + 1, 0 => 1
  | i + 1, j + 1 => bin i (j + 1) + bin (i + 1) j
theorem fac_pos : ∀ n, 1 ≤ fac n
  | 0 => Nat.le_refl _
  | n + 1 => Nat.mul_pos (Nat.succ_pos n) (fac_pos n)
theorem bin_pos : ∀ i j, 1 ≤ bin i j
  | 0, _ => by rw [bin]; exact Nat.le_refl _
  | _ + 1, 0 => by rw [bin]; exact Nat.le_refl _
  | i + 1, j + 1 => by rw [bin]; have := bin_pos i (j + 1); omega
theorem fac_bin : ∀ i j, fac i * fac j * bin i j = fac (i + j)
  | 0, j => by simp [bin, fac]
  | i + 1, 0 => by simp [bin, fac]
  | i + 1, j + 1 => by
    have h1 := fac_bin i (j + 1)
    have h2 := fac_bin (i + 1) j
    rw [show i + 1 + j = i + j + 1 by omega] at h2
    rw [show i + (j + 1) = i + j + 1 by omega] at h1
    rw [show i + 1 + (j + 1) = i + j + 1 + 1 by omega, bin, Nat.mul_add]
    have e1 : fac (i + 1) * fac (j + 1) * bin i (j + 1) = (i + 1) * fac (i + j + 1) := by
      rw [← h1, fac]
      simp only [Nat.mul_assoc]
    have e2 : fac (i + 1) * fac (j + 1) * bin (i + 1) j = (j + 1) * fac (i + j + 1) := by
      rw [← h2, show fac (j + 1) = (j + 1) * fac j from rfl]
      simp only [Nat.mul_assoc, Nat.mul_left_comm]
    rw [e1, e2, ← Nat.add_mul, show fac (i + j + 1 + 1) = (i + j + 1 + 1) * fac (i + j + 1) from rfl]
    congr 1
    omega
theorem bin_l : ∀ i j, bin i j ≤ bin (i + 1) j
  | 0, j => by rw [bin]; exact bin_pos _ _
  | i + 1, 0 => by rw [bin, bin]; exact Nat.le_refl _
  | i + 1, j + 1 => by rw [bin.eq_3 (i + 1) j]; omega
theorem bin_r : ∀ i j, bin i j ≤ bin i (j + 1)
  | 0, j => by rw [bin, bin]; exact Nat.le_refl _
  | i + 1, 0 => by rw [bin]; exact bin_pos _ _
  | i + 1, j + 1 => by rw [bin.eq_3 i (j + 1)]; omega
theorem bin_ml (i j : Nat) : ∀ d, bin i j ≤ bin (i + d) j
  | 0 => Nat.le_refl _
  | d + 1 => Nat.le_trans (bin_ml i j d) (bin_l (i + d) j)
theorem bin_mr (i j : Nat) : ∀ d, bin i j ≤ bin i (j + d)
  | 0 => Nat.le_refl _
  | d + 1 => Nat.le_trans (bin_mr i j d) (bin_r i (j + d))
theorem bin_mono {i j i' j' : Nat} (h1 : i ≤ i') (h2 : j ≤ j') : bin i j ≤ bin i' j' := by
  obtain ⟨d, rfl⟩ := Nat.exists_eq_add_of_le h1
  obtain ⟨e, rfl⟩ := Nat.exists_eq_add_of_le h2
  exact Nat.le_trans (bin_ml i j d) (bin_mr (i + d) j e)
theorem bin_mul (i j : Nat) : ∀ i' j', bin i j * bin i' j' ≤ bin (i + i') (j + j')
  | 0, j' => by rw [bin, Nat.mul_one]; exact bin_mono (by omega) (by omega)
  | i' + 1, 0 => by rw [bin, Nat.mul_one]; exact bin_mono (by omega) (by omega)
  | i' + 1, j' + 1 => by
    have h1 := bin_mul i j i' (j' + 1)
    have h2 := bin_mul i j (i' + 1) j'
    rw [bin.eq_3 i' j', Nat.mul_add]
    have e : bin (i + (i' + 1)) (j + (j' + 1)) = bin (i + i') (j + (j' + 1)) + bin (i + (i' + 1)) (j + j') := by
      rw [show i + (i' + 1) = i + i' + 1 by omega, show j + (j' + 1) = j + j' + 1 by omega, bin.eq_3]
    rw [e]
    exact Nat.add_le_add h1 h2
theorem mx_bin : ∀ (n : Nat) (a b : List ByteArray), (mx n a b).length ≤ bin a.length b.length
  | n, [], b => by rw [mx_nil]; exact bin_pos _ _
  | n, x :: a, [] => by rw [mx_nil_r]; exact bin_pos _ _
  | 0, x :: a, y :: b => by simp [mx]
  | n + 1, x :: a, y :: b => by
    simp only [mx, List.length_append, List.length_map]
    have h1 := mx_bin n a (y :: b)
    have h2 := mx_bin n (x :: a) b
    show _ ≤ bin (a.length + 1) (b.length + 1)
    rw [bin]
    exact Nat.add_le_add h1 h2
theorem pr_bin (p q : Tr) : (pr p q).length ≤ bin p.a.length q.a.length := by
  refine Nat.le_trans (length_norm _) ?_
  rw [List.length_map]
  exact mx_bin _ _ _
theorem flat_len {α β : Type} (f : α → List β) (m : Nat) : ∀ l : List α, (∀ x ∈ l, (f x).length ≤ m) → (l.flatMap f).length ≤ l.length * m
  | [], _ => by simp
  | x :: l, h => by
    rw [List.flatMap_cons, List.length_append, List.length_cons, Nat.add_mul, Nat.one_mul, Nat.add_comm]
    exact Nat.add_le_add (flat_len f m l fun y hy => h y (by simp [hy])) (h x (by simp))
def K (n a : Nat) : Nat := 2 ^ n * fac a
theorem K_pos (n a : Nat) : 1 ≤ K n a := Nat.mul_pos (Nat.two_pow_pos n) (fac_pos a)
theorem fac_add (a b : Nat) : fac a * fac b ≤ fac (a + b) := by
  rw [← fac_bin]
  exact Nat.le_mul_of_pos_right _ (bin_pos a b)
theorem fac_l (a b : Nat) : fac a ≤ fac (a + b) := Nat.le_trans (Nat.le_mul_of_pos_right _ (fac_pos b)) (fac_add a b)
theorem K_more {n n' a a' : Nat} (h1 : n ≤ n') (h2 : a ≤ a') : K n a ≤ K n' a' := by
  obtain ⟨d, rfl⟩ := Nat.exists_eq_add_of_le h2
  exact Nat.mul_le_mul (Nat.pow_le_pow_right (by omega) h1) (fac_l a d)
theorem K_mul (n m a b : Nat) : K n a * (K m b * bin a b) = K (n + m) (a + b) := by
  unfold K
  rw [← fac_bin, Nat.pow_add]
  simp only [Nat.mul_assoc, Nat.mul_left_comm]
theorem K_mul1 (n m a b : Nat) : K n a * K m b ≤ K (n + m) (a + b) := by
  rw [← K_mul]
  exact Nat.mul_le_mul_left _ (Nat.le_mul_of_pos_right _ (bin_pos a b))
theorem K_succ (n a : Nat) : K (n + 1) a = K n a + K n a := by
  unfold K
  rw [Nat.pow_succ, Nat.mul_assoc, Nat.mul_left_comm, Nat.two_mul]
theorem K_add (n m a b : Nat) : K n a + K m b ≤ K (n + m + 1) (a + b) := by
  rw [K_succ]
  exact Nat.add_le_add (K_more (by omega) (by omega)) (K_more (by omega) (by omega))
def CT (f : ByteArray → Bool) (a : Nat) (A : List Tr) : Prop := ∀ t ∈ A, t.a.countP f ≤ a
def CP (f : ByteArray → Bool) (a : Nat) (X : List Pr) : Prop := ∀ x ∈ X, x.p.a.countP f + x.q.a.countP f ≤ a
theorem thn_cnt (f : ByteArray → Bool) (p q : Tr) : (thn p q).a.countP f ≤ p.a.countP f + q.a.countP f := by
  unfold thn
  split
  · simp [List.countP_append]
  · omega
theorem hnd_cnt (f : ByteArray → Bool) (p q : Tr) : (hnd p q).a.countP f ≤ p.a.countP f + q.a.countP f := by
  unfold hnd
  split
  · simp [List.countP_append]
  · omega
theorem mx_cnt (f : ByteArray → Bool) : ∀ (n : Nat) (a b r : List ByteArray), r ∈ mx n a b → r.countP f = a.countP f + b.countP f
  | n, [], b, r, h => by rw [mx_nil] at h; simp at h; simp [h]
  | n, x :: a, [], r, h => by rw [mx_nil_r] at h; simp at h; simp [h]
  | 0, x :: a, y :: b, r, h => by simp [mx] at h
  | n + 1, x :: a, y :: b, r, h => by
    simp only [mx, List.mem_append, List.mem_map] at h
    rcases h with ⟨s, hs, rfl⟩ | ⟨s, hs, rfl⟩
    · have := mx_cnt f n a (y :: b) s hs
      rw [List.countP_cons, List.countP_cons (l := a), this]
      omega
    · have := mx_cnt f n (x :: a) b s hs
      rw [List.countP_cons, List.countP_cons (l := b), this]
      omega
theorem pr_cnt (f : ByteArray → Bool) {p q t : Tr} (h : t ∈ pr p q) : t.a.countP f = p.a.countP f + q.a.countP f := mx_cnt f _ _ _ _ (mem_pr h).1
theorem one_cnt (f : ByteArray → Bool) {k : Int} {p q t : Tr} (h : t ∈ one k p q) : t.a.countP f ≤ p.a.countP f + q.a.countP f := by
  unfold one at h
  split at h
  · rw [List.mem_singleton] at h; rw [h]; exact thn_cnt f p q
  · split at h
    · exact Nat.le_of_eq (pr_cnt f h)
    · rw [List.mem_singleton] at h; rw [h]; exact hnd_cnt f p q
theorem mem_two {k : Int} {A B : List Tr} {t : Tr} : t ∈ two k A B ↔ if k = 6 then t ∈ A ∨ t ∈ B else ∃ p ∈ A, ∃ q ∈ B, t ∈ one k p q := by
  unfold two
  split
  · exact List.mem_append
  · simp only [List.mem_flatMap]
theorem CT.norm {f : ByteArray → Bool} {a : Nat} {A : List Tr} (h : CT f a A) : CT f a (norm A) := fun t ht => h t ((mem_norm t A).1 ht)
theorem CP.norm {f : ByteArray → Bool} {a : Nat} {X : List Pr} (h : CP f a X) : CP f a (pnorm X) := fun t ht => h t ((pmem_norm t X).1 ht)
theorem two_ct {f : ByteArray → Bool} {k : Int} {A B : List Tr} {a b : Nat} (h1 : CT f a A) (h2 : CT f b B) : CT f (a + b) (two k A B) := fun t ht => by
  rw [mem_two] at ht
  split at ht
  · rcases ht with ht | ht
    · have := h1 t ht; omega
    · have := h2 t ht; omega
  · obtain ⟨p, hp, q, hq, ht⟩ := ht
    have := h1 p hp
    have := h2 q hq
    have := one_cnt f ht
    omega
theorem blk_ct {f : ByteArray → Bool} {X : List Pr} {a : Nat} (h : CP f a X) : CT f a (blk X) := fun t ht => by
  obtain ⟨x, hx, ht⟩ := List.mem_flatMap.1 ht
  have := h x hx
  unfold blk1 at ht
  split at ht
  · rw [List.mem_singleton] at ht; rw [ht]; omega
  · split at ht
    · rw [List.mem_singleton] at ht; rw [ht, List.countP_append]; exact this
    · cases ht
theorem going_cp {f : ByteArray → Bool} {A B : List Tr} {a b : Nat} (h1 : CT f a A) (h2 : CT f b B) : CP f (a + b) (going A B) := fun x hx => by
  obtain ⟨p, hp, hx⟩ := List.mem_flatMap.1 hx
  have := h1 p hp
  unfold going1 at hx
  split at hx
  · obtain ⟨q, hq, rfl⟩ := List.mem_map.1 hx
    have := h2 q hq
    show p.a.countP f + q.a.countP f ≤ a + b
    omega
  · rw [List.mem_singleton] at hx
    rw [hx]
    show p.a.countP f + 0 ≤ a + b
    omega
theorem way_cp {f : ByteArray → Bool} {X : List Pr} {a : Nat} (h : CP f a X) : CP f a (X ++ [way]) := fun x hx => by
  rcases List.mem_append.1 hx with hx | hx
  · exact h x hx
  · rw [List.mem_singleton] at hx
    rw [hx]
    exact Nat.zero_le _
theorem seq_cp {f : ByteArray → Bool} {X Y : List Pr} {a b : Nat} (h1 : CP f a X) (h2 : CP f b Y) : CP f (a + b) (seq X Y) := fun z hz => by
  obtain ⟨x, hx, hz⟩ := List.mem_flatMap.1 hz
  have := h1 x hx
  unfold seq1 at hz
  split at hz
  · obtain ⟨y, hy, rfl⟩ := List.mem_map.1 hz
    have := h2 y hy
    have := thn_cnt f x.p y.p
    have := thn_cnt f y.q x.q
    show (thn x.p y.p).a.countP f + (thn y.q x.q).a.countP f ≤ a + b
    omega
  · rw [List.mem_singleton] at hz
    rw [hz]
    omega
theorem mem_par1 {x y z : Pr} : z ∈ par1 x y ↔ z.p ∈ pr x.p y.p ∧ z.q ∈ pr x.q y.q := by
  unfold par1
  simp only [List.mem_flatMap, List.mem_map]
  constructor
  · rintro ⟨p, hp, q, hq, rfl⟩
    exact ⟨hp, hq⟩
  · rintro ⟨hp, hq⟩
    exact ⟨z.p, hp, z.q, hq, rfl⟩
theorem par_cp {f : ByteArray → Bool} {X Y : List Pr} {a b : Nat} (h1 : CP f a X) (h2 : CP f b Y) : CP f (a + b) (par X Y) := fun z hz => by
  obtain ⟨x, hx, hz⟩ := List.mem_flatMap.1 hz
  obtain ⟨y, hy, hz⟩ := List.mem_flatMap.1 hz
  obtain ⟨hp, hq⟩ := mem_par1.1 hz
  have := h1 x hx
  have := h2 y hy
  rw [pr_cnt f hp, pr_cnt f hq]
  omega
theorem stack_cp {f : ByteArray → Bool} {X : List Pr} {C : List Tr} {a b : Nat} (h1 : CP f a X) (h2 : CT f b C) : CP f (a + b) (stack X C) := fun z hz => by
  obtain ⟨x, hx, hz⟩ := List.mem_flatMap.1 hz
  obtain ⟨c, hc, rfl⟩ := List.mem_map.1 hz
  have := h1 x hx
  have := h2 c hc
  have := thn_cnt f x.q c
  show x.p.a.countP f + (thn x.q c).a.countP f ≤ a + b
  omega
theorem fin_cp {f : ByteArray → Bool} {e : Int} {C : List Tr} {a : Nat} (h : CT f a C) : CP f a (fin e C) := fun z hz => by
  obtain ⟨c, hc, rfl⟩ := List.mem_map.1 hz
  have := h c hc
  show 0 + c.a.countP f ≤ a
  omega
theorem twoP_cp {f : ByteArray → Bool} {k : Int} {X Y : List Pr} {a b : Nat} (h1 : CP f a X) (h2 : CP f b Y) : CP f (a + b) (twoP k X Y) := by
  unfold twoP
  split
  · exact seq_cp h1 h2
  · split
    · exact par_cp h1 h2
    · intro z hz
      rcases List.mem_append.1 hz with hz | hz
      · have := h1 z hz; omega
      · have := h2 z hz; omega
abbrev all : ByteArray → Bool := fun _ => true
theorem CT.len {a : Nat} {A : List Tr} (h : CT all a A) {t : Tr} (ht : t ∈ A) : t.a.length ≤ a := by
  have := h t ht
  rwa [List.countP_true] at this
theorem CP.len {a : Nat} {X : List Pr} (h : CP all a X) {x : Pr} (hx : x ∈ X) : x.p.a.length + x.q.a.length ≤ a := by
  have := h x hx
  rwa [List.countP_true] at this
theorem one_len (k : Int) (p q : Tr) : (one k p q).length ≤ bin p.a.length q.a.length := by
  unfold one
  split
  · exact bin_pos _ _
  · split
    · exact pr_bin p q
    · exact bin_pos _ _
theorem two_len {k : Int} {A B : List Tr} {n m a b : Nat} (h1 : CT all a A) (h2 : CT all b B) (l1 : A.length ≤ K n a) (l2 : B.length ≤ K m b) : (two k A B).length ≤ K (n + m + 1) (a + b) := by
  unfold two
  split
  · rw [List.length_append]
    exact Nat.le_trans (Nat.add_le_add l1 l2) (K_add n m a b)
  · refine Nat.le_trans (flat_len _ (K m b * bin a b) A fun p hp => ?_) (Nat.le_trans (Nat.mul_le_mul_right _ l1) (by rw [K_mul]; exact K_more (by omega) (Nat.le_refl _)))
    refine Nat.le_trans (flat_len _ (bin a b) B fun q hq => ?_) (Nat.mul_le_mul_right _ l2)
    exact Nat.le_trans (one_len k p q) (bin_mono (h1.len hp) (h2.len hq))
theorem blk_len {X : List Pr} {n a : Nat} (h : X.length ≤ K n a) : (blk X).length ≤ K (n + 1) a := by
  refine Nat.le_trans (flat_len _ 1 X fun x _ => ?_) (by rw [Nat.mul_one]; exact Nat.le_trans h (K_more (by omega) (Nat.le_refl _)))
  unfold blk1
  repeat' split
  all_goals simp
theorem going_len {A B : List Tr} {n m a b : Nat} (l1 : A.length ≤ K n a) (l2 : B.length ≤ K m b) : (going A B).length ≤ K (n + m) (a + b) := by
  refine Nat.le_trans (flat_len _ (K m b) A fun p _ => ?_) (Nat.le_trans (Nat.mul_le_mul_right _ l1) (K_mul1 n m a b))
  unfold going1
  split
  · rw [List.length_map]; exact l2
  · exact K_pos m b
theorem way_len {X : List Pr} {n a : Nat} (h : X.length ≤ K n a) : (X ++ [way]).length ≤ K (n + 1) a := by
  rw [List.length_append, K_succ]
  exact Nat.add_le_add h (K_pos n a)
theorem seq_len {X Y : List Pr} {n m a b : Nat} (l1 : X.length ≤ K n a) (l2 : Y.length ≤ K m b) : (seq X Y).length ≤ K (n + m) (a + b) := by
  refine Nat.le_trans (flat_len _ (K m b) X fun x _ => ?_) (Nat.le_trans (Nat.mul_le_mul_right _ l1) (K_mul1 n m a b))
  unfold seq1
  split
  · rw [List.length_map]; exact l2
  · exact K_pos m b
theorem par1_len {x y : Pr} {a b : Nat} (h1 : x.p.a.length + x.q.a.length ≤ a) (h2 : y.p.a.length + y.q.a.length ≤ b) : (par1 x y).length ≤ bin a b := by
  refine Nat.le_trans (flat_len _ (bin x.q.a.length y.q.a.length) _ fun p _ => ?_) (Nat.le_trans (Nat.mul_le_mul_right _ (pr_bin _ _)) (Nat.le_trans (bin_mul _ _ _ _) (bin_mono h1 h2)))
  rw [List.length_map]
  exact pr_bin _ _
theorem par_len {X Y : List Pr} {n m a b : Nat} (h1 : CP all a X) (h2 : CP all b Y) (l1 : X.length ≤ K n a) (l2 : Y.length ≤ K m b) : (par X Y).length ≤ K (n + m) (a + b) := by
  refine Nat.le_trans (flat_len _ (K m b * bin a b) X fun x hx => ?_) (Nat.le_trans (Nat.mul_le_mul_right _ l1) (by rw [K_mul]; exact Nat.le_refl _))
  refine Nat.le_trans (flat_len _ (bin a b) Y fun y hy => ?_) (Nat.mul_le_mul_right _ l2)
  exact par1_len (h1.len hx) (h2.len hy)
theorem stack_len {X : List Pr} {C : List Tr} {n m a b : Nat} (l1 : X.length ≤ K n a) (l2 : C.length ≤ K m b) : (stack X C).length ≤ K (n + m) (a + b) := by
  refine Nat.le_trans (flat_len _ (K m b) X fun x _ => ?_) (Nat.le_trans (Nat.mul_le_mul_right _ l1) (K_mul1 n m a b))
  unfold stack1
  rw [List.length_map]; exact l2
theorem twoP_len {k : Int} {X Y : List Pr} {n m a b : Nat} (h1 : CP all a X) (h2 : CP all b Y) (l1 : X.length ≤ K n a) (l2 : Y.length ≤ K m b) : (twoP k X Y).length ≤ K (n + m + 1) (a + b) := by
  unfold twoP
  split
  · exact Nat.le_trans (seq_len l1 l2) (K_more (by omega) (Nat.le_refl _))
  · split
    · exact Nat.le_trans (par_len h1 h2 l1 l2) (K_more (by omega) (Nat.le_refl _))
    · rw [List.length_append]
      exact Nat.le_trans (Nat.add_le_add l1 l2) (K_add n m a b)
def Sgn (e : Int) : Prop := e = 1 ∨ e = 2 ∨ e = 3
def ST (A : List Tr) : Prop := ∀ t ∈ A, Sgn t.e
def SP (X : List Pr) : Prop := ∀ x ∈ X, Sgn x.p.e ∧ Sgn x.q.e
theorem sgn_both {a b : Int} (h1 : Sgn a) (h2 : Sgn b) : Sgn (Sg.both a b) := by
  rcases h1 with rfl | rfl | rfl <;> rcases h2 with rfl | rfl | rfl <;> first | exact Or.inl rfl | exact Or.inr (Or.inl rfl) | exact Or.inr (Or.inr rfl)
theorem sgn_thn {p q : Tr} (h1 : Sgn p.e) (h2 : Sgn q.e) : Sgn (thn p q).e := by
  unfold thn
  split
  · exact h2
  · exact h1
theorem sgn_pr {p q t : Tr} (h1 : Sgn p.e) (h2 : Sgn q.e) (h : t ∈ pr p q) : Sgn t.e := by
  rw [(mem_pr h).2]
  exact sgn_both h1 h2
theorem ST.norm {A : List Tr} (h : ST A) : ST (norm A) := fun t ht => h t ((mem_norm t A).1 ht)
theorem SP.norm {X : List Pr} (h : SP X) : SP (pnorm X) := fun t ht => h t ((pmem_norm t X).1 ht)
theorem two_st {k : Int} {A B : List Tr} (h1 : ST A) (h2 : ST B) : ST (two k A B) := fun t ht => by
  rw [mem_two] at ht
  split at ht
  · exact ht.elim (h1 t) (h2 t)
  · obtain ⟨p, hp, q, hq, ht⟩ := ht
    unfold one at ht
    split at ht
    · rw [List.mem_singleton] at ht; rw [ht]; exact sgn_thn (h1 p hp) (h2 q hq)
    · split at ht
      · exact sgn_pr (h1 p hp) (h2 q hq) ht
      · rw [List.mem_singleton] at ht
        rw [ht]
        unfold hnd
        split
        · exact h2 q hq
        · exact h1 p hp
theorem blk_st {X : List Pr} (h : SP X) : ST (blk X) := fun t ht => by
  obtain ⟨x, hx, ht⟩ := List.mem_flatMap.1 ht
  have := h x hx
  unfold blk1 at ht
  split at ht
  · rw [List.mem_singleton] at ht; rw [ht]; exact this.1
  · split at ht
    · rw [List.mem_singleton] at ht; rw [ht]; exact this.2
    · cases ht
theorem sgn1 : Sgn 1 := Or.inl rfl
theorem sgn3 : Sgn 3 := Or.inr (Or.inr rfl)
theorem going_sp {A B : List Tr} (h1 : ST A) (h2 : ST B) : SP (going A B) := fun x hx => by
  obtain ⟨p, hp, hx⟩ := List.mem_flatMap.1 hx
  unfold going1 at hx
  split at hx
  · obtain ⟨q, hq, rfl⟩ := List.mem_map.1 hx
    exact ⟨h1 p hp, h2 q hq⟩
  · rw [List.mem_singleton] at hx
    rw [hx]
    exact ⟨h1 p hp, sgn1⟩
theorem way_sp {X : List Pr} (h : SP X) : SP (X ++ [way]) := fun x hx => by
  rcases List.mem_append.1 hx with hx | hx
  · exact h x hx
  · rw [List.mem_singleton] at hx
    rw [hx]
    exact ⟨sgn3, sgn1⟩
theorem seq_sp {X Y : List Pr} (h1 : SP X) (h2 : SP Y) : SP (seq X Y) := fun z hz => by
  obtain ⟨x, hx, hz⟩ := List.mem_flatMap.1 hz
  unfold seq1 at hz
  split at hz
  · obtain ⟨y, hy, rfl⟩ := List.mem_map.1 hz
    exact ⟨sgn_thn (h1 x hx).1 (h2 y hy).1, sgn_thn (h2 y hy).2 (h1 x hx).2⟩
  · rw [List.mem_singleton] at hz
    rw [hz]
    exact h1 x hx
theorem par_sp {X Y : List Pr} (h1 : SP X) (h2 : SP Y) : SP (par X Y) := fun z hz => by
  obtain ⟨x, hx, hz⟩ := List.mem_flatMap.1 hz
  obtain ⟨y, hy, hz⟩ := List.mem_flatMap.1 hz
  obtain ⟨hp, hq⟩ := mem_par1.1 hz
  exact ⟨sgn_pr (h1 x hx).1 (h2 y hy).1 hp, sgn_pr (h1 x hx).2 (h2 y hy).2 hq⟩
theorem stack_sp {X : List Pr} {C : List Tr} (h1 : SP X) (h2 : ST C) : SP (stack X C) := fun z hz => by
  obtain ⟨x, hx, hz⟩ := List.mem_flatMap.1 hz
  obtain ⟨c, hc, rfl⟩ := List.mem_map.1 hz
  exact ⟨(h1 x hx).1, sgn_thn (h1 x hx).2 (h2 c hc)⟩
theorem fin_sp {e : Int} {C : List Tr} (he : Sgn e) (h : ST C) : SP (fin e C) := fun z hz => by
  obtain ⟨c, hc, rfl⟩ := List.mem_map.1 hz
  exact ⟨he, h c hc⟩
theorem twoP_sp {k : Int} {X Y : List Pr} (h1 : SP X) (h2 : SP Y) : SP (twoP k X Y) := by
  unfold twoP
  split
  · exact seq_sp h1 h2
  · split
    · exact par_sp h1 h2
    · intro z hz
      exact (List.mem_append.1 hz).elim (h1 z) (h2 z)
def LT (A : List Tr) : Prop := ∃ t ∈ A, t.e = 1 ∨ t.e = 2
def LP (X : List Pr) : Prop := ∃ x ∈ X, (x.p.e = 1 ∨ x.p.e = 2) ∧ (x.q.e = 1 ∨ x.q.e = 2)
theorem LT.norm {A : List Tr} (h : LT A) : LT (norm A) := by
  obtain ⟨t, ht, h⟩ := h
  exact ⟨t, (mem_norm t A).2 ht, h⟩
theorem LP.norm {X : List Pr} (h : LP X) : LP (pnorm X) := by
  obtain ⟨t, ht, h⟩ := h
  exact ⟨t, (pmem_norm t X).2 ht, h⟩
theorem LT.ne {A : List Tr} (h : LT A) : A ≠ [] := fun e => by
  obtain ⟨t, ht, _⟩ := h
  rw [e] at ht
  cases ht
theorem LP.more {X Y : List Pr} (h : LP X) : LP (X ++ Y) := by
  obtain ⟨x, hx, e⟩ := h
  exact ⟨x, List.mem_append.2 (.inl hx), e⟩
end Go.Proofs.Ytaapnkoooofalaa.Mn
