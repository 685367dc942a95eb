/- Rows mixed as the program mixes them, as plain data: all rests at once, by their first actions; no program is named here. What is put together of three hangs not on how; what does nothing changes nothing; a block of a pair: plain. -/
import Derived.Test.YtekblibhaipioaaGreatQ12
import Derived.Test.YtekblibhaipioaaGreatQ13

namespace Go.Proofs.YtekblibhaipioaaGreat.Tr
open Go
abbrev Rst := List ByteArray × List ByteArray
def heads (left : List Rst) : List ByteArray := left.flatMap fun q => q.1.take 1 ++ q.2.take 1
def bh1 (x : ByteArray) (q : Rst) : List Rst := (if q.2.head? = some x then [(q.1, q.2.tail)] else []) ++ (if q.1.head? = some x then [(q.1.tail, q.2)] else [])
def bh (x : ByteArray) (left : List Rst) : List Rst := left.flatMap (bh1 x)
def Good (n : Nat) (left : List Rst) (L : List (List ByteArray)) : Prop :=
  L.Pairwise (fun r s => row r s < 0) ∧ ∀ r, r ∈ L ↔ ∃ q ∈ left, r ∈ mx n q.1 q.2
def Even (n : Nat) (left : List Rst) : Prop := ∀ q ∈ left, q.1.length + q.2.length = n
def UpS (l : List ByteArray) : Prop := l.Pairwise fun x y => ls x y = true
theorem mx_fuel : ∀ (n m : Nat) (a b : List ByteArray), a.length + b.length ≤ n → a.length + b.length ≤ m → mx n a b = mx m a b
  | n, m, [], b, _, _ => by rw [mx_nil, mx_nil]
  | n, m, x :: a, [], _, _ => by rw [mx_nil_r, mx_nil_r]
  | 0, m, x :: a, y :: b, h, _ => by simp at h
  | n + 1, 0, x :: a, y :: b, _, h => by simp at h
  | n + 1, m + 1, x :: a, y :: b, h1, h2 => by
    simp only [List.length_cons] at h1 h2
    simp only [mx]
    rw [mx_fuel n m a (y :: b) (by simp; omega) (by simp; omega), mx_fuel n m (x :: a) b (by simp; omega) (by simp; omega)]
theorem mem_bh1 {x : ByteArray} {q p : Rst} : p ∈ bh1 x q ↔ (q.2 = x :: p.2 ∧ p.1 = q.1) ∨ (q.1 = x :: p.1 ∧ p.2 = q.2) := by
  obtain ⟨a, b⟩ := q
  obtain ⟨c, d⟩ := p
  unfold bh1
  simp only [List.mem_append]
  have e1 : (c, d) ∈ (if b.head? = some x then [(a, b.tail)] else []) ↔ b = x :: d ∧ c = a := by
    cases b with
    | nil => simp
    | cons y b =>
      by_cases h : y = x
      · subst h
        rw [if_pos (by simp)]
        simp only [List.tail_cons, List.mem_singleton, Prod.mk.injEq, List.cons.injEq, true_and]
        constructor <;> (rintro ⟨rfl, rfl⟩; exact ⟨rfl, rfl⟩)
      · simp [h]
  have e2 : (c, d) ∈ (if a.head? = some x then [(a.tail, b)] else []) ↔ a = x :: c ∧ d = b := by
    cases a with
    | nil => simp
    | cons y a =>
      by_cases h : y = x
      · subst h
        rw [if_pos (by simp)]
        simp only [List.tail_cons, List.mem_singleton, Prod.mk.injEq, List.cons.injEq, true_and]
        constructor <;> (rintro ⟨rfl, rfl⟩; exact ⟨rfl, rfl⟩)
      · simp [h]
  rw [e1, e2]
theorem mem_mx_succ (n : Nat) (q : Rst) (r : List ByteArray) (h : q.1.length + q.2.length = n + 1) :
    r ∈ mx (n + 1) q.1 q.2 ↔ ∃ x s, r = x :: s ∧ ∃ p ∈ bh1 x q, s ∈ mx n p.1 p.2 := by
  obtain ⟨a, b⟩ := q
  simp only at h
  cases a with
  | nil =>
    cases b with
    | nil => simp at h
    | cons y b =>
      rw [mx_nil]
      constructor
      · intro hr
        simp at hr
        subst hr
        exact ⟨y, b, rfl, ([], b), mem_bh1.2 (.inl ⟨rfl, rfl⟩), by rw [mx_nil]; simp⟩
      · rintro ⟨x, s, rfl, ⟨c, d⟩, hp, hs⟩
        rcases mem_bh1.1 hp with ⟨h1, h2⟩ | ⟨h1, h2⟩
        · simp only at h1 h2
          subst h2
          cases h1
          rw [mx_nil] at hs
          simpa using hs
        · simp at h1
  | cons z a =>
    cases b with
    | nil =>
      rw [mx_nil_r]
      constructor
      · intro hr
        simp at hr
        subst hr
        refine ⟨z, a, rfl, (a, []), mem_bh1.2 (.inr ⟨rfl, rfl⟩), ?_⟩
        cases a with
        | nil => rw [mx_nil]; simp
        | cons t a => rw [mx_nil_r]; simp
      · rintro ⟨x, s, rfl, ⟨c, d⟩, hp, hs⟩
        rcases mem_bh1.1 hp with ⟨h1, h2⟩ | ⟨h1, h2⟩
        · simp at h1
        · simp only at h1 h2
          subst h2
          cases h1
          cases a with
          | nil => rw [mx_nil] at hs; simpa using hs
          | cons t a => rw [mx_nil_r] at hs; simpa using hs
    | cons y b =>
      simp only [mx, List.mem_append, List.mem_map]
      constructor
      · rintro (⟨s, hs, rfl⟩ | ⟨s, hs, rfl⟩)
        · exact ⟨z, s, rfl, (a, y :: b), mem_bh1.2 (.inr ⟨rfl, rfl⟩), hs⟩
        · exact ⟨y, s, rfl, (z :: a, b), mem_bh1.2 (.inl ⟨rfl, rfl⟩), hs⟩
      · rintro ⟨x, s, rfl, ⟨c, d⟩, hp, hs⟩
        rcases mem_bh1.1 hp with ⟨h1, h2⟩ | ⟨h1, h2⟩
        · simp only at h1 h2
          subst h2
          cases h1
          exact .inr ⟨s, hs, rfl⟩
        · simp only at h1 h2
          subst h2
          cases h1
          exact .inl ⟨s, hs, rfl⟩
theorem good_zero {left : List Rst} (h : Even 0 left) (h0 : left ≠ []) : Good 0 left [[]] := by
  refine ⟨List.pairwise_singleton _ _, fun r => ?_⟩
  constructor
  · intro hr
    simp at hr
    subst hr
    obtain ⟨q, l, rfl⟩ := List.exists_cons_of_ne_nil h0
    refine ⟨q, by simp, ?_⟩
    have := h q (by simp)
    obtain ⟨a, b⟩ := q
    simp only at this ⊢
    obtain rfl : a = [] := List.eq_nil_of_length_eq_zero (by omega)
    obtain rfl : b = [] := List.eq_nil_of_length_eq_zero (by omega)
    simp [mx_nil]
  · rintro ⟨q, hq, hr⟩
    have := h q hq
    obtain ⟨a, b⟩ := q
    simp only at this hr
    obtain rfl : a = [] := List.eq_nil_of_length_eq_zero (by omega)
    obtain rfl : b = [] := List.eq_nil_of_length_eq_zero (by omega)
    simpa [mx_nil] using hr
def Goods (n : Nat) (left : List Rst) : List ByteArray → List (List ByteArray) → Prop
  | [], L => L = []
  | x :: nx, L => ∃ L1 L2, L = L1.map (x :: ·) ++ L2 ∧ Good n (bh x left) L1 ∧ Goods n left nx L2
theorem goods_snoc {n : Nat} {left : List Rst} {x : ByteArray} {L1 : List (List ByteArray)} (h1 : Good n (bh x left) L1) : ∀ {nx : List ByteArray} {L : List (List ByteArray)}, Goods n left nx L → Goods n left (nx ++ [x]) (L ++ L1.map (x :: ·))
  | [], L, h => by
    have h : L = [] := h
    subst h
    exact ⟨L1, [], by simp, h1, rfl⟩
  | y :: nx, L, ⟨M1, M2, hL, hM, h⟩ => ⟨M1, M2 ++ L1.map (x :: ·), by rw [hL, List.append_assoc], hM, goods_snoc h1 h⟩
theorem goods_mem {n : Nat} {left : List Rst} (r : List ByteArray) : ∀ {nx : List ByteArray} {L : List (List ByteArray)}, Goods n left nx L → (r ∈ L ↔ ∃ x ∈ nx, ∃ s, r = x :: s ∧ ∃ p ∈ bh x left, s ∈ mx n p.1 p.2)
  | [], L, h => by
    have h : L = [] := h
    subst h
    simp
  | y :: nx, L, ⟨M1, M2, hL, hM, h⟩ => by
    rw [hL, List.mem_append, List.mem_map, goods_mem r h]
    constructor
    · rintro (⟨s, hs, rfl⟩ | ⟨x, hx, hs⟩)
      · exact ⟨y, by simp, s, rfl, (hM.2 s).1 hs⟩
      · exact ⟨x, by simp [hx], hs⟩
    · rintro ⟨x, hx, s, rfl, hs⟩
      rcases List.mem_cons.1 hx with rfl | hx
      · exact .inl ⟨s, (hM.2 s).2 hs, rfl⟩
      · exact .inr ⟨x, hx, s, rfl, hs⟩
theorem row_cons_same (x : ByteArray) (a b : List ByteArray) : row (x :: a) (x :: b) = row a b := by rw [row_cons, ls_irrefl]; rfl
theorem goods_up {n : Nat} {left : List Rst} : ∀ {nx : List ByteArray} {L : List (List ByteArray)}, UpS nx → Goods n left nx L → L.Pairwise (fun r s => row r s < 0)
  | [], L, _, h => by
    have h : L = [] := h
    subst h
    exact List.Pairwise.nil
  | y :: nx, L, hu, ⟨M1, M2, hL, hM, h⟩ => by
    obtain ⟨hu1, hu2⟩ := List.pairwise_cons.1 hu
    rw [hL, List.pairwise_append]
    refine ⟨?_, goods_up hu2 h, ?_⟩
    · rw [List.pairwise_map]
      exact hM.1.imp fun {a b} hab => by rw [row_cons_same]; exact hab
    · intro r hr s hs
      obtain ⟨r', _, rfl⟩ := List.mem_map.1 hr
      obtain ⟨x, hx, s', rfl, _⟩ := (goods_mem s h).1 hs
      rw [row_cons, hu1 x hx, if_pos rfl]
      omega
theorem good_succ {n : Nat} {left : List Rst} {nx : List ByteArray} {L : List (List ByteArray)} (he : Even (n + 1) left) (hu : UpS nx) (hm : ∀ x, x ∈ nx ↔ x ∈ heads left) (h : Goods n left nx L) : Good (n + 1) left L := by
  refine ⟨goods_up hu h, fun r => ?_⟩
  rw [goods_mem r h]
  constructor
  · rintro ⟨x, hx, s, rfl, p, hp, hs⟩
    obtain ⟨q, hq, hpq⟩ := List.mem_flatMap.1 hp
    exact ⟨q, hq, (mem_mx_succ n q _ (he q hq)).2 ⟨x, s, rfl, p, hpq, hs⟩⟩
  · rintro ⟨q, hq, hr⟩
    obtain ⟨x, s, rfl, p, hp, hs⟩ := (mem_mx_succ n q r (he q hq)).1 hr
    refine ⟨x, (hm x).2 (List.mem_flatMap.2 ⟨q, hq, ?_⟩), s, rfl, p, List.mem_flatMap.2 ⟨q, hq, hp⟩, hs⟩
    rcases mem_bh1.1 hp with ⟨h1, _⟩ | ⟨h1, _⟩
    · rw [h1]; simp
    · rw [h1]; simp
theorem heads_ne {n : Nat} {left : List Rst} (he : Even (n + 1) left) (h0 : left ≠ []) : heads left ≠ [] := by
  obtain ⟨q, l, rfl⟩ := List.exists_cons_of_ne_nil h0
  have := he q (by simp)
  obtain ⟨a, b⟩ := q
  intro h
  simp only [heads, List.flatMap_cons, List.append_eq_nil_iff] at h
  cases a with
  | nil => cases b with
    | nil => simp at this
    | cons y b => simp at h
  | cons x a => simp at h
theorem bh_ne {left : List Rst} {x : ByteArray} (h : x ∈ heads left) : bh x left ≠ [] := by
  obtain ⟨q, hq, hx⟩ := List.mem_flatMap.1 h
  obtain ⟨a, b⟩ := q
  intro h0
  rcases List.mem_append.1 hx with hx | hx
  · cases a with
    | nil => simp at hx
    | cons y a =>
      simp at hx
      subst hx
      have : (a, b) ∈ bh x left := List.mem_flatMap.2 ⟨_, hq, mem_bh1.2 (.inr ⟨rfl, rfl⟩)⟩
      rw [h0] at this
      cases this
  · cases b with
    | nil => simp at hx
    | cons y b =>
      simp at hx
      subst hx
      have : (a, b) ∈ bh x left := List.mem_flatMap.2 ⟨_, hq, mem_bh1.2 (.inl ⟨rfl, rfl⟩)⟩
      rw [h0] at this
      cases this
theorem good_congr {n : Nat} {l l' : List Rst} {L : List (List ByteArray)} (h : ∀ p, p ∈ l ↔ p ∈ l') (hg : Good n l L) : Good n l' L :=
  ⟨hg.1, fun r => (hg.2 r).trans ⟨fun ⟨q, hq, hr⟩ => ⟨q, (h q).1 hq, hr⟩, fun ⟨q, hq, hr⟩ => ⟨q, (h q).2 hq, hr⟩⟩⟩
theorem good_norm {a b : List ByteArray} {n : Nat} (hn : a.length + b.length = n) (hn' : n ≤ 19) {L : List (List ByteArray)} (hg : Good n [(a, b)] L) (e : Int) :
    L.map (fun r => (⟨r, e⟩ : Tr)) = norm ((mx 19 a b).map fun r => ⟨r, e⟩) := by
  refine norm_eq ?_ fun t => ?_
  · unfold Up
    rw [List.pairwise_map]
    exact hg.1.imp fun {r s} h => cmp_neg.2 (.inl h)
  · rw [List.mem_map, List.mem_map]
    have : ∀ r, r ∈ L ↔ r ∈ mx 19 a b := fun r => by
      rw [hg.2 r, ← mx_fuel n 19 a b (by omega) (by omega)]
      simp
    exact ⟨fun ⟨r, hr, h⟩ => ⟨r, (this r).1 hr, h⟩, fun ⟨r, hr, h⟩ => ⟨r, (this r).2 hr, h⟩⟩
theorem good_mix {a b : List ByteArray} {n : Nat} (hn : a.length + b.length = n) (hn' : n ≤ 19) {L : List (List ByteArray)} (hg : Good n [(a, b)] L) : L = mix a b := by
  have h11 : Sg.both 1 1 = 1 := rfl
  unfold mix pr
  simp only [h11]
  rw [← good_norm hn hn' hg 1, List.map_map]
  simp [Function.comp_def]
theorem good_of_mix (a b : List ByteArray) {n : Nat} (hn : a.length + b.length = n) (hn' : n ≤ 19) : Good n [(a, b)] (mix a b) := by
  have h11 : Sg.both 1 1 = 1 := rfl
  have hu := up_norm ((mx 19 a b).map fun r => (⟨r, 1⟩ : Tr))
  have hm := fun t => mem_norm t ((mx 19 a b).map fun r => (⟨r, 1⟩ : Tr))
  unfold mix pr
  simp only [h11]
  generalize norm ((mx 19 a b).map fun r => (⟨r, 1⟩ : Tr)) = N at hu hm ⊢
  have he : ∀ t ∈ N, t.e = 1 := fun t ht => by
    obtain ⟨r, _, rfl⟩ := List.mem_map.1 ((hm t).1 ht)
    rfl
  refine ⟨?_, fun r => ?_⟩
  · rw [List.pairwise_map]
    refine List.Pairwise.imp_of_mem ?_ hu
    intro p q hp hq h
    rcases cmp_neg.1 h with h | ⟨_, h⟩
    · exact h
    · rw [he p hp, he q hq] at h
      exact absurd h (Int.lt_irrefl _)
  · rw [List.mem_map, mx_fuel n 19 a b (by omega) (by omega) |> fun e => (by simp [e] : (∃ q ∈ [(a, b)], r ∈ mx n q.1 q.2) ↔ r ∈ mx 19 a b)]
    constructor
    · rintro ⟨t, ht, rfl⟩
      obtain ⟨r, hr, rfl⟩ := List.mem_map.1 ((hm t).1 ht)
      exact hr
    · intro hr
      exact ⟨⟨r, 1⟩, (hm _).2 (List.mem_map.2 ⟨r, hr, rfl⟩), rfl⟩
theorem mix_pr (p q : Tr) (h : p.a.length + q.a.length ≤ 19) : (mix p.a q.a).map (fun r => (⟨r, Sg.both p.e q.e⟩ : Tr)) = pr p q := good_norm rfl h (good_of_mix p.a q.a rfl h) _
end Go.Proofs.YtekblibhaipioaaGreat.Tr

namespace Go.Proofs.YtekblibhaipioaaGreat.Mn
open Go Tr
inductive Mix : List ByteArray → List ByteArray → List ByteArray → Prop
  | nil : Mix [] [] []
  | l {x : ByteArray} {a b r : List ByteArray} : Mix a b r → Mix (x :: a) b (x :: r)
  | r {y : ByteArray} {a b r : List ByteArray} : Mix a b r → Mix a (y :: b) (y :: r)
theorem Mix.len {a b r : List ByteArray} (h : Mix a b r) : r.length = a.length + b.length := by
  induction h with
  | nil => rfl
  | l _ ih => simp [ih]; omega
  | r _ ih => simp [ih]; omega
theorem one5 (p q : Tr) : one 5 p q = [thn p q] := by unfold one; rw [if_pos rfl]
theorem one7 (p q : Tr) : one 7 p q = pr p q := by unfold one; rw [if_neg (by decide), if_pos rfl]
theorem one8 (p q : Tr) : one 8 p q = [hnd p q] := by unfold one; rw [if_neg (by decide), if_neg (by decide)]
theorem mem5 {A B : List Tr} {t : Tr} : t ∈ two 5 A B ↔ ∃ p ∈ A, ∃ q ∈ B, t = thn p q := by
  rw [mem_two, if_neg (by decide)]
  simp only [one5, List.mem_singleton]
theorem mem6 {A B : List Tr} {t : Tr} : t ∈ two 6 A B ↔ t ∈ A ∨ t ∈ B := by rw [mem_two, if_pos rfl]
theorem mem7 {A B : List Tr} {t : Tr} : t ∈ two 7 A B ↔ ∃ p ∈ A, ∃ q ∈ B, t ∈ pr p q := by
  rw [mem_two, if_neg (by decide)]
  simp only [one7]
theorem mem8 {A B : List Tr} {t : Tr} : t ∈ two 8 A B ↔ ∃ p ∈ A, ∃ q ∈ B, t = hnd p q := by
  rw [mem_two, if_neg (by decide)]
  simp only [one8, List.mem_singleton]
def bang : Tr := ⟨[], 2⟩
theorem up_one (t : Tr) : Up [t] := List.pairwise_singleton _ _
def want (A : List Tr) : List Tr := A.flatMap fun p => if p.e = 3 then [] else [⟨p.a, 1⟩]
end Go.Proofs.YtekblibhaipioaaGreat.Mn
