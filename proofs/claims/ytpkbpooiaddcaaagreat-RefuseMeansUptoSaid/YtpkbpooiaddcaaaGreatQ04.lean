/- Rows of pairs of cells in a block of the call's own: what they hold, what a store and a clear make of them; and rows in which none is like the one ahead of it: plain laws. The document's Right, Size, Depth, Whole over rows of nodes. Which of two traces comes ahead, by the document's own answer: the walk. Rows of four cells each in a block of the call's own: what they hold, what a store and a clear make of them: plain laws. The program's Arity. The document's Whole over rows of nodes. Rows of traces in memory. Arguments that are nodes, and rows of nodes: how they lie in memory, and what the reach says of them. -/
import Derived.Test.YtpkbpooiaddcaaaGreatQ02
import Derived.Lib.SliceRun
import Derived.Test.YtpkbpooiaddcaaaGreatQ03
import Derived.Deep.RegionHeld3
import Derived.StillTailTactics
import Derived.Deep.Strs
import Derived.Deep.Slices
import Derived.Lib.SmallJoins

namespace Go.Proofs.YtpkbpooiaddcaaaGreat.Tr
open Go Go.RowKit
set_option maxRecDepth 20000

/-- A block of the call's own that holds these pairs, in front of its room. -/
def Own2 (w : World) (g : Nat) (e : TypeId) (cap : Nat) (ys : List (Value × Value)) : Prop :=
  ∃ cur : Array Value, w.heap[g]? = some (.cells cur e (0, 0)) ∧ cur.size = cap * 2 ∧ ys.length ≤ cap ∧ ∀ j (h : j < ys.length), cur[j * 2]? = some ys[j].1 ∧ cur[j * 2 + 1]? = some ys[j].2

theorem heap_lt {w : World} {g : Nat} {o : Obj} (h : w.heap[g]? = some o) : g < w.heap.size :=
  Nat.lt_of_not_le fun hle => by
    rw [Array.getElem?_eq_none hle] at h
    cases h
theorem Own2.lt {w : World} {g cap : Nat} {e : TypeId} {ys : List (Value × Value)} (h : Own2 w g e cap ys) : g < w.heap.size := heap_lt h.choose_spec.1
theorem Own2.len {w : World} {g cap : Nat} {e : TypeId} {ys : List (Value × Value)} (h : Own2 w g e cap ys) : ys.length ≤ cap := h.choose_spec.2.2.1
theorem Own2.cell0 {w : World} {g cap : Nat} {e : TypeId} {ys : List (Value × Value)} (h : Own2 w g e cap ys) (j : Nat) (hj : j < ys.length) : w.cell? ⟨g, j * 2, none⟩ = some ys[j].1 := by
  obtain ⟨cur, hg, _, _, hc⟩ := h
  simp [World.cell?, hg, (hc j hj).1]
theorem Own2.cell1 {w : World} {g cap : Nat} {e : TypeId} {ys : List (Value × Value)} (h : Own2 w g e cap ys) (j : Nat) (hj : j < ys.length) : w.cell? ⟨g, j * 2 + 1, none⟩ = some ys[j].2 := by
  obtain ⟨cur, hg, _, _, hc⟩ := h
  simp [World.cell?, hg, (hc j hj).2]
theorem Own2.soft {w : World} {g cap : Nat} {e : TypeId} {ys : List (Value × Value)} (h : Own2 w g e cap ys) (j : Nat) : w.frozen? ⟨g, j, none⟩ = false := by
  obtain ⟨cur, hg, _⟩ := h
  simp [World.frozen?, hg]
theorem Own2.there {w : World} {g cap : Nat} {e : TypeId} {ys : List (Value × Value)} (h : Own2 w g e cap ys) (j : Nat) (hj : j < cap * 2) : (w.cell? ⟨g, j, none⟩).isSome = true := by
  obtain ⟨cur, hg, hs, _⟩ := h
  simp [World.cell?, hg, hs, hj]
theorem Own2.block {w w' : World} {g cap : Nat} {e : TypeId} {ys : List (Value × Value)} (h : Own2 w g e cap ys) (hb : w'.heap[g]? = w.heap[g]?) : Own2 w' g e cap ys := by
  obtain ⟨cur, hg, hr⟩ := h
  exact ⟨cur, by rw [hb, hg], hr⟩
theorem Own2.below {w w' : World} {g cap : Nat} {e : TypeId} {ys : List (Value × Value)} (h : Own2 w g e cap ys) (hb : Below w.heap.size w w') : Own2 w' g e cap ys := h.block (hb.block g h.lt)
theorem Own2.grown {w w' : World} {g cap : Nat} {e : TypeId} {ys : List (Value × Value)} {r : Option Nat} (h : Own2 w g e cap ys) (hb : w.grownBy w' r) (hr : some g ≠ r) : Own2 w' g e cap ys := h.block (hb.block g h.lt hr)
theorem heap_setCell (w : World) (g o : Nat) (v : Value) (k : Nat) : (w.setCell ⟨g, o, none⟩ v).heap[k]? = if g = k then (w.heap[k]?).map (fun x => match x with | .cells c elem frozen => .cells (c.setIfInBounds o v) elem frozen | o => o) else w.heap[k]? := by
  simp only [World.setCell, Array.getElem?_modify]
  by_cases h : g = k
  · simp [h]
    rfl
  · simp [h]
theorem Own2.store {w : World} {g cap : Nat} {e : TypeId} {ys : List (Value × Value)} (h : Own2 w g e cap ys) (k : Nat) (hk : k < ys.length) (a b : Value) : Own2 ((w.setCell ⟨g, k * 2, none⟩ a).setCell ⟨g, k * 2 + 1, none⟩ b) g e cap (ys.set k (a, b)) := by
  obtain ⟨cur, hg, hs, hl, hc⟩ := h
  refine ⟨(cur.setIfInBounds (k * 2) a).setIfInBounds (k * 2 + 1) b, ?_, by simpa using hs, by simpa using hl, fun j hj => ?_⟩
  · simp [heap_setCell, hg]
  · have hj' : j < ys.length := by simpa using hj
    by_cases hjk : k = j
    · subst hjk
      simp only [List.getElem_set_self]
      constructor
      · rw [Array.getElem?_setIfInBounds, if_neg (by omega), Array.getElem?_setIfInBounds, if_pos rfl, if_pos (by omega)]
      · rw [Array.getElem?_setIfInBounds, if_pos rfl, if_pos (by simp; omega)]
    · rw [List.getElem_set_ne hjk]
      constructor
      · rw [Array.getElem?_setIfInBounds, if_neg (by omega), Array.getElem?_setIfInBounds, if_neg (by omega)]
        exact (hc j hj').1
      · rw [Array.getElem?_setIfInBounds, if_neg (by omega), Array.getElem?_setIfInBounds, if_neg (by omega)]
        exact (hc j hj').2
/-- One cell of a pair. -/
theorem Own2.store0 {w : World} {g cap : Nat} {e : TypeId} {ys : List (Value × Value)} (h : Own2 w g e cap ys) (k : Nat) (hk : k < ys.length) (a : Value) : Own2 (w.setCell ⟨g, k * 2, none⟩ a) g e cap (ys.set k (a, ys[k].2)) := by
  obtain ⟨cur, hg, hs, hl, hc⟩ := h
  refine ⟨cur.setIfInBounds (k * 2) a, ?_, by simpa using hs, by simpa using hl, fun j hj => ?_⟩
  · simp [heap_setCell, hg]
  · have hj' : j < ys.length := by simpa using hj
    by_cases hjk : k = j
    · subst hjk
      simp only [List.getElem_set_self]
      constructor
      · rw [Array.getElem?_setIfInBounds, if_pos rfl, if_pos (by omega)]
      · rw [Array.getElem?_setIfInBounds, if_neg (by omega)]
        exact (hc k hk).2
    · rw [List.getElem_set_ne hjk]
      constructor
      · rw [Array.getElem?_setIfInBounds, if_neg (by omega)]
        exact (hc j hj').1
      · rw [Array.getElem?_setIfInBounds, if_neg (by omega)]
        exact (hc j hj').2
theorem Own2.setOut {g cap : Nat} {e : TypeId} {ys : List (Value × Value)} : ∀ (vs : List Value) (o : Nat) (w : World), Own2 w g e cap ys → ys.length * 2 ≤ o → Own2 (w.setCells g o vs) g e cap ys
  | [], _, _, h, _ => h
  | v :: vs, o, w, h, ho => by
    refine Own2.setOut vs (o + 1) _ ?_ (by omega)
    obtain ⟨cur, hg, hs, hl, hc⟩ := h
    refine ⟨cur.setIfInBounds o v, ?_, by simpa using hs, hl, fun j hj => ?_⟩
    · simp [heap_setCell, hg]
    · rw [Array.getElem?_setIfInBounds, if_neg (by omega), Array.getElem?_setIfInBounds, if_neg (by omega)]
      exact hc j hj
theorem Own2.take {w : World} {g cap : Nat} {e : TypeId} {ys : List (Value × Value)} (h : Own2 w g e cap ys) (n : Nat) : Own2 w g e cap (ys.take n) := by
  obtain ⟨cur, hg, hs, hl, hc⟩ := h
  refine ⟨cur, hg, hs, by simp; omega, fun j hj => ?_⟩
  have hj' : j < ys.length := by simp at hj; omega
  rw [List.getElem_take]
  exact hc j hj'

theorem gb_refl (w : World) (r : Option Nat) : w.grownBy w r := ⟨rfl, rfl, rfl, Nat.le_refl _, fun _ _ _ => rfl⟩
theorem gb_trans {w w1 w2 : World} {r : Option Nat} (h1 : w.grownBy w1 r) (h2 : w1.grownBy w2 r) : w.grownBy w2 r :=
  ⟨h2.os.trans h1.os, h2.tape.trans h1.tape, h2.output.trans h1.output, Nat.le_trans h1.size h2.size, fun k hk hr => (h2.block k (Nat.lt_of_lt_of_le hk h1.size) hr).trans (h1.block k hk hr)⟩
theorem gb_below {w w' : World} {r : Option Nat} (h : Below w.heap.size w w') : w.grownBy w' r := ⟨h.os, h.tape, h.output, h.size, fun k hk _ => h.block k hk⟩
theorem gb_drew (w : World) (r : Option Nat) : w.grownBy w.drew r := gb_below (Below.refl _ _).drew
theorem gb_setCell (w : World) (g o : Nat) (v : Value) : w.grownBy (w.setCell ⟨g, o, none⟩ v) (some g) :=
  ⟨rfl, rfl, rfl, by simp [World.setCell], fun k _ hr => by rw [heap_setCell, if_neg (fun e => hr (by rw [e]))]⟩
theorem gb_setCells (g : Nat) : ∀ (vs : List Value) (o : Nat) (w : World), w.grownBy (w.setCells g o vs) (some g)
  | [], _, w => gb_refl w _
  | v :: vs, o, w => gb_trans (gb_setCell w g o v) (gb_setCells g vs (o + 1) _)
theorem below_gb {B g : Nat} {w0 w w' : World} (h : Below B w0 w) (hg : w.grownBy w' (some g)) (hB : B ≤ g) (hs : B ≤ w.heap.size) : Below B w0 w' :=
  ⟨hg.os.trans h.os, hg.tape.trans h.tape, hg.output.trans h.output, Nat.le_trans h.size hg.size, fun k hk => (hg.block k (by omega) (fun e => by cases e; omega)).trans (h.block k hk)⟩

/-- Pairs of cells in a row. -/
def flat : List (Value × Value) → List Value
  | [] => []
  | y :: ys => y.1 :: y.2 :: flat ys
theorem flat_len : ∀ ys : List (Value × Value), (flat ys).length = ys.length * 2
  | [] => rfl
  | y :: ys => by simp [flat, flat_len ys]; omega
theorem flat_at : ∀ (ys : List (Value × Value)) (j : Nat) (h : j < ys.length), (flat ys)[j * 2]? = some ys[j].1 ∧ (flat ys)[j * 2 + 1]? = some ys[j].2
  | y :: ys, 0, _ => ⟨rfl, rfl⟩
  | y :: ys, j + 1, h => by
    have := flat_at ys j (by simpa using h)
    rw [show (j + 1) * 2 = j * 2 + 1 + 1 by omega]
    simpa [flat] using this
theorem flat_of : ∀ (n : Nat) (cs : List Value), cs.length = n * 2 → ∃ ys : List (Value × Value), ys.length = n ∧ flat ys = cs
  | 0, cs, h => ⟨[], rfl, (List.eq_nil_of_length_eq_zero (by omega)).symm⟩
  | n + 1, [], h => by simp at h
  | n + 1, [a], h => by simp at h; omega
  | n + 1, a :: b :: cs, h => by
    obtain ⟨ys, h1, h2⟩ := flat_of n cs (by simp at h; omega)
    exact ⟨(a, b) :: ys, by simp [h1], by simp [flat, h2]⟩
/-- A block of pairs is a row that the call owns. -/
theorem Own2.owns {w : World} {g cap base : Nat} {e : TypeId} {ys : List (Value × Value)} (h : Own2 w g e cap ys) (hb : base ≤ g) (hm : cap ≤ maxLen) : w.ownsRow base e 2 (.slice (some ⟨g, 0, none⟩) ys.length cap) ys.length (flat ys) := by
  obtain ⟨cur, hg, hs, hl, hc⟩ := h
  refine ⟨flat_len ys, .inr ⟨g, cap, cur, rfl, hb, hg, hl, hm, hs, ?_⟩⟩
  refine List.ext_getElem? fun i => ?_
  rw [List.getElem?_take]
  by_cases hi : i < ys.length * 2
  · rw [if_pos hi, Array.getElem?_toList]
    have hi2 : i / 2 < ys.length := by omega
    have h1 := hc (i / 2) hi2
    have h2 := flat_at ys (i / 2) hi2
    rcases Nat.mod_two_eq_zero_or_one i with hm2 | hm2
    · have e2 : i = i / 2 * 2 := by omega
      rw [e2, h1.1, h2.1]
    · have e2 : i = i / 2 * 2 + 1 := by omega
      rw [e2, h1.2, h2.2]
  · rw [if_neg hi, List.getElem?_eq_none (by rw [flat_len]; omega)]
theorem Own2.of {w : World} {g cap base n : Nat} {e : TypeId} {cs : List Value} (h : w.ownsRow base e 2 (.slice (some ⟨g, 0, none⟩) n cap) n cs) : ∃ ys, flat ys = cs ∧ ys.length = n ∧ Own2 w g e cap ys ∧ base ≤ g ∧ cap ≤ maxLen := by
  obtain ⟨hl, ⟨h0, _⟩ | ⟨g', cap', cur, hv, hb, hg, hn, hm, hs, ht⟩⟩ := h
  · cases h0
  · cases hv
    obtain ⟨ys, h1, h2⟩ := flat_of n cs hl
    refine ⟨ys, h2, h1, ⟨cur, hg, hs, by omega, fun j hj => ?_⟩, hb, hm⟩
    have h3 := flat_at ys j hj
    rw [h2, ← ht, List.getElem?_take, if_pos (by omega), List.getElem?_take, if_pos (by omega), Array.getElem?_toList, Array.getElem?_toList] at h3
    exact h3

/-- A row without those that are like the one ahead of them. -/
def cptF {α : Type} (q : α → α → Bool) : α → List α → List α
  | _, [] => []
  | p, x :: xs => if q x p then cptF q x xs else x :: cptF q x xs
def cpt {α : Type} (q : α → α → Bool) : List α → List α
  | [] => []
  | x :: xs => x :: cptF q x xs
theorem cptF_snoc {α : Type} (q : α → α → Bool) (x : α) : ∀ (p : α) (l : List α), cptF q p (l ++ [x]) = cptF q p l ++ (if q x ((p :: l)[l.length]'(by simp)) then [] else [x])
  | p, [] => by
    simp only [List.nil_append, cptF, List.length_nil, List.getElem_cons_zero]
  | p, y :: l => by
    have := cptF_snoc q x y l
    simp only [List.cons_append, cptF, this, List.length_cons, List.getElem_cons_succ]
    split <;> simp
theorem cpt_snoc {α : Type} (q : α → α → Bool) (xs : List α) (j : Nat) (hj : j + 1 < xs.length) : cpt q (xs.take (j + 1 + 1)) = cpt q (xs.take (j + 1)) ++ (if q xs[j + 1] (xs[j]'(by omega)) then [] else [xs[j + 1]]) := by
  cases xs with
  | nil => simp at hj
  | cons x xs =>
    have hj' : j < xs.length := by simpa using hj
    simp only [List.take_succ_cons, cpt, List.getElem_cons_succ]
    rw [List.take_succ_eq_append_getElem hj', cptF_snoc]
    simp only [List.cons_append, List.cons.injEq, true_and]
    congr 3
    cases j with
    | zero => simp
    | succ j =>
      have : min (j + 1) xs.length = j + 1 := by omega
      simp [this]
theorem cpt_at {α : Type} (q : α → α → Bool) (xs : List α) (k : Nat) (h1 : 1 ≤ k) (hk : k < xs.length) : cpt q (xs.take (k + 1)) = cpt q (xs.take k) ++ (if q xs[k] (xs[k - 1]'(by omega)) then [] else [xs[k]]) := by
  obtain ⟨j, rfl⟩ : ∃ j, k = j + 1 := ⟨k - 1, by omega⟩
  exact cpt_snoc q xs j hk
theorem cpt_le {α : Type} (q : α → α → Bool) : ∀ xs : List α, (cpt q xs).length ≤ xs.length
  | [] => Nat.le_refl _
  | x :: xs => by
    have : ∀ (p : α) (l : List α), (cptF q p l).length ≤ l.length := fun p l => by
      induction l generalizing p with
      | nil => exact Nat.le_refl _
      | cons y l ih =>
        rw [cptF]
        split
        · exact Nat.le_trans (ih y) (by simp)
        · simpa using ih y
    simpa [cpt] using this x xs
theorem cptF_mem {α : Type} (q : α → α → Bool) : ∀ (p : α) (l : List α) (x : α), x ∈ cptF q p l → x ∈ l
  | _, [], _, h => h
  | p, y :: l, x, h => by
    rw [cptF] at h
    split at h
    · exact List.mem_cons_of_mem _ (cptF_mem q y l x h)
    · rcases List.mem_cons.1 h with rfl | h
      · simp
      · exact List.mem_cons_of_mem _ (cptF_mem q y l x h)
theorem cpt_mem {α : Type} (q : α → α → Bool) : ∀ (l : List α) (x : α), x ∈ cpt q l → x ∈ l
  | [], _, h => h
  | y :: l, x, h => by
    rcases List.mem_cons.1 h with rfl | h
    · simp
    · exact List.mem_cons_of_mem _ (cptF_mem q y l x h)
theorem set_mid {α : Type} (l r : List α) (x y : α) : (l ++ x :: r).set l.length y = l ++ y :: r := by simp
end Go.Proofs.YtpkbpooiaddcaaaGreat.Tr

namespace Go.Proofs.YtpkbpooiaddcaaaGreat.Rw
open Go Go.RowKit
set_option maxRecDepth 20000

theorem str_ne {s : ByteArray} {l : List UInt8} (h : ¬ s = ⟨l.toArray⟩) : (l == s.toList) = false := by
  rw [beq_eq_false_iff_ne]
  intro e
  apply h
  have : s.data.toList = s.toList := (ByteArray.toList_eq s).symm
  rw [← this] at e
  cases s with
  | mk d => simp at e; subst e; rfl
theorem str_ne' {s : ByteArray} {l : List UInt8} (h : ¬ s = ⟨l.toArray⟩) : (s.toList == l) = false := by
  have := str_ne h
  rw [beq_eq_false_iff_ne] at this ⊢
  exact fun e => this e.symm
/-- Words that no action has. -/
def w1 : ByteArray := ⟨#[115, 107, 105, 112]⟩
def w2 : ByteArray := ⟨#[116, 104, 114, 111, 119]⟩
def w3 : ByteArray := ⟨#[121, 105, 101, 108, 100]⟩
def w4 : ByteArray := ⟨#[115, 107, 105, 112, 112]⟩
def w5 : ByteArray := ⟨#[116, 104, 114, 111, 119, 119]⟩
def w6 : ByteArray := ⟨#[121, 105, 101, 108, 100, 100]⟩
def wordB (s : ByteArray) : Bool := decide (s = w1 ∨ s = w2 ∨ s = w3 ∨ s = w4 ∨ s = w5 ∨ s = w6)
/-- Letters from a to z alone. -/
def low (l : List UInt8) : Bool := l.all fun c => decide (97 ≤ c.toNat) && decide (c.toNat ≤ 122)
theorem low_take (s : ByteArray) (k : Nat) (h : k < s.size) : low (s.data.toList.take (k + 1)) = (low (s.data.toList.take k) && (decide (97 ≤ s[k].toNat) && decide (s[k].toNat ≤ 122))) := by
  unfold low
  rw [List.take_succ_eq_append_getElem (by simpa using h), List.all_append]
  simp
  rfl
theorem low_no {s : ByteArray} {k : Nat} (h : k < s.size) (hb : (decide (97 ≤ s[k].toNat) && decide (s[k].toNat ≤ 122)) = false) : low s.data.toList = false := by
  have := low_take s k h
  rw [hb, Bool.and_false] at this
  unfold low at this ⊢
  rw [List.all_eq_false] at this ⊢
  obtain ⟨x, hx, hn⟩ := this
  exact ⟨x, List.mem_of_mem_take hx, hn⟩
/-- A node that may be. -/
def rgt (x : Nd) : Bool :=
  if ar x.k < 0 then false
  else if x.k = 1 then low x.n.data.toList && (decide (1 ≤ x.n.size) && decide (x.n.size ≤ 8)) && (x.s == 0) && !wordB x.n
  else if x.k = 11 ∨ x.k = 14 then decide (x.n.size = 0) && (decide (1 ≤ x.s) && decide (x.s ≤ 3))
  else decide (x.n.size = 0) && (x.s == 0)

theorem rgt_act (n : ByteArray) (s : Int) : rgt ⟨1, n, s⟩ = (low n.data.toList && (decide (1 ≤ n.size) && decide (n.size ≤ 8)) && (s == 0) && !wordB n) := by
  unfold rgt
  rw [if_neg (show ¬ ar 1 < 0 from by decide), if_pos rfl]
theorem rgt_sign {k : Int} (n : ByteArray) (s : Int) (h : k = 11 ∨ k = 14) : rgt ⟨k, n, s⟩ = (decide (n.size = 0) && (decide (1 ≤ s) && decide (s ≤ 3))) := by
  unfold rgt
  rw [if_neg (show ¬ ar k < 0 from by rcases h with rfl | rfl <;> decide), if_neg (show ¬ k = 1 from by omega), if_pos h]
theorem rgt_other {k : Int} (n : ByteArray) (s : Int) (h0 : ¬ ar k < 0) (h1 : ¬ k = 1) (h : ¬ (k = 11 ∨ k = 14)) : rgt ⟨k, n, s⟩ = (decide (n.size = 0) && (s == 0)) := by
  unfold rgt
  rw [if_neg h0, if_neg h1, if_neg h]

theorem empty_of {n : ByteArray} (h : n.size = 0) : n = ⟨#[]⟩ := by
  obtain ⟨d⟩ := n
  have : d = #[] := Array.eq_empty_of_size_eq_zero h
  rw [this]
theorem not_empty {n : ByteArray} (h : ¬ n.size = 0) : (n.toList == []) = false := str_ne' (l := []) fun e => h (by rw [e]; rfl)
set_option maxHeartbeats 1000000 in
theorem depthR_any (v : Value) (l : List Nd) (w : World) (h : Nds w v l) (hl : l.length ≤ 1000000) :
    Calls Tryz.prog 17 #[v] w fun e w' => e = .returned (.int .i64 (depth l)) ∧ w = w' := by
  have HD : Hid ((depth l : Int) = dp (T l)) := by
    show (depth l : Int) = _
    unfold depth
    cases T l with
    | none => rfl
    | some x => rfl
  have H := Lib.hid h
  obtain ⟨_, a, cap, rfl, -⟩ := h
  rw [HD.out]
  obtain ⟨r, hr⟩ : ∃ r, T l = r := ⟨_, rfl⟩
  rw [hr]
  have HT := Lib.hid hr
  clear hr HD
  obtain ⟨x, hx⟩ : ∃ x, nx 0 r = x := ⟨_, rfl⟩
  obtain ⟨y, hy⟩ : ∃ y, dp r = y := ⟨_, rfl⟩
  have HX := Lib.hid hx
  have HY := Lib.hid hy
  rw [hy]
  clear hx hy
  go_enter Tryz.func17, Tryz.ntmps17
  go_wp2_with fail
  refine (walk_any _ l 0 _ H.out hl (Nat.zero_le _)).mono ?_
  unfold WalkPost
  rw [List.drop_zero, HT.out, HX.out, HY.out]
  rintro e w' ⟨rfl, rfl⟩
  go_wp2_with fail
  go_ret
  exact ⟨rfl, rfl⟩
end Go.Proofs.YtpkbpooiaddcaaaGreat.Rw

namespace Go.Proofs.YtpkbpooiaddcaaaGreat.Tr
open Go Go.RowKit
set_option maxRecDepth 20000

set_option maxHeartbeats 2000000 in
theorem cmp_any (v1 v2 : Value) (p q : Tr) (w : World) (h1 : Strs w v1 p.a) (h2 : Strs w v2 q.a) (hl : p.a.length ≤ 1000000000000) (hm : q.a.length ≤ 1000000000000) :
    Calls Tryz.prog 27 #[.agg #[v1, .int .i64 p.e], .agg #[v2, .int .i64 q.e]] w fun e w' => e = .returned (.int .i64 (cmp p q)) ∧ Below w.heap.size w w' := by
  have HB : Hid (∀ x y : Obj, Below w.heap.size w ((w.alloc x).alloc y)) := fun x y => ((Below.refl _ _).alloc (Nat.le_refl _) x).alloc (by simp) y
  have H1 := Lib.hid h1
  have H2 := Lib.hid h2
  clear h1 h2
  obtain ⟨x, hx⟩ : ∃ x, row p.a q.a = x := ⟨_, rfl⟩
  have hbd := row_bd p.a q.a
  rw [hx] at hbd
  obtain ⟨c, hc⟩ : ∃ c, cmp p q = c := ⟨_, rfl⟩
  have hc' := hc
  unfold cmp at hc'
  rw [hx] at hc'
  rw [hc]
  have HX := Lib.hid hx
  clear hx hc
  by_cases c1 : x < 0
  · have b1 : (x == 0) = false := by rw [beq_eq_false_iff_ne]; omega
    rw [if_pos c1] at hc'
    subst hc'
    go_enter Tryz.func27, Tryz.ntmps27
    go_wp2_with fail
    refine (row_any _ _ p.a q.a _ (H1.out.below (HB.out _ _)) (H2.out.below (HB.out _ _)) hl hm).mono ?_
    rw [HX.out]
    rintro e w' ⟨rfl, n, rfl⟩
    go_wp2_with fail
    go_ret
    exact ⟨rfl, (HB.out _ _).trans (Below.drewN _ _ _)⟩
  rw [if_neg c1] at hc'
  by_cases c2 : 0 < x
  · have b1 : (x == 0) = false := by rw [beq_eq_false_iff_ne]; omega
    rw [if_pos c2] at hc'
    subst hc'
    go_enter Tryz.func27, Tryz.ntmps27
    go_wp2_with fail
    refine (row_any _ _ p.a q.a _ (H1.out.below (HB.out _ _)) (H2.out.below (HB.out _ _)) hl hm).mono ?_
    rw [HX.out]
    rintro e w' ⟨rfl, n, rfl⟩
    go_wp2_with fail
    go_ret
    exact ⟨rfl, (HB.out _ _).trans (Below.drewN _ _ _)⟩
  rw [if_neg c2] at hc'
  obtain rfl : x = 0 := by omega
  by_cases c3 : p.e < q.e
  · have d1 : decide (p.e < q.e) = true := by simpa using c3
    rw [if_pos c3] at hc'
    subst hc'
    go_enter Tryz.func27, Tryz.ntmps27
    go_wp2_with fail
    refine (row_any _ _ p.a q.a _ (H1.out.below (HB.out _ _)) (H2.out.below (HB.out _ _)) hl hm).mono ?_
    rw [HX.out]
    rintro e w' ⟨rfl, n, rfl⟩
    go_wp2_with fail
    go_ret
    exact ⟨rfl, (HB.out _ _).trans (Below.drewN _ _ _)⟩
  rw [if_neg c3] at hc'
  have d1 : decide (p.e < q.e) = false := by simpa using c3
  by_cases c4 : q.e < p.e
  · have d2 : decide (q.e < p.e) = true := by simpa using c4
    rw [if_pos c4] at hc'
    subst hc'
    go_enter Tryz.func27, Tryz.ntmps27
    go_wp2_with fail
    refine (row_any _ _ p.a q.a _ (H1.out.below (HB.out _ _)) (H2.out.below (HB.out _ _)) hl hm).mono ?_
    rw [HX.out]
    rintro e w' ⟨rfl, n, rfl⟩
    go_wp2_with fail
    go_ret
    exact ⟨rfl, (HB.out _ _).trans (Below.drewN _ _ _)⟩
  · rw [if_neg c4] at hc'
    have d2 : decide (q.e < p.e) = false := by simpa using c4
    subst hc'
    go_enter Tryz.func27, Tryz.ntmps27
    go_wp2_with fail
    refine (row_any _ _ p.a q.a _ (H1.out.below (HB.out _ _)) (H2.out.below (HB.out _ _)) hl hm).mono ?_
    rw [HX.out]
    rintro e w' ⟨rfl, n, rfl⟩
    go_wp2_with fail
    go_ret
    exact ⟨rfl, (HB.out _ _).trans (Below.drewN _ _ _)⟩
end Go.Proofs.YtpkbpooiaddcaaaGreat.Tr

namespace Go.Proofs.YtpkbpooiaddcaaaGreat.Mn
open Go Go.RowKit Tr

/-- Four cells. -/
structure Qd where
  a : Value
  b : Value
  c : Value
  d : Value
instance : Inhabited Qd := ⟨⟨default, default, default, default⟩⟩
/-- A block of the call's own that holds these, in front of its room. -/
def Own4 (w : World) (g : Nat) (e : TypeId) (cap : Nat) (ys : List Qd) : Prop :=
  ∃ cur : Array Value, w.heap[g]? = some (.cells cur e (0, 0)) ∧ cur.size = cap * 4 ∧ ys.length ≤ cap ∧ ∀ j (h : j < ys.length), cur[j * 4]? = some ys[j].a ∧ cur[j * 4 + 1]? = some ys[j].b ∧ cur[j * 4 + 2]? = some ys[j].c ∧ cur[j * 4 + 3]? = some ys[j].d
theorem Own4.lt {w : World} {g cap : Nat} {e : TypeId} {ys : List Qd} (h : Own4 w g e cap ys) : g < w.heap.size := heap_lt h.choose_spec.1
theorem Own4.len {w : World} {g cap : Nat} {e : TypeId} {ys : List Qd} (h : Own4 w g e cap ys) : ys.length ≤ cap := h.choose_spec.2.2.1
theorem Own4.cell {w : World} {g cap : Nat} {e : TypeId} {ys : List Qd} (h : Own4 w g e cap ys) (j : Nat) (hj : j < ys.length) : w.cell? ⟨g, j * 4, none⟩ = some ys[j].a ∧ w.cell? ⟨g, j * 4 + 1, none⟩ = some ys[j].b ∧ w.cell? ⟨g, j * 4 + 2, none⟩ = some ys[j].c ∧ w.cell? ⟨g, j * 4 + 3, none⟩ = some ys[j].d := by
  obtain ⟨cur, hg, _, _, hc⟩ := h
  obtain ⟨h0, h1, h2, h3⟩ := hc j hj
  simp [World.cell?, hg, h0, h1, h2, h3]
theorem Own4.soft {w : World} {g cap : Nat} {e : TypeId} {ys : List Qd} (h : Own4 w g e cap ys) (j : Nat) : w.frozen? ⟨g, j, none⟩ = false := by
  obtain ⟨cur, hg, _⟩ := h
  simp [World.frozen?, hg]
theorem Own4.there {w : World} {g cap : Nat} {e : TypeId} {ys : List Qd} (h : Own4 w g e cap ys) (j : Nat) (hj : j < cap * 4) : (w.cell? ⟨g, j, none⟩).isSome = true := by
  obtain ⟨cur, hg, hs, _⟩ := h
  simp [World.cell?, hg, hs, hj]
theorem Own4.block {w w' : World} {g cap : Nat} {e : TypeId} {ys : List Qd} (h : Own4 w g e cap ys) (hb : w'.heap[g]? = w.heap[g]?) : Own4 w' g e cap ys := by
  obtain ⟨cur, hg, hr⟩ := h
  exact ⟨cur, by rw [hb, hg], hr⟩
theorem Own4.below {w w' : World} {g cap : Nat} {e : TypeId} {ys : List Qd} (h : Own4 w g e cap ys) (hb : Below w.heap.size w w') : Own4 w' g e cap ys := h.block (hb.block g h.lt)
theorem set4 (cur : Array Value) (o : Nat) (a b c d : Value) (i : Nat) :
    ((((cur.setIfInBounds o a).setIfInBounds (o + 1) b).setIfInBounds (o + 2) c).setIfInBounds (o + 3) d)[i]? = if i = o + 3 then (if i < cur.size then some d else none) else if i = o + 2 then (if i < cur.size then some c else none) else if i = o + 1 then (if i < cur.size then some b else none) else if i = o then (if i < cur.size then some a else none) else cur[i]? := by
  simp only [Array.getElem?_setIfInBounds, Array.size_setIfInBounds]
  repeat' split
  all_goals first | rfl | omega | (exfalso; omega)
theorem Own4.store {w : World} {g cap : Nat} {e : TypeId} {ys : List Qd} (h : Own4 w g e cap ys) (k : Nat) (hk : k < ys.length) (a b c d : Value) :
    Own4 ((((w.setCell ⟨g, k * 4, none⟩ a).setCell ⟨g, k * 4 + 1, none⟩ b).setCell ⟨g, k * 4 + 2, none⟩ c).setCell ⟨g, k * 4 + 3, none⟩ d) g e cap (ys.set k ⟨a, b, c, d⟩) := by
  obtain ⟨cur, hg, hs, hl, hc⟩ := h
  refine ⟨(((cur.setIfInBounds (k * 4) a).setIfInBounds (k * 4 + 1) b).setIfInBounds (k * 4 + 2) c).setIfInBounds (k * 4 + 3) d, ?_, by simpa using hs, by simpa using hl, fun j hj => ?_⟩
  · simp [heap_setCell, hg]
  · have hj' : j < ys.length := by simpa using hj
    simp only [set4]
    by_cases hjk : k = j
    · subst hjk
      simp only [List.getElem_set_self]
      refine ⟨?_, ?_, ?_, ?_⟩
      · rw [if_neg (by omega), if_neg (by omega), if_neg (by omega), if_pos trivial, if_pos (by omega)]
      · rw [if_neg (by omega), if_neg (by omega), if_pos trivial, if_pos (by omega)]
      · rw [if_neg (by omega), if_pos trivial, if_pos (by omega)]
      · rw [if_pos trivial, if_pos (by omega)]
    · rw [List.getElem_set_ne hjk]
      have := hc j hj'
      refine ⟨?_, ?_, ?_, ?_⟩
      · rw [if_neg (by omega), if_neg (by omega), if_neg (by omega), if_neg (by omega)]; exact this.1
      · rw [if_neg (by omega), if_neg (by omega), if_neg (by omega), if_neg (by omega)]; exact this.2.1
      · rw [if_neg (by omega), if_neg (by omega), if_neg (by omega), if_neg (by omega)]; exact this.2.2.1
      · rw [if_neg (by omega), if_neg (by omega), if_neg (by omega), if_neg (by omega)]; exact this.2.2.2
theorem Own4.setOut {g cap : Nat} {e : TypeId} {ys : List Qd} : ∀ (vs : List Value) (o : Nat) (w : World), Own4 w g e cap ys → ys.length * 4 ≤ o → Own4 (w.setCells g o vs) g e cap ys
  | [], _, _, h, _ => h
  | v :: vs, o, w, h, ho => by
    refine Own4.setOut vs (o + 1) _ ?_ (by omega)
    obtain ⟨cur, hg, hs, hl, hc⟩ := h
    refine ⟨cur.setIfInBounds o v, ?_, by simpa using hs, hl, fun j hj => ?_⟩
    · simp [heap_setCell, hg]
    · rw [Array.getElem?_setIfInBounds, if_neg (by omega), Array.getElem?_setIfInBounds, if_neg (by omega), Array.getElem?_setIfInBounds, if_neg (by omega), Array.getElem?_setIfInBounds, if_neg (by omega)]
      exact hc j hj
theorem Own4.take {w : World} {g cap : Nat} {e : TypeId} {ys : List Qd} (h : Own4 w g e cap ys) (n : Nat) : Own4 w g e cap (ys.take n) := by
  obtain ⟨cur, hg, hs, hl, hc⟩ := h
  refine ⟨cur, hg, hs, by simp; omega, fun j hj => ?_⟩
  have hj' : j < ys.length := by simp at hj; omega
  rw [List.getElem_take]
  exact hc j hj'
theorem gb_set4 (w : World) (g o : Nat) (a b c d : Value) : w.grownBy ((((w.setCell ⟨g, o, none⟩ a).setCell ⟨g, o + 1, none⟩ b).setCell ⟨g, o + 2, none⟩ c).setCell ⟨g, o + 3, none⟩ d) (some g) :=
  gb_trans (gb_trans (gb_setCell _ _ _ _) (gb_setCell _ _ _ _)) (gb_trans (gb_setCell _ _ _ _) (gb_setCell _ _ _ _))

/-- The cells of a row of fours. -/
def flat4 : List Qd → List Value
  | [] => []
  | y :: ys => y.a :: y.b :: y.c :: y.d :: flat4 ys
theorem flat4_len : ∀ ys : List Qd, (flat4 ys).length = ys.length * 4
  | [] => rfl
  | y :: ys => by simp [flat4, flat4_len ys]; omega
theorem flat4_at : ∀ (ys : List Qd) (j : Nat) (h : j < ys.length), (flat4 ys)[j * 4]? = some ys[j].a ∧ (flat4 ys)[j * 4 + 1]? = some ys[j].b ∧ (flat4 ys)[j * 4 + 2]? = some ys[j].c ∧ (flat4 ys)[j * 4 + 3]? = some ys[j].d
  | y :: ys, 0, _ => ⟨rfl, rfl, rfl, rfl⟩
  | y :: ys, j + 1, h => by
    have := flat4_at ys j (by simpa using h)
    rw [show (j + 1) * 4 = j * 4 + 1 + 1 + 1 + 1 by omega]
    simpa [flat4] using this
theorem flat4_of : ∀ (n : Nat) (cs : List Value), cs.length = n * 4 → ∃ ys : List Qd, ys.length = n ∧ flat4 ys = cs
  | 0, cs, h => ⟨[], rfl, (List.eq_nil_of_length_eq_zero (by omega)).symm⟩
  | n + 1, [], h => by simp at h
  | n + 1, [a], h => by simp at h; omega
  | n + 1, [a, b], h => by simp at h; omega
  | n + 1, [a, b, c], h => by simp at h; omega
  | n + 1, a :: b :: c :: d :: cs, h => by
    obtain ⟨ys, h1, h2⟩ := flat4_of n cs (by simp at h; omega)
    exact ⟨⟨a, b, c, d⟩ :: ys, by simp [h1], by simp [flat4, h2]⟩
theorem Own4.owns {w : World} {g cap base : Nat} {e : TypeId} {ys : List Qd} (h : Own4 w g e cap ys) (hb : base ≤ g) (hm : cap ≤ maxLen) : w.ownsRow base e 4 (.slice (some ⟨g, 0, none⟩) ys.length cap) ys.length (flat4 ys) := by
  obtain ⟨cur, hg, hs, hl, hc⟩ := h
  refine ⟨flat4_len ys, .inr ⟨g, cap, cur, rfl, hb, hg, hl, hm, hs, ?_⟩⟩
  refine List.ext_getElem? fun i => ?_
  rw [List.getElem?_take]
  by_cases hi : i < ys.length * 4
  · rw [if_pos hi, Array.getElem?_toList]
    have hi2 : i / 4 < ys.length := by omega
    have h1 := hc (i / 4) hi2
    have h2 := flat4_at ys (i / 4) hi2
    have hm4 : i = i / 4 * 4 ∨ i = i / 4 * 4 + 1 ∨ i = i / 4 * 4 + 2 ∨ i = i / 4 * 4 + 3 := by omega
    rcases hm4 with e2 | e2 | e2 | e2
    · rw [e2, h1.1, h2.1]
    · rw [e2, h1.2.1, h2.2.1]
    · rw [e2, h1.2.2.1, h2.2.2.1]
    · rw [e2, h1.2.2.2, h2.2.2.2]
  · rw [if_neg hi, List.getElem?_eq_none (by rw [flat4_len]; omega)]
theorem Own4.of {w : World} {g cap base n : Nat} {e : TypeId} {cs : List Value} (h : w.ownsRow base e 4 (.slice (some ⟨g, 0, none⟩) n cap) n cs) : ∃ ys, flat4 ys = cs ∧ ys.length = n ∧ Own4 w g e cap ys ∧ base ≤ g ∧ cap ≤ maxLen := by
  obtain ⟨hl, ⟨h0, _⟩ | ⟨g', cap', cur, hv, hb, hg, hn, hm, hs, ht⟩⟩ := h
  · cases h0
  · cases hv
    obtain ⟨ys, h1, h2⟩ := flat4_of n cs hl
    refine ⟨ys, h2, h1, ⟨cur, hg, hs, by omega, fun j hj => ?_⟩, hb, hm⟩
    have h3 := flat4_at ys j hj
    rw [h2, ← ht, List.getElem?_take, if_pos (by omega), List.getElem?_take, if_pos (by omega), List.getElem?_take, if_pos (by omega), List.getElem?_take, if_pos (by omega), Array.getElem?_toList, Array.getElem?_toList, Array.getElem?_toList, Array.getElem?_toList] at h3
    exact h3
end Go.Proofs.YtpkbpooiaddcaaaGreat.Mn

namespace Go.Proofs.YtpkbpooiaddcaaaGreat.Rx
open Go Go.RowKit Rw
set_option maxRecDepth 20000

set_option maxHeartbeats 1000000 in
theorem arP_eq (k : Int) (w : World) : Calls Tryz.prog 50 #[.int .i64 k] w fun e w' => e = .returned (.int .i64 (ar k)) ∧ w = w' := by
  rcases cases15 k with rfl | rfl | rfl | rfl | rfl | rfl | rfl | rfl | rfl | rfl | rfl | rfl | rfl | rfl | h
  case inr.inr.inr.inr.inr.inr.inr.inr.inr.inr.inr.inr.inr.inr =>
    have hr := Lib.hid (ar_no h)
    obtain ⟨h1, h2, h3, h4, h5, h6, h7, h8, h9, h10, h11, h12, h13, h14⟩ := h
    have b1 : (k == 1) = false := by simp [h1]
    have b2 : (k == 2) = false := by simp [h2]
    have b3 : (k == 3) = false := by simp [h3]
    have b4 : (k == 4) = false := by simp [h4]
    have b5 : (k == 5) = false := by simp [h5]
    have b6 : (k == 6) = false := by simp [h6]
    have b7 : (k == 7) = false := by simp [h7]
    have b8 : (k == 8) = false := by simp [h8]
    have b9 : (k == 9) = false := by simp [h9]
    have b10 : (k == 10) = false := by simp [h10]
    have b11 : (k == 11) = false := by simp [h11]
    have b12 : (k == 12) = false := by simp [h12]
    have b13 : (k == 13) = false := by simp [h13]
    have b14 : (k == 14) = false := by simp [h14]
    clear h1 h2 h3 h4 h5 h6 h7 h8 h9 h10 h11 h12 h13 h14
    go_enter Tryz.func50, Tryz.ntmps50
    go_wp2_with fail
    go_ret
    exact ⟨ret_int hr.out.symm, rfl⟩
  all_goals
    go_enter Tryz.func50, Tryz.ntmps50
    go_wp2_with fail
    go_ret
    exact ⟨rfl, rfl⟩
end Go.Proofs.YtpkbpooiaddcaaaGreat.Rx

namespace Go.Proofs.YtpkbpooiaddcaaaGreat.Rw
open Go Go.RowKit
set_option maxRecDepth 20000

/-- Names of a length that memory has. -/
def Nms (l : List Nd) : Prop := ∀ x ∈ l, x.n.size ≤ 140737488355328
def whole (l : List Nd) : Bool := l.all rgt && (decide (1 ≤ l.length) && decide (l.length ≤ 200)) && decide (size l = l.length)
theorem Below.drewN (B n : Nat) (w : World) : Below B w (w.drewN n) := by
  induction n with
  | zero => exact Below.refl _ _
  | succ n ih => exact ih.drew
/-- How many nodes are of one of the kinds. -/
def cnt (l : List Nd) (ks : List Int) : Nat := l.countP fun x => decide (x.k ∈ ks)
/-- A slice of integers that reads as these. -/
def Ints (w : World) (v : Value) (l : List Int) : Prop := Ap.Rd w 1 v l.length (l.map (.int .i64))
theorem Ints.below {w w' : World} {v : Value} {l : List Int} (h : Ints w v l) (hb : Below w.heap.size w w') : Ints w' v l := Ap.Rd.below h hb
def AtI (w : World) (b off : Nat) (l : List Int) : Prop := ∀ k, (h : k < l.length) → w.cell? ⟨b, off + k, none⟩ = some (.int .i64 l[k])
theorem Ints.form {w : World} {v : Value} {l : List Int} (h : Ints w v l) :
    (l = [] ∧ ∃ a cap, v = .slice a 0 cap) ∨ ∃ b off cap, v = .slice (some ⟨b, off, none⟩) l.length cap ∧ l.length ≤ cap ∧ AtI w b off l := by
  obtain ⟨_, a, cap, rfl, hle, _, hcell⟩ := h
  by_cases h0 : 0 < l.length
  · obtain ⟨b, off, rfl, hj⟩ := hcell h0
    exact Or.inr ⟨b, off, cap, rfl, hle, fun k hk => hj _ _ (by rw [List.getElem?_map, List.getElem?_eq_getElem hk]; rfl)⟩
  · have : l = [] := List.eq_nil_of_length_eq_zero (by omega)
    subst this
    exact Or.inl ⟨rfl, a, cap, rfl⟩
end Go.Proofs.YtpkbpooiaddcaaaGreat.Rw

namespace Go.Proofs.YtpkbpooiaddcaaaGreat.Tr
open Go Go.RowKit
set_option maxRecDepth 20000

/-- The cells of some traces: of each its row of actions, and its end. -/
def TrCells (w : World) : List Value → List Tr → Prop
  | [], [] => True
  | a :: e :: cs, t :: ts => Strs w a t.a ∧ e = .int .i64 t.e ∧ TrCells w cs ts
  | _, _ => False
/-- A slice of traces that reads as these. -/
def Trs (w : World) (v : Value) (ts : List Tr) : Prop := ∃ cs, Ap.Rd w 2 v ts.length cs ∧ TrCells w cs ts

theorem TrCells.below {w w' : World} (hb : Below w.heap.size w w') : ∀ {cs : List Value} {ts : List Tr}, TrCells w cs ts → TrCells w' cs ts
  | [], [], _ => trivial
  | _ :: _ :: _, _ :: _, h => ⟨h.1.below hb, h.2.1, TrCells.below hb h.2.2⟩
  | [], _ :: _, h => h.elim
  | [_], [], h => h.elim
  | [_], _ :: _, h => h.elim
  | _ :: _ :: _, [], h => h.elim
theorem Trs.below {w w' : World} {v : Value} {ts : List Tr} (h : Trs w v ts) (hb : Below w.heap.size w w') : Trs w' v ts := by
  obtain ⟨cs, h1, h2⟩ := h
  exact ⟨cs, h1.below hb, h2.below hb⟩
theorem TrCells.at {w : World} : ∀ {cs : List Value} {ts : List Tr}, TrCells w cs ts → ∀ k (hk : k < ts.length), ∃ a, cs[2 * k]? = some a ∧ cs[2 * k + 1]? = some (.int .i64 ts[k].e) ∧ Strs w a ts[k].a
  | [], [], _, k, hk => by simp at hk
  | a :: e :: cs, t :: ts, h, 0, _ => ⟨a, rfl, by simp [h.2.1], h.1⟩
  | a :: e :: cs, t :: ts, h, k + 1, hk => by
    obtain ⟨x, h1, h2, h3⟩ := TrCells.at h.2.2 k (by simpa using hk)
    refine ⟨x, ?_, ?_, h3⟩
    · rw [show 2 * (k + 1) = 2 * k + 1 + 1 by omega]; simpa using h1
    · rw [show 2 * (k + 1) + 1 = 2 * k + 1 + 1 + 1 by omega]; simpa using h2
  | [], _ :: _, h, _, _ => h.elim
  | [_], [], h, _, _ => h.elim
  | [_], _ :: _, h, _, _ => h.elim
  | _ :: _ :: _, [], h, _, _ => h.elim
/-- A trace of a row: its two cells. -/
theorem Trs.form {w : World} {v : Value} {ts : List Tr} (h : Trs w v ts) :
    (ts = [] ∧ ∃ a cap, v = .slice a 0 cap) ∨ ∃ b off cap, v = .slice (some ⟨b, off, none⟩) ts.length cap ∧
      ∀ k, (hk : k < ts.length) → ∃ a, w.cell? ⟨b, off + 2 * k, none⟩ = some a ∧ w.cell? ⟨b, off + 2 * k + 1, none⟩ = some (.int .i64 ts[k].e) ∧ Strs w a ts[k].a := by
  obtain ⟨cs, ⟨_, a, cap, rfl, _, _, hcell⟩, hc⟩ := h
  by_cases h0 : 0 < ts.length
  · obtain ⟨b, off, rfl, hj⟩ := hcell h0
    refine Or.inr ⟨b, off, cap, rfl, fun k hk => ?_⟩
    obtain ⟨x, h1, h2, h3⟩ := hc.at k hk
    exact ⟨x, hj _ _ h1, by rw [Nat.add_assoc]; exact hj _ _ h2, h3⟩
  · have : ts = [] := List.eq_nil_of_length_eq_zero (by omega)
    subst this
    exact Or.inl ⟨rfl, a, cap, rfl⟩

/-- All actions of some traces are few. -/
def Few (ts : List Tr) : Prop := ts.length ≤ 1000000000000 ∧ ∀ t ∈ ts, t.a.length ≤ 1000000000000

theorem any_take (ts : List Tr) (p : Tr → Bool) (k : Nat) (h : k < ts.length) : (ts.take (k + 1)).any p = ((ts.take k).any p || p ts[k]) := by
  rw [List.take_succ_eq_append_getElem h, List.any_append]
  simp

end Go.Proofs.YtpkbpooiaddcaaaGreat.Tr

namespace Go.Proofs.YtpkbpooiaddcaaaGreat.Rw
open Go Go.RowKit Go.ChangeShapes Go.WideShapes
set_option maxRecDepth 100000

section
variable {H : Type} {enc : TypeId × Value → H} {P : Program} {w : World}
/-- The datum of a node. -/
def nodeD (x : Nd) : DataW H := .agg [.lit (.int .i64 x.k), .lit (.string x.n.data.toList), .lit (.int .i64 x.s)]
/-- A node's three cells that were read. -/
theorem nd_of {held : Bool} {fuel : Nat} {t ti ts tj : TypeId} {f0 f1 f2 : Field} {cs : List Value} {x : DataW H × List MemPlace} (ut : P.underlying t = some (.struct #[f0, f1, f2])) (ct : P.cellsOf t = 3) (h0 : f0.type = ti) (o0 : f0.offset = 0) (h1 : f1.type = ts) (o1 : f1.offset = 1) (h2 : f2.type = tj) (o2 : f2.offset = 2)
    (ui : P.underlying ti = some (.int .i64)) (ci : P.cellsOf ti = 1) (us : P.underlying ts = some .string) (cs1 : P.cellsOf ts = 1) (uj : P.underlying tj = some (.int .i64)) (cj : P.cellsOf tj = 1)
    (h : DataW.trod enc P w 0 (fun _ => true) held fuel t cs = some x) : ∃ n : Nd, cs = cl n ∧ x.1 = nodeD n := by
  obtain ⟨y0, y1, y2, n, rfl, hl, hy0, hy1, hy2⟩ := Deep.trod_struct3 ut h
  rw [ct] at hl
  match cs, hl with
  | [a, b, c], _ =>
    rw [h0, o0, ci] at hy0
    rw [h1, o1, cs1] at hy1
    rw [h2, o2, cj] at hy2
    obtain ⟨k, e1, e2, _⟩ := DataW.trod_int ui hy0
    obtain ⟨s, e3, e4, _⟩ := DataW.trod_string us hy1
    obtain ⟨j, e5, e6, _⟩ := DataW.trod_int uj hy2
    have e1' : a = .int .i64 k := by simpa using e1
    have e3' : b = .string s := by simpa using e3
    have e5' : c = .int .i64 j := by simpa using e5
    subst e1' e3' e5'
    exact ⟨⟨k, s, j⟩, rfl, by simp [nodeD, e2, e4, e6]⟩
/-- The datum of a row of nodes. -/
def nodesD (l : List Nd) (d : DataW H) : Prop := (l = [] ∧ d = .nil) ∨ ∃ sp : List (DataW H), d = .slice (l.map nodeD) sp
theorem trip_at (f : Nat → Nd) : ∀ (n j : Nat) (u : Value), (cls ((List.range n).map f))[j]? = some u → ∃ i k, i < n ∧ k < 3 ∧ j = i * 3 + k ∧ (cl (f i))[k]? = some u := by
  intro n j u hu
  have hlen : (cls ((List.range n).map f)).length = n * 3 := by rw [cls_len]; simp
  have hj : j < n * 3 := by
    have := (List.getElem?_eq_some_iff.1 hu).1
    omega
  have hk : j / 3 < ((List.range n).map f).length := by simp; omega
  obtain ⟨h1, h2, h3⟩ := cls_at _ (j / 3) hk
  have hx : ((List.range n).map f)[j / 3] = f (j / 3) := by simp
  rw [hx] at h1 h2 h3
  have hr : j % 3 = 0 ∨ j % 3 = 1 ∨ j % 3 = 2 := by omega
  rcases hr with hr | hr | hr
  · rw [← show j = j / 3 * 3 by omega] at h1
    exact ⟨j / 3, 0, by omega, by omega, by omega, by rw [← hu, h1]; rfl⟩
  · rw [← show j = j / 3 * 3 + 1 by omega] at h2
    exact ⟨j / 3, 1, by omega, by omega, by omega, by rw [← hu, h2]; rfl⟩
  · rw [← show j = j / 3 * 3 + 2 by omega] at h3
    exact ⟨j / 3, 2, by omega, by omega, by omega, by rw [← hu, h3]; rfl⟩
/-- A slice of nodes that came in. -/
theorem nds_of {held : Bool} {fuel : Nat} {tt t ti ts tj : TypeId} {f0 f1 f2 : Field} {v : Value} {x : DataW H × List MemPlace} (utt : P.underlying tt = some (.slice t)) (ut : P.underlying t = some (.struct #[f0, f1, f2])) (ct : P.cellsOf t = 3) (h0 : f0.type = ti) (o0 : f0.offset = 0) (h1 : f1.type = ts) (o1 : f1.offset = 1) (h2 : f2.type = tj) (o2 : f2.offset = 2)
    (ui : P.underlying ti = some (.int .i64)) (ci : P.cellsOf ti = 1) (us : P.underlying ts = some .string) (cs1 : P.cellsOf ts = 1) (uj : P.underlying tj = some (.int .i64)) (cj : P.cellsOf tj = 1)
    (h : DataW.trod enc P w 0 (fun _ => true) held fuel tt [v] = some x) : ∃ l : List Nd, Nds w v l ∧ nodesD l x.1 := by
  rcases Deep.open_slice utt h with ⟨hcs, rfl⟩ | ⟨a, len, cap, m, n, D, Pl, hcs, _, hl, hm, hmm, rfl, hel⟩
  · cases hcs
    exact ⟨[], ⟨rfl, none, 0, rfl, Nat.le_refl _, fun _ => ⟨rfl, rfl⟩, fun h => absurd h (by simp)⟩, .inl ⟨rfl, rfl⟩⟩
  · cases hcs
    have hm' : m = cap := by simpa using hmm
    subst hm'
    rw [ct] at hel
    obtain ⟨F, hF⟩ : ∃ F : Nat → Nd, ∀ i, i < len → w.cells? 0 (a.add (i * 3)) 3 = some (cl (F i)) ∧ D i = nodeD (F i) := by
      haveI : Inhabited Nd := ⟨⟨0, ⟨#[]⟩, 0⟩⟩
      refine Deep.choose_lt (α := Nd) (p := fun i z => w.cells? 0 (a.add (i * 3)) 3 = some (cl z) ∧ D i = nodeD z) fun i hi => ?_
      obtain ⟨cs', hc, ht⟩ := hel i (by omega)
      obtain ⟨z, rfl, hz⟩ := nd_of ut ct h0 o0 h1 o1 h2 o2 ui ci us cs1 uj cj ht
      exact ⟨z, hc, hz⟩
    have hlen : ((List.range len).map F).length = len := by simp
    refine ⟨(List.range len).map F, ⟨cls_len _, some a, m, by rw [hlen], by omega, fun h => (by cases h), fun hp => ?_⟩, .inr ⟨(List.range (m - len)).map fun j => D (len + j), ?_⟩⟩
    · rw [hlen] at hp
      obtain ⟨b, off, spot⟩ := a
      have hc0 := (World.cells?_some (hF 0 hp).1).2.2 0 (by omega)
      have hspot : spot = none := by
        have := hc0
        simp [Addr.add, cl] at this
        exact World.cell?_spot this
      subst hspot
      refine ⟨b, off, rfl, fun j u hu => ?_⟩
      obtain ⟨i, k, hi, hk, rfl, hu'⟩ := trip_at F len j u hu
      have hc := (World.cells?_some (hF i hi).1).2.2 k hk
      rw [hu'] at hc
      simpa [Addr.add_lit, Nat.add_assoc] using hc
    · have e : (List.range len).map D = ((List.range len).map F).map nodeD := by
        rw [List.map_map]
        exact List.map_congr_left fun i hi => (hF i (List.mem_range.1 hi)).2
      simp only [e]
/-- The reach, element by element. -/
theorem all_each {e : TypeId} {q : Nat → Bool} : ∀ {l : List (DataW H)}, (DataW.weightsAll P e l).all q = true → ∀ d ∈ l, (d.weights P e).all q = true
  | [], _, d, hd => by cases hd
  | x :: l, h, d, hd => by
    have h' : (DataW.weights P e x ++ DataW.weightsAll P e l).all q = true := h
    rw [List.all_append, Bool.and_eq_true] at h'
    rcases List.mem_cons.1 hd with rfl | hd
    · exact h'.1
    · exact all_each h'.2 d hd
theorem nd_reach {t : TypeId} {f0 f1 f2 : Field} (ut : P.underlying t = some (.struct #[f0, f1, f2])) {x : Nd} (h : ((nodeD x : DataW H).weights P t).all (· ≤ reachBytes) = true) : x.n.size ≤ 140737488355328 := by
  unfold nodeD at h
  rw [DataW.weights, ut] at h
  have h' : (DataW.weights P f0.type (.lit (.int .i64 x.k) : DataW H) ++ (DataW.weights P f1.type (.lit (.string x.n.data.toList) : DataW H) ++ DataW.weightsEach P [f2.type] [.lit (.int .i64 x.s)])).all (· ≤ reachBytes) = true := h
  rw [List.all_append, List.all_append, Bool.and_eq_true, Bool.and_eq_true] at h'
  have h1 : ([x.n.data.toList.length].all (· ≤ reachBytes)) = true := h'.2.1
  have h2 : x.n.data.toList.length = x.n.size := by simp
  rw [h2] at h1
  have h3 : x.n.size ≤ reachBytes := by simpa using h1
  unfold reachBytes at h3
  omega
theorem nds_reach {tt t : TypeId} {f0 f1 f2 : Field} (utt : P.underlying tt = some (.slice t)) (ut : P.underlying t = some (.struct #[f0, f1, f2])) {l : List Nd} {d : DataW H} (hd : nodesD l d) (h : (d.weights P tt).all (· ≤ reachBytes) = true) : Nms l := by
  rcases hd with ⟨rfl, _⟩ | ⟨sp, rfl⟩
  · intro p hp; cases hp
  · rw [DataW.weights, utt] at h
    simp only [List.all_cons, List.all_append, Bool.and_eq_true] at h
    intro x hx
    exact nd_reach ut (all_each h.2.1 _ (List.mem_map.2 ⟨x, hx, rfl⟩))
theorem reach_cons {t : TypeId} {ts : List TypeId} {d : DataW H} {ds : List (DataW H)} (h : (DataW.weightsEach P (t :: ts) (d :: ds)).all (· ≤ reachBytes) = true) : (d.weights P t).all (· ≤ reachBytes) = true ∧ (DataW.weightsEach P ts ds).all (· ≤ reachBytes) = true := by
  have h' : (DataW.weights P t d ++ DataW.weightsEach P ts ds).all (· ≤ reachBytes) = true := h
  rwa [List.all_append, Bool.and_eq_true] at h'
end

theorem own : ownKnob Tryz.prog.godebug = none := by kernel_rfl
theorem laidOut : laidOutB Tryz.prog = true := by kernel_rfl
theorem cN : Tryz.prog.cellsOf 41 = 3 := by kernel_rfl
theorem cStr : Tryz.prog.cellsOf 9 = 1 := by kernel_rfl
theorem cInt : Tryz.prog.cellsOf 3 = 1 := by kernel_rfl
section
variable {H : Type} {enc : TypeId × Value → H} {W : World} {base : Nat} {v : Value} {d : DataW H} {p : List MemPlace}
/-- A row of nodes that came in. -/
theorem nds_arg (hok : Value.okWide Tryz.prog W .any base 22 v) (h : DataW.Trod enc Tryz.prog W 0 (fun _ => true) true 22 v d p) :
    ∃ l : List Nd, Nds W v l ∧ nodesD l d := by
  obtain ⟨a, len, cap, rfl⟩ := okWide_slice Tryz.underlying22 hok
  obtain ⟨fuel, hf⟩ := h
  exact nds_of Tryz.underlying22 Tryz.underlying41 cN rfl rfl rfl rfl rfl rfl Tryz.underlying3 cInt Tryz.underlying9 cStr Tryz.underlying3 cInt hf
theorem nds_in {l : List Nd} (hd : nodesD l d) (h : (d.weights Tryz.prog 22).all (· ≤ reachBytes) = true) : Nms l := nds_reach Tryz.underlying22 Tryz.underlying41 hd h
end
end Go.Proofs.YtpkbpooiaddcaaaGreat.Rw
