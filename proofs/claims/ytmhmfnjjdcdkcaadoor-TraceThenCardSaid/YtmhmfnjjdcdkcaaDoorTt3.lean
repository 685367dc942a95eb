/- Rows of pairs of cells in a block of the call's own: what they hold, what a store and a clear make of them; and rows in which none is like the one ahead of it: plain laws. -/
import Derived.Test.YtmhmfnjjdcdkcaaDoorAp
import Derived.Lib.SliceRun
namespace Go.Proofs.YtmhmfnjjdcdkcaaDoor.Tr
open Go Go.RowKit
set_option maxRecDepth 20000

/-- A block of the call's own that holds these pairs, in front of its room. -/
def Own2 (w : World) (g : Nat) (e : TypeId) (cap : Nat) (ys : List (Value × Value)) : Prop :=
  ∃ cur : Array Value, w.heap[g]? = some (.cells cur e (0, 0)) ∧ cur.size = cap * 2 ∧ ys.length ≤ cap ∧ ∀ j (h : j < ys.length), cur[j * 2]? = some ys[j].1 ∧ cur[j * 2 + 1]? = some ys[j].2

theorem heap_lt {w : World} {g : Nat} {o : Obj} (h : w.heap[g]? = some o) : g < w.heap.size :=
  Nat.lt_of_not_le fun hle => by
    rw [Array.getElem?_eq_none hle] at h
    cases h
theorem Own2.lt {w : World} {g cap : Nat} {e : TypeId} {ys : List (Value × Value)} (h : Own2 w g e cap ys) : g < w.heap.size := heap_lt h.choose_spec.1
theorem Own2.len {w : World} {g cap : Nat} {e : TypeId} {ys : List (Value × Value)} (h : Own2 w g e cap ys) : ys.length ≤ cap := h.choose_spec.2.2.1
theorem Own2.cell0 {w : World} {g cap : Nat} {e : TypeId} {ys : List (Value × Value)} (h : Own2 w g e cap ys) (j : Nat) (hj : j < ys.length) : w.cell? ⟨g, j * 2, none⟩ = some ys[j].1 := by
  obtain ⟨cur, hg, _, _, hc⟩ := h
  simp [World.cell?, hg, (hc j hj).1]
theorem Own2.cell1 {w : World} {g cap : Nat} {e : TypeId} {ys : List (Value × Value)} (h : Own2 w g e cap ys) (j : Nat) (hj : j < ys.length) : w.cell? ⟨g, j * 2 + 1, none⟩ = some ys[j].2 := by
  obtain ⟨cur, hg, _, _, hc⟩ := h
  simp [World.cell?, hg, (hc j hj).2]
theorem Own2.soft {w : World} {g cap : Nat} {e : TypeId} {ys : List (Value × Value)} (h : Own2 w g e cap ys) (j : Nat) : w.frozen? ⟨g, j, none⟩ = false := by
  obtain ⟨cur, hg, _⟩ := h
  simp [World.frozen?, hg]
theorem Own2.there {w : World} {g cap : Nat} {e : TypeId} {ys : List (Value × Value)} (h : Own2 w g e cap ys) (j : Nat) (hj : j < cap * 2) : (w.cell? ⟨g, j, none⟩).isSome = true := by
  obtain ⟨cur, hg, hs, _⟩ := h
  simp [World.cell?, hg, hs, hj]
theorem Own2.block {w w' : World} {g cap : Nat} {e : TypeId} {ys : List (Value × Value)} (h : Own2 w g e cap ys) (hb : w'.heap[g]? = w.heap[g]?) : Own2 w' g e cap ys := by
  obtain ⟨cur, hg, hr⟩ := h
  exact ⟨cur, by rw [hb, hg], hr⟩
theorem Own2.below {w w' : World} {g cap : Nat} {e : TypeId} {ys : List (Value × Value)} (h : Own2 w g e cap ys) (hb : Below w.heap.size w w') : Own2 w' g e cap ys := h.block (hb.block g h.lt)
theorem Own2.grown {w w' : World} {g cap : Nat} {e : TypeId} {ys : List (Value × Value)} {r : Option Nat} (h : Own2 w g e cap ys) (hb : w.grownBy w' r) (hr : some g ≠ r) : Own2 w' g e cap ys := h.block (hb.block g h.lt hr)
theorem heap_setCell (w : World) (g o : Nat) (v : Value) (k : Nat) : (w.setCell ⟨g, o, none⟩ v).heap[k]? = if g = k then (w.heap[k]?).map (fun x => match x with | .cells c elem frozen => .cells (c.setIfInBounds o v) elem frozen | o => o) else w.heap[k]? := by
  simp only [World.setCell, Array.getElem?_modify]
  by_cases h : g = k
  · simp [h]
    rfl
  · simp [h]
theorem Own2.store {w : World} {g cap : Nat} {e : TypeId} {ys : List (Value × Value)} (h : Own2 w g e cap ys) (k : Nat) (hk : k < ys.length) (a b : Value) : Own2 ((w.setCell ⟨g, k * 2, none⟩ a).setCell ⟨g, k * 2 + 1, none⟩ b) g e cap (ys.set k (a, b)) := by
  obtain ⟨cur, hg, hs, hl, hc⟩ := h
  refine ⟨(cur.setIfInBounds (k * 2) a).setIfInBounds (k * 2 + 1) b, ?_, by simpa using hs, by simpa using hl, fun j hj => ?_⟩
  · simp [heap_setCell, hg]
  · have hj' : j < ys.length := by simpa using hj
    by_cases hjk : k = j
    · subst hjk
      simp only [List.getElem_set_self]
      constructor
      · rw [Array.getElem?_setIfInBounds, if_neg (by omega), Array.getElem?_setIfInBounds, if_pos rfl, if_pos (by omega)]
      · rw [Array.getElem?_setIfInBounds, if_pos rfl, if_pos (by simp; omega)]
    · rw [List.getElem_set_ne hjk]
      constructor
      · rw [Array.getElem?_setIfInBounds, if_neg (by omega), Array.getElem?_setIfInBounds, if_neg (by omega)]
        exact (hc j hj').1
      · rw [Array.getElem?_setIfInBounds, if_neg (by omega), Array.getElem?_setIfInBounds, if_neg (by omega)]
        exact (hc j hj').2
/-- One cell of a pair. -/
theorem Own2.store0 {w : World} {g cap : Nat} {e : TypeId} {ys : List (Value × Value)} (h : Own2 w g e cap ys) (k : Nat) (hk : k < ys.length) (a : Value) : Own2 (w.setCell ⟨g, k * 2, none⟩ a) g e cap (ys.set k (a, ys[k].2)) := by
  obtain ⟨cur, hg, hs, hl, hc⟩ := h
  refine ⟨cur.setIfInBounds (k * 2) a, ?_, by simpa using hs, by simpa using hl, fun j hj => ?_⟩
  · simp [heap_setCell, hg]
  · have hj' : j < ys.length := by simpa using hj
    by_cases hjk : k = j
    · subst hjk
      simp only [List.getElem_set_self]
      constructor
      · rw [Array.getElem?_setIfInBounds, if_pos rfl, if_pos (by omega)]
      · rw [Array.getElem?_setIfInBounds, if_neg (by omega)]
        exact (hc k hk).2
    · rw [List.getElem_set_ne hjk]
      constructor
      · rw [Array.getElem?_setIfInBounds, if_neg (by omega)]
        exact (hc j hj').1
      · rw [Array.getElem?_setIfInBounds, if_neg (by omega)]
        exact (hc j hj').2
theorem Own2.setOut {g cap : Nat} {e : TypeId} {ys : List (Value × Value)} : ∀ (vs : List Value) (o : Nat) (w : World), Own2 w g e cap ys → ys.length * 2 ≤ o → Own2 (w.setCells g o vs) g e cap ys
  | [], _, _, h, _ => h
  | v :: vs, o, w, h, ho => by
    refine Own2.setOut vs (o + 1) _ ?_ (by omega)
    obtain ⟨cur, hg, hs, hl, hc⟩ := h
    refine ⟨cur.setIfInBounds o v, ?_, by simpa using hs, hl, fun j hj => ?_⟩
    · simp [heap_setCell, hg]
    · rw [Array.getElem?_setIfInBounds, if_neg (by omega), Array.getElem?_setIfInBounds, if_neg (by omega)]
      exact hc j hj
theorem Own2.take {w : World} {g cap : Nat} {e : TypeId} {ys : List (Value × Value)} (h : Own2 w g e cap ys) (n : Nat) : Own2 w g e cap (ys.take n) := by
  obtain ⟨cur, hg, hs, hl, hc⟩ := h
  refine ⟨cur, hg, hs, by simp; omega, fun j hj => ?_⟩
  have hj' : j < ys.length := by simp at hj; omega
  rw [List.getElem_take]
  exact hc j hj'

theorem gb_refl (w : World) (r : Option Nat) : w.grownBy w r := ⟨rfl, rfl, rfl, Nat.le_refl _, fun _ _ _ => rfl⟩
theorem gb_trans {w w1 w2 : World} {r : Option Nat} (h1 : w.grownBy w1 r) (h2 : w1.grownBy w2 r) : w.grownBy w2 r :=
  ⟨h2.os.trans h1.os, h2.tape.trans h1.tape, h2.output.trans h1.output, Nat.le_trans h1.size h2.size, fun k hk hr => (h2.block k (Nat.lt_of_lt_of_le hk h1.size) hr).trans (h1.block k hk hr)⟩
theorem gb_below {w w' : World} {r : Option Nat} (h : Below w.heap.size w w') : w.grownBy w' r := ⟨h.os, h.tape, h.output, h.size, fun k hk _ => h.block k hk⟩
theorem gb_drew (w : World) (r : Option Nat) : w.grownBy w.drew r := gb_below (Below.refl _ _).drew
theorem gb_setCell (w : World) (g o : Nat) (v : Value) : w.grownBy (w.setCell ⟨g, o, none⟩ v) (some g) :=
  ⟨rfl, rfl, rfl, by simp [World.setCell], fun k _ hr => by rw [heap_setCell, if_neg (fun e => hr (by rw [e]))]⟩
theorem gb_setCells (g : Nat) : ∀ (vs : List Value) (o : Nat) (w : World), w.grownBy (w.setCells g o vs) (some g)
  | [], _, w => gb_refl w _
  | v :: vs, o, w => gb_trans (gb_setCell w g o v) (gb_setCells g vs (o + 1) _)
theorem below_gb {B g : Nat} {w0 w w' : World} (h : Below B w0 w) (hg : w.grownBy w' (some g)) (hB : B ≤ g) (hs : B ≤ w.heap.size) : Below B w0 w' :=
  ⟨hg.os.trans h.os, hg.tape.trans h.tape, hg.output.trans h.output, Nat.le_trans h.size hg.size, fun k hk => (hg.block k (by omega) (fun e => by cases e; omega)).trans (h.block k hk)⟩

/-- Pairs of cells in a row. -/
def flat : List (Value × Value) → List Value
  | [] => []
  | y :: ys => y.1 :: y.2 :: flat ys
theorem flat_len : ∀ ys : List (Value × Value), (flat ys).length = ys.length * 2
  | [] => rfl
  | y :: ys => by simp [flat, flat_len ys]; omega
theorem flat_at : ∀ (ys : List (Value × Value)) (j : Nat) (h : j < ys.length), (flat ys)[j * 2]? = some ys[j].1 ∧ (flat ys)[j * 2 + 1]? = some ys[j].2
  | y :: ys, 0, _ => ⟨rfl, rfl⟩
  | y :: ys, j + 1, h => by
    have := flat_at ys j (by simpa using h)
    rw [show (j + 1) * 2 = j * 2 + 1 + 1 by omega]
    simpa [flat] using this
theorem flat_append : ∀ (ys zs : List (Value × Value)), flat (ys ++ zs) = flat ys ++ flat zs
  | [], _ => rfl
  | y :: ys, zs => by simp [flat, flat_append ys zs]
theorem flat_of : ∀ (n : Nat) (cs : List Value), cs.length = n * 2 → ∃ ys : List (Value × Value), ys.length = n ∧ flat ys = cs
  | 0, cs, h => ⟨[], rfl, (List.eq_nil_of_length_eq_zero (by omega)).symm⟩
  | n + 1, [], h => by simp at h
  | n + 1, [a], h => by simp at h; omega
  | n + 1, a :: b :: cs, h => by
    obtain ⟨ys, h1, h2⟩ := flat_of n cs (by simp at h; omega)
    exact ⟨(a, b) :: ys, by simp [h1], by simp [flat, h2]⟩
/-- A block of pairs is a row that the call owns. -/
theorem Own2.owns {w : World} {g cap base : Nat} {e : TypeId} {ys : List (Value × Value)} (h : Own2 w g e cap ys) (hb : base ≤ g) (hm : cap ≤ maxLen) : w.ownsRow base e 2 (.slice (some ⟨g, 0, none⟩) ys.length cap) ys.length (flat ys) := by
  obtain ⟨cur, hg, hs, hl, hc⟩ := h
  refine ⟨flat_len ys, .inr ⟨g, cap, cur, rfl, hb, hg, hl, hm, hs, ?_⟩⟩
  refine List.ext_getElem? fun i => ?_
  rw [List.getElem?_take]
  by_cases hi : i < ys.length * 2
  · rw [if_pos hi, Array.getElem?_toList]
    have hi2 : i / 2 < ys.length := by omega
    have h1 := hc (i / 2) hi2
    have h2 := flat_at ys (i / 2) hi2
    rcases Nat.mod_two_eq_zero_or_one i with hm2 | hm2
    · have e2 : i = i / 2 * 2 := by omega
      rw [e2, h1.1, h2.1]
    · have e2 : i = i / 2 * 2 + 1 := by omega
      rw [e2, h1.2, h2.2]
  · rw [if_neg hi, List.getElem?_eq_none (by rw [flat_len]; omega)]
theorem Own2.of {w : World} {g cap base n : Nat} {e : TypeId} {cs : List Value} (h : w.ownsRow base e 2 (.slice (some ⟨g, 0, none⟩) n cap) n cs) : ∃ ys, flat ys = cs ∧ ys.length = n ∧ Own2 w g e cap ys ∧ base ≤ g ∧ cap ≤ maxLen := by
  obtain ⟨hl, ⟨h0, _⟩ | ⟨g', cap', cur, hv, hb, hg, hn, hm, hs, ht⟩⟩ := h
  · cases h0
  · cases hv
    obtain ⟨ys, h1, h2⟩ := flat_of n cs hl
    refine ⟨ys, h2, h1, ⟨cur, hg, hs, by omega, fun j hj => ?_⟩, hb, hm⟩
    have h3 := flat_at ys j hj
    rw [h2, ← ht, List.getElem?_take, if_pos (by omega), List.getElem?_take, if_pos (by omega), Array.getElem?_toList, Array.getElem?_toList] at h3
    exact h3

/-- A row without those that are like the one ahead of them. -/
def cptF {α : Type} (q : α → α → Bool) : α → List α → List α
  | _, [] => []
  | p, x :: xs => if q x p then cptF q x xs else x :: cptF q x xs
def cpt {α : Type} (q : α → α → Bool) : List α → List α
  | [] => []
  | x :: xs => x :: cptF q x xs
theorem cptF_snoc {α : Type} (q : α → α → Bool) (x : α) : ∀ (p : α) (l : List α), cptF q p (l ++ [x]) = cptF q p l ++ (if q x ((p :: l)[l.length]'(by simp)) then [] else [x])
  | p, [] => by
    simp only [List.nil_append, cptF, List.length_nil, List.getElem_cons_zero]
  | p, y :: l => by
    have := cptF_snoc q x y l
    simp only [List.cons_append, cptF, this, List.length_cons, List.getElem_cons_succ]
    split <;> simp
theorem cpt_snoc {α : Type} (q : α → α → Bool) (xs : List α) (j : Nat) (hj : j + 1 < xs.length) : cpt q (xs.take (j + 1 + 1)) = cpt q (xs.take (j + 1)) ++ (if q xs[j + 1] (xs[j]'(by omega)) then [] else [xs[j + 1]]) := by
  cases xs with
  | nil => simp at hj
  | cons x xs =>
    have hj' : j < xs.length := by simpa using hj
    simp only [List.take_succ_cons, cpt, List.getElem_cons_succ]
    rw [List.take_succ_eq_append_getElem hj', cptF_snoc]
    simp only [List.cons_append, List.cons.injEq, true_and]
    congr 3
    cases j with
    | zero => simp
    | succ j =>
      have : min (j + 1) xs.length = j + 1 := by omega
      simp [this]
theorem cpt_at {α : Type} (q : α → α → Bool) (xs : List α) (k : Nat) (h1 : 1 ≤ k) (hk : k < xs.length) : cpt q (xs.take (k + 1)) = cpt q (xs.take k) ++ (if q xs[k] (xs[k - 1]'(by omega)) then [] else [xs[k]]) := by
  obtain ⟨j, rfl⟩ : ∃ j, k = j + 1 := ⟨k - 1, by omega⟩
  exact cpt_snoc q xs j hk
theorem cpt_le {α : Type} (q : α → α → Bool) : ∀ xs : List α, (cpt q xs).length ≤ xs.length
  | [] => Nat.le_refl _
  | x :: xs => by
    have : ∀ (p : α) (l : List α), (cptF q p l).length ≤ l.length := fun p l => by
      induction l generalizing p with
      | nil => exact Nat.le_refl _
      | cons y l ih =>
        rw [cptF]
        split
        · exact Nat.le_trans (ih y) (by simp)
        · simpa using ih y
    simpa [cpt] using this x xs
theorem cptF_mem {α : Type} (q : α → α → Bool) : ∀ (p : α) (l : List α) (x : α), x ∈ cptF q p l → x ∈ l
  | _, [], _, h => h
  | p, y :: l, x, h => by
    rw [cptF] at h
    split at h
    · exact List.mem_cons_of_mem _ (cptF_mem q y l x h)
    · rcases List.mem_cons.1 h with rfl | h
      · simp
      · exact List.mem_cons_of_mem _ (cptF_mem q y l x h)
theorem cpt_mem {α : Type} (q : α → α → Bool) : ∀ (l : List α) (x : α), x ∈ cpt q l → x ∈ l
  | [], _, h => h
  | y :: l, x, h => by
    rcases List.mem_cons.1 h with rfl | h
    · simp
    · exact List.mem_cons_of_mem _ (cptF_mem q y l x h)
theorem set_mid {α : Type} (l r : List α) (x y : α) : (l ++ x :: r).set l.length y = l ++ y :: r := by simp
end Go.Proofs.YtmhmfnjjdcdkcaaDoor.Tr
