/- Rows of actions in memory; how one row stands to another, and which of two traces comes ahead, by the document's own answer. A row within another one: plain. The text of a trace: plain. Rows of pairs of cells in a block of the call's own: what they hold, what a store and a clear make of them; and rows in which none is like the one ahead of it: plain laws. What the cards of the laws of signs share: the array of texts as the program's own text lays it, and a world that holds it. The document's Right, Size, Depth, Whole over rows of nodes. Which of two traces comes ahead, by the document's own answer: the walk. -/
import Derived.Test.YtghnonbcojbohaaGreatDoorProg
import Derived.Test.YtghnonbcojbohaaGreatDoorQ02
import Derived.WalkKit
import Derived.WalkSpells
import Derived.WalkLawsBesides
import Derived.Lib.Hide
import Derived.Deep.QuietTactic
import Derived.BigQuiet
import Derived.LoopN
import Derived.Lib.SliceRun
import Derived.Test.YtghnonbcojbohaaGreatDoorCards
import Derived.Test.YtghnonbcojbohaaGreatDoorTie
import Derived.Test.YtghnonbcojbohaaGreatDoorQ03

namespace Go.Proofs.YtghnonbcojbohaaGreatDoor.Tr
open Go Go.RowKit
set_option maxRecDepth 20000

/-- A slice of texts that reads as these. -/
def Strs (w : World) (v : Value) (l : List ByteArray) : Prop := Ap.Rd w 1 v l.length (l.map .string)

theorem Strs.below {w w' : World} {v : Value} {l : List ByteArray} (h : Strs w v l) (hb : Below w.heap.size w w') : Strs w' v l := Ap.Rd.below h hb
theorem Below.drewN (B n : Nat) (w : World) : Below B w (w.drewN n) := by
  induction n with
  | zero => exact Below.refl _ _
  | succ n ih => exact ih.drew
theorem Strs.form {w : World} {v : Value} {l : List ByteArray} (h : Strs w v l) :
    (l = [] ∧ ∃ a cap, v = .slice a 0 cap) ∨ ∃ b off cap, v = .slice (some ⟨b, off, none⟩) l.length cap ∧ ∀ k, (h : k < l.length) → w.cell? ⟨b, off + k, none⟩ = some (.string l[k]) := by
  obtain ⟨_, a, cap, rfl, _, _, hcell⟩ := h
  by_cases h0 : 0 < l.length
  · obtain ⟨b, off, rfl, hj⟩ := hcell h0
    exact Or.inr ⟨b, off, cap, rfl, fun k hk => hj k _ (by simp [hk])⟩
  · have : l = [] := List.eq_nil_of_length_eq_zero (by omega)
    subst this
    exact Or.inl ⟨rfl, a, cap, rfl⟩

theorem ret_int {k : IntKind} {a b : Int} (h : a = b) : Ending.returned (.int k a) = .returned (.int k b) := congrArg (fun z => Ending.returned (.int k z)) h
theorem ret_bool {a b : Bool} (h : a = b) : Ending.returned (.bool a) = .returned (.bool b) := by rw [h]

theorem row_at (l m : List ByteArray) (k : Nat) (h1 : k < l.length) (h2 : k < m.length) :
    row (l.drop k) (m.drop k) = if ls l[k] m[k] then -1 else if ls m[k] l[k] then 1 else row (l.drop (k + 1)) (m.drop (k + 1)) := by
  rw [List.drop_eq_getElem_cons h1, List.drop_eq_getElem_cons h2, row_cons]
theorem row_end (l m : List ByteArray) (k : Nat) (h1 : k ≤ l.length) (h2 : k ≤ m.length) (h : ¬ k < l.length ∨ ¬ k < m.length) :
    row (l.drop k) (m.drop k) = (l.length : Int) - m.length := by
  rcases h with h | h
  · rw [List.drop_eq_nil_of_le (by omega), row_nil_l, List.length_drop]; omega
  · rw [show m.drop k = [] from List.drop_eq_nil_of_le (by omega), row_nil_r, List.length_drop]; omega
theorem eq_of_ls {x y : ByteArray} (h : ls x y = false) : (x.toList == y.toList) = !ls y x := by
  cases h2 : ls y x with
  | true =>
    rw [Bool.not_true, beq_eq_false_iff_ne]
    intro e
    rw [toList_inj e, ls_irrefl] at h2
    cases h2
  | false => rw [ls_tri h h2]; simp

set_option maxHeartbeats 1000000 in
theorem row_cells (b1 o1 c1 b2 o2 c2 : Nat) (l m : List ByteArray) (w : World) (hl : l.length ≤ 1000000000000) (hm : m.length ≤ 1000000000000)
    (h1 : ∀ k, (h : k < l.length) → w.cell? ⟨b1, o1 + k, none⟩ = some (.string l[k])) (h2 : ∀ k, (h : k < m.length) → w.cell? ⟨b2, o2 + k, none⟩ = some (.string m[k])) :
    Calls Tryz.prog 69 #[.slice (some ⟨b1, o1, none⟩) l.length c1, .slice (some ⟨b2, o2, none⟩) m.length c2] w fun e w' => e = .returned (.int .i64 (row l m)) ∧ ∃ n, w' = w.drewN n := by
  have H1 := Lib.hid h1
  have H2 := Lib.hid h2
  clear h1 h2
  go_enter Tryz.func69, Tryz.ntmps69
  go_wp2_with fail
  go_loopw [5] (fun i wr => ∃ k n : Nat, k ≤ l.length ∧ k ≤ m.length ∧ i = .int .i64 k ∧ wr = w.drewN n ∧ row l m = row (l.drop k) (m.drop k)) (fun i _ => l.length - (intOf i).toNat)
  case atStart => exact ⟨0, 0, Nat.zero_le _, Nat.zero_le _, rfl, rfl, rfl⟩
  case round =>
    obtain ⟨k, n, hk1, hk2, rfl, rfl, hrow⟩ := hrel
    have HROW := Lib.hid hrow
    clear hrow
    by_cases hlt : k < l.length
    · by_cases hlt2 : k < m.length
      · have e1 := H1.out k hlt
        have e2 := H2.out k hlt2
        have HA := Lib.hid (HROW.out.trans (row_at l m k hlt hlt2))
        cases hx : ls l[k] m[k] with
        | true =>
          have hx' : Op.bytesLess l[k].toList m[k].toList = true := hx
          have HX := Lib.hid hx
          clear hx
          go_wp2_with fail
          go_quiet (fail)
          go_wp2_with fail
          go_ret
          exact ⟨ret_int (by rw [HA.out, HX.out]; rfl), _, World.drewN_drewN _ _ _⟩
        | false =>
          have hx' : Op.bytesLess l[k].toList m[k].toList = false := hx
          have hy' := eq_of_ls hx
          have HX := Lib.hid hx
          clear hx
          cases hy : ls m[k] l[k] with
          | true =>
            rw [hy] at hy'
            have HY := Lib.hid hy
            clear hy
            go_wp2_with fail
            go_quiet (fail)
            go_wp2_with fail
            go_quiet (fail)
            go_wp2_with fail
            go_ret
            exact ⟨ret_int (by rw [HA.out, HX.out, HY.out]; rfl), _, by rw [World.drewN_drewN, World.drewN_drewN]⟩
          | false =>
            rw [hy] at hy'
            have HY := Lib.hid hy
            clear hy
            go_wp2_with fail
            go_quiet (fail)
            go_wp2_with fail
            go_quiet (fail)
            go_wp2_with fail
            go_roundw
            case rel => exact ⟨k + 1, _, by omega, by omega, by go_num, rfl, by rw [HA.out, HX.out, HY.out]; rfl⟩
            case measure => simp [intOf]; omega
      · have g2 : decide (k < m.length) = false := by simpa using hlt2
        have HE := Lib.hid (HROW.out.trans (row_end l m k hk1 hk2 (.inr hlt2)))
        go_wp2_with fail
        go_ret
        exact ⟨ret_int HE.out.symm, _, rfl⟩
    · have g1 : decide (k < l.length) = false := by simpa using hlt
      have HE := Lib.hid (HROW.out.trans (row_end l m k hk1 hk2 (.inl hlt)))
      go_wp2_with fail
      go_ret
      exact ⟨ret_int HE.out.symm, _, rfl⟩

set_option maxHeartbeats 400000 in
theorem row_empty_l (a1 a2 : Option Addr) (c1 c2 n : Nat) (w : World) (hn : n ≤ 1000000000000) :
    Calls Tryz.prog 69 #[.slice a1 0 c1, .slice a2 n c2] w fun e w' => e = .returned (.int .i64 (- (n : Int))) ∧ ∃ n, w' = w.drewN n := by
  go_enter Tryz.func69, Tryz.ntmps69
  go_wp2_with fail
  refine Go.wp_loop_rounds 1 ?_
  rw [rounds_succ]
  go_wp2_with fail
  go_ret
  exact ⟨ret_int (by omega), 0, rfl⟩
set_option maxHeartbeats 400000 in
theorem row_empty_r (a1 a2 : Option Addr) (c1 c2 n : Nat) (w : World) (hn : n ≤ 1000000000000) (h0 : 0 < n) :
    Calls Tryz.prog 69 #[.slice a1 n c1, .slice a2 0 c2] w fun e w' => e = .returned (.int .i64 (n : Int)) ∧ ∃ n, w' = w.drewN n := by
  go_enter Tryz.func69, Tryz.ntmps69
  go_wp2_with fail
  refine Go.wp_loop_rounds 1 ?_
  rw [rounds_succ]
  go_wp2_with fail
  go_ret
  exact ⟨ret_int (by omega), 0, rfl⟩

theorem row_any (v1 v2 : Value) (l m : List ByteArray) (w : World) (h1 : Strs w v1 l) (h2 : Strs w v2 m) (hl : l.length ≤ 1000000000000) (hm : m.length ≤ 1000000000000) :
    Calls Tryz.prog 69 #[v1, v2] w fun e w' => e = .returned (.int .i64 (row l m)) ∧ ∃ n, w' = w.drewN n := by
  rcases h1.form with ⟨rfl, a1, c1, rfl⟩ | ⟨b1, o1, c1, rfl, hc1⟩
  · obtain ⟨_, a2, c2, rfl, _⟩ := h2
    rw [row_nil_l]
    exact row_empty_l a1 a2 c1 c2 m.length w hm
  · by_cases h0 : 0 < l.length
    · rcases h2.form with ⟨rfl, a2, c2, rfl⟩ | ⟨b2, o2, c2, rfl, hc2⟩
      · rw [row_nil_r]
        exact row_empty_r _ a2 c1 c2 l.length w hl h0
      · exact row_cells b1 o1 c1 b2 o2 c2 l m w hl hm hc1 hc2
    · obtain rfl : l = [] := List.eq_nil_of_length_eq_zero (by omega)
      obtain ⟨_, a2, c2, rfl, _⟩ := h2
      rw [row_nil_l]
      exact row_empty_l _ a2 c1 c2 m.length w hm

theorem row_bd (l m : List ByteArray) : - (m.length : Int) - 1 ≤ row l m ∧ row l m ≤ (l.length : Int) + 1 := by
  induction l generalizing m with
  | nil => rw [row_nil_l]; simp; omega
  | cons x l ih =>
    cases m with
    | nil => rw [row_nil_r]; simp; omega
    | cons y m =>
      rw [row_cons]
      have := ih m
      split
      · simp; omega
      · split
        · simp; omega
        · simp; omega
end Go.Proofs.YtghnonbcojbohaaGreatDoor.Tr

namespace Go.Proofs.YtghnonbcojbohaaGreatDoor.Tr
open Go Go.RowKit
set_option maxRecDepth 20000

/-- Are the actions of one row those of another, in order, some left out? -/
def sub : List ByteArray → List ByteArray → Bool
  | [], _ => true
  | _ :: _, [] => false
  | x :: a, y :: b => if x = y then sub a b else sub (x :: a) b
end Go.Proofs.YtghnonbcojbohaaGreatDoor.Tr

namespace Go.Proofs.YtghnonbcojbohaaGreatDoor.Tr
open Go Go.RowKit
set_option maxRecDepth 20000

/-- The bytes of some actions, a blank behind each. -/
def txs : List ByteArray → List UInt8
  | [] => []
  | x :: l => x.data.toList ++ 32 :: txs l
/-- The text of a trace. -/
def txt (t : Tr) : ByteArray := ⟨(txs t.a ++ (Sg.txt t.e).data.toList).toArray⟩

theorem sgtxt_size (e : Int) : (Sg.txt e).size ≤ 2 := by
  rcases Sg.cases4 e with rfl | rfl | rfl | h
  · decide
  · decide
  · decide
  · rw [show Sg.txt e = ⟨#[]⟩ by simp [Sg.txt, h]]
    decide
end Go.Proofs.YtghnonbcojbohaaGreatDoor.Tr

namespace Go.Proofs.YtghnonbcojbohaaGreatDoor.Tr
open Go Go.RowKit
set_option maxRecDepth 20000

/-- A block of the call's own that holds these pairs, in front of its room. -/
def Own2 (w : World) (g : Nat) (e : TypeId) (cap : Nat) (ys : List (Value × Value)) : Prop :=
  ∃ cur : Array Value, w.heap[g]? = some (.cells cur e (0, 0)) ∧ cur.size = cap * 2 ∧ ys.length ≤ cap ∧ ∀ j (h : j < ys.length), cur[j * 2]? = some ys[j].1 ∧ cur[j * 2 + 1]? = some ys[j].2

theorem heap_lt {w : World} {g : Nat} {o : Obj} (h : w.heap[g]? = some o) : g < w.heap.size :=
  Nat.lt_of_not_le fun hle => by
    rw [Array.getElem?_eq_none hle] at h
    cases h
theorem Own2.lt {w : World} {g cap : Nat} {e : TypeId} {ys : List (Value × Value)} (h : Own2 w g e cap ys) : g < w.heap.size := heap_lt h.choose_spec.1
theorem Own2.len {w : World} {g cap : Nat} {e : TypeId} {ys : List (Value × Value)} (h : Own2 w g e cap ys) : ys.length ≤ cap := h.choose_spec.2.2.1
theorem Own2.cell0 {w : World} {g cap : Nat} {e : TypeId} {ys : List (Value × Value)} (h : Own2 w g e cap ys) (j : Nat) (hj : j < ys.length) : w.cell? ⟨g, j * 2, none⟩ = some ys[j].1 := by
  obtain ⟨cur, hg, _, _, hc⟩ := h
  simp [World.cell?, hg, (hc j hj).1]
theorem Own2.cell1 {w : World} {g cap : Nat} {e : TypeId} {ys : List (Value × Value)} (h : Own2 w g e cap ys) (j : Nat) (hj : j < ys.length) : w.cell? ⟨g, j * 2 + 1, none⟩ = some ys[j].2 := by
  obtain ⟨cur, hg, _, _, hc⟩ := h
  simp [World.cell?, hg, (hc j hj).2]
theorem Own2.soft {w : World} {g cap : Nat} {e : TypeId} {ys : List (Value × Value)} (h : Own2 w g e cap ys) (j : Nat) : w.frozen? ⟨g, j, none⟩ = false := by
  obtain ⟨cur, hg, _⟩ := h
  simp [World.frozen?, hg]
theorem Own2.there {w : World} {g cap : Nat} {e : TypeId} {ys : List (Value × Value)} (h : Own2 w g e cap ys) (j : Nat) (hj : j < cap * 2) : (w.cell? ⟨g, j, none⟩).isSome = true := by
  obtain ⟨cur, hg, hs, _⟩ := h
  simp [World.cell?, hg, hs, hj]
theorem Own2.block {w w' : World} {g cap : Nat} {e : TypeId} {ys : List (Value × Value)} (h : Own2 w g e cap ys) (hb : w'.heap[g]? = w.heap[g]?) : Own2 w' g e cap ys := by
  obtain ⟨cur, hg, hr⟩ := h
  exact ⟨cur, by rw [hb, hg], hr⟩
theorem Own2.below {w w' : World} {g cap : Nat} {e : TypeId} {ys : List (Value × Value)} (h : Own2 w g e cap ys) (hb : Below w.heap.size w w') : Own2 w' g e cap ys := h.block (hb.block g h.lt)
theorem Own2.grown {w w' : World} {g cap : Nat} {e : TypeId} {ys : List (Value × Value)} {r : Option Nat} (h : Own2 w g e cap ys) (hb : w.grownBy w' r) (hr : some g ≠ r) : Own2 w' g e cap ys := h.block (hb.block g h.lt hr)
theorem heap_setCell (w : World) (g o : Nat) (v : Value) (k : Nat) : (w.setCell ⟨g, o, none⟩ v).heap[k]? = if g = k then (w.heap[k]?).map (fun x => match x with | .cells c elem frozen => .cells (c.setIfInBounds o v) elem frozen | o => o) else w.heap[k]? := by
  simp only [World.setCell, Array.getElem?_modify]
  by_cases h : g = k
  · simp [h]
    rfl
  · simp [h]
theorem Own2.store {w : World} {g cap : Nat} {e : TypeId} {ys : List (Value × Value)} (h : Own2 w g e cap ys) (k : Nat) (hk : k < ys.length) (a b : Value) : Own2 ((w.setCell ⟨g, k * 2, none⟩ a).setCell ⟨g, k * 2 + 1, none⟩ b) g e cap (ys.set k (a, b)) := by
  obtain ⟨cur, hg, hs, hl, hc⟩ := h
  refine ⟨(cur.setIfInBounds (k * 2) a).setIfInBounds (k * 2 + 1) b, ?_, by simpa using hs, by simpa using hl, fun j hj => ?_⟩
  · simp [heap_setCell, hg]
  · have hj' : j < ys.length := by simpa using hj
    by_cases hjk : k = j
    · subst hjk
      simp only [List.getElem_set_self]
      constructor
      · rw [Array.getElem?_setIfInBounds, if_neg (by omega), Array.getElem?_setIfInBounds, if_pos rfl, if_pos (by omega)]
      · rw [Array.getElem?_setIfInBounds, if_pos rfl, if_pos (by simp; omega)]
    · rw [List.getElem_set_ne hjk]
      constructor
      · rw [Array.getElem?_setIfInBounds, if_neg (by omega), Array.getElem?_setIfInBounds, if_neg (by omega)]
        exact (hc j hj').1
      · rw [Array.getElem?_setIfInBounds, if_neg (by omega), Array.getElem?_setIfInBounds, if_neg (by omega)]
        exact (hc j hj').2
/-- One cell of a pair. -/
theorem Own2.store0 {w : World} {g cap : Nat} {e : TypeId} {ys : List (Value × Value)} (h : Own2 w g e cap ys) (k : Nat) (hk : k < ys.length) (a : Value) : Own2 (w.setCell ⟨g, k * 2, none⟩ a) g e cap (ys.set k (a, ys[k].2)) := by
  obtain ⟨cur, hg, hs, hl, hc⟩ := h
  refine ⟨cur.setIfInBounds (k * 2) a, ?_, by simpa using hs, by simpa using hl, fun j hj => ?_⟩
  · simp [heap_setCell, hg]
  · have hj' : j < ys.length := by simpa using hj
    by_cases hjk : k = j
    · subst hjk
      simp only [List.getElem_set_self]
      constructor
      · rw [Array.getElem?_setIfInBounds, if_pos rfl, if_pos (by omega)]
      · rw [Array.getElem?_setIfInBounds, if_neg (by omega)]
        exact (hc k hk).2
    · rw [List.getElem_set_ne hjk]
      constructor
      · rw [Array.getElem?_setIfInBounds, if_neg (by omega)]
        exact (hc j hj').1
      · rw [Array.getElem?_setIfInBounds, if_neg (by omega)]
        exact (hc j hj').2
theorem Own2.setOut {g cap : Nat} {e : TypeId} {ys : List (Value × Value)} : ∀ (vs : List Value) (o : Nat) (w : World), Own2 w g e cap ys → ys.length * 2 ≤ o → Own2 (w.setCells g o vs) g e cap ys
  | [], _, _, h, _ => h
  | v :: vs, o, w, h, ho => by
    refine Own2.setOut vs (o + 1) _ ?_ (by omega)
    obtain ⟨cur, hg, hs, hl, hc⟩ := h
    refine ⟨cur.setIfInBounds o v, ?_, by simpa using hs, hl, fun j hj => ?_⟩
    · simp [heap_setCell, hg]
    · rw [Array.getElem?_setIfInBounds, if_neg (by omega), Array.getElem?_setIfInBounds, if_neg (by omega)]
      exact hc j hj
theorem Own2.take {w : World} {g cap : Nat} {e : TypeId} {ys : List (Value × Value)} (h : Own2 w g e cap ys) (n : Nat) : Own2 w g e cap (ys.take n) := by
  obtain ⟨cur, hg, hs, hl, hc⟩ := h
  refine ⟨cur, hg, hs, by simp; omega, fun j hj => ?_⟩
  have hj' : j < ys.length := by simp at hj; omega
  rw [List.getElem_take]
  exact hc j hj'

theorem gb_refl (w : World) (r : Option Nat) : w.grownBy w r := ⟨rfl, rfl, rfl, Nat.le_refl _, fun _ _ _ => rfl⟩
theorem gb_trans {w w1 w2 : World} {r : Option Nat} (h1 : w.grownBy w1 r) (h2 : w1.grownBy w2 r) : w.grownBy w2 r :=
  ⟨h2.os.trans h1.os, h2.tape.trans h1.tape, h2.output.trans h1.output, Nat.le_trans h1.size h2.size, fun k hk hr => (h2.block k (Nat.lt_of_lt_of_le hk h1.size) hr).trans (h1.block k hk hr)⟩
theorem gb_below {w w' : World} {r : Option Nat} (h : Below w.heap.size w w') : w.grownBy w' r := ⟨h.os, h.tape, h.output, h.size, fun k hk _ => h.block k hk⟩
theorem gb_drew (w : World) (r : Option Nat) : w.grownBy w.drew r := gb_below (Below.refl _ _).drew
theorem gb_setCell (w : World) (g o : Nat) (v : Value) : w.grownBy (w.setCell ⟨g, o, none⟩ v) (some g) :=
  ⟨rfl, rfl, rfl, by simp [World.setCell], fun k _ hr => by rw [heap_setCell, if_neg (fun e => hr (by rw [e]))]⟩
theorem gb_setCells (g : Nat) : ∀ (vs : List Value) (o : Nat) (w : World), w.grownBy (w.setCells g o vs) (some g)
  | [], _, w => gb_refl w _
  | v :: vs, o, w => gb_trans (gb_setCell w g o v) (gb_setCells g vs (o + 1) _)
theorem below_gb {B g : Nat} {w0 w w' : World} (h : Below B w0 w) (hg : w.grownBy w' (some g)) (hB : B ≤ g) (hs : B ≤ w.heap.size) : Below B w0 w' :=
  ⟨hg.os.trans h.os, hg.tape.trans h.tape, hg.output.trans h.output, Nat.le_trans h.size hg.size, fun k hk => (hg.block k (by omega) (fun e => by cases e; omega)).trans (h.block k hk)⟩

/-- Pairs of cells in a row. -/
def flat : List (Value × Value) → List Value
  | [] => []
  | y :: ys => y.1 :: y.2 :: flat ys
theorem flat_len : ∀ ys : List (Value × Value), (flat ys).length = ys.length * 2
  | [] => rfl
  | y :: ys => by simp [flat, flat_len ys]; omega
theorem flat_at : ∀ (ys : List (Value × Value)) (j : Nat) (h : j < ys.length), (flat ys)[j * 2]? = some ys[j].1 ∧ (flat ys)[j * 2 + 1]? = some ys[j].2
  | y :: ys, 0, _ => ⟨rfl, rfl⟩
  | y :: ys, j + 1, h => by
    have := flat_at ys j (by simpa using h)
    rw [show (j + 1) * 2 = j * 2 + 1 + 1 by omega]
    simpa [flat] using this
theorem flat_of : ∀ (n : Nat) (cs : List Value), cs.length = n * 2 → ∃ ys : List (Value × Value), ys.length = n ∧ flat ys = cs
  | 0, cs, h => ⟨[], rfl, (List.eq_nil_of_length_eq_zero (by omega)).symm⟩
  | n + 1, [], h => by simp at h
  | n + 1, [a], h => by simp at h; omega
  | n + 1, a :: b :: cs, h => by
    obtain ⟨ys, h1, h2⟩ := flat_of n cs (by simp at h; omega)
    exact ⟨(a, b) :: ys, by simp [h1], by simp [flat, h2]⟩
/-- A block of pairs is a row that the call owns. -/
theorem Own2.owns {w : World} {g cap base : Nat} {e : TypeId} {ys : List (Value × Value)} (h : Own2 w g e cap ys) (hb : base ≤ g) (hm : cap ≤ maxLen) : w.ownsRow base e 2 (.slice (some ⟨g, 0, none⟩) ys.length cap) ys.length (flat ys) := by
  obtain ⟨cur, hg, hs, hl, hc⟩ := h
  refine ⟨flat_len ys, .inr ⟨g, cap, cur, rfl, hb, hg, hl, hm, hs, ?_⟩⟩
  refine List.ext_getElem? fun i => ?_
  rw [List.getElem?_take]
  by_cases hi : i < ys.length * 2
  · rw [if_pos hi, Array.getElem?_toList]
    have hi2 : i / 2 < ys.length := by omega
    have h1 := hc (i / 2) hi2
    have h2 := flat_at ys (i / 2) hi2
    rcases Nat.mod_two_eq_zero_or_one i with hm2 | hm2
    · have e2 : i = i / 2 * 2 := by omega
      rw [e2, h1.1, h2.1]
    · have e2 : i = i / 2 * 2 + 1 := by omega
      rw [e2, h1.2, h2.2]
  · rw [if_neg hi, List.getElem?_eq_none (by rw [flat_len]; omega)]
theorem Own2.of {w : World} {g cap base n : Nat} {e : TypeId} {cs : List Value} (h : w.ownsRow base e 2 (.slice (some ⟨g, 0, none⟩) n cap) n cs) : ∃ ys, flat ys = cs ∧ ys.length = n ∧ Own2 w g e cap ys ∧ base ≤ g ∧ cap ≤ maxLen := by
  obtain ⟨hl, ⟨h0, _⟩ | ⟨g', cap', cur, hv, hb, hg, hn, hm, hs, ht⟩⟩ := h
  · cases h0
  · cases hv
    obtain ⟨ys, h1, h2⟩ := flat_of n cs hl
    refine ⟨ys, h2, h1, ⟨cur, hg, hs, by omega, fun j hj => ?_⟩, hb, hm⟩
    have h3 := flat_at ys j hj
    rw [h2, ← ht, List.getElem?_take, if_pos (by omega), List.getElem?_take, if_pos (by omega), Array.getElem?_toList, Array.getElem?_toList] at h3
    exact h3

/-- A row without those that are like the one ahead of them. -/
def cptF {α : Type} (q : α → α → Bool) : α → List α → List α
  | _, [] => []
  | p, x :: xs => if q x p then cptF q x xs else x :: cptF q x xs
def cpt {α : Type} (q : α → α → Bool) : List α → List α
  | [] => []
  | x :: xs => x :: cptF q x xs
theorem cptF_snoc {α : Type} (q : α → α → Bool) (x : α) : ∀ (p : α) (l : List α), cptF q p (l ++ [x]) = cptF q p l ++ (if q x ((p :: l)[l.length]'(by simp)) then [] else [x])
  | p, [] => by
    simp only [List.nil_append, cptF, List.length_nil, List.getElem_cons_zero]
  | p, y :: l => by
    have := cptF_snoc q x y l
    simp only [List.cons_append, cptF, this, List.length_cons, List.getElem_cons_succ]
    split <;> simp
theorem cpt_snoc {α : Type} (q : α → α → Bool) (xs : List α) (j : Nat) (hj : j + 1 < xs.length) : cpt q (xs.take (j + 1 + 1)) = cpt q (xs.take (j + 1)) ++ (if q xs[j + 1] (xs[j]'(by omega)) then [] else [xs[j + 1]]) := by
  cases xs with
  | nil => simp at hj
  | cons x xs =>
    have hj' : j < xs.length := by simpa using hj
    simp only [List.take_succ_cons, cpt, List.getElem_cons_succ]
    rw [List.take_succ_eq_append_getElem hj', cptF_snoc]
    simp only [List.cons_append, List.cons.injEq, true_and]
    congr 3
    cases j with
    | zero => simp
    | succ j =>
      have : min (j + 1) xs.length = j + 1 := by omega
      simp [this]
theorem cpt_at {α : Type} (q : α → α → Bool) (xs : List α) (k : Nat) (h1 : 1 ≤ k) (hk : k < xs.length) : cpt q (xs.take (k + 1)) = cpt q (xs.take k) ++ (if q xs[k] (xs[k - 1]'(by omega)) then [] else [xs[k]]) := by
  obtain ⟨j, rfl⟩ : ∃ j, k = j + 1 := ⟨k - 1, by omega⟩
  exact cpt_snoc q xs j hk
theorem cpt_le {α : Type} (q : α → α → Bool) : ∀ xs : List α, (cpt q xs).length ≤ xs.length
  | [] => Nat.le_refl _
  | x :: xs => by
    have : ∀ (p : α) (l : List α), (cptF q p l).length ≤ l.length := fun p l => by
      induction l generalizing p with
      | nil => exact Nat.le_refl _
      | cons y l ih =>
        rw [cptF]
        split
        · exact Nat.le_trans (ih y) (by simp)
        · simpa using ih y
    simpa [cpt] using this x xs
theorem cptF_mem {α : Type} (q : α → α → Bool) : ∀ (p : α) (l : List α) (x : α), x ∈ cptF q p l → x ∈ l
  | _, [], _, h => h
  | p, y :: l, x, h => by
    rw [cptF] at h
    split at h
    · exact List.mem_cons_of_mem _ (cptF_mem q y l x h)
    · rcases List.mem_cons.1 h with rfl | h
      · simp
      · exact List.mem_cons_of_mem _ (cptF_mem q y l x h)
theorem cpt_mem {α : Type} (q : α → α → Bool) : ∀ (l : List α) (x : α), x ∈ cpt q l → x ∈ l
  | [], _, h => h
  | y :: l, x, h => by
    rcases List.mem_cons.1 h with rfl | h
    · simp
    · exact List.mem_cons_of_mem _ (cptF_mem q y l x h)
theorem set_mid {α : Type} (l r : List α) (x y : α) : (l ++ x :: r).set l.length y = l ++ y :: r := by simp
end Go.Proofs.YtghnonbcojbohaaGreatDoor.Tr

namespace Go.Proofs.YtghnonbcojbohaaGreatDoor.Sg
open Go Go.ChangeShapes Go.WideShapes Go.ChangeAt Go.RowKit
open Go.ChangeMaps (open_string)

theorem own : ownKnob Tryz.prog.godebug = none := by kernel_rfl
theorem laidOut : laidOutB Tryz.prog = true := by kernel_rfl
theorem gTexts : Tryz.prog.globalNamed (Rows.meanPlainRow.named.headD "") = some 0 := by kernel_rfl
theorem tTexts : (Tryz.prog.globals[0]?).map (·.type) = some 125 := by kernel_rfl
theorem cStr : Tryz.prog.cellsOf 9 = 1 := by kernel_rfl
theorem cInt : Tryz.prog.cellsOf 3 = 1 := by kernel_rfl
theorem cTexts : Tryz.prog.cellsOf 125 = 4 := by kernel_rfl

/-- What is listed of the package's array. -/
abbrev laid : List (String × DataW Unit) := Rows.meanPlainRow.laid

/-- The list gives the walks the array. -/
theorem tab_of {W : World} (h : laidMetH Tryz.prog laid W) : Tab W := by
  rw [MakeChecks.laidMetH_plain _ _ _ (by kernel_rfl)] at h
  obtain ⟨ps, ⟨g, t, cs, fuel, p, q, hg, ht, hvar, hd, _, _⟩, _⟩ := h
  obtain rfl := Option.some.inj (gTexts.symm.trans hg)
  obtain rfl := Option.some.inj (tTexts.symm.trans ht)
  have hc := Fr.strs_cells (ss := [[], [111, 107], [33], [63]]) Tryz.underlying125 Tryz.underlying9 cStr cTexts hd
  obtain rfl : cs = cells := by cases cs; exact congrArg Array.mk hc
  simp only [World.var?, hg, Option.bind_some] at hvar
  unfold Tab
  split at hvar
  · rename_i c t fr hh
    cases hvar
    exact ⟨t, fr, hh⟩
  · cases hvar

/-- A world for the witness: the heap that the program's own initialisers leave. -/
theorem met (os : Os) (args : Array Value) : laidMetH Tryz.prog laid ((World.doorLaid Tryz.prog 400 os).forCall (fun _ _ => 0) ⟨#[], args, []⟩).memory :=
  laidMetH_of_parts3 (fuel := 8) (laidMet_of_run' 8 (by kernel_rfl) (by kernel_rfl)) (by kernel_rfl) (by kernel_rfl)

/-- No parameter wants a stand-in. -/
theorem plain {name : String} {f0 : FuncId} {fn0 : Func} (hname : Tryz.prog.funcNamed name = some f0) (hf0 : Tryz.prog.funcs[f0]? = some fn0) (hlook : false = Tryz.prog.looks []) (hall : fn0.params.toList.all (fun t => !Tryz.prog.wantsStandIn t) = true)
    (f : FuncId) (fn : Func) (hf : Tryz.pinned.checked.prog.funcNamed name = some f) (hfn : Tryz.pinned.checked.prog.funcs[f]? = some fn) :
    false = Tryz.pinned.checked.prog.looks [] ∧ ∀ (j : Nat) t, fn.params[j]? = some t → Tryz.pinned.checked.prog.wantsStandIn t = false := by
  obtain rfl : f = f0 := (Option.some.inj (hname.symm.trans hf)).symm
  obtain rfl : fn = fn0 := (Option.some.inj (hf0.symm.trans hfn)).symm
  refine ⟨hlook, fun j t ht => ?_⟩
  have hm : t ∈ fn.params.toList := by simpa using Array.mem_of_getElem? ht
  have := List.all_eq_true.1 hall t hm
  exact (show Tryz.prog.wantsStandIn t = false by simpa using this)
end Go.Proofs.YtghnonbcojbohaaGreatDoor.Sg

namespace Go.Proofs.YtghnonbcojbohaaGreatDoor.Rw
open Go Go.RowKit
set_option maxRecDepth 20000

theorem str_ne {s : ByteArray} {l : List UInt8} (h : ¬ s = ⟨l.toArray⟩) : (l == s.toList) = false := by
  rw [beq_eq_false_iff_ne]
  intro e
  apply h
  have : s.data.toList = s.toList := (ByteArray.toList_eq s).symm
  rw [← this] at e
  cases s with
  | mk d => simp at e; subst e; rfl
theorem str_ne' {s : ByteArray} {l : List UInt8} (h : ¬ s = ⟨l.toArray⟩) : (s.toList == l) = false := by
  have := str_ne h
  rw [beq_eq_false_iff_ne] at this ⊢
  exact fun e => this e.symm
/-- Words that no action has. -/
def w1 : ByteArray := ⟨#[115, 107, 105, 112]⟩
def w2 : ByteArray := ⟨#[116, 104, 114, 111, 119]⟩
def w3 : ByteArray := ⟨#[121, 105, 101, 108, 100]⟩
def w4 : ByteArray := ⟨#[115, 107, 105, 112, 112]⟩
def w5 : ByteArray := ⟨#[116, 104, 114, 111, 119, 119]⟩
def w6 : ByteArray := ⟨#[121, 105, 101, 108, 100, 100]⟩
def wordB (s : ByteArray) : Bool := decide (s = w1 ∨ s = w2 ∨ s = w3 ∨ s = w4 ∨ s = w5 ∨ s = w6)
set_option maxHeartbeats 1000000 in
theorem word_any (s : ByteArray) (w : World) : Calls Tryz.prog 202 #[.string s] w fun e w' => e = .returned (.bool (wordB s)) ∧ w = w' := by
  by_cases h : s = w1 ∨ s = w2 ∨ s = w3 ∨ s = w4 ∨ s = w5 ∨ s = w6
  · have hb : wordB s = true := by simpa [wordB] using h
    rw [hb]
    clear hb
    rcases h with rfl | rfl | rfl | rfl | rfl | rfl
    all_goals
      simp only [w1, w2, w3, w4, w5, w6]
      go_enter Tryz.func202, Tryz.ntmps202
      go_wp2_with fail
      go_ret
      exact ⟨rfl, rfl⟩
  · have hb : wordB s = false := by simpa [wordB] using h
    rw [hb]
    clear hb
    simp only [not_or] at h
    obtain ⟨h1, h2, h3, h4, h5, h6⟩ := h
    have e1 := str_ne' (l := [115, 107, 105, 112]) h1
    have e2 := str_ne' (l := [116, 104, 114, 111, 119]) h2
    have e3 := str_ne' (l := [121, 105, 101, 108, 100]) h3
    have e4 := str_ne' (l := [115, 107, 105, 112, 112]) h4
    have e5 := str_ne' (l := [116, 104, 114, 111, 119, 119]) h5
    have e6 := str_ne' (l := [121, 105, 101, 108, 100, 100]) h6
    clear h1 h2 h3 h4 h5 h6
    go_enter Tryz.func202, Tryz.ntmps202
    go_wp2_with fail
    go_ret
    exact ⟨rfl, rfl⟩

/-- Letters from a to z alone. -/
def low (l : List UInt8) : Bool := l.all fun c => decide (97 ≤ c.toNat) && decide (c.toNat ≤ 122)
theorem low_take (s : ByteArray) (k : Nat) (h : k < s.size) : low (s.data.toList.take (k + 1)) = (low (s.data.toList.take k) && (decide (97 ≤ s[k].toNat) && decide (s[k].toNat ≤ 122))) := by
  unfold low
  rw [List.take_succ_eq_append_getElem (by simpa using h), List.all_append]
  simp
  rfl
theorem low_no {s : ByteArray} {k : Nat} (h : k < s.size) (hb : (decide (97 ≤ s[k].toNat) && decide (s[k].toNat ≤ 122)) = false) : low s.data.toList = false := by
  have := low_take s k h
  rw [hb, Bool.and_false] at this
  unfold low at this ⊢
  rw [List.all_eq_false] at this ⊢
  obtain ⟨x, hx, hn⟩ := this
  exact ⟨x, List.mem_of_mem_take hx, hn⟩
/-- A node that may be. -/
def rgt (x : Nd) : Bool :=
  if ar x.k < 0 then false
  else if x.k = 1 then low x.n.data.toList && (decide (1 ≤ x.n.size) && decide (x.n.size ≤ 8)) && (x.s == 0) && !wordB x.n
  else if x.k = 11 ∨ x.k = 14 then decide (x.n.size = 0) && (decide (1 ≤ x.s) && decide (x.s ≤ 3))
  else decide (x.n.size = 0) && (x.s == 0)

set_option maxHeartbeats 2000000 in
theorem right_no (x : Nd) (w : World) (h : ar x.k < 0) : Calls Tryz.prog 183 #[.agg #[.int .i64 x.k, .string x.n, .int .i64 x.s]] w fun e w' => e = .returned (.bool (rgt x)) ∧ Below w.heap.size w w' := by
  have hr : rgt x = false := by unfold rgt; rw [if_pos h]
  rw [hr]
  clear hr
  obtain ⟨k, n, s⟩ := x
  obtain ⟨a, ha⟩ : ∃ a, ar k = a := ⟨_, rfl⟩
  simp only at h
  rw [ha] at h
  have HA := Lib.hid ha
  clear ha
  go_enter Tryz.func183, Tryz.ntmps183
  go_wp2_with fail
  refine (arR_any _ _).mono ?_
  rw [HA.out]
  rintro e w' ⟨rfl, rfl⟩
  go_wp2_with fail
  go_ret
  exact ⟨rfl, (Below.refl _ _).alloc (Nat.le_refl _) _⟩
theorem rgt_act (n : ByteArray) (s : Int) : rgt ⟨1, n, s⟩ = (low n.data.toList && (decide (1 ≤ n.size) && decide (n.size ≤ 8)) && (s == 0) && !wordB n) := by
  unfold rgt
  rw [if_neg (show ¬ ar 1 < 0 from by decide), if_pos rfl]
theorem rgt_sign {k : Int} (n : ByteArray) (s : Int) (h : k = 11 ∨ k = 14) : rgt ⟨k, n, s⟩ = (decide (n.size = 0) && (decide (1 ≤ s) && decide (s ≤ 3))) := by
  unfold rgt
  rw [if_neg (show ¬ ar k < 0 from by rcases h with rfl | rfl <;> decide), if_neg (show ¬ k = 1 from by omega), if_pos h]
theorem rgt_other {k : Int} (n : ByteArray) (s : Int) (h0 : ¬ ar k < 0) (h1 : ¬ k = 1) (h : ¬ (k = 11 ∨ k = 14)) : rgt ⟨k, n, s⟩ = (decide (n.size = 0) && (s == 0)) := by
  unfold rgt
  rw [if_neg h0, if_neg h1, if_neg h]

set_option maxHeartbeats 2000000 in
theorem right_act (n : ByteArray) (s : Int) (w : World) (hn : n.size ≤ 140737488355328) : Calls Tryz.prog 183 #[.agg #[.int .i64 1, .string n, .int .i64 s]] w fun e w' => e = .returned (.bool (rgt ⟨1, n, s⟩)) ∧ Below w.heap.size w w' := by
  have HR := Lib.hid (rgt_act n s)
  go_enter Tryz.func183, Tryz.ntmps183
  go_wp2_with fail
  refine (arR_any _ _).mono ?_
  rintro e w' ⟨rfl, rfl⟩
  rw [show ar 1 = 0 from rfl]
  go_wp2_with fail
  go_loop [3] (fun i => ∃ j : Nat, j ≤ n.size ∧ i = .int .i64 j ∧ Hid (low (n.data.toList.take j) = true)) (fun i => n.size - (intOf i).toNat)
  case atStart => exact ⟨0, Nat.zero_le _, rfl, Lib.hid rfl⟩
  case round =>
    obtain ⟨j, hj, rfl, HL⟩ := hrel
    by_cases hlt : j < n.size
    · have HT := Lib.hid (low_take n j hlt)
      have HN := Lib.hid (fun hb => low_no hlt hb)
      by_cases b1 : n[j].toNat < 97
      · have d1 : decide ((n[j].toNat : Int) < 97) = true := by simp; omega
        have HF := Lib.hid (HN.out (by simp; omega))
        go_wp2_with fail
        go_ret
        refine ⟨ret_bool ?_, (Below.refl _ _).alloc (Nat.le_refl _) _⟩
        rw [HR.out, HF.out]
        rfl
      · have d1 : decide ((n[j].toNat : Int) < 97) = false := by simp; omega
        by_cases b2 : 122 < n[j].toNat
        · have d2 : decide (122 < (n[j].toNat : Int)) = true := by simp; omega
          have HF := Lib.hid (HN.out (by simp; omega))
          go_wp2_with fail
          go_ret
          refine ⟨ret_bool ?_, (Below.refl _ _).alloc (Nat.le_refl _) _⟩
          rw [HR.out, HF.out]
          rfl
        · have d2 : decide (122 < (n[j].toNat : Int)) = false := by simp; omega
          have HG : Hid (low (n.data.toList.take (j + 1)) = true) := by
            show _ = true
            rw [HT.out, HL.out]
            simp
            omega
          go_wp2_with fail
          go_round
          case rel => exact ⟨j + 1, by omega, by go_num, HG⟩
          case measure => simp [intOf]; omega
    · have HF : Hid (low n.data.toList = true) := by
        have := HL.out
        rwa [List.take_of_length_le (by simp; omega)] at this
      have HR' := Lib.hid (HR.out.trans (by rw [HF.out]))
      by_cases q1 : 1 ≤ n.size
      · by_cases q2 : n.size ≤ 8
        · by_cases q3 : s = 0
          · subst q3
            go_wp2_with fail
            refine (word_any _ _).mono ?_
            rintro e w' ⟨rfl, rfl⟩
            go_wp2_with fail
            go_ret
            refine ⟨ret_bool ?_, (Below.refl _ _).alloc (Nat.le_refl _) _⟩
            rw [HR'.out]
            simp [q1, q2]
          · have d3 : (s == 0) = false := by simpa using q3
            go_wp2_with fail
            go_ret
            refine ⟨ret_bool ?_, (Below.refl _ _).alloc (Nat.le_refl _) _⟩
            rw [HR'.out]
            simp [d3]
        · go_wp2_with fail
          go_ret
          refine ⟨ret_bool ?_, (Below.refl _ _).alloc (Nat.le_refl _) _⟩
          rw [HR'.out]
          simp [q2]
      · go_wp2_with fail
        go_ret
        refine ⟨ret_bool ?_, (Below.refl _ _).alloc (Nat.le_refl _) _⟩
        rw [HR'.out]
        simp [q1]

theorem empty_of {n : ByteArray} (h : n.size = 0) : n = ⟨#[]⟩ := by
  obtain ⟨d⟩ := n
  have : d = #[] := Array.eq_empty_of_size_eq_zero h
  rw [this]
theorem not_empty {n : ByteArray} (h : ¬ n.size = 0) : (n.toList == []) = false := str_ne' (l := []) fun e => h (by rw [e]; rfl)
set_option maxHeartbeats 2000000 in
theorem right_sign (k : Int) (n : ByteArray) (s : Int) (w : World) (hk : k = 11 ∨ k = 14) : Calls Tryz.prog 183 #[.agg #[.int .i64 k, .string n, .int .i64 s]] w fun e w' => e = .returned (.bool (rgt ⟨k, n, s⟩)) ∧ Below w.heap.size w w' := by
  rw [rgt_sign n s hk]
  by_cases q1 : n.size = 0
  · obtain rfl := empty_of q1
    rw [decide_eq_true q1, Bool.true_and]
    clear q1
    by_cases q2 : 1 ≤ s
    · rw [decide_eq_true q2, Bool.true_and]
      by_cases q3 : s ≤ 3
      · rw [decide_eq_true q3]
        rcases hk with rfl | rfl
        all_goals
          go_enter Tryz.func183, Tryz.ntmps183
          go_wp2_with fail
          refine (arR_any _ _).mono ?_
          rintro e w' ⟨rfl, rfl⟩
          go_wp2_with fail
          go_ret
          exact ⟨rfl, (Below.refl _ _).alloc (Nat.le_refl _) _⟩
      · have d3 : decide (s ≤ 3) = false := decide_eq_false q3
        rw [d3]
        clear q3
        rcases hk with rfl | rfl
        all_goals
          go_enter Tryz.func183, Tryz.ntmps183
          go_wp2_with fail
          refine (arR_any _ _).mono ?_
          rintro e w' ⟨rfl, rfl⟩
          go_wp2_with fail
          go_ret
          exact ⟨rfl, (Below.refl _ _).alloc (Nat.le_refl _) _⟩
    · have d2 : decide (1 ≤ s) = false := decide_eq_false q2
      rw [d2, Bool.false_and]
      clear q2
      rcases hk with rfl | rfl
      all_goals
        go_enter Tryz.func183, Tryz.ntmps183
        go_wp2_with fail
        refine (arR_any _ _).mono ?_
        rintro e w' ⟨rfl, rfl⟩
        go_wp2_with fail
        go_ret
        exact ⟨rfl, (Below.refl _ _).alloc (Nat.le_refl _) _⟩
  · have e0 := not_empty q1
    rw [decide_eq_false q1, Bool.false_and]
    clear q1
    rcases hk with rfl | rfl
    all_goals
      go_enter Tryz.func183, Tryz.ntmps183
      go_wp2_with fail
      refine (arR_any _ _).mono ?_
      rintro e w' ⟨rfl, rfl⟩
      go_wp2_with fail
      go_ret
      exact ⟨rfl, (Below.refl _ _).alloc (Nat.le_refl _) _⟩
set_option maxHeartbeats 2000000 in
theorem right_other (k : Int) (n : ByteArray) (s : Int) (w : World) (h0 : ¬ ar k < 0) (h1 : ¬ k = 1) (hk : ¬ (k = 11 ∨ k = 14)) : Calls Tryz.prog 183 #[.agg #[.int .i64 k, .string n, .int .i64 s]] w fun e w' => e = .returned (.bool (rgt ⟨k, n, s⟩)) ∧ Below w.heap.size w w' := by
  rw [rgt_other n s h0 h1 hk]
  have k1 : (k == 1) = false := by rw [beq_eq_false_iff_ne]; omega
  have k2 : (k == 11) = false := by rw [beq_eq_false_iff_ne]; omega
  have k3 : (k == 14) = false := by rw [beq_eq_false_iff_ne]; omega
  obtain ⟨a, ha⟩ : ∃ a, ar k = a := ⟨_, rfl⟩
  rw [ha] at h0
  have HA := Lib.hid ha
  clear ha hk h1
  by_cases q1 : n.size = 0
  · obtain rfl := empty_of q1
    rw [decide_eq_true q1, Bool.true_and]
    clear q1
    go_enter Tryz.func183, Tryz.ntmps183
    go_wp2_with fail
    refine (arR_any _ _).mono ?_
    rw [HA.out]
    rintro e w' ⟨rfl, rfl⟩
    go_wp2_with fail
    go_ret
    exact ⟨rfl, (Below.refl _ _).alloc (Nat.le_refl _) _⟩
  · have e0 := not_empty q1
    rw [decide_eq_false q1, Bool.false_and]
    clear q1
    go_enter Tryz.func183, Tryz.ntmps183
    go_wp2_with fail
    refine (arR_any _ _).mono ?_
    rw [HA.out]
    rintro e w' ⟨rfl, rfl⟩
    go_wp2_with fail
    go_ret
    exact ⟨rfl, (Below.refl _ _).alloc (Nat.le_refl _) _⟩
/-- The document's Right. -/
theorem rightR_any (x : Nd) (w : World) (hn : x.n.size ≤ 140737488355328) : Calls Tryz.prog 183 #[.agg #[.int .i64 x.k, .string x.n, .int .i64 x.s]] w fun e w' => e = .returned (.bool (rgt x)) ∧ Below w.heap.size w w' := by
  by_cases h0 : ar x.k < 0
  · exact right_no x w h0
  · obtain ⟨k, n, s⟩ := x
    by_cases h1 : k = 1
    · subst h1
      exact right_act n s w hn
    · by_cases hk : k = 11 ∨ k = 14
      · exact right_sign k n s w hk
      · exact right_other k n s w h0 h1 hk

set_option maxHeartbeats 1000000 in
theorem sizeR_any (v : Value) (l : List Nd) (w : World) (h : Nds w v l) (hl : l.length ≤ 1000000) :
    Calls Tryz.prog 111 #[v] w fun e w' => e = .returned (.int .i64 (size l)) ∧ w = w' := by
  have hz := size_le l
  have H := Lib.hid h
  obtain ⟨_, a, cap, rfl, -⟩ := h
  cases ht : T l with
  | none =>
    have HS : Hid (size l = 0) := size_pos.2 ht
    have HT := Lib.hid ht
    clear ht
    go_enter Tryz.func111, Tryz.ntmps111
    go_wp2_with fail
    refine (walk_any _ l 0 _ H.out hl (Nat.zero_le _)).mono ?_
    rw [List.drop_zero, HT.out]
    rintro e w' ⟨rfl, rfl⟩
    go_wp2_with fail
    go_ret
    exact ⟨ret_int (by rw [HS.out]; rfl), rfl⟩
  | some x =>
    obtain ⟨c, d⟩ := x
    have hs : size l = c := by unfold size; rw [ht]
    rw [hs] at hz ⊢
    have HW : Hid (WalkPost 0 (T l) = fun w e w' => e = .returned (.tuple #[.int .i64 (c : Int), .int .i64 (d : Int)]) ∧ w = w') := by
      funext w e w'
      unfold WalkPost
      rw [ht]
      simp [nx, dp]
    clear ht hs
    go_enter Tryz.func111, Tryz.ntmps111
    go_wp2_with fail
    refine (walk_any _ l 0 _ H.out hl (Nat.zero_le _)).mono ?_
    rw [List.drop_zero, HW.out]
    rintro e w' ⟨rfl, rfl⟩
    go_wp2_with fail
    go_ret
    exact ⟨rfl, rfl⟩
set_option maxHeartbeats 1000000 in
theorem depthR_any (v : Value) (l : List Nd) (w : World) (h : Nds w v l) (hl : l.length ≤ 1000000) :
    Calls Tryz.prog 32 #[v] w fun e w' => e = .returned (.int .i64 (depth l)) ∧ w = w' := by
  have HD : Hid ((depth l : Int) = dp (T l)) := by
    show (depth l : Int) = _
    unfold depth
    cases T l with
    | none => rfl
    | some x => rfl
  have H := Lib.hid h
  obtain ⟨_, a, cap, rfl, -⟩ := h
  rw [HD.out]
  obtain ⟨r, hr⟩ : ∃ r, T l = r := ⟨_, rfl⟩
  rw [hr]
  have HT := Lib.hid hr
  clear hr HD
  obtain ⟨x, hx⟩ : ∃ x, nx 0 r = x := ⟨_, rfl⟩
  obtain ⟨y, hy⟩ : ∃ y, dp r = y := ⟨_, rfl⟩
  have HX := Lib.hid hx
  have HY := Lib.hid hy
  rw [hy]
  clear hx hy
  go_enter Tryz.func32, Tryz.ntmps32
  go_wp2_with fail
  refine (walk_any _ l 0 _ H.out hl (Nat.zero_le _)).mono ?_
  unfold WalkPost
  rw [List.drop_zero, HT.out, HX.out, HY.out]
  rintro e w' ⟨rfl, rfl⟩
  go_wp2_with fail
  go_ret
  exact ⟨rfl, rfl⟩
end Go.Proofs.YtghnonbcojbohaaGreatDoor.Rw

namespace Go.Proofs.YtghnonbcojbohaaGreatDoor.Tr
open Go Go.RowKit
set_option maxRecDepth 20000

set_option maxHeartbeats 2000000 in
theorem cmp_any (v1 v2 : Value) (p q : Tr) (w : World) (h1 : Strs w v1 p.a) (h2 : Strs w v2 q.a) (hl : p.a.length ≤ 1000000000000) (hm : q.a.length ≤ 1000000000000) :
    Calls Tryz.prog 38 #[.agg #[v1, .int .i64 p.e], .agg #[v2, .int .i64 q.e]] w fun e w' => e = .returned (.int .i64 (cmp p q)) ∧ Below w.heap.size w w' := by
  have HB : Hid (∀ x y : Obj, Below w.heap.size w ((w.alloc x).alloc y)) := fun x y => ((Below.refl _ _).alloc (Nat.le_refl _) x).alloc (by simp) y
  have H1 := Lib.hid h1
  have H2 := Lib.hid h2
  clear h1 h2
  obtain ⟨x, hx⟩ : ∃ x, row p.a q.a = x := ⟨_, rfl⟩
  have hbd := row_bd p.a q.a
  rw [hx] at hbd
  obtain ⟨c, hc⟩ : ∃ c, cmp p q = c := ⟨_, rfl⟩
  have hc' := hc
  unfold cmp at hc'
  rw [hx] at hc'
  rw [hc]
  have HX := Lib.hid hx
  clear hx hc
  by_cases c1 : x < 0
  · have b1 : (x == 0) = false := by rw [beq_eq_false_iff_ne]; omega
    rw [if_pos c1] at hc'
    subst hc'
    go_enter Tryz.func38, Tryz.ntmps38
    go_wp2_with fail
    refine (row_any _ _ p.a q.a _ (H1.out.below (HB.out _ _)) (H2.out.below (HB.out _ _)) hl hm).mono ?_
    rw [HX.out]
    rintro e w' ⟨rfl, n, rfl⟩
    go_wp2_with fail
    go_ret
    exact ⟨rfl, (HB.out _ _).trans (Below.drewN _ _ _)⟩
  rw [if_neg c1] at hc'
  by_cases c2 : 0 < x
  · have b1 : (x == 0) = false := by rw [beq_eq_false_iff_ne]; omega
    rw [if_pos c2] at hc'
    subst hc'
    go_enter Tryz.func38, Tryz.ntmps38
    go_wp2_with fail
    refine (row_any _ _ p.a q.a _ (H1.out.below (HB.out _ _)) (H2.out.below (HB.out _ _)) hl hm).mono ?_
    rw [HX.out]
    rintro e w' ⟨rfl, n, rfl⟩
    go_wp2_with fail
    go_ret
    exact ⟨rfl, (HB.out _ _).trans (Below.drewN _ _ _)⟩
  rw [if_neg c2] at hc'
  obtain rfl : x = 0 := by omega
  by_cases c3 : p.e < q.e
  · have d1 : decide (p.e < q.e) = true := by simpa using c3
    rw [if_pos c3] at hc'
    subst hc'
    go_enter Tryz.func38, Tryz.ntmps38
    go_wp2_with fail
    refine (row_any _ _ p.a q.a _ (H1.out.below (HB.out _ _)) (H2.out.below (HB.out _ _)) hl hm).mono ?_
    rw [HX.out]
    rintro e w' ⟨rfl, n, rfl⟩
    go_wp2_with fail
    go_ret
    exact ⟨rfl, (HB.out _ _).trans (Below.drewN _ _ _)⟩
  rw [if_neg c3] at hc'
  have d1 : decide (p.e < q.e) = false := by simpa using c3
  by_cases c4 : q.e < p.e
  · have d2 : decide (q.e < p.e) = true := by simpa using c4
    rw [if_pos c4] at hc'
    subst hc'
    go_enter Tryz.func38, Tryz.ntmps38
    go_wp2_with fail
    refine (row_any _ _ p.a q.a _ (H1.out.below (HB.out _ _)) (H2.out.below (HB.out _ _)) hl hm).mono ?_
    rw [HX.out]
    rintro e w' ⟨rfl, n, rfl⟩
    go_wp2_with fail
    go_ret
    exact ⟨rfl, (HB.out _ _).trans (Below.drewN _ _ _)⟩
  · rw [if_neg c4] at hc'
    have d2 : decide (q.e < p.e) = false := by simpa using c4
    subst hc'
    go_enter Tryz.func38, Tryz.ntmps38
    go_wp2_with fail
    refine (row_any _ _ p.a q.a _ (H1.out.below (HB.out _ _)) (H2.out.below (HB.out _ _)) hl hm).mono ?_
    rw [HX.out]
    rintro e w' ⟨rfl, n, rfl⟩
    go_wp2_with fail
    go_ret
    exact ⟨rfl, (HB.out _ _).trans (Below.drewN _ _ _)⟩
end Go.Proofs.YtghnonbcojbohaaGreatDoor.Tr
