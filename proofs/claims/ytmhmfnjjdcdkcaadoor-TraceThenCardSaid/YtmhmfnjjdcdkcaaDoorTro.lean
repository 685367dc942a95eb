/- The laws of traces, walked from the contracts: TraceThen. -/
import Derived.Test.YtmhmfnjjdcdkcaaDoorTrj
import Derived.Test.YtmhmfnjjdcdkcaaDoorRg
import Derived.Deep.DeepCutAuto
namespace Go.Proofs.YtmhmfnjjdcdkcaaDoor.Tr
open Go Go.RowKit
set_option maxRecDepth 20000

theorem thn_assoc (a b c : Tr) : thn (thn a b) c = thn a (thn b c) := by
  unfold thn
  by_cases h1 : a.e = 1
  · by_cases h2 : b.e = 1
    · simp [h1, h2, List.append_assoc]
    · simp [h1, h2]
  · simp [h1]
theorem thn_len (a b : Tr) : (thn a b).a.length ≤ a.a.length + b.a.length := by
  unfold thn
  split <;> simp

/-- A trace's two cells. -/
def Bx (n : Nat) (v : Value) (t : Tr) (w : World) : Prop := w.cell? ⟨n, 0, none⟩ = some v ∧ w.cell? ⟨n, 1, none⟩ = some (.int .i64 t.e)
theorem Bx.below {n : Nat} {v : Value} {t : Tr} {w w' : World} (h : Bx n v t w) (hb : Below w.heap.size w w') : Bx n v t w' := by
  refine ⟨?_, ?_⟩
  · rw [hb.cell (Ap.cell_lt h.1)]; exact h.1
  · rw [hb.cell (Ap.cell_lt h.2)]; exact h.2
theorem Bx.lt {n : Nat} {v : Value} {t : Tr} {w : World} (h : Bx n v t w) : n < w.heap.size := Ap.cell_lt h.1
theorem Bx.new {w : World} {v : Value} {t : Tr} {ty : TypeId} (b : Nat) (hb : b = w.heap.size) : Bx b v t (w.alloc (.cells #[v, .int .i64 t.e] ty)) := by
  subst hb
  exact ⟨by simp, by simp⟩
/-- A new trace's block: nothing in it yet, and it may be written. -/
def Zb (b : Nat) (w : World) : Prop := w.heap[b]? = some (.cells #[.slice none 0 0, .int .i64 0] 30)
theorem Zb.lt {b : Nat} {w : World} (h : Zb b w) : b < w.heap.size := (Array.getElem?_eq_some_iff.1 h).1
theorem Zb.below {b : Nat} {w w' : World} (h : Zb b w) (hb : Below w.heap.size w w') : Zb b w' := by
  unfold Zb
  rw [hb.block b h.lt]
  exact h
theorem Zb.c0 {b : Nat} {w : World} (h : Zb b w) : w.cell? ⟨b, 0, none⟩ = some (.slice none 0 0) := by simp [World.cell?, show w.heap[b]? = _ from h, go_sem]
theorem Zb.c1 {b : Nat} {w : World} (h : Zb b w) : w.cell? ⟨b, 1, none⟩ = some (.int .i64 0) := by simp [World.cell?, show w.heap[b]? = _ from h, go_sem]
theorem Zb.z0 {b : Nat} {w : World} (h : Zb b w) : w.frozen? ⟨b, 0, none⟩ = false := by simp [World.frozen?, show w.heap[b]? = _ from h, go_sem]
theorem Zb.z1 {b : Nat} {w : World} (h : Zb b w) : w.frozen? ⟨b, 1, none⟩ = false := by simp [World.frozen?, show w.heap[b]? = _ from h, go_sem]
/-- No cell of it is a string. -/
theorem Zb.no {b j : Nat} {w : World} {s : ByteArray} (h : Zb b w) : w.cell? ⟨b, j, none⟩ ≠ some (.string s) := by
  match j with
  | 0 => rw [h.c0]; intro hh; cases hh
  | 1 => rw [h.c1]; intro hh; cases hh
  | j + 2 => simp [World.cell?, show w.heap[b]? = _ from h, go_sem]
theorem Strs.put {w w' : World} {v : Value} {l : List ByteArray} {b : Nat} (h : Strs w v l) (hz : Zb b w) (hb : ∀ k, k ≠ b → w'.heap[k]? = w.heap[k]?) : Strs w' v l := by
  obtain ⟨hl, a, cap, hv, hc, hn, hcell⟩ := h
  refine ⟨hl, a, cap, hv, hc, hn, fun h0 => ?_⟩
  obtain ⟨k, off, ha, hj⟩ := hcell h0
  refine ⟨k, off, ha, fun j u hu => ?_⟩
  have h1 := hj j u hu
  have hs : ∃ s, u = .string s := by
    rw [List.getElem?_map] at hu
    cases hx : l[j]? with
    | none => rw [hx] at hu; cases hu
    | some s => rw [hx] at hu; exact ⟨s, (Option.some.inj hu).symm⟩
  obtain ⟨s, rfl⟩ := hs
  have hk : k ≠ b := fun e => by subst e; exact hz.no h1
  rw [World.cell?_of_block (w := w) (a := ⟨k, off + j, none⟩) (hb k hk)]
  exact h1
/-- A trace by value. -/
def RowT (w : World) (v : Value) (t : Tr) : Prop := ∃ y, v = .agg #[y, .int .i64 t.e] ∧ (∃ a c, y = .slice a t.a.length c) ∧ Strs w y t.a
theorem RowT.below {w w' : World} {v : Value} {t : Tr} (h : RowT w v t) (hb : Below w.heap.size w w') : RowT w' v t := by
  obtain ⟨y, h1, h2, h3⟩ := h
  exact ⟨y, h1, h2, h3.below hb⟩
theorem RowT.put {w w' : World} {v : Value} {t : Tr} {b : Nat} (h : RowT w v t) (hz : Zb b w) (hb : ∀ k, k ≠ b → w'.heap[k]? = w.heap[k]?) : RowT w' v t := by
  obtain ⟨y, h1, h2, h3⟩ := h
  exact ⟨y, h1, h2, h3.put hz hb⟩
theorem RowT.mk {w : World} {y : Value} {t : Tr} (h : Strs w y t.a) : RowT w (.agg #[y, .int .i64 t.e]) t := by
  obtain ⟨hl, a, cap, hv, hr⟩ := h
  exact ⟨y, rfl, ⟨a, cap, hv⟩, hl, a, cap, hv, hr⟩
/-- A trace in a block. -/
def BoxT (b : Nat) (t : Tr) (w : World) : Prop := ∃ y, Bx b y t w ∧ Strs w y t.a
theorem BoxT.below {w w' : World} {b : Nat} {t : Tr} (h : BoxT b t w) (hb : Below w.heap.size w w') : BoxT b t w' := by
  obtain ⟨y, h1, h2⟩ := h
  exact ⟨y, h1.below hb, h2.below hb⟩
theorem BoxT.put {w w' : World} {b b' : Nat} {t : Tr} (h : BoxT b t w) (hne : b ≠ b') (hz : Zb b' w) (hb : ∀ k, k ≠ b' → w'.heap[k]? = w.heap[k]?) : BoxT b t w' := by
  obtain ⟨y, ⟨h1, h2⟩, h3⟩ := h
  exact ⟨y, ⟨by rw [World.cell?_of_block (w := w) (a := ⟨b, 0, none⟩) (hb b hne)]; exact h1, by rw [World.cell?_of_block (w := w) (a := ⟨b, 1, none⟩) (hb b hne)]; exact h2⟩, h3.put hz hb⟩
/-- Block b: the trace is in it, or nothing yet. -/
def InT (b : Nat) (done : Bool) (t : Tr) (w : World) : Prop := (done = true → BoxT b t w) ∧ (done = false → Zb b w)
theorem InT.below {w w' : World} {b : Nat} {d : Bool} {t : Tr} (h : InT b d t w) (hb : Below w.heap.size w w') : InT b d t w' := ⟨fun hd => (h.1 hd).below hb, fun hd => (h.2 hd).below hb⟩
theorem InT.lt {w : World} {b : Nat} {d : Bool} {t : Tr} (h : InT b d t w) : b < w.heap.size := by
  cases d with
  | true => obtain ⟨y, hy, _⟩ := h.1 rfl; exact hy.lt
  | false => exact (h.2 rfl).lt
theorem InT.zb {w : World} {b : Nat} {d : Bool} {t : Tr} (h : InT b d t w) (hd : d = false) : Zb b w := h.2 hd
/-- A pointer to a block that is new. -/
def PtT (B : Nat) (v : Value) (d : Bool) (t : Tr) (w : World) : Prop := ∃ b, v = .pointer (some ⟨b, 0, none⟩) ∧ B ≤ b ∧ InT b d t w
theorem PtT.below {B : Nat} {v : Value} {d : Bool} {t : Tr} {w w' : World} (h : PtT B v d t w) (hb : Below w.heap.size w w') : PtT B v d t w' := by
  obtain ⟨b, h1, h2, h3⟩ := h
  exact ⟨b, h1, h2, h3.below hb⟩
theorem PtT.new {B : Nat} {t : Tr} {w : World} (h : B ≤ w.heap.size) : PtT B (.pointer (some ⟨w.heap.size, 0, none⟩)) false t (w.alloc (.cells #[.slice none 0 0, .int .i64 0] 30)) :=
  ⟨_, rfl, h, fun hh => (by cases hh), fun _ => by
    show ((w.heap.push _)[w.heap.size]?) = _
    simp⟩
theorem PtT.ne {B : Nat} {v : Value} {d : Bool} {t : Tr} {w : World} (h : PtT B v d t w) : v ≠ .pointer (some ⟨w.heap.size, 0, none⟩) := by
  obtain ⟨b, rfl, _, h3⟩ := h
  have := h3.lt
  intro hh
  injection hh with hh
  injection hh with hh
  injection hh with hh
  omega
/-- What holds in the midst of the region of four calls, two new variables and their stores. -/
structure G8 (B : Nat) (wc : World) (p q r : Value) (t u bc : Tr) (f : Nat → Bool) (us : Nat → Value) (w : World) : Prop where
  bel : Below B wc w
  l0 : f 0 = true → us 0 = p
  l1 : f 1 = true → us 1 = q
  l2 : f 2 = true → RowT w (us 2) t
  l3 : f 3 = true → us 3 = r
  l4 : f 4 = true → RowT w (us 4) u
  l5 : f 5 = true → us 5 = p
  l6 : f 6 = true → us 6 = q
  l7 : f 7 = true → us 7 = r
  l8 : f 8 = true → RowT w (us 8) bc
  l9 : f 9 = true → RowT w (us 9) u
  l10 : f 10 = true → PtT B (us 10) (f 12) u w
  l11 : f 11 = true → PtT B (us 11) (f 13) u w
  ne : f 10 = true → f 11 = true → us 10 ≠ us 11
  late : f 12 = false → f 13 = false
  w12 : f 12 = true → f 10 = true
  w13 : f 13 = true → f 11 = true
section
variable {B : Nat} {wc : World} {p q r : Value} {t u bc : Tr} {f : Nat → Bool} {us : Nat → Value} {w w' : World}
theorem G8.size (g : G8 B wc p q r t u bc f us w) (hB : B = wc.heap.size) : B ≤ w.heap.size := by have := g.bel.size; omega
theorem G8.put0 (g : G8 B wc p q r t u bc f us w) (hB : B = wc.heap.size) (hb : Below w.heap.size w w') {v : Value} (hv : v = p) : G8 B wc p q r t u bc (Rg.upd f 0 true) (Rg.upd us 0 v) w' where
  bel := g.bel.trans (hb.mono (g.size hB))
  l0 := fun _ => by simpa [Rg.upd] using hv
  l1 := fun h => by simpa [Rg.upd] using g.l1 (by simpa [Rg.upd] using h)
  l2 := fun h => by simpa [Rg.upd] using (g.l2 (by simpa [Rg.upd] using h)).below hb
  l3 := fun h => by simpa [Rg.upd] using g.l3 (by simpa [Rg.upd] using h)
  l4 := fun h => by simpa [Rg.upd] using (g.l4 (by simpa [Rg.upd] using h)).below hb
  l5 := fun h => by simpa [Rg.upd] using g.l5 (by simpa [Rg.upd] using h)
  l6 := fun h => by simpa [Rg.upd] using g.l6 (by simpa [Rg.upd] using h)
  l7 := fun h => by simpa [Rg.upd] using g.l7 (by simpa [Rg.upd] using h)
  l8 := fun h => by simpa [Rg.upd] using (g.l8 (by simpa [Rg.upd] using h)).below hb
  l9 := fun h => by simpa [Rg.upd] using (g.l9 (by simpa [Rg.upd] using h)).below hb
  l10 := fun h => by simpa [Rg.upd] using (g.l10 (by simpa [Rg.upd] using h)).below hb
  l11 := fun h => by simpa [Rg.upd] using (g.l11 (by simpa [Rg.upd] using h)).below hb
  ne := fun h1 h2 => by simpa [Rg.upd] using g.ne (by simpa [Rg.upd] using h1) (by simpa [Rg.upd] using h2)
  late := fun h => by simpa [Rg.upd] using g.late (by simpa [Rg.upd] using h)
  w12 := fun h => by simpa [Rg.upd] using g.w12 (by simpa [Rg.upd] using h)
  w13 := fun h => by simpa [Rg.upd] using g.w13 (by simpa [Rg.upd] using h)
theorem G8.put1 (g : G8 B wc p q r t u bc f us w) (hB : B = wc.heap.size) (hb : Below w.heap.size w w') {v : Value} (hv : v = q) : G8 B wc p q r t u bc (Rg.upd f 1 true) (Rg.upd us 1 v) w' where
  bel := g.bel.trans (hb.mono (g.size hB))
  l0 := fun h => by simpa [Rg.upd] using g.l0 (by simpa [Rg.upd] using h)
  l1 := fun _ => by simpa [Rg.upd] using hv
  l2 := fun h => by simpa [Rg.upd] using (g.l2 (by simpa [Rg.upd] using h)).below hb
  l3 := fun h => by simpa [Rg.upd] using g.l3 (by simpa [Rg.upd] using h)
  l4 := fun h => by simpa [Rg.upd] using (g.l4 (by simpa [Rg.upd] using h)).below hb
  l5 := fun h => by simpa [Rg.upd] using g.l5 (by simpa [Rg.upd] using h)
  l6 := fun h => by simpa [Rg.upd] using g.l6 (by simpa [Rg.upd] using h)
  l7 := fun h => by simpa [Rg.upd] using g.l7 (by simpa [Rg.upd] using h)
  l8 := fun h => by simpa [Rg.upd] using (g.l8 (by simpa [Rg.upd] using h)).below hb
  l9 := fun h => by simpa [Rg.upd] using (g.l9 (by simpa [Rg.upd] using h)).below hb
  l10 := fun h => by simpa [Rg.upd] using (g.l10 (by simpa [Rg.upd] using h)).below hb
  l11 := fun h => by simpa [Rg.upd] using (g.l11 (by simpa [Rg.upd] using h)).below hb
  ne := fun h1 h2 => by simpa [Rg.upd] using g.ne (by simpa [Rg.upd] using h1) (by simpa [Rg.upd] using h2)
  late := fun h => by simpa [Rg.upd] using g.late (by simpa [Rg.upd] using h)
  w12 := fun h => by simpa [Rg.upd] using g.w12 (by simpa [Rg.upd] using h)
  w13 := fun h => by simpa [Rg.upd] using g.w13 (by simpa [Rg.upd] using h)
theorem G8.put2 (g : G8 B wc p q r t u bc f us w) (hB : B = wc.heap.size) (hb : Below w.heap.size w w') {v : Value} (hv : RowT w' v t) : G8 B wc p q r t u bc (Rg.upd f 2 true) (Rg.upd us 2 v) w' where
  bel := g.bel.trans (hb.mono (g.size hB))
  l0 := fun h => by simpa [Rg.upd] using g.l0 (by simpa [Rg.upd] using h)
  l1 := fun h => by simpa [Rg.upd] using g.l1 (by simpa [Rg.upd] using h)
  l2 := fun _ => by simpa [Rg.upd] using hv
  l3 := fun h => by simpa [Rg.upd] using g.l3 (by simpa [Rg.upd] using h)
  l4 := fun h => by simpa [Rg.upd] using (g.l4 (by simpa [Rg.upd] using h)).below hb
  l5 := fun h => by simpa [Rg.upd] using g.l5 (by simpa [Rg.upd] using h)
  l6 := fun h => by simpa [Rg.upd] using g.l6 (by simpa [Rg.upd] using h)
  l7 := fun h => by simpa [Rg.upd] using g.l7 (by simpa [Rg.upd] using h)
  l8 := fun h => by simpa [Rg.upd] using (g.l8 (by simpa [Rg.upd] using h)).below hb
  l9 := fun h => by simpa [Rg.upd] using (g.l9 (by simpa [Rg.upd] using h)).below hb
  l10 := fun h => by simpa [Rg.upd] using (g.l10 (by simpa [Rg.upd] using h)).below hb
  l11 := fun h => by simpa [Rg.upd] using (g.l11 (by simpa [Rg.upd] using h)).below hb
  ne := fun h1 h2 => by simpa [Rg.upd] using g.ne (by simpa [Rg.upd] using h1) (by simpa [Rg.upd] using h2)
  late := fun h => by simpa [Rg.upd] using g.late (by simpa [Rg.upd] using h)
  w12 := fun h => by simpa [Rg.upd] using g.w12 (by simpa [Rg.upd] using h)
  w13 := fun h => by simpa [Rg.upd] using g.w13 (by simpa [Rg.upd] using h)
theorem G8.put3 (g : G8 B wc p q r t u bc f us w) (hB : B = wc.heap.size) (hb : Below w.heap.size w w') {v : Value} (hv : v = r) : G8 B wc p q r t u bc (Rg.upd f 3 true) (Rg.upd us 3 v) w' where
  bel := g.bel.trans (hb.mono (g.size hB))
  l0 := fun h => by simpa [Rg.upd] using g.l0 (by simpa [Rg.upd] using h)
  l1 := fun h => by simpa [Rg.upd] using g.l1 (by simpa [Rg.upd] using h)
  l2 := fun h => by simpa [Rg.upd] using (g.l2 (by simpa [Rg.upd] using h)).below hb
  l3 := fun _ => by simpa [Rg.upd] using hv
  l4 := fun h => by simpa [Rg.upd] using (g.l4 (by simpa [Rg.upd] using h)).below hb
  l5 := fun h => by simpa [Rg.upd] using g.l5 (by simpa [Rg.upd] using h)
  l6 := fun h => by simpa [Rg.upd] using g.l6 (by simpa [Rg.upd] using h)
  l7 := fun h => by simpa [Rg.upd] using g.l7 (by simpa [Rg.upd] using h)
  l8 := fun h => by simpa [Rg.upd] using (g.l8 (by simpa [Rg.upd] using h)).below hb
  l9 := fun h => by simpa [Rg.upd] using (g.l9 (by simpa [Rg.upd] using h)).below hb
  l10 := fun h => by simpa [Rg.upd] using (g.l10 (by simpa [Rg.upd] using h)).below hb
  l11 := fun h => by simpa [Rg.upd] using (g.l11 (by simpa [Rg.upd] using h)).below hb
  ne := fun h1 h2 => by simpa [Rg.upd] using g.ne (by simpa [Rg.upd] using h1) (by simpa [Rg.upd] using h2)
  late := fun h => by simpa [Rg.upd] using g.late (by simpa [Rg.upd] using h)
  w12 := fun h => by simpa [Rg.upd] using g.w12 (by simpa [Rg.upd] using h)
  w13 := fun h => by simpa [Rg.upd] using g.w13 (by simpa [Rg.upd] using h)
theorem G8.put4 (g : G8 B wc p q r t u bc f us w) (hB : B = wc.heap.size) (hb : Below w.heap.size w w') {v : Value} (hv : RowT w' v u) : G8 B wc p q r t u bc (Rg.upd f 4 true) (Rg.upd us 4 v) w' where
  bel := g.bel.trans (hb.mono (g.size hB))
  l0 := fun h => by simpa [Rg.upd] using g.l0 (by simpa [Rg.upd] using h)
  l1 := fun h => by simpa [Rg.upd] using g.l1 (by simpa [Rg.upd] using h)
  l2 := fun h => by simpa [Rg.upd] using (g.l2 (by simpa [Rg.upd] using h)).below hb
  l3 := fun h => by simpa [Rg.upd] using g.l3 (by simpa [Rg.upd] using h)
  l4 := fun _ => by simpa [Rg.upd] using hv
  l5 := fun h => by simpa [Rg.upd] using g.l5 (by simpa [Rg.upd] using h)
  l6 := fun h => by simpa [Rg.upd] using g.l6 (by simpa [Rg.upd] using h)
  l7 := fun h => by simpa [Rg.upd] using g.l7 (by simpa [Rg.upd] using h)
  l8 := fun h => by simpa [Rg.upd] using (g.l8 (by simpa [Rg.upd] using h)).below hb
  l9 := fun h => by simpa [Rg.upd] using (g.l9 (by simpa [Rg.upd] using h)).below hb
  l10 := fun h => by simpa [Rg.upd] using (g.l10 (by simpa [Rg.upd] using h)).below hb
  l11 := fun h => by simpa [Rg.upd] using (g.l11 (by simpa [Rg.upd] using h)).below hb
  ne := fun h1 h2 => by simpa [Rg.upd] using g.ne (by simpa [Rg.upd] using h1) (by simpa [Rg.upd] using h2)
  late := fun h => by simpa [Rg.upd] using g.late (by simpa [Rg.upd] using h)
  w12 := fun h => by simpa [Rg.upd] using g.w12 (by simpa [Rg.upd] using h)
  w13 := fun h => by simpa [Rg.upd] using g.w13 (by simpa [Rg.upd] using h)
theorem G8.put5 (g : G8 B wc p q r t u bc f us w) (hB : B = wc.heap.size) (hb : Below w.heap.size w w') {v : Value} (hv : v = p) : G8 B wc p q r t u bc (Rg.upd f 5 true) (Rg.upd us 5 v) w' where
  bel := g.bel.trans (hb.mono (g.size hB))
  l0 := fun h => by simpa [Rg.upd] using g.l0 (by simpa [Rg.upd] using h)
  l1 := fun h => by simpa [Rg.upd] using g.l1 (by simpa [Rg.upd] using h)
  l2 := fun h => by simpa [Rg.upd] using (g.l2 (by simpa [Rg.upd] using h)).below hb
  l3 := fun h => by simpa [Rg.upd] using g.l3 (by simpa [Rg.upd] using h)
  l4 := fun h => by simpa [Rg.upd] using (g.l4 (by simpa [Rg.upd] using h)).below hb
  l5 := fun _ => by simpa [Rg.upd] using hv
  l6 := fun h => by simpa [Rg.upd] using g.l6 (by simpa [Rg.upd] using h)
  l7 := fun h => by simpa [Rg.upd] using g.l7 (by simpa [Rg.upd] using h)
  l8 := fun h => by simpa [Rg.upd] using (g.l8 (by simpa [Rg.upd] using h)).below hb
  l9 := fun h => by simpa [Rg.upd] using (g.l9 (by simpa [Rg.upd] using h)).below hb
  l10 := fun h => by simpa [Rg.upd] using (g.l10 (by simpa [Rg.upd] using h)).below hb
  l11 := fun h => by simpa [Rg.upd] using (g.l11 (by simpa [Rg.upd] using h)).below hb
  ne := fun h1 h2 => by simpa [Rg.upd] using g.ne (by simpa [Rg.upd] using h1) (by simpa [Rg.upd] using h2)
  late := fun h => by simpa [Rg.upd] using g.late (by simpa [Rg.upd] using h)
  w12 := fun h => by simpa [Rg.upd] using g.w12 (by simpa [Rg.upd] using h)
  w13 := fun h => by simpa [Rg.upd] using g.w13 (by simpa [Rg.upd] using h)
theorem G8.put6 (g : G8 B wc p q r t u bc f us w) (hB : B = wc.heap.size) (hb : Below w.heap.size w w') {v : Value} (hv : v = q) : G8 B wc p q r t u bc (Rg.upd f 6 true) (Rg.upd us 6 v) w' where
  bel := g.bel.trans (hb.mono (g.size hB))
  l0 := fun h => by simpa [Rg.upd] using g.l0 (by simpa [Rg.upd] using h)
  l1 := fun h => by simpa [Rg.upd] using g.l1 (by simpa [Rg.upd] using h)
  l2 := fun h => by simpa [Rg.upd] using (g.l2 (by simpa [Rg.upd] using h)).below hb
  l3 := fun h => by simpa [Rg.upd] using g.l3 (by simpa [Rg.upd] using h)
  l4 := fun h => by simpa [Rg.upd] using (g.l4 (by simpa [Rg.upd] using h)).below hb
  l5 := fun h => by simpa [Rg.upd] using g.l5 (by simpa [Rg.upd] using h)
  l6 := fun _ => by simpa [Rg.upd] using hv
  l7 := fun h => by simpa [Rg.upd] using g.l7 (by simpa [Rg.upd] using h)
  l8 := fun h => by simpa [Rg.upd] using (g.l8 (by simpa [Rg.upd] using h)).below hb
  l9 := fun h => by simpa [Rg.upd] using (g.l9 (by simpa [Rg.upd] using h)).below hb
  l10 := fun h => by simpa [Rg.upd] using (g.l10 (by simpa [Rg.upd] using h)).below hb
  l11 := fun h => by simpa [Rg.upd] using (g.l11 (by simpa [Rg.upd] using h)).below hb
  ne := fun h1 h2 => by simpa [Rg.upd] using g.ne (by simpa [Rg.upd] using h1) (by simpa [Rg.upd] using h2)
  late := fun h => by simpa [Rg.upd] using g.late (by simpa [Rg.upd] using h)
  w12 := fun h => by simpa [Rg.upd] using g.w12 (by simpa [Rg.upd] using h)
  w13 := fun h => by simpa [Rg.upd] using g.w13 (by simpa [Rg.upd] using h)
theorem G8.put7 (g : G8 B wc p q r t u bc f us w) (hB : B = wc.heap.size) (hb : Below w.heap.size w w') {v : Value} (hv : v = r) : G8 B wc p q r t u bc (Rg.upd f 7 true) (Rg.upd us 7 v) w' where
  bel := g.bel.trans (hb.mono (g.size hB))
  l0 := fun h => by simpa [Rg.upd] using g.l0 (by simpa [Rg.upd] using h)
  l1 := fun h => by simpa [Rg.upd] using g.l1 (by simpa [Rg.upd] using h)
  l2 := fun h => by simpa [Rg.upd] using (g.l2 (by simpa [Rg.upd] using h)).below hb
  l3 := fun h => by simpa [Rg.upd] using g.l3 (by simpa [Rg.upd] using h)
  l4 := fun h => by simpa [Rg.upd] using (g.l4 (by simpa [Rg.upd] using h)).below hb
  l5 := fun h => by simpa [Rg.upd] using g.l5 (by simpa [Rg.upd] using h)
  l6 := fun h => by simpa [Rg.upd] using g.l6 (by simpa [Rg.upd] using h)
  l7 := fun _ => by simpa [Rg.upd] using hv
  l8 := fun h => by simpa [Rg.upd] using (g.l8 (by simpa [Rg.upd] using h)).below hb
  l9 := fun h => by simpa [Rg.upd] using (g.l9 (by simpa [Rg.upd] using h)).below hb
  l10 := fun h => by simpa [Rg.upd] using (g.l10 (by simpa [Rg.upd] using h)).below hb
  l11 := fun h => by simpa [Rg.upd] using (g.l11 (by simpa [Rg.upd] using h)).below hb
  ne := fun h1 h2 => by simpa [Rg.upd] using g.ne (by simpa [Rg.upd] using h1) (by simpa [Rg.upd] using h2)
  late := fun h => by simpa [Rg.upd] using g.late (by simpa [Rg.upd] using h)
  w12 := fun h => by simpa [Rg.upd] using g.w12 (by simpa [Rg.upd] using h)
  w13 := fun h => by simpa [Rg.upd] using g.w13 (by simpa [Rg.upd] using h)
theorem G8.put8 (g : G8 B wc p q r t u bc f us w) (hB : B = wc.heap.size) (hb : Below w.heap.size w w') {v : Value} (hv : RowT w' v bc) : G8 B wc p q r t u bc (Rg.upd f 8 true) (Rg.upd us 8 v) w' where
  bel := g.bel.trans (hb.mono (g.size hB))
  l0 := fun h => by simpa [Rg.upd] using g.l0 (by simpa [Rg.upd] using h)
  l1 := fun h => by simpa [Rg.upd] using g.l1 (by simpa [Rg.upd] using h)
  l2 := fun h => by simpa [Rg.upd] using (g.l2 (by simpa [Rg.upd] using h)).below hb
  l3 := fun h => by simpa [Rg.upd] using g.l3 (by simpa [Rg.upd] using h)
  l4 := fun h => by simpa [Rg.upd] using (g.l4 (by simpa [Rg.upd] using h)).below hb
  l5 := fun h => by simpa [Rg.upd] using g.l5 (by simpa [Rg.upd] using h)
  l6 := fun h => by simpa [Rg.upd] using g.l6 (by simpa [Rg.upd] using h)
  l7 := fun h => by simpa [Rg.upd] using g.l7 (by simpa [Rg.upd] using h)
  l8 := fun _ => by simpa [Rg.upd] using hv
  l9 := fun h => by simpa [Rg.upd] using (g.l9 (by simpa [Rg.upd] using h)).below hb
  l10 := fun h => by simpa [Rg.upd] using (g.l10 (by simpa [Rg.upd] using h)).below hb
  l11 := fun h => by simpa [Rg.upd] using (g.l11 (by simpa [Rg.upd] using h)).below hb
  ne := fun h1 h2 => by simpa [Rg.upd] using g.ne (by simpa [Rg.upd] using h1) (by simpa [Rg.upd] using h2)
  late := fun h => by simpa [Rg.upd] using g.late (by simpa [Rg.upd] using h)
  w12 := fun h => by simpa [Rg.upd] using g.w12 (by simpa [Rg.upd] using h)
  w13 := fun h => by simpa [Rg.upd] using g.w13 (by simpa [Rg.upd] using h)
theorem G8.put9 (g : G8 B wc p q r t u bc f us w) (hB : B = wc.heap.size) (hb : Below w.heap.size w w') {v : Value} (hv : RowT w' v u) : G8 B wc p q r t u bc (Rg.upd f 9 true) (Rg.upd us 9 v) w' where
  bel := g.bel.trans (hb.mono (g.size hB))
  l0 := fun h => by simpa [Rg.upd] using g.l0 (by simpa [Rg.upd] using h)
  l1 := fun h => by simpa [Rg.upd] using g.l1 (by simpa [Rg.upd] using h)
  l2 := fun h => by simpa [Rg.upd] using (g.l2 (by simpa [Rg.upd] using h)).below hb
  l3 := fun h => by simpa [Rg.upd] using g.l3 (by simpa [Rg.upd] using h)
  l4 := fun h => by simpa [Rg.upd] using (g.l4 (by simpa [Rg.upd] using h)).below hb
  l5 := fun h => by simpa [Rg.upd] using g.l5 (by simpa [Rg.upd] using h)
  l6 := fun h => by simpa [Rg.upd] using g.l6 (by simpa [Rg.upd] using h)
  l7 := fun h => by simpa [Rg.upd] using g.l7 (by simpa [Rg.upd] using h)
  l8 := fun h => by simpa [Rg.upd] using (g.l8 (by simpa [Rg.upd] using h)).below hb
  l9 := fun _ => by simpa [Rg.upd] using hv
  l10 := fun h => by simpa [Rg.upd] using (g.l10 (by simpa [Rg.upd] using h)).below hb
  l11 := fun h => by simpa [Rg.upd] using (g.l11 (by simpa [Rg.upd] using h)).below hb
  ne := fun h1 h2 => by simpa [Rg.upd] using g.ne (by simpa [Rg.upd] using h1) (by simpa [Rg.upd] using h2)
  late := fun h => by simpa [Rg.upd] using g.late (by simpa [Rg.upd] using h)
  w12 := fun h => by simpa [Rg.upd] using g.w12 (by simpa [Rg.upd] using h)
  w13 := fun h => by simpa [Rg.upd] using g.w13 (by simpa [Rg.upd] using h)
theorem G8.put10 (g : G8 B wc p q r t u bc f us w) (hB : B = wc.heap.size) (hb : Below w.heap.size w w') {v : Value} (hv : PtT B v false u w') (h12 : f 12 = false) (hne : f 11 = true → v ≠ us 11) : G8 B wc p q r t u bc (Rg.upd f 10 true) (Rg.upd us 10 v) w' where
  bel := g.bel.trans (hb.mono (g.size hB))
  l0 := fun h => by simpa [Rg.upd] using g.l0 (by simpa [Rg.upd] using h)
  l1 := fun h => by simpa [Rg.upd] using g.l1 (by simpa [Rg.upd] using h)
  l2 := fun h => by simpa [Rg.upd] using (g.l2 (by simpa [Rg.upd] using h)).below hb
  l3 := fun h => by simpa [Rg.upd] using g.l3 (by simpa [Rg.upd] using h)
  l4 := fun h => by simpa [Rg.upd] using (g.l4 (by simpa [Rg.upd] using h)).below hb
  l5 := fun h => by simpa [Rg.upd] using g.l5 (by simpa [Rg.upd] using h)
  l6 := fun h => by simpa [Rg.upd] using g.l6 (by simpa [Rg.upd] using h)
  l7 := fun h => by simpa [Rg.upd] using g.l7 (by simpa [Rg.upd] using h)
  l8 := fun h => by simpa [Rg.upd] using (g.l8 (by simpa [Rg.upd] using h)).below hb
  l9 := fun h => by simpa [Rg.upd] using (g.l9 (by simpa [Rg.upd] using h)).below hb
  l10 := fun _ => by simpa [Rg.upd, h12] using hv
  l11 := fun h => by simpa [Rg.upd] using (g.l11 (by simpa [Rg.upd] using h)).below hb
  ne := fun _ h2 => by simpa [Rg.upd] using hne (by simpa [Rg.upd] using h2)
  late := fun h => by simpa [Rg.upd] using g.late (by simpa [Rg.upd] using h)
  w12 := fun _ => by simp [Rg.upd]
  w13 := fun h => by simpa [Rg.upd] using g.w13 (by simpa [Rg.upd] using h)
theorem G8.put11 (g : G8 B wc p q r t u bc f us w) (hB : B = wc.heap.size) (hb : Below w.heap.size w w') {v : Value} (hv : PtT B v false u w') (h13 : f 13 = false) (hne : f 10 = true → v ≠ us 10) : G8 B wc p q r t u bc (Rg.upd f 11 true) (Rg.upd us 11 v) w' where
  bel := g.bel.trans (hb.mono (g.size hB))
  l0 := fun h => by simpa [Rg.upd] using g.l0 (by simpa [Rg.upd] using h)
  l1 := fun h => by simpa [Rg.upd] using g.l1 (by simpa [Rg.upd] using h)
  l2 := fun h => by simpa [Rg.upd] using (g.l2 (by simpa [Rg.upd] using h)).below hb
  l3 := fun h => by simpa [Rg.upd] using g.l3 (by simpa [Rg.upd] using h)
  l4 := fun h => by simpa [Rg.upd] using (g.l4 (by simpa [Rg.upd] using h)).below hb
  l5 := fun h => by simpa [Rg.upd] using g.l5 (by simpa [Rg.upd] using h)
  l6 := fun h => by simpa [Rg.upd] using g.l6 (by simpa [Rg.upd] using h)
  l7 := fun h => by simpa [Rg.upd] using g.l7 (by simpa [Rg.upd] using h)
  l8 := fun h => by simpa [Rg.upd] using (g.l8 (by simpa [Rg.upd] using h)).below hb
  l9 := fun h => by simpa [Rg.upd] using (g.l9 (by simpa [Rg.upd] using h)).below hb
  l10 := fun h => by simpa [Rg.upd] using (g.l10 (by simpa [Rg.upd] using h)).below hb
  l11 := fun _ => by simpa [Rg.upd, h13] using hv
  ne := fun h1 _ => by simpa [Rg.upd] using (hne (by simpa [Rg.upd] using h1)).symm
  late := fun h => by simpa [Rg.upd] using g.late (by simpa [Rg.upd] using h)
  w12 := fun h => by simpa [Rg.upd] using g.w12 (by simpa [Rg.upd] using h)
  w13 := fun _ => by simp [Rg.upd]
theorem G8.put12 (g : G8 B wc p q r t u bc f us w) (hB : B = wc.heap.size) (hf : f 12 = false) {b : Nat} (hbe : us 10 = .pointer (some ⟨b, 0, none⟩)) (d : f 10 = true) (d' : f 11 = true) (os : w'.os = w.os) (tp : w'.tape = w.tape) (ou : w'.output = w.output) (sz : w.heap.size ≤ w'.heap.size) (hbk : ∀ k, k ≠ b → w'.heap[k]? = w.heap[k]?) (hv : BoxT b u w') {v : Value} : G8 B wc p q r t u bc (Rg.upd f 12 true) (Rg.upd us 12 v) w' := by
  obtain ⟨b1, e1, hb1, hz1⟩ := g.l10 d
  obtain ⟨b2, e2, hb2, hz2⟩ := g.l11 d'
  obtain rfl : b1 = b := by rw [hbe] at e1; injection e1 with h; injection h with h; injection h with h; exact h.symm
  have hne : b2 ≠ b1 := fun e => g.ne d d' (by rw [e1, e2, e])
  have hz := hz1.zb hf
  have ho : InT b2 (f 13) u w' := ⟨fun hh => (by rw [g.late hf] at hh; cases hh), fun hh => by have hq := hz2.2 hh; unfold Zb; rw [hbk b2 hne]; exact hq⟩
  have hn : InT b1 true u w' := ⟨fun _ => hv, fun hh => (by cases hh)⟩
  have p1 : PtT B (us 10) true u w' := ⟨b1, e1, hb1, hn⟩
  have p2 : PtT B (us 11) (f 13) u w' := ⟨b2, e2, hb2, ho⟩
  exact {
    bel := g.bel.trans ⟨os, tp, ou, sz, fun k hk => hbk k (by omega)⟩
    l0 := fun h => by simpa [Rg.upd] using g.l0 (by simpa [Rg.upd] using h)
    l1 := fun h => by simpa [Rg.upd] using g.l1 (by simpa [Rg.upd] using h)
    l2 := fun h => by simpa [Rg.upd] using (g.l2 (by simpa [Rg.upd] using h)).put hz hbk
    l3 := fun h => by simpa [Rg.upd] using g.l3 (by simpa [Rg.upd] using h)
    l4 := fun h => by simpa [Rg.upd] using (g.l4 (by simpa [Rg.upd] using h)).put hz hbk
    l5 := fun h => by simpa [Rg.upd] using g.l5 (by simpa [Rg.upd] using h)
    l6 := fun h => by simpa [Rg.upd] using g.l6 (by simpa [Rg.upd] using h)
    l7 := fun h => by simpa [Rg.upd] using g.l7 (by simpa [Rg.upd] using h)
    l8 := fun h => by simpa [Rg.upd] using (g.l8 (by simpa [Rg.upd] using h)).put hz hbk
    l9 := fun h => by simpa [Rg.upd] using (g.l9 (by simpa [Rg.upd] using h)).put hz hbk
    l10 := fun _ => by simpa [Rg.upd] using p1
    l11 := fun _ => by simpa [Rg.upd] using p2
    ne := fun h1 h2 => by simpa [Rg.upd] using g.ne (by simpa [Rg.upd] using h1) (by simpa [Rg.upd] using h2)
    w12 := fun _ => by simpa [Rg.upd] using d
    w13 := fun h => by simpa [Rg.upd] using g.w13 (by simpa [Rg.upd] using h)
    late := fun h => by simp [Rg.upd] at h }
theorem G8.put13 (g : G8 B wc p q r t u bc f us w) (hB : B = wc.heap.size) (hf : f 13 = false) (h12 : f 12 = true) {b : Nat} (hbe : us 11 = .pointer (some ⟨b, 0, none⟩)) (d : f 11 = true) (d' : f 10 = true) (os : w'.os = w.os) (tp : w'.tape = w.tape) (ou : w'.output = w.output) (sz : w.heap.size ≤ w'.heap.size) (hbk : ∀ k, k ≠ b → w'.heap[k]? = w.heap[k]?) (hv : BoxT b u w') {v : Value} : G8 B wc p q r t u bc (Rg.upd f 13 true) (Rg.upd us 13 v) w' := by
  obtain ⟨b1, e1, hb1, hz1⟩ := g.l11 d
  obtain ⟨b2, e2, hb2, hz2⟩ := g.l10 d'
  obtain rfl : b1 = b := by rw [hbe] at e1; injection e1 with h; injection h with h; injection h with h; exact h.symm
  have hne : b2 ≠ b1 := fun e => g.ne d' d (by rw [e1, e2, e])
  have hz := hz1.zb hf
  have ho : InT b2 (f 12) u w' := ⟨fun hh => (hz2.1 hh).put hne hz hbk, fun hh => (by rw [h12] at hh; cases hh)⟩
  have hn : InT b1 true u w' := ⟨fun _ => hv, fun hh => (by cases hh)⟩
  have p1 : PtT B (us 11) true u w' := ⟨b1, e1, hb1, hn⟩
  have p2 : PtT B (us 10) (f 12) u w' := ⟨b2, e2, hb2, ho⟩
  exact {
    bel := g.bel.trans ⟨os, tp, ou, sz, fun k hk => hbk k (by omega)⟩
    l0 := fun h => by simpa [Rg.upd] using g.l0 (by simpa [Rg.upd] using h)
    l1 := fun h => by simpa [Rg.upd] using g.l1 (by simpa [Rg.upd] using h)
    l2 := fun h => by simpa [Rg.upd] using (g.l2 (by simpa [Rg.upd] using h)).put hz hbk
    l3 := fun h => by simpa [Rg.upd] using g.l3 (by simpa [Rg.upd] using h)
    l4 := fun h => by simpa [Rg.upd] using (g.l4 (by simpa [Rg.upd] using h)).put hz hbk
    l5 := fun h => by simpa [Rg.upd] using g.l5 (by simpa [Rg.upd] using h)
    l6 := fun h => by simpa [Rg.upd] using g.l6 (by simpa [Rg.upd] using h)
    l7 := fun h => by simpa [Rg.upd] using g.l7 (by simpa [Rg.upd] using h)
    l8 := fun h => by simpa [Rg.upd] using (g.l8 (by simpa [Rg.upd] using h)).put hz hbk
    l9 := fun h => by simpa [Rg.upd] using (g.l9 (by simpa [Rg.upd] using h)).put hz hbk
    l10 := fun _ => by simpa [Rg.upd] using p2
    l11 := fun _ => by simpa [Rg.upd] using p1
    ne := fun h1 h2 => by simpa [Rg.upd] using g.ne (by simpa [Rg.upd] using h1) (by simpa [Rg.upd] using h2)
    w12 := fun h => by simpa [Rg.upd] using g.w12 (by simpa [Rg.upd] using h)
    w13 := fun _ => by simpa [Rg.upd] using d
    late := fun h => by simp [Rg.upd, h12] at h }
end
/-- Three traces, boxed at these blocks, and their rows. -/
def Tri (w0 : World) (n1 n2 n3 : Nat) (v1 v2 v3 : Value) (a b c : Tr) (w : World) : Prop :=
  Below w0.heap.size w0 w ∧ Bx n1 v1 a w ∧ Bx n2 v2 b w ∧ Bx n3 v3 c w ∧ Strs w v1 a.a ∧ Strs w v2 b.a ∧ Strs w v3 c.a ∧ Sg.Tab w
section
variable {w0 : World} {n1 n2 n3 : Nat} {x1 x2 x3 : Value} {a b c : Tr} {w w' : World}
theorem Tri.below (h : Tri w0 n1 n2 n3 x1 x2 x3 a b c w) (hb : Below w.heap.size w w') : Tri w0 n1 n2 n3 x1 x2 x3 a b c w' := by
  obtain ⟨h0, h1, h2, h3, h4, h5, h6, h7⟩ := h
  exact ⟨h0.trans (hb.mono h0.size), h1.below hb, h2.below hb, h3.below hb, h4.below hb, h5.below hb, h6.below hb, Tab.below h7 hb⟩
theorem Tri.box (h : Tri w0 n1 n2 n3 x1 x2 x3 a b c w) : Below w0.heap.size w0 w := h.1
theorem Tri.sa (h : Tri w0 n1 n2 n3 x1 x2 x3 a b c w) : Strs w x1 a.a := h.2.2.2.2.1
theorem Tri.sb (h : Tri w0 n1 n2 n3 x1 x2 x3 a b c w) : Strs w x2 b.a := h.2.2.2.2.2.1
theorem Tri.sc (h : Tri w0 n1 n2 n3 x1 x2 x3 a b c w) : Strs w x3 c.a := h.2.2.2.2.2.2.1
theorem Tri.tab (h : Tri w0 n1 n2 n3 x1 x2 x3 a b c w) : Sg.Tab w := h.2.2.2.2.2.2.2
theorem Tri.cells (h : Tri w0 n1 n2 n3 x1 x2 x3 a b c w) : w.cell? ⟨n1, 0, none⟩ = some x1 ∧ w.cell? ⟨n1, 1, none⟩ = some (.int .i64 a.e) ∧ w.cell? ⟨n2, 0, none⟩ = some x2 ∧ w.cell? ⟨n2, 1, none⟩ = some (.int .i64 b.e) ∧ w.cell? ⟨n3, 0, none⟩ = some x3 ∧ w.cell? ⟨n3, 1, none⟩ = some (.int .i64 c.e) :=
  ⟨h.2.1.1, h.2.1.2, h.2.2.1.1, h.2.2.1.2, h.2.2.2.1.1, h.2.2.2.1.2⟩
end
theorem Tri.re {w0 : World} {n1 n2 n3 m1 m2 m3 : Nat} {x1 x2 x3 : Value} {a b c : Tr} {w : World} (h : Tri w0 n1 n2 n3 x1 x2 x3 a b c w) (h1 : Bx m1 x1 a w) (h2 : Bx m2 x2 b w) (h3 : Bx m3 x3 c w) : Tri w0 m1 m2 m3 x1 x2 x3 a b c w := ⟨h.box, h1, h2, h3, h.sa, h.sb, h.sc, h.tab⟩
/-- What lay below reads as it did: its cells, and its marks. -/
theorem old_cell {v v' : World} (hb : Below v.heap.size v v') (n i : Nat) (h : n < v.heap.size) : v'.cell? ⟨n, i, none⟩ = v.cell? ⟨n, i, none⟩ := hb.cell (p := ⟨n, i, none⟩) h
theorem old_mark {v v' : World} (hb : Below v.heap.size v v') (n i : Nat) (h : n < v.heap.size) : v'.frozen? ⟨n, i, none⟩ = v.frozen? ⟨n, i, none⟩ := hb.frozen (p := ⟨n, i, none⟩) h
theorem Tri.start {w : World} {v1 v2 v3 : Value} {a b c : Tr} (h : Sg.Tab w) (h1 : Strs w v1 a.a) (h2 : Strs w v2 b.a) (h3 : Strs w v3 c.a) (ty : TypeId) :
    Tri w w.heap.size (w.heap.size + 1) (w.heap.size + 1 + 1) v1 v2 v3 a b c (((w.alloc (.cells #[v1, .int .i64 a.e] ty)).alloc (.cells #[v2, .int .i64 b.e] ty)).alloc (.cells #[v3, .int .i64 c.e] ty)) :=
  ⟨below3 _ _ _ _, ((Bx.new _ rfl).below (Below.one _ _)).below (Below.one _ _), (Bx.new _ (by simp)).below (Below.one _ _), Bx.new _ (by simp), h1.below (below3 _ _ _ _), h2.below (below3 _ _ _ _), h3.below (below3 _ _ _ _), Tab.below h (below3 _ _ _ _)⟩
theorem new3b {w : World} {v0 v1 v2 : Value} {t0 t1 t2 : Tr} (b : Nat) (hb : b = w.heap.size) (h0 : Strs w v0 t0.a) (h1 : Strs w v1 t1.a) (h2 : Strs w v2 t2.a) (ty : TypeId) :
    Trs (w.alloc (.cells #[v0, .int .i64 t0.e, v1, .int .i64 t1.e, v2, .int .i64 t2.e] ty)) (.slice (some ⟨b, 0, none⟩) 3 3) [t0, t1, t2] := by
  subst hb
  exact new3 h0 h1 h2 ty
theorem few3 {p q r : Tr} (h : fewB [p, q, r] = true) : p.a.length + (q.a.length + r.a.length) ≤ 1000 := by have := (few_of h).2; simpa [acts] using this

/-- What holds behind the region of four calls. -/
structure End9 (w0 : World) (n10 n12 n13 : Nat) (x1 x2 x3 xt y12 y13 : Value) (a b c t u : Tr) (w : World) : Prop where
  tri : Tri w0 w0.heap.size (w0.heap.size + 1) (w0.heap.size + 1 + 1) x1 x2 x3 a b c w
  bt : Bx n10 xt t w
  st : Strs w xt t.a
  b12 : Bx n12 y12 u w
  s12 : Strs w y12 u.a
  b13 : Bx n13 y13 u w
  s13 : Strs w y13 u.a
section
variable {w0 : World} {n10 n12 n13 : Nat} {x1 x2 x3 xt y12 y13 : Value} {a b c t u : Tr} {w w' : World}
theorem End9.below (h : End9 w0 n10 n12 n13 x1 x2 x3 xt y12 y13 a b c t u w) (hb : Below w.heap.size w w') : End9 w0 n10 n12 n13 x1 x2 x3 xt y12 y13 a b c t u w' :=
  ⟨h.tri.below hb, h.bt.below hb, h.st.below hb, h.b12.below hb, h.s12.below hb, h.b13.below hb, h.s13.below hb⟩
theorem End9.cells (h : End9 w0 n10 n12 n13 x1 x2 x3 xt y12 y13 a b c t u w) : w.cell? ⟨n10, 0, none⟩ = some xt ∧ w.cell? ⟨n10, 1, none⟩ = some (.int .i64 t.e) ∧ w.cell? ⟨w0.heap.size, 0, none⟩ = some x1 ∧ w.cell? ⟨w0.heap.size, 1, none⟩ = some (.int .i64 a.e) ∧ w.cell? ⟨w0.heap.size + 1, 0, none⟩ = some x2 ∧ w.cell? ⟨w0.heap.size + 1, 1, none⟩ = some (.int .i64 b.e) ∧ w.cell? ⟨n12, 0, none⟩ = some y12 ∧ w.cell? ⟨n12, 1, none⟩ = some (.int .i64 u.e) ∧ w.cell? ⟨n13, 0, none⟩ = some y13 ∧ w.cell? ⟨n13, 1, none⟩ = some (.int .i64 u.e) :=
  ⟨h.bt.1, h.bt.2, h.tri.2.1.1, h.tri.2.1.2, h.tri.2.2.1.1, h.tri.2.2.1.2, h.b12.1, h.b12.2, h.b13.1, h.b13.2⟩
end
theorem sgn_0 {c : Int} {p : Tr} (h : sgn c = cmp p p) : c = 0 := by
  rw [cmp_self] at h
  unfold sgn at h
  split at h <;> (try split at h) <;> omega

set_option maxHeartbeats 8000000 in
theorem then_law (C : Con) (v1 v2 v3 : Value) (a b c : Tr) (w : World) (h : Sg.Tab w) (hv1 : Strs w v1 a.a) (hv2 : Strs w v2 b.a) (hv3 : Strs w v3 c.a) (r1 : a.a.length ≤ 1125899906842624) (r2 : b.a.length ≤ 1125899906842624) (r3 : c.a.length ≤ 1125899906842624) (rs : ∀ s ∈ a.a ++ b.a, s.size ≤ 140737488355328) :
    Calls Tryd.prog 5 #[.agg #[v1, .int .i64 a.e], .agg #[v2, .int .i64 b.e], .agg #[v3, .int .i64 c.e]] w fun e w' => e = .returned (.bool true) ∧ Below w.heap.size w w' := by
  have I := Lib.hid (Tri.start h hv1 hv2 hv3 24)
  obtain ⟨_, a1, c1, rfl, -⟩ := hv1
  obtain ⟨_, a2, c2, rfl, -⟩ := hv2
  obtain ⟨_, a3, c3, rfl, -⟩ := hv3
  obtain ⟨t, ht⟩ : ∃ t, thn a b = t := ⟨_, rfl⟩
  have hxl := thn_len a b
  rw [ht] at hxl
  have XS : Hid (∀ s ∈ t.a, s.size ≤ 140737488355328) := fun s hs => rs s (by
    rw [← ht] at hs
    unfold thn at hs
    split at hs
    · exact hs
    · exact List.mem_append_left _ hs)
  have HT := Lib.hid ht
  clear rs ht
  go_enter Tryd.func5, Tryd.ntmps5
  go_wp2_with fail
  refine (few_any _ [a, b, c] _ (new3b _ (by simp) I.out.sa I.out.sb I.out.sc _) (by simp [maxLen]) (by simp; omega)).mono ?_
  rintro e w1 ⟨rfl, hb1⟩
  replace I := Lib.hid ((I.out.below (Below.one _ _)).below hb1)
  clear hb1
  cases hf : fewB [a, b, c] with
  | false =>
    go_wp2_with fail
    refine (alive_any C _ I.out.tab).mono ?_
    rintro e w2 ⟨rfl, hb2⟩
    replace I := Lib.hid (I.out.below hb2)
    clear hb2
    go_wp2_with fail
    go_ret
    exact ⟨rfl, I.out.box⟩
  | true =>
    have hl := few3 hf
    clear hf
    obtain ⟨k1, k2, k3, k4, k5, k6⟩ := I.out.cells
    go_upto_region 3 with fail
    go_cut [7, 8, 9] (fun s7 s8 s9 wx => ∃ b7 b8 b9 : Nat, s7 = .pointer (some ⟨b7, 0, none⟩) ∧ s8 = .pointer (some ⟨b8, 0, none⟩) ∧ s9 = .pointer (some ⟨b9, 0, none⟩) ∧ Tri w w.heap.size (w.heap.size + 1) (w.heap.size + 1 + 1) (.slice a1 a.a.length c1) (.slice a2 b.a.length c2) (.slice a3 c.a.length c3) a b c wx ∧
      Tri w b7 b8 b9 (.slice a1 a.a.length c1) (.slice a2 b.a.length c2) (.slice a3 c.a.length c3) a b c wx)
    case first =>
      have lt1 : w.heap.size < w1.heap.size := Ap.cell_lt k1
      have lt2 : w.heap.size + 1 < w1.heap.size := Ap.cell_lt k3
      have lt3 : w.heap.size + 1 + 1 < w1.heap.size := Ap.cell_lt k5
      have lt4 : w.heap.size < w1.heap.size + 1 := by omega
      have lt5 : w.heap.size + 1 < w1.heap.size + 1 := by omega
      have lt6 : w.heap.size + 1 + 1 < w1.heap.size + 1 := by omega
      have lt7 : w.heap.size < w1.heap.size + 1 + 1 := by omega
      have lt8 : w.heap.size + 1 < w1.heap.size + 1 + 1 := by omega
      have lt9 : w.heap.size + 1 + 1 < w1.heap.size + 1 + 1 := by omega
      go_region_held3 (fun w' => w'.cell? ⟨w.heap.size, 0, none⟩ = some (.slice a1 a.a.length c1) ∧ w'.cell? ⟨w.heap.size, 1, none⟩ = some (.int .i64 a.e) ∧ w'.cell? ⟨w.heap.size + 1, 0, none⟩ = some (.slice a2 b.a.length c2) ∧ w'.cell? ⟨w.heap.size + 1, 1, none⟩ = some (.int .i64 b.e) ∧ w'.cell? ⟨w.heap.size + 1 + 1, 0, none⟩ = some (.slice a3 c.a.length c3) ∧ w'.cell? ⟨w.heap.size + 1 + 1, 1, none⟩ = some (.int .i64 c.e)) (first | exact ⟨k1, k2, k3, k4, k5, k6⟩ | (refine (I.out.below ?_).cells; repeat (first | exact Below.refl _ _ | refine Below.drew ?_ | refine Below.alloc ?_ (by simp <;> omega) _ | refine Below.setCell ?_ (by simp <;> omega) _)) | fail) (first | fail)
      all_goals go_wp2_with fail
      all_goals go_meet
      all_goals exact ⟨_, _, _, rfl, rfl, rfl, I.out.below (below3 _ _ _ _).drew, (I.out.below (below3 _ _ _ _).drew).re ⟨by simp [go_sem], by simp [go_sem]⟩ ⟨by simp [go_sem], by simp [go_sem]⟩ ⟨by simp [go_sem], by simp [go_sem]⟩⟩
    case rest =>
      obtain ⟨b7, b8, b9, rfl, rfl, rfl, hi, hj⟩ := hcut
      replace I := Lib.hid hi
      have J := Lib.hid hj
      clear hi hj k1 k2 k3 k4 k5 k6
      obtain ⟨k1, k2, k3, k4, k5, k6⟩ := J.out.cells
      go_wp2_with fail
      refine (C.cThn _ _ a b _ J.out.tab J.out.sa J.out.sb (by omega)).mono ?_
      rw [HT.out]
      rintro e w2 ⟨x, rfl, hm, hb2⟩
      replace I := Lib.hid (I.out.below hb2)
      replace J := Lib.hid (J.out.below hb2)
      have X := Lib.hid hm.strs
      obtain ⟨_, ax, cx, rfl, -⟩ := hm.strs
      clear hm hb2 k1 k2 k3 k4 k5 k6
      obtain ⟨k1, k2, k3, k4, k5, k6⟩ := J.out.cells
      go_upto_if 30 with fail
      go_cut [11] (fun _ wx => Tri w w.heap.size (w.heap.size + 1) (w.heap.size + 1 + 1) (.slice a1 a.a.length c1) (.slice a2 b.a.length c2) (.slice a3 c.a.length c3) a b c wx ∧ Tri w b7 b8 b9 (.slice a1 a.a.length c1) (.slice a2 b.a.length c2) (.slice a3 c.a.length c3) a b c wx ∧ Bx w2.heap.size (.slice ax t.a.length cx) t wx ∧ Strs wx (.slice ax t.a.length cx) t.a)
      case first =>
        by_cases hpos : 0 < t.a.length
        · have gp : decide (0 < t.a.length) = true := by simpa using hpos
          obtain ⟨w3, hw3⟩ : ∃ w3, w2.alloc (.cells #[.slice ax t.a.length cx, .int .i64 t.e] 30) = w3 := ⟨_, rfl⟩
          have B3 : Hid (Below w2.heap.size w2 w3) := by rw [← hw3]; exact Below.one _ _
          have X3 : Hid (Bx w2.heap.size (.slice ax t.a.length cx) t w3) := by rw [← hw3]; exact Bx.new _ rfl
          rw [hw3]
          clear hw3 k1 k2 k3 k4 k5 k6
          replace I := Lib.hid (I.out.below B3.out)
          replace J := Lib.hid (J.out.below B3.out)
          replace X := Lib.hid (X.out.below B3.out)
          obtain ⟨k1, k2, k3, k4, k5, k6⟩ := J.out.cells
          go_wp2_with fail
          refine (C.cThn _ _ a b _ J.out.tab J.out.sa J.out.sb (by omega)).mono ?_
          rw [HT.out]
          rintro e w4 ⟨y, rfl, hm, hb4⟩
          obtain ⟨⟨_, ay, cy, rfl, _, _, hcell⟩, hfz⟩ := hm
          obtain ⟨by', oy, rfl, hge, hblt, hj⟩ := hcell hpos
          have hs0 := hj 0 _ (by rw [List.getElem?_map, List.getElem?_eq_getElem hpos]; rfl)
          have hf0 := hfz by' oy cy rfl 0 hpos
          rw [Nat.add_zero] at hs0 hf0
          have hsz := XS.out _ (List.getElem_mem hpos)
          generalize t.a[0] = s0 at *
          have n1 : ¬ 9223372036854775807 < s0.size + 1 := by omega
          have B4 := Lib.hid hb4
          clear hj hfz hcell hb4 k1 k2 k3 k4 k5 k6
          go_wp2_with fail
          go_meet
          have hb : Below w3.heap.size w3 ((w4.setCell ⟨by', oy, none⟩ (.string (s0 ++ ⟨#[120]⟩))).alloc (.cells #[.slice (some ⟨by', oy, none⟩) t.a.length cy, .int .i64 t.e] 30)) := (B4.out.setCell hge _).alloc (by have := B4.out.size; simpa [World.setCell] using this) _
          exact ⟨I.out.below hb, J.out.below hb, X3.out.below hb, X.out.below hb⟩
        · have gp : decide (0 < t.a.length) = false := by simpa using hpos
          go_wp2_with fail
          go_meet
          exact ⟨I.out.below (Below.one _ _), J.out.below (Below.one _ _), Bx.new _ rfl, X.out.below (Below.one _ _)⟩
      case rest =>
        obtain ⟨hi, hj, hbx, hsx⟩ := hcut
        replace I := Lib.hid hi
        replace J := Lib.hid hj
        have X4 := Lib.hid hbx
        replace X := Lib.hid hsx
        clear hi hj hbx hsx k1 k2 k3 k4 k5 k6
        go_upto_region 8 with fail
        obtain ⟨u, hu⟩ : ∃ u, thn t c = u := ⟨_, rfl⟩
        obtain ⟨bc, hbc⟩ : ∃ bc, thn b c = bc := ⟨_, rfl⟩
        have l1 := thn_len t c
        have l2 := thn_len b c
        rw [hu] at l1
        rw [hbc] at l2
        have hv : thn a bc = u := by rw [← hbc, ← thn_assoc, HT.out, hu]
        have LU : Hid (u.a.length ≤ 2000) := (show _ from by omega : u.a.length ≤ 2000)
        have HU := Lib.hid hu
        have HBC := Lib.hid hbc
        have HV := Lib.hid hv
        clear hu hbc hv
        go_cut [12, 13] (fun s12 s13 wx => ∃ (b12 b13 : Nat) (x12 x13 : Value), s12 = .pointer (some ⟨b12, 0, none⟩) ∧ s13 = .pointer (some ⟨b13, 0, none⟩) ∧ Tri w w.heap.size (w.heap.size + 1) (w.heap.size + 1 + 1) (.slice a1 a.a.length c1) (.slice a2 b.a.length c2) (.slice a3 c.a.length c3) a b c wx ∧ Bx w2.heap.size (.slice ax t.a.length cx) t wx ∧ Strs wx (.slice ax t.a.length cx) t.a ∧
          Bx b12 x12 u wx ∧ Strs wx x12 u.a ∧ Bx b13 x13 u wx ∧ Strs wx x13 u.a)
        case first =>
          clear LU
          obtain ⟨k1, k2, k3, k4, k5, k6⟩ := J.out.cells
          have L7 : Hid (b7 < wc.heap.size) := J.out.2.1.lt
          have L8 : Hid (b8 < wc.heap.size) := J.out.2.2.1.lt
          have L9 : Hid (b9 < wc.heap.size) := J.out.2.2.2.1.lt
          obtain ⟨B, hB⟩ : ∃ B, B = wc.heap.size := ⟨_, rfl⟩
          refine Rg.wp_region_inv (by kernel_rfl) [(0, some 40), (1, some 41), (2, some 42), (3, some 43), (4, some 44), (5, some 45), (6, some 46), (7, some 47), (8, some 48), (9, some 49), (10, some 12), (11, some 13), (12, none), (13, none)] (by rfl) (by kernel_rfl) (by kernel_rfl) (G8 B wc (.agg #[.slice a1 a.a.length c1, .int .i64 a.e]) (.agg #[.slice a2 b.a.length c2, .int .i64 b.e]) (.agg #[.slice a3 c.a.length c3, .int .i64 c.e]) t u bc) ?_ ⟨⟨⟨⟨⟨⟨⟨⟨⟨⟨⟨⟨⟨⟨True.intro, ?_⟩, ?_⟩, ?_⟩, ?_⟩, ?_⟩, ?_⟩, ?_⟩, ?_⟩, ?_⟩, ?_⟩, ?_⟩, ?_⟩, ?_⟩, ?_⟩ ?_
          · intro us
            exact { bel := (Below.refl _ _).drew, late := fun _ => by decide, ne := fun h => by simp at h, w12 := fun h => by simp at h, w13 := fun h => by simp at h, l0 := fun h => by simp at h, l1 := fun h => by simp at h, l2 := fun h => by simp at h, l3 := fun h => by simp at h, l4 := fun h => by simp at h, l5 := fun h => by simp at h, l6 := fun h => by simp at h, l7 := fun h => by simp at h, l8 := fun h => by simp at h, l9 := fun h => by simp at h, l10 := fun h => by simp at h, l11 := fun h => by simp at h }
          · intro o ho f us wl al ha g hf hdep K hK
            obtain rfl := Option.some.inj ho
            have e7 : al.tmps[7]?.getD undef = .pointer (some ⟨b7, 0, none⟩) := by rw [← Rg.eval_getD, ha]; exact (Rg.puts_eval_ne _ _ _ (by rfl)).trans rfl
            have y0 : wl.cell? ⟨b7, 0, none⟩ = _ := (g.bel.cell (p := ⟨b7, 0, none⟩) (hB ▸ L7.out)).trans k1
            have y1 : wl.cell? ⟨b7, 1, none⟩ = _ := (g.bel.cell (p := ⟨b7, 1, none⟩) (hB ▸ L7.out)).trans k2
            have HG := Lib.hid (g.put0 hB (Below.refl _ _) rfl)
            clear ha g hf hdep
            refine Rg.wpOp_of rfl rfl ?_
            go_simp
            exact hK _ _ HG.out
          · intro o ho f us wl al ha g hf hdep K hK
            obtain rfl := Option.some.inj ho
            have e8 : al.tmps[8]?.getD undef = .pointer (some ⟨b8, 0, none⟩) := by rw [← Rg.eval_getD, ha]; exact (Rg.puts_eval_ne _ _ _ (by rfl)).trans rfl
            have y0 : wl.cell? ⟨b8, 0, none⟩ = _ := (g.bel.cell (p := ⟨b8, 0, none⟩) (hB ▸ L8.out)).trans k3
            have y1 : wl.cell? ⟨b8, 1, none⟩ = _ := (g.bel.cell (p := ⟨b8, 1, none⟩) (hB ▸ L8.out)).trans k4
            have HG := Lib.hid (g.put1 hB (Below.refl _ _) rfl)
            clear ha g hf hdep
            refine Rg.wpOp_of rfl rfl ?_
            go_simp
            exact hK _ _ HG.out
          · intro o ho f us wl al ha g hf hdep K hK
            obtain rfl := Option.some.inj ho
            have d0 : f 0 = true := hdep ⟨0, .data⟩ (by simp) rfl
            have d1 : f 1 = true := hdep ⟨1, .data⟩ (by simp) rfl
            have e40 : al.tmps[40]?.getD undef = us 0 := by rw [← Rg.eval_getD, ha]; exact Rg.puts_eval _ _ _ (by rfl) (by simp) (by simp)
            have e41 : al.tmps[41]?.getD undef = us 1 := by rw [← Rg.eval_getD, ha]; exact Rg.puts_eval _ _ _ (by rfl) (by simp) (by simp)
            have v0 := g.l0 d0
            have v1 := g.l1 d1
            have S1 := Lib.hid ((J.out.sa.below (hB ▸ g.bel)))
            have S2 := Lib.hid ((J.out.sb.below (hB ▸ g.bel)))
            have TT := Lib.hid (Tab.below J.out.tab (hB ▸ g.bel))
            have HG := Lib.hid g
            clear ha g hf hdep
            refine Rg.wpOp_of rfl rfl ?_
            go_simp
            refine (C.cThn _ _ a b _ TT.out S1.out S2.out (by omega)).mono ?_
            rintro e wn ⟨y, rfl, hm, hbn⟩
            rw [HT.out] at hm ⊢
            exact hK _ _ (HG.out.put2 hB hbn (RowT.mk hm.strs))
          · intro o ho f us wl al ha g hf hdep K hK
            obtain rfl := Option.some.inj ho
            have e9 : al.tmps[9]?.getD undef = .pointer (some ⟨b9, 0, none⟩) := by rw [← Rg.eval_getD, ha]; exact (Rg.puts_eval_ne _ _ _ (by rfl)).trans rfl
            have y0 : wl.cell? ⟨b9, 0, none⟩ = _ := (g.bel.cell (p := ⟨b9, 0, none⟩) (hB ▸ L9.out)).trans k5
            have y1 : wl.cell? ⟨b9, 1, none⟩ = _ := (g.bel.cell (p := ⟨b9, 1, none⟩) (hB ▸ L9.out)).trans k6
            have HG := Lib.hid (g.put3 hB (Below.refl _ _) rfl)
            clear ha g hf hdep
            refine Rg.wpOp_of rfl rfl ?_
            go_simp
            exact hK _ _ HG.out
          · intro o ho f us wl al ha g hf hdep K hK
            obtain rfl := Option.some.inj ho
            have d2 : f 2 = true := hdep ⟨2, .data⟩ (by simp) rfl
            have d3 : f 3 = true := hdep ⟨3, .data⟩ (by simp) rfl
            have e42 : al.tmps[42]?.getD undef = us 2 := by rw [← Rg.eval_getD, ha]; exact Rg.puts_eval _ _ _ (by rfl) (by simp) (by simp)
            have e43 : al.tmps[43]?.getD undef = us 3 := by rw [← Rg.eval_getD, ha]; exact Rg.puts_eval _ _ _ (by rfl) (by simp) (by simp)
            obtain ⟨y2, v2, ⟨ay2, cy2, rfl⟩, s2⟩ := g.l2 d2
            have v3 := g.l3 d3
            have S1 := Lib.hid s2
            have S2 := Lib.hid ((J.out.sc.below (hB ▸ g.bel)))
            have TT := Lib.hid (Tab.below J.out.tab (hB ▸ g.bel))
            have HG := Lib.hid g
            clear ha g hf hdep
            refine Rg.wpOp_of rfl rfl ?_
            go_simp
            refine (C.cThn _ _ t c _ TT.out S1.out S2.out (by omega)).mono ?_
            rintro e wn ⟨y, rfl, hm, hbn⟩
            rw [HU.out] at hm ⊢
            exact hK _ _ (HG.out.put4 hB hbn (RowT.mk hm.strs))
          · intro o ho f us wl al ha g hf hdep K hK
            obtain rfl := Option.some.inj ho
            have e7 : al.tmps[7]?.getD undef = .pointer (some ⟨b7, 0, none⟩) := by rw [← Rg.eval_getD, ha]; exact (Rg.puts_eval_ne _ _ _ (by rfl)).trans rfl
            have y0 : wl.cell? ⟨b7, 0, none⟩ = _ := (g.bel.cell (p := ⟨b7, 0, none⟩) (hB ▸ L7.out)).trans k1
            have y1 : wl.cell? ⟨b7, 1, none⟩ = _ := (g.bel.cell (p := ⟨b7, 1, none⟩) (hB ▸ L7.out)).trans k2
            have HG := Lib.hid (g.put5 hB (Below.refl _ _) rfl)
            clear ha g hf hdep
            refine Rg.wpOp_of rfl rfl ?_
            go_simp
            exact hK _ _ HG.out
          · intro o ho f us wl al ha g hf hdep K hK
            obtain rfl := Option.some.inj ho
            have e8 : al.tmps[8]?.getD undef = .pointer (some ⟨b8, 0, none⟩) := by rw [← Rg.eval_getD, ha]; exact (Rg.puts_eval_ne _ _ _ (by rfl)).trans rfl
            have y0 : wl.cell? ⟨b8, 0, none⟩ = _ := (g.bel.cell (p := ⟨b8, 0, none⟩) (hB ▸ L8.out)).trans k3
            have y1 : wl.cell? ⟨b8, 1, none⟩ = _ := (g.bel.cell (p := ⟨b8, 1, none⟩) (hB ▸ L8.out)).trans k4
            have HG := Lib.hid (g.put6 hB (Below.refl _ _) rfl)
            clear ha g hf hdep
            refine Rg.wpOp_of rfl rfl ?_
            go_simp
            exact hK _ _ HG.out
          · intro o ho f us wl al ha g hf hdep K hK
            obtain rfl := Option.some.inj ho
            have e9 : al.tmps[9]?.getD undef = .pointer (some ⟨b9, 0, none⟩) := by rw [← Rg.eval_getD, ha]; exact (Rg.puts_eval_ne _ _ _ (by rfl)).trans rfl
            have y0 : wl.cell? ⟨b9, 0, none⟩ = _ := (g.bel.cell (p := ⟨b9, 0, none⟩) (hB ▸ L9.out)).trans k5
            have y1 : wl.cell? ⟨b9, 1, none⟩ = _ := (g.bel.cell (p := ⟨b9, 1, none⟩) (hB ▸ L9.out)).trans k6
            have HG := Lib.hid (g.put7 hB (Below.refl _ _) rfl)
            clear ha g hf hdep
            refine Rg.wpOp_of rfl rfl ?_
            go_simp
            exact hK _ _ HG.out
          · intro o ho f us wl al ha g hf hdep K hK
            obtain rfl := Option.some.inj ho
            have d6 : f 6 = true := hdep ⟨6, .data⟩ (by simp) rfl
            have d7 : f 7 = true := hdep ⟨7, .data⟩ (by simp) rfl
            have d4 : f 4 = true := hdep ⟨4, .chain⟩ (by simp) rfl
            have e46 : al.tmps[46]?.getD undef = us 6 := by rw [← Rg.eval_getD, ha]; exact Rg.puts_eval _ _ _ (by rfl) (by simp) (by simp)
            have e47 : al.tmps[47]?.getD undef = us 7 := by rw [← Rg.eval_getD, ha]; exact Rg.puts_eval _ _ _ (by rfl) (by simp) (by simp)
            have v6 := g.l6 d6
            have v7 := g.l7 d7
            have S1 := Lib.hid ((J.out.sb.below (hB ▸ g.bel)))
            have S2 := Lib.hid ((J.out.sc.below (hB ▸ g.bel)))
            have TT := Lib.hid (Tab.below J.out.tab (hB ▸ g.bel))
            have HG := Lib.hid g
            clear ha g hf hdep
            refine Rg.wpOp_of rfl rfl ?_
            go_simp
            refine (C.cThn _ _ b c _ TT.out S1.out S2.out (by omega)).mono ?_
            rintro e wn ⟨y, rfl, hm, hbn⟩
            rw [HBC.out] at hm ⊢
            exact hK _ _ (HG.out.put8 hB hbn (RowT.mk hm.strs))
          · intro o ho f us wl al ha g hf hdep K hK
            obtain rfl := Option.some.inj ho
            have d5 : f 5 = true := hdep ⟨5, .data⟩ (by simp) rfl
            have d8 : f 8 = true := hdep ⟨8, .data⟩ (by simp) rfl
            have e45 : al.tmps[45]?.getD undef = us 5 := by rw [← Rg.eval_getD, ha]; exact Rg.puts_eval _ _ _ (by rfl) (by simp) (by simp)
            have e48 : al.tmps[48]?.getD undef = us 8 := by rw [← Rg.eval_getD, ha]; exact Rg.puts_eval _ _ _ (by rfl) (by simp) (by simp)
            have v5 := g.l5 d5
            obtain ⟨y8, v8, ⟨ay8, cy8, rfl⟩, s8⟩ := g.l8 d8
            have S1 := Lib.hid ((J.out.sa.below (hB ▸ g.bel)))
            have S2 := Lib.hid s8
            have TT := Lib.hid (Tab.below J.out.tab (hB ▸ g.bel))
            have HG := Lib.hid g
            clear ha g hf hdep
            refine Rg.wpOp_of rfl rfl ?_
            go_simp
            refine (C.cThn _ _ a bc _ TT.out S1.out S2.out (by omega)).mono ?_
            rintro e wn ⟨y, rfl, hm, hbn⟩
            rw [HV.out] at hm ⊢
            exact hK _ _ (HG.out.put9 hB hbn (RowT.mk hm.strs))
          · intro o ho f us wl al ha g hf hdep K hK
            obtain rfl := Option.some.inj ho
            have f12 : f 12 = false := by
              cases hx : f 12
              · rfl
              · exact absurd (g.w12 hx) (by simp [hf])
            have HG := Lib.hid (g.put10 hB (Below.one wl _) (PtT.new (g.size hB)) f12 (fun h => (g.l11 h).ne.symm))
            clear ha g hf hdep
            refine Rg.wpOp_of rfl rfl ?_
            go_simp
            exact hK _ _ HG.out
          · intro o ho f us wl al ha g hf hdep K hK
            obtain rfl := Option.some.inj ho
            have f12 : f 13 = false := by
              cases hx : f 13
              · rfl
              · exact absurd (g.w13 hx) (by simp [hf])
            have HG := Lib.hid (g.put11 hB (Below.one wl _) (PtT.new (g.size hB)) f12 (fun h => (g.l10 h).ne.symm))
            clear ha g hf hdep
            refine Rg.wpOp_of rfl rfl ?_
            go_simp
            exact hK _ _ HG.out
          · intro o ho f us wl al ha g hf hdep K hK
            obtain rfl := Option.some.inj ho
            have d4 : f 4 = true := hdep ⟨4, .data⟩ (by simp) rfl
            have d10 : f 10 = true := hdep ⟨10, .data⟩ (by simp) rfl
            have d11 : f 11 = true := hdep ⟨11, .phase⟩ (by simp) rfl
            have e12 : al.tmps[12]?.getD undef = us 10 := by rw [← Rg.eval_getD, ha]; exact Rg.puts_eval _ _ _ (by rfl) (by simp) (by simp)
            have e44 : al.tmps[44]?.getD undef = us 4 := by rw [← Rg.eval_getD, ha]; exact Rg.puts_eval _ _ _ (by rfl) (by simp) (by simp)
            obtain ⟨bb, vb, hbb, hin⟩ := g.l10 d10
            have hz := hin.zb hf
            have z0 := hz.c0
            have z1 := hz.c1
            have z2 := hz.z0
            have z3 := hz.z1
            obtain ⟨yy, vy, ⟨ay, cy, rfl⟩, sy⟩ := g.l4 d4
            have HZ := Lib.hid hz
            have SY := Lib.hid sy
            have VB := Lib.hid vb
            have HG := Lib.hid g
            have HF := Lib.hid hf
            clear ha g hf hdep hz sy hin
            refine Rg.wpOp_of rfl rfl ?_
            go_simp
            have hbk : ∀ k, k ≠ bb → ((wl.setCell ⟨bb, 0, none⟩ (.slice ay u.a.length cy)).setCell ⟨bb, 1, none⟩ (.int .i64 u.e)).heap[k]? = wl.heap[k]? := fun k hk => (Below.heap_setCell _ _ _ _ hk).trans (Below.heap_setCell _ _ _ _ hk)
            refine hK undef ((wl.setCell ⟨bb, 0, none⟩ (.slice ay u.a.length cy)).setCell ⟨bb, 1, none⟩ (.int .i64 u.e)) (HG.out.put12 hB HF.out VB.out d10 d11 (by rfl) (by rfl) (by rfl) (by simp [World.setCell]) hbk ⟨_, ⟨?_, ?_⟩, SY.out.put HZ.out hbk⟩)
            · simp [go_sem, z0]
            · simp [go_sem, z1]
          · intro o ho f us wl al ha g hf hdep K hK
            obtain rfl := Option.some.inj ho
            have d9 : f 9 = true := hdep ⟨9, .data⟩ (by simp) rfl
            have d10 : f 10 = true := hdep ⟨10, .phase⟩ (by simp) rfl
            have d11 : f 11 = true := hdep ⟨11, .data⟩ (by simp) rfl
            have d12 : f 12 = true := hdep ⟨12, .chain⟩ (by simp) rfl
            have e13 : al.tmps[13]?.getD undef = us 11 := by rw [← Rg.eval_getD, ha]; exact Rg.puts_eval _ _ _ (by rfl) (by simp) (by simp)
            have e49 : al.tmps[49]?.getD undef = us 9 := by rw [← Rg.eval_getD, ha]; exact Rg.puts_eval _ _ _ (by rfl) (by simp) (by simp)
            obtain ⟨bb, vb, hbb, hin⟩ := g.l11 d11
            have hz := hin.zb hf
            have z0 := hz.c0
            have z1 := hz.c1
            have z2 := hz.z0
            have z3 := hz.z1
            obtain ⟨yy, vy, ⟨ay, cy, rfl⟩, sy⟩ := g.l9 d9
            have HZ := Lib.hid hz
            have SY := Lib.hid sy
            have VB := Lib.hid vb
            have HG := Lib.hid g
            have HF := Lib.hid hf
            clear ha g hf hdep hz sy hin
            refine Rg.wpOp_of rfl rfl ?_
            go_simp
            have hbk : ∀ k, k ≠ bb → ((wl.setCell ⟨bb, 0, none⟩ (.slice ay u.a.length cy)).setCell ⟨bb, 1, none⟩ (.int .i64 u.e)).heap[k]? = wl.heap[k]? := fun k hk => (Below.heap_setCell _ _ _ _ hk).trans (Below.heap_setCell _ _ _ _ hk)
            refine hK undef ((wl.setCell ⟨bb, 0, none⟩ (.slice ay u.a.length cy)).setCell ⟨bb, 1, none⟩ (.int .i64 u.e)) (HG.out.put13 hB HF.out d12 VB.out d11 d10 (by rfl) (by rfl) (by rfl) (by simp [World.setCell]) hbk ⟨_, ⟨?_, ?_⟩, SY.out.put HZ.out hbk⟩)
            · simp [go_sem, z0]
            · simp [go_sem, z1]
          · intro us wz g
            obtain ⟨b12, p12, h12, i12⟩ := g.l10 rfl
            obtain ⟨b13, p13, h13, i13⟩ := g.l11 rfl
            obtain ⟨x12, c12, s12⟩ := i12.1 rfl
            obtain ⟨x13, c13, s13⟩ := i13.1 rfl
            have HB := Lib.hid (hB ▸ g.bel)
            have C12 := Lib.hid c12
            have C13 := Lib.hid c13
            have S12 := Lib.hid s12
            have S13 := Lib.hid s13
            clear g c12 c13 s12 s13 i12 i13 h12 h13
            simp only [Rg.puts, Act.put, List.setIfInBounds_toArray, List.set_cons_zero, List.set_cons_succ, p12, p13]
            go_wp2_with fail
            go_meet
            exact ⟨b12, b13, x12, x13, rfl, rfl, I.out.below HB.out, X4.out.below HB.out, X.out.below HB.out, C12.out, S12.out, C13.out, S13.out⟩
        case rest =>
          obtain ⟨b12, b13, x12, x13, rfl, rfl, hi, hx4, hx, hc12, hs12, hc13, hs13⟩ := hcut
          have hq12 := hs12
          have hq13 := hs13
          obtain ⟨_, a12, c12, rfl, -⟩ := hq12
          obtain ⟨_, a13, c13, rfl, -⟩ := hq13
          have E9 : Hid (End9 w w2.heap.size b12 b13 (.slice a1 a.a.length c1) (.slice a2 b.a.length c2) (.slice a3 c.a.length c3) (.slice ax t.a.length cx) (.slice a12 u.a.length c12) (.slice a13 u.a.length c13) a b c t u wc) := ⟨hi, hx4, hx, hc12, hs12, hc13, hs13⟩
          clear hi hx4 hx hc12 hs12 hc13 hs13 I J X X4 HU HBC HV l1 l2
          have lu : u.a.length ≤ 2000 := LU.out
          have cc := E9.out.cells
          replace E9 := Lib.hid (E9.out.below (Below.refl _ _).drew)
          go_wp2_with fail
          go_region_held3 (fun w' => w'.cell? ⟨w2.heap.size, 0, none⟩ = some (.slice ax t.a.length cx) ∧ w'.cell? ⟨w2.heap.size, 1, none⟩ = some (.int .i64 t.e) ∧ w'.cell? ⟨w.heap.size, 0, none⟩ = some (.slice a1 a.a.length c1) ∧ w'.cell? ⟨w.heap.size, 1, none⟩ = some (.int .i64 a.e) ∧ w'.cell? ⟨w.heap.size + 1, 0, none⟩ = some (.slice a2 b.a.length c2) ∧ w'.cell? ⟨w.heap.size + 1, 1, none⟩ = some (.int .i64 b.e) ∧ w'.cell? ⟨b12, 0, none⟩ = some (.slice a12 u.a.length c12) ∧ w'.cell? ⟨b12, 1, none⟩ = some (.int .i64 u.e) ∧ w'.cell? ⟨b13, 0, none⟩ = some (.slice a13 u.a.length c13) ∧ w'.cell? ⟨b13, 1, none⟩ = some (.int .i64 u.e)) (first | exact cc | exact E9.out.cells | fail) (first
            | (go_at_call 12
               (with_reducible refine (alive_any C _ E9.out.tri.tab).mono ?_)
               rintro e wn ⟨rfl, hbn⟩
               replace E9 := Lib.hid (E9.out.below hbn)
               clear hbn)
            | (go_at_call 26
               (with_reducible refine (thn_any (.slice a1 a.a.length c1) (.slice a2 b.a.length c2) a b _ E9.out.tri.sa E9.out.tri.sb (by omega)).mono ?_)
               rw [HT.out]
               rintro e wn ⟨y1, rfl, hm, hbn⟩
               replace E9 := Lib.hid (E9.out.below hbn)
               have M1 := Lib.hid hm
               clear hbn hm)
            | (go_at_call 15
               (with_reducible refine (cmp_any (.slice ax t.a.length cx) y1 t t _ E9.out.st M1.out (by omega) (by omega)).mono ?_)
               rw [cmp_self]
               rintro e wn ⟨rfl, hbn⟩
               replace E9 := Lib.hid (E9.out.below hbn)
               clear hbn)
            | (go_at_call 14
               (with_reducible refine (C.cCmp (.slice a12 u.a.length c12) (.slice a13 u.a.length c13) u u _ E9.out.tri.tab E9.out.s12 E9.out.s13 (by omega) (by omega)).mono ?_)
               rintro e wn ⟨y2, rfl, _, _, hy, hbn⟩
               obtain rfl := sgn_0 hy
               replace E9 := Lib.hid (E9.out.below hbn)
               clear hbn hy)
            | fail)
          go_wp2_with fail
          go_ret
          exact ⟨rfl, E9.out.tri.box⟩
end Go.Proofs.YtmhmfnjjdcdkcaaDoor.Tr
