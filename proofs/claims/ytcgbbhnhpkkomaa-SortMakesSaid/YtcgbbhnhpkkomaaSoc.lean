/- What the program's packages sort and row are asked to do, as contracts of their calls; the statements' own first look, walked from them. -/
import Derived.Test.YtcgbbhnhpkkomaaSox
namespace Go.Proofs.Ytcgbbhnhpkkomaa.So
open Go Go.RowKit Go.Proofs.Ytcgbbhnhpkkomaa.Rw
set_option maxRecDepth 20000

/-- The contracts. -/
structure Con : Prop where
  cOf : ∀ (v : Value) (l : List Nd) (w : World), Nds w v l → l.length ≤ 1000 → Nms l → Calls Try.prog 11 #[v] w fun e w' => e = .returned (.int .i64 (of l)) ∧ Below w.heap.size w w'
  cTerm : ∀ (v : Value) (l : List Nd) (w : World), Nds w v l → l.length ≤ 1000 → Nms l → Calls Try.prog 15 #[v] w fun e w' => e = .returned (.bool (of l == 1)) ∧ Below w.heap.size w w'
  cOn : ∀ (v : Value) (l : List Nd) (p : Bool) (w : World), Nds w v l → l.length ≤ 1000 → Nms l → Calls Try.prog 13 #[v, .bool p] w fun e w' => e = .returned (.bool (onB l p)) ∧ Below w.heap.size w w'
  cRight : ∀ (v : Value) (l : List Nd) (w : World), Nds w v l → l.length ≤ 1000 → Nms l → Calls Try.prog 16 #[v] w fun e w' => e = .returned (.bool (rightB l)) ∧ Below w.heap.size w w'
  cActs : ∀ (v : Value) (l : List Nd) (w : World), Nds w v l → l.length ≤ 1000 → Nms l → Calls Try.prog 19 #[v] w fun e w' => ∃ y, e = .returned y ∧ Strs w' y (acts l) ∧ Below w.heap.size w w'
  cKids : ∀ (v : Value) (l : List Nd) (w : World), Nds w v l → l.length ≤ 1000 → Calls Try.prog 23 #[v] w fun e w' => ∃ y, e = .returned y ∧ Rws w' y (kids l) ∧ Below w.heap.size w w'
  cMake : ∀ (x : Nd) (v : Value) (ls : List (List Nd)) (w : World), Rws w v ls → ls.length ≤ 1000 → ls.flatten.length ≤ 1000 → Calls Try.prog 22 #[.agg #[.int .i64 x.k, .string x.n, .int .i64 x.s], v] w fun e w' => ∃ y, e = .returned y ∧ Nds w' y (x :: ls.flatten) ∧ Below w.heap.size w w'
  cCount : ∀ (v u : Value) (l : List Nd) (ks : List Int) (w : World), Nds w v l → Ints w u ks → l.length ≤ 1000 → ks.length ≤ 1000 → Calls Try.prog 21 #[v, u] w fun e w' => e = .returned (.int .i64 (cnt l ks)) ∧ Below w.heap.size w w'

theorem ints_new (w : World) (l : List Int) (ty : TypeId) : Ints (w.alloc (.cells (l.map (Value.int .i64)).toArray ty)) (.slice (some ⟨w.heap.size, 0, none⟩) l.length l.length) l := by
  refine ⟨by simp, some ⟨w.heap.size, 0, none⟩, l.length, rfl, Nat.le_refl _, fun h => (by cases h), fun _ => ⟨w.heap.size, 0, rfl, fun j u hu => ?_⟩⟩
  rw [Nat.zero_add, World.cell?_alloc_new]
  simpa using hu
theorem nds_new (w : World) (l : List Nd) (ty : TypeId) : Nds (w.alloc (.cells (cls l).toArray ty)) (.slice (some ⟨w.heap.size, 0, none⟩) l.length l.length) l := by
  refine ⟨cls_len l, some ⟨w.heap.size, 0, none⟩, l.length, rfl, Nat.le_refl _, fun h => (by cases h), fun _ => ⟨w.heap.size, 0, rfl, fun j u hu => ?_⟩⟩
  rw [Nat.zero_add, World.cell?_alloc_new]
  simpa using hu
theorem strs_new (w : World) (l : List ByteArray) (ty : TypeId) : Strs (w.alloc (.cells (l.map (Value.string)).toArray ty)) (.slice (some ⟨w.heap.size, 0, none⟩) l.length l.length) l := by
  refine ⟨by simp, some ⟨w.heap.size, 0, none⟩, l.length, rfl, Nat.le_refl _, fun h => (by cases h), fun _ => ⟨w.heap.size, 0, rfl, fun j u hu => ?_⟩⟩
  rw [Nat.zero_add, World.cell?_alloc_new]
  simpa using hu
def bA : ByteArray := ⟨#[97]⟩
def bB : ByteArray := ⟨#[98]⟩
def nA : Nd := ⟨1, bA, 0⟩
def nB : Nd := ⟨1, bB, 0⟩
def l1 : List Nd := [⟨9, ⟨#[]⟩, 0⟩, ⟨10, ⟨#[]⟩, 0⟩, nA, nB]
def l2 : List Nd := [⟨10, ⟨#[]⟩, 0⟩, nA, nB]
def l3 : List Nd := [⟨5, ⟨#[]⟩, 0⟩, ⟨11, ⟨#[]⟩, 1⟩, nA]
def l4 : List Nd := [⟨14, ⟨#[]⟩, 1⟩, nA]
def l5 : List Nd := [⟨5, ⟨#[]⟩, 0⟩, ⟨10, ⟨#[]⟩, 0⟩, nA, nB, nA]
theorem o1 : of l1 = 1 := by decide +kernel
theorem o2 : of l2 = 2 := by decide +kernel
theorem o3 : of l3 = 3 := by decide +kernel
theorem o4 : of l4 = 4 := by decide +kernel
theorem o5 : of l5 = 0 := by decide +kernel
theorem on30 : onB l3 false = true := by decide +kernel
theorem on31 : onB l3 true = false := by decide +kernel
theorem on21 : onB l2 true = true := by decide +kernel
theorem r1 : rightB l1 = true := by decide +kernel
theorem r0 : rightB [] = false := by decide +kernel
theorem ac : acts (l1 ++ [nA]) = [bA, bB] := by decide +kernel
theorem nms_all {l : List Nd} (h : ∀ x ∈ l, x.n.size ≤ 1) : Nms l := fun x hx => by have := h x hx; omega
theorem m1 : Nms l1 := nms_all (by decide +kernel)
theorem m2 : Nms l2 := nms_all (by decide +kernel)
theorem m3 : Nms l3 := nms_all (by decide +kernel)
theorem m4 : Nms l4 := nms_all (by decide +kernel)
theorem m5 : Nms l5 := nms_all (by decide +kernel)
/-- Two nodes and two rows in blocks of their own. -/
structure Lv (w0 : World) (B : Nat) (w : World) : Prop where
  bel : Below w0.heap.size w0 w
  lt : B + 1 + 1 + 1 < w.heap.size
  a : At w B 0 [nA]
  b : At w (B + 1) 0 [nB]
  l : At w (B + 1 + 1) 0 l1
  o : At w (B + 1 + 1 + 1) 0 l3
theorem At.below {w w' : World} {b o : Nat} {l : List Nd} (h : At w b o l) (hlt : b < w.heap.size) (hb : Below w.heap.size w w') : At w' b o l := fun k hk => by
  obtain ⟨h1, h2, h3⟩ := h k hk
  exact ⟨by rw [hb.cell (p := ⟨b, o + k * 3, none⟩) hlt]; exact h1, by rw [hb.cell (p := ⟨b, o + k * 3 + 1, none⟩) hlt]; exact h2, by rw [hb.cell (p := ⟨b, o + k * 3 + 2, none⟩) hlt]; exact h3⟩
theorem Lv.below {w0 w w' : World} {B : Nat} (h : Lv w0 B w) (hb : Below w.heap.size w w') : Lv w0 B w' := by
  have hlt := h.lt
  exact ⟨h.bel.trans (hb.mono h.bel.size), Nat.lt_of_lt_of_le h.lt hb.size, At.below h.a (by omega) hb, At.below h.b (by omega) hb, At.below h.l (by omega) hb, At.below h.o (by omega) hb⟩
theorem Lv.l1 {w0 w : World} {B : Nat} (h : Lv w0 B w) : Nds w (.slice (some ⟨B + 1 + 1, 0, none⟩) 4 4) l1 := part_nds h.l 0 4 4 (by decide) (by decide)
theorem Lv.l2 {w0 w : World} {B : Nat} (h : Lv w0 B w) : Nds w (.slice (some ⟨B + 1 + 1, 3, none⟩) 3 3) l2 := part_nds h.l 1 3 3 (by decide) (by decide)
theorem Lv.l3 {w0 w : World} {B : Nat} (h : Lv w0 B w) : Nds w (.slice (some ⟨B + 1 + 1 + 1, 0, none⟩) 3 3) l3 := part_nds h.o 0 3 3 (by decide) (by decide)
theorem Lv.cells {w0 w : World} {B : Nat} (h : Lv w0 B w) : (w.cell? ⟨B, 0, none⟩ = some (.int .i64 1) ∧ w.cell? ⟨B, 1, none⟩ = some (.string ⟨#[97]⟩) ∧ w.cell? ⟨B, 2, none⟩ = some (.int .i64 0)) ∧ w.cell? ⟨B + 1, 0, none⟩ = some (.int .i64 1) ∧ w.cell? ⟨B + 1, 1, none⟩ = some (.string ⟨#[98]⟩) ∧ w.cell? ⟨B + 1, 2, none⟩ = some (.int .i64 0) :=
  ⟨h.a 0 (by decide), h.b 0 (by decide)⟩
theorem at_new (w : World) (l : List Nd) (ty : TypeId) (h : 0 < l.length) : At (w.alloc (.cells (cls l).toArray ty)) w.heap.size 0 l := by
  rcases (nds_new w l ty).form with ⟨h0, _⟩ | ⟨b, o, c, he, _, hat⟩
  · rw [h0] at h
    exact absurd h (Nat.lt_irrefl 0)
  · injection he with e1 e2 e3
    injection e1 with e1
    injection e1 with e4 e5
    subst e4 e5
    exact hat
/-- A node appended to a full row. -/
theorem app_run {w : World} (v : Value) (l : List Nd) (x : Nd) (hv : Nds w v l) (hl : l.length ≤ 1000) (hc : ∃ a, v = .slice a l.length l.length) :
    ∃ v' w', (Builtin.append_ #[22, 22] 22 #[v, .slice (some ⟨w.heap.size, 0, none⟩) 1 1]).run Try.prog (w.alloc (.cells #[.int .i64 x.k, .string x.n, .int .i64 x.s] 34)) = .ok v' w' ∧ Nds w' v' (l ++ [x]) ∧ Below w.heap.size w w' := by
  obtain ⟨a, rfl⟩ := hc
  obtain ⟨i0, hi, hz, hs1, hb8⟩ := info_parts infoN
  have B0 : Below w.heap.size w (w.alloc (.cells #[.int .i64 x.k, .string x.n, .int .i64 x.s] 34)) := (Below.refl _ _).alloc (Nat.le_refl _) _
  have hx : Nds (w.alloc (.cells #[.int .i64 x.k, .string x.n, .int .i64 x.s] 34)) (.slice (some ⟨w.heap.size, 0, none⟩) 1 1) [x] := nds_new w [x] _
  obtain ⟨v', w', h1, h2, h3⟩ := Ap.run_append_full (P := Try.prog) (t := 22) (ty := 22) Try.underlying22 hi hz hs1 hb8 (by rfl) (by omega) (hv.below B0) hx cls_one (by unfold maxLen; simp; omega) (by simp; omega)
  refine ⟨v', w', h1, ?_, B0.trans (h3.mono B0.size)⟩
  unfold Nds
  rw [cls_append, List.length_append]
  exact h2
end Go.Proofs.Ytcgbbhnhpkkomaa.So
