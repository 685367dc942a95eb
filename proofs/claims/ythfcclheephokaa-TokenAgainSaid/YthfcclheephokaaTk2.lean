/- A token in a block; what is printed is read as that token. -/
import Derived.Test.YthfcclheephokaaTk1
namespace Go.Proofs.Ythfcclheephokaa.To
open Go Go.RowKit
set_option maxRecDepth 20000

/-- What is printed is read as that token, at 0. -/
theorem lex_prt {t : Tk} {u : ByteArray} (h : prt t = some u) : lexR u = .ok [⟨t.k, 0, t.n⟩] := by
  obtain ⟨h1, h2, h3⟩ := prt_read h [] 0 trivial
  unfold lexR
  rw [if_neg (by omega)]
  rw [List.append_nil] at h1
  rw [h1]
  rfl
/-- A token in a block. -/
def Blk (w : World) (b : Nat) (t : Tk) : Prop := w.cell? ⟨b, 0, none⟩ = some (.int .i64 t.k) ∧ w.cell? ⟨b, 1, none⟩ = some (.int .i64 t.a) ∧ w.cell? ⟨b, 2, none⟩ = some (.string t.n) ∧ w.frozen? ⟨b, 1, none⟩ = false
theorem Blk.new (w : World) (t : Tk) (ty : TypeId) : Blk (w.alloc (.cells #[.int .i64 t.k, .int .i64 t.a, .string t.n] ty)) w.heap.size t := by
  have h : (w.alloc (.cells #[.int .i64 t.k, .int .i64 t.a, .string t.n] ty)).heap[w.heap.size]? = some (.cells #[.int .i64 t.k, .int .i64 t.a, .string t.n] ty) := by
    show (w.heap.push _)[w.heap.size]? = some _
    simp
  exact ⟨by simp only [World.cell?, h]; rfl, by simp only [World.cell?, h]; rfl, by simp only [World.cell?, h]; rfl, by simp only [World.frozen?, h]; rfl⟩
theorem Blk.below {w w' : World} {b : Nat} {t : Tk} (h : Blk w b t) (hb : Below w.heap.size w w') : Blk w' b t := by
  obtain ⟨h1, h2, h3, h4⟩ := h
  have hlt := Ap.cell_lt h1
  refine ⟨by rw [hb.cell hlt]; exact h1, by rw [hb.cell (p := ⟨b, 1, none⟩) hlt]; exact h2, by rw [hb.cell (p := ⟨b, 2, none⟩) hlt]; exact h3, ?_⟩
  have := hb.block b hlt
  simp only [World.frozen?, this]
  exact h4
theorem heap_set (w : World) (g o : Nat) (v : Value) (k : Nat) (h : k ≠ g) : (w.setCell ⟨g, o, none⟩ v).heap[k]? = w.heap[k]? := by
  simp only [World.setCell, Array.getElem?_modify]
  rw [if_neg (fun e => h e.symm)]
theorem heap_set_self (w : World) (g o : Nat) (v : Value) : (w.setCell ⟨g, o, none⟩ v).heap[g]? = (w.heap[g]?).map (fun x => match x with | .cells c elem frozen => .cells (c.setIfInBounds o v) elem frozen | o => o) := by
  simp only [World.setCell, Array.getElem?_modify, if_true]
  rfl
theorem Blk.set {w : World} {b : Nat} {t : Tk} (h : Blk w b t) (a : Int) : Blk (w.setCell ⟨b, 1, none⟩ (.int .i64 a)) b ⟨t.k, a, t.n⟩ := by
  obtain ⟨h1, h2, h3, h4⟩ := h
  simp only [World.cell?] at h1 h2 h3
  simp only [World.frozen?] at h4
  cases hh : w.heap[b]? with
  | none => rw [hh] at h1; cases h1
  | some o =>
    rw [hh] at h1 h2 h3 h4
    have hs := heap_set_self w b 1 (.int .i64 a)
    rw [hh] at hs
    cases o with
    | cells c elem frozen =>
      obtain ⟨lo, hi⟩ := frozen
      simp only [Option.map_some] at hs
      have h1 : c[0]? = some (.int .i64 t.k) := h1
      have h2 : c[1]? = some (.int .i64 t.a) := h2
      have h3 : c[2]? = some (.string t.n) := h3
      have hlt : 1 < c.size := (Array.getElem?_eq_some_iff.1 h2).1
      refine ⟨?_, ?_, ?_, ?_⟩
      · simp only [World.cell?, hs]
        show (c.setIfInBounds 1 _)[0]? = _
        rw [Array.getElem?_setIfInBounds, if_neg (by decide)]
        exact h1
      · simp only [World.cell?, hs]
        show (c.setIfInBounds 1 _)[1]? = _
        rw [Array.getElem?_setIfInBounds, if_pos rfl, if_pos hlt]
      · simp only [World.cell?, hs]
        show (c.setIfInBounds 1 _)[2]? = _
        rw [Array.getElem?_setIfInBounds, if_neg (by decide)]
        exact h3
      · simp only [World.frozen?, hs]
        exact h4
    | _ => cases h1
theorem rd_set {w : World} {v x : Value} {n g o : Nat} {cs : List Value} {ok : Nat → Prop} (h : Ap.RdO ok w 3 v n cs) (hg : ∀ k, ok k → k ≠ g) : Ap.Rd (w.setCell ⟨g, o, none⟩ x) 3 v n cs := by
  obtain ⟨hl, a, cap, hv, hc, hn, hcell⟩ := h
  refine ⟨hl, a, cap, hv, hc, hn, fun h0 => ?_⟩
  obtain ⟨b, off, ha, ho, _, hj⟩ := hcell h0
  refine ⟨b, off, ha, fun j u hu => ?_⟩
  have := hj j u hu
  simp only [World.cell?, heap_set w g o x b (hg b ho)] at this ⊢
  exact this
/-- A slice of one token, just built. -/
theorem tks_one (w : World) (t : Tk) (ty : TypeId) : Tks (w.alloc (.cells #[.int .i64 t.k, .int .i64 t.a, .string t.n] ty)) (.slice (some ⟨w.heap.size, 0, none⟩) 1 1) [t] := by
  obtain ⟨h1, h2, h3, _⟩ := Blk.new w t ty
  refine ⟨rfl, _, _, rfl, Nat.le_refl _, fun e => (by cases e), fun _ => ⟨_, _, rfl, fun j u hu => ?_⟩⟩
  rw [Nat.zero_add]
  have hj : j < 3 := (List.getElem?_eq_some_iff.1 hu).1
  have : j = 0 ∨ j = 1 ∨ j = 2 := by omega
  rcases this with rfl | rfl | rfl
  · cases hu; exact h1
  · cases hu; exact h2
  · cases hu; exact h3
theorem below_set {B : Nat} {w0 w : World} (h : Below B w0 w) (g o : Nat) (v : Value) (hg : B ≤ g) : Below B w0 (w.setCell ⟨g, o, none⟩ v) := by
  refine ⟨h.os, h.tape, h.output, by rw [show (w.setCell ⟨g, o, none⟩ v).heap.size = w.heap.size by simp [World.setCell]]; exact h.size, fun k hk => ?_⟩
  rw [← h.block k hk]
  simp only [World.setCell, Array.getElem?_modify]
  rw [if_neg (by omega)]
/-- A read that gives tokens; one that gives none. -/
def OkPost (l : List Tk) (n : Nat) (w : World) (e : Ending) (w' : World) : Prop := ∃ y, e = .returned (.tuple #[y, .int .i64 (n : Int), .int .i64 0]) ∧ Tks w' y l ∧ Below w.heap.size w w'
def BadPost (a : Nat) (e0 : Int) (w : World) (e : Ending) (w' : World) : Prop := ∃ y, e = .returned (.tuple #[y, .int .i64 (a : Int), .int .i64 e0]) ∧ Tks w' y [] ∧ Below w.heap.size w w'
theorem lp_ok (l : List Tk) (n : Nat) : LexPost (.ok l) n = OkPost l n := rfl
theorem lp_bad (a : Nat) (e0 : Int) (n : Nat) : LexPost (.bad a e0) n = BadPost a e0 := rfl
end Go.Proofs.Ythfcclheephokaa.To
