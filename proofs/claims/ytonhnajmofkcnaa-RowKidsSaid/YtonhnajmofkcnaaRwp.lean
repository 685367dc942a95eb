/- Rows that are written over: what stays as it was. -/
import Derived.Test.YtonhnajmofkcnaaRwo
namespace Go.Proofs.Ytonhnajmofkcnaa.Rw
open Go Go.RowKit
set_option maxRecDepth 20000

/-- A row between two block numbers, not in block b, that may be written into. -/
def Own2 (B S b : Nat) (w : World) (a : Value) (n : Nat) : Prop :=
  ∃ ad cap, a = .slice ad n cap ∧ (0 < n → ∃ k off, ad = some ⟨k, off, none⟩ ∧ B ≤ k ∧ k < S ∧ k ≠ b ∧ ∀ j, j < n * 3 → (w.cell? ⟨k, off + j, none⟩).isSome = true ∧ w.frozen? ⟨k, off + j, none⟩ = false)
theorem Own2.below {B S b n : Nat} {w w' : World} {a : Value} (h : Own2 B S b w a n) (hS : S ≤ w.heap.size) (hb : Below w.heap.size w w') : Own2 B S b w' a n := by
  obtain ⟨ad, cap, h1, h2⟩ := h
  refine ⟨ad, cap, h1, fun h0 => ?_⟩
  obtain ⟨k, off, e, hB, hk, hne, hj⟩ := h2 h0
  refine ⟨k, off, e, hB, hk, hne, fun j hjn => ?_⟩
  obtain ⟨g1, g2⟩ := hj j hjn
  have hlt : k < w.heap.size := Nat.lt_of_lt_of_le hk hS
  exact ⟨by rw [hb.cell (p := ⟨k, off + j, none⟩) hlt]; exact g1, by rw [hb.frozen (p := ⟨k, off + j, none⟩) hlt]; exact g2⟩
theorem Own2.of {B b : Nat} {w : World} {a : Value} {r : List Nd} (h : Own1 B (some b) w a r) : Own2 B w.heap.size b w a r.length := by
  obtain ⟨⟨hl, ad, cap, rfl, _, _, hcell⟩, hf⟩ := h
  refine ⟨ad, cap, rfl, fun h0 => ?_⟩
  obtain ⟨k, off, rfl, ⟨hB, hne⟩, hlt, hj⟩ := hcell h0
  refine ⟨k, off, rfl, hB, hlt, fun e => hne (by rw [e]), fun j hjn => ?_⟩
  have hj' : j < (cls r).length := by rw [cls_len]; exact hjn
  exact ⟨by rw [hj j _ (List.getElem?_eq_getElem hj')]; rfl, hf k off cap rfl j hjn⟩
theorem OwnC.at {B : Nat} {out : Option Nat} {w : World} : ∀ {cs : List Value} {ls : List (List Nd)}, OwnC B out w cs ls → ∀ i (h : i < ls.length), ∃ a, cs[i]? = some a ∧ Own1 B out w a ls[i]
  | [], [], _, i, h => by simp at h
  | a :: _, _ :: _, hr, 0, _ => ⟨a, rfl, hr.1⟩
  | _ :: cs, _ :: ls, hr, i + 1, h => by
    obtain ⟨a, h1, h2⟩ := OwnC.at hr.2 i (by simpa using h)
    exact ⟨a, by simpa using h1, by simpa using h2⟩
  | [], _ :: _, h, _, _ => h.elim
  | _ :: _, [], h, _, _ => h.elim

/-- The kids of the program's own, in memory: in block b from o on; each between B and S. -/
structure Kk (w0 : World) (v : Value) (l : List Nd) (S b o c : Nat) (ls : List (List Nd)) (w : World) : Prop where
  kp : Kp w0 v l w
  rws : Rws w (.slice (some ⟨b, o, none⟩) ls.length c) ls
  lt : S ≤ w.heap.size
  ge : w0.heap.size ≤ b
  bs : b < S
  rows : ∀ i, (h : i < ls.length) → ∃ a, w.cell? ⟨b, o + i, none⟩ = some a ∧ Own2 w0.heap.size S b w a ls[i].length ∧ Nds w a ls[i]
theorem Kk.below {w0 w w' : World} {v : Value} {l : List Nd} {S b o c : Nat} {ls : List (List Nd)} (h : Kk w0 v l S b o c ls w) (hb : Below w.heap.size w w') : Kk w0 v l S b o c ls w' :=
  ⟨h.kp.below hb, h.rws.below hb, Nat.le_trans h.lt hb.size, h.ge, h.bs, fun i hi => by
    obtain ⟨a, h1, h2, h3⟩ := h.rows i hi
    exact ⟨a, by rw [hb.cell (Ap.cell_lt h1)]; exact h1, h2.below h.lt hb, h3.below hb⟩⟩
/-- Kids were told: where they lie. -/
theorem kids_lie {w0 w1 : World} {v y : Value} {l : List Nd} {cs : List Value} {ls : List (List Nd)} (hk : Kp w0 v l w0) (hy : Ap.RdO (fun g => w0.heap.size ≤ g) w1 1 y ls.length cs) (ho : OwnC w0.heap.size (blk y) w1 cs ls) (hb : Below w0.heap.size w0 w1) (h0 : 0 < ls.length) :
    ∃ b o c, y = .slice (some ⟨b, o, none⟩) ls.length c ∧ Kk w0 v l w1.heap.size b o c ls w1 := by
  have hr : Rws w1 y ls := ⟨cs, hy.rd, ho.rwc⟩
  obtain ⟨_, a, c, rfl, _, _, hcell⟩ := hy
  obtain ⟨b, o, rfl, hB, hlt, hj⟩ := hcell h0
  refine ⟨b, o, c, rfl, hk.below hb, hr, Nat.le_refl _, hB, hlt, fun i hi => ?_⟩
  obtain ⟨a, h1, h2⟩ := ho.at i hi
  exact ⟨a, hj i a h1, Own2.of h2, h2.1.rd⟩

/-- The world as it was but for what the rows between B and S hold, block b aside. -/
structure Zr (B S b : Nat) (w w' : World) : Prop where
  os : w'.os = w.os
  tape : w'.tape = w.tape
  output : w'.output = w.output
  size : w'.heap.size = w.heap.size
  block : ∀ k, ¬ (B ≤ k ∧ k < S ∧ k ≠ b) → w'.heap[k]? = w.heap[k]?
  cell : ∀ p, (w.cell? p).isSome = true → (w'.cell? p).isSome = true
  mark : ∀ p, w'.frozen? p = w.frozen? p
theorem Zr.refl (B S b : Nat) (w : World) : Zr B S b w w := ⟨rfl, rfl, rfl, rfl, fun _ _ => rfl, fun _ h => h, fun _ => rfl⟩
theorem Zr.set {B S b : Nat} {w w' : World} (h : Zr B S b w w') {p : Addr} (h1 : B ≤ p.block) (h2 : p.block < S) (h3 : p.block ≠ b) (u : Value) : Zr B S b w (w'.setCell p u) := by
  refine ⟨h.os, h.tape, h.output, by rw [← h.size]; simp [World.setCell], fun k hk => ?_, fun q hq => ?_, fun q => ?_⟩
  · rw [Below.heap_setCell w' p u k (fun e => hk (by rw [e]; exact ⟨h1, h2, h3⟩))]
    exact h.block k hk
  · have := h.cell q hq
    obtain ⟨x, hx⟩ := Option.isSome_iff_exists.1 this
    obtain ⟨x', hx'⟩ := cell?_setCell_some (w := w') (p := p) (x := u) (q := q) hx
    rw [hx']
    rfl
  · rw [← h.mark q]
    simp
end Go.Proofs.Ytonhnajmofkcnaa.Rw
