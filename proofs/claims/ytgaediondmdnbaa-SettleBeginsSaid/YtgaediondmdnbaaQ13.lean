/- The program's side: what it makes of nodes and trees; over, end, goOn. -/
import Derived.Test.YtgaediondmdnbaaQ12
import Derived.Test.YtgaediondmdnbaaQ04
import Derived.Test.YtgaediondmdnbaaQ07

namespace Go.Proofs.Ytgaediondmdnbaa.Se
open Go Go.RowKit Go.Proofs.Ytgaediondmdnbaa.Rw Go.Proofs.Ytgaediondmdnbaa.So
set_option maxRecDepth 20000

/-- A row that is this tree, in blocks from base on. -/
def NdO (base : Nat) (w : World) (v : Value) (t : Tm) : Prop := Ap.RdO (fun g => base ≤ g) w 3 v (flat t).length (cls (flat t))
theorem NdO.nds {base : Nat} {w : World} {v : Value} {t : Tm} (h : NdO base w v t) : Nds w v (flat t) := Ap.RdO.rd h
theorem NdO.below {base : Nat} {w w' : World} {v : Value} {t : Tm} (h : NdO base w v t) (hb : Below w.heap.size w w') : NdO base w' v t := Ap.RdO.below h hb
theorem NdO.more {base base' : Nat} {w : World} {v : Value} {t : Tm} (h : NdO base w v t) (hb : base' ≤ base) : NdO base' w v t := Ap.RdO.imp h fun _ _ h => Nat.le_trans hb h
/-- A call that tells a row which is this tree, in blocks from base on. -/
def OutB (base : Nat) (t : Tm) (w : World) (e : Ending) (w' : World) : Prop := ∃ y, e = .returned y ∧ NdO base w' y t ∧ Below w.heap.size w w'
def nml : List Nd → ByteArray
  | [] => ⟨#[]⟩
  | n :: _ => n.n
def nmT (t : Tm) : ByteArray := nml (flat t)
theorem at0n {l : List Nd} (h : 0 < l.length) : l[0].n = nml l := by
  cases l with
  | nil => simp at h
  | cons n r => rfl
theorem form3 {w : World} {v : Value} {t : Tm} (hv : Nds w v (flat t)) : ∃ b o c, v = .slice (some ⟨b, o, none⟩) (sz t) c ∧ sz t ≤ c ∧ b < w.heap.size ∧ (∀ w', Below w.heap.size w w' → w'.cell? ⟨b, o, none⟩ = some (.int .i64 (kd t)) ∧ w'.cell? ⟨b, o + 1, none⟩ = some (.string (nmT t)) ∧ w'.cell? ⟨b, o + 2, none⟩ = some (.int .i64 (sg t))) ∧ At w b o (flat t) := by
  obtain ⟨b, o, c, rfl, hc, hlt, hw, hat⟩ := form hv
  refine ⟨b, o, c, rfl, hc, hlt, fun w' hb => ⟨(hw w' hb).1, ?_, (hw w' hb).2⟩, hat⟩
  have hp := sz_pos t
  have hl := flat_len t
  have h2 := (hat 0 (by omega)).2.1
  rw [Nat.zero_mul, Nat.add_zero] at h2
  rw [hb.cell (p := ⟨b, o + 1, none⟩) hlt, h2]
  rw [at0n (by omega)]
  rfl
theorem eq_ndP (x y : Nd) (w : World) : (binOp .eql 30 (.agg #[.int .i64 x.k, .string x.n, .int .i64 x.s]) (.agg #[.int .i64 y.k, .string y.n, .int .i64 y.s])).run Try.prog w = .ok (.bool (decide (x = y))) w := by
  rw [run_eql_struct, show (10000 : Nat) = 9998 + 2 from rfl, eql_nd]
  rfl
/-- A node against one without a name. -/
theorem eq_bare (k s j r : Int) (n : ByteArray) (w : World) : (binOp .eql 30 (.agg #[.int .i64 k, .string n, .int .i64 s]) (.agg #[.int .i64 j, .string ⟨#[]⟩, .int .i64 r])).run Try.prog w = .ok (.bool (decide ((⟨k, n, s⟩ : Nd) = ⟨j, ⟨#[]⟩, r⟩))) w := eq_ndP ⟨k, n, s⟩ ⟨j, ⟨#[]⟩, r⟩ w
theorem overP_any (s : Int) (w : World) : Calls Try.prog 57 #[.int .i64 s] w fun e w' => e = .returned (.agg #[.int .i64 11, .string ⟨#[]⟩, .int .i64 s]) ∧ Below w.heap.size w w' := by
  go_enter Try.func57, Try.ntmps57
  go_wp2_with fail
  refine bodyPost_ret (v := .agg #[.int .i64 11, .string ⟨#[]⟩, .int .i64 s]) (by simp [results, Try.results57, go_sem]) rfl ⟨rfl, ?_⟩
  exact below1 w _
theorem endP_any (s : Int) (w : World) : Calls Try.prog 77 #[.int .i64 s] w fun e w' => e = .returned (.agg #[.int .i64 14, .string ⟨#[]⟩, .int .i64 s]) ∧ Below w.heap.size w w' := by
  go_enter Try.func77, Try.ntmps77
  go_wp2_with fail
  refine bodyPost_ret (v := .agg #[.int .i64 14, .string ⟨#[]⟩, .int .i64 s]) (by simp [results, Try.results77, go_sem]) rfl ⟨rfl, ?_⟩
  exact below1 w _
/-- How many of a node's trees go on. -/
def goK (k : Int) : Int := if k = 7 then 2 else if k = 5 ∨ k = 8 ∨ k = 9 ∨ k = 12 ∨ k = 13 then 1 else 0
set_option maxHeartbeats 2000000 in
theorem goOn_any (t : Tm) (w : World) : Calls Try.prog 38 #[.int .i64 (kd t)] w fun e w' => e = .returned (.int .i64 (goK (kd t))) ∧ w = w' := by
  have hk := kinds (tre_flat t).ar
  change kd t = 1 ∨ kd t = 2 ∨ kd t = 3 ∨ kd t = 4 ∨ kd t = 5 ∨ kd t = 6 ∨ kd t = 7 ∨ kd t = 8 ∨ kd t = 9 ∨ kd t = 10 ∨ kd t = 11 ∨ kd t = 12 ∨ kd t = 13 ∨ kd t = 14 at hk
  generalize kd t = k at hk
  rcases hk with rfl | rfl | rfl | rfl | rfl | rfl | rfl | rfl | rfl | rfl | rfl | rfl | rfl | rfl
  all_goals go_enter Try.func38, Try.ntmps38
  all_goals go_wp2_with fail
  all_goals go_ret
  all_goals exact ⟨rfl, rfl⟩
theorem rws_two {w : World} {y1 y2 : Value} {l1 l2 : List Nd} (h1 : Nds w y1 l1) (h2 : Nds w y2 l2) (ty : TypeId) : Rws (w.alloc (.cells #[y1, y2] ty)) (.slice (some ⟨w.heap.size, 0, none⟩) 2 2) [l1, l2] := by
  refine ⟨[y1, y2], ⟨rfl, _, 2, rfl, Nat.le_refl _, fun h => (by cases h), fun _ => ⟨w.heap.size, 0, rfl, fun j u hu => ?_⟩⟩, h1.below (below1 w _), h2.below (below1 w _), trivial⟩
  match j, hu with
  | 0, hu => simp at hu; subst hu; simp
  | 1, hu => simp at hu; subst hu; simp
  | j + 2, hu => simp at hu
theorem rws_one {w : World} {y1 : Value} {l1 : List Nd} (h1 : Nds w y1 l1) (ty : TypeId) : Rws (w.alloc (.cells #[y1] ty)) (.slice (some ⟨w.heap.size, 0, none⟩) 1 1) [l1] := by
  refine ⟨[y1], ⟨rfl, _, 1, rfl, Nat.le_refl _, fun h => (by cases h), fun _ => ⟨w.heap.size, 0, rfl, fun j u hu => ?_⟩⟩, h1.below (below1 w _), trivial⟩
  match j, hu with
  | 0, hu => simp at hu; subst hu; simp
  | j + 1, hu => simp at hu
theorem rws_none (w : World) : Rws w (.slice none 0 0) [] := ⟨[], ⟨rfl, none, 0, rfl, Nat.le_refl _, fun _ => ⟨rfl, rfl⟩, fun h => absurd h (Nat.lt_irrefl 0)⟩, trivial⟩
/-- What Make makes: in a row of the call's own. -/
theorem mkP (base : Nat) (x : Nd) (ls : List (List Nd)) (t : Tm) (h : flat t = x :: ls.flatten) (v : Value) (w : World) (hv : Rws w v ls) (hl : ls.length ≤ 2) (hs : sz t ≤ 1000) (hb : base ≤ w.heap.size) :
    Calls Try.prog 56 #[.agg #[.int .i64 x.k, .string x.n, .int .i64 x.s], v] w (OutB base t w) := by
  have e := flat_len t
  rw [h, List.length_cons] at e
  refine (Rx.makeP_any x v ls w hv (by omega) (by omega)).mono ?_
  rintro e w1 ⟨y, rfl, hn, hb1⟩
  refine ⟨y, rfl, ?_, hb1⟩
  unfold NdO
  rw [h]
  exact Ap.RdO.imp hn fun _ _ h => Nat.le_trans hb h
theorem mkP0 (base : Nat) (k s : Int) (t : Tm) (h : flat t = [⟨k, ⟨#[]⟩, s⟩]) (w : World) (hb : base ≤ w.heap.size) :
    Calls Try.prog 56 #[.agg #[.int .i64 k, .string ⟨#[]⟩, .int .i64 s], .slice none 0 0] w (OutB base t w) :=
  mkP base ⟨k, ⟨#[]⟩, s⟩ [] t h _ w (rws_none w) (by simp) (by have := flat_len t; rw [h] at this; simp at this; omega) hb
theorem mkP1 (base : Nat) (k s : Int) (t a : Tm) (h : flat t = ⟨k, ⟨#[]⟩, s⟩ :: flat a) (v : Value) (w : World) (ty : TypeId) (ha : Nds w v (flat a)) (hs : sz t ≤ 1000) (hb : base ≤ w.heap.size) :
    Calls Try.prog 56 #[.agg #[.int .i64 k, .string ⟨#[]⟩, .int .i64 s], .slice (some ⟨w.heap.size, 0, none⟩) 1 1] (w.alloc (.cells #[v] ty)) (OutB base t w) := by
  refine (mkP base ⟨k, ⟨#[]⟩, s⟩ [flat a] t (by rw [h]; simp) _ _ (rws_one ha ty) (by simp) hs (by simp; omega)).mono ?_
  rintro e w1 ⟨y, rfl, hn, hb1⟩
  exact ⟨y, rfl, hn, (below1 w _).trans (hb1.mono (below1 w _).size)⟩
theorem mkP2 (base : Nat) (k s : Int) (t a b : Tm) (h : flat t = ⟨k, ⟨#[]⟩, s⟩ :: (flat a ++ flat b)) (v u : Value) (w : World) (ty : TypeId) (ha : Nds w v (flat a)) (hu : Nds w u (flat b)) (hs : sz t ≤ 1000) (hb : base ≤ w.heap.size) :
    Calls Try.prog 56 #[.agg #[.int .i64 k, .string ⟨#[]⟩, .int .i64 s], .slice (some ⟨w.heap.size, 0, none⟩) 2 2] (w.alloc (.cells #[v, u] ty)) (OutB base t w) := by
  refine (mkP base ⟨k, ⟨#[]⟩, s⟩ [flat a, flat b] t (by rw [h]; simp) _ _ (rws_two ha hu ty) (by simp) hs (by simp; omega)).mono ?_
  rintro e w1 ⟨y, rfl, hn, hb1⟩
  exact ⟨y, rfl, hn, (below1 w _).trans (hb1.mono (below1 w _).size)⟩
theorem mkP2d (base : Nat) (k s : Int) (t a b : Tm) (h : flat t = ⟨k, ⟨#[]⟩, s⟩ :: (flat a ++ flat b)) (v u : Value) (w : World) (ty : TypeId) (ha : Nds w v (flat a)) (hu : Nds w u (flat b)) (hs : sz t ≤ 1000) (hb : base ≤ w.heap.size) :
    Calls Try.prog 56 #[.agg #[.int .i64 k, .string ⟨#[]⟩, .int .i64 s], .slice (some ⟨w.heap.size, 0, none⟩) 2 2] (w.alloc (.cells #[v, u] ty)).drew (OutB base t w) := by
  refine (mkP base ⟨k, ⟨#[]⟩, s⟩ [flat a, flat b] t (by rw [h]; simp) _ _ ((rws_two ha hu ty).below (Below.refl _ _).drew) (by simp) hs (by simp; omega)).mono ?_
  rintro e w1 ⟨y, rfl, hn, hb1⟩
  exact ⟨y, rfl, hn, (below1 w _).drew.trans (hb1.mono (below1 w _).drew.size)⟩
theorem mkPr (base : Nat) (k s : Int) (t a b : Tm) (h : flat t = ⟨k, ⟨#[]⟩, s⟩ :: (flat a ++ flat b)) (v : Value) (w : World) (hv : Rws w v [flat a, flat b]) (hs : sz t ≤ 1000) (hb : base ≤ w.heap.size) :
    Calls Try.prog 56 #[.agg #[.int .i64 k, .string ⟨#[]⟩, .int .i64 s], v] w (OutB base t w) := mkP base ⟨k, ⟨#[]⟩, s⟩ [flat a, flat b] t (by rw [h]; simp) v w hv (by simp) hs hb
/-- A node in a box. -/
theorem box_cells (w : World) (k s : Int) (nm : ByteArray) (ty : TypeId) : ∀ w1, Below (w.alloc (.cells #[.int .i64 k, .string nm, .int .i64 s] ty)).heap.size (w.alloc (.cells #[.int .i64 k, .string nm, .int .i64 s] ty)) w1 → w1.cell? ⟨w.heap.size, 0, none⟩ = some (.int .i64 k) ∧ w1.cell? ⟨w.heap.size, 1, none⟩ = some (.string nm) ∧ w1.cell? ⟨w.heap.size, 2, none⟩ = some (.int .i64 s) := by
  intro w1 hb
  rw [hb.cell (p := ⟨w.heap.size, 0, none⟩) (by simp), hb.cell (p := ⟨w.heap.size, 1, none⟩) (by simp), hb.cell (p := ⟨w.heap.size, 2, none⟩) (by simp)]
  simp [go_sem]
/-- What the walk of settled is asked of shorter trees. -/
abbrev PS (t : Tm) : Prop := ∀ (v : Value) (w : World), Nds w v (flat t) → Calls Try.prog 26 #[v] w (OutB w.heap.size (S t) w)
end Go.Proofs.Ytgaediondmdnbaa.Se
