/- The document's Rewrite of layer 8. Rows mixed: that order does not matter, and that each row has the actions of both in their order. The program's side: what it makes of nodes and trees; over, end, goOn. The document's Mark and Places of layer 8. What is made of the traces, or the pairs, of two: plain; how many they are, which actions they have, how they end. -/
import Derived.Test.YtpingbiibbmcaaaGreatQ13
import Derived.Test.YtpingbiibbmcaaaGreatQ03
import Derived.Test.YtpingbiibbmcaaaGreatQ14
import Derived.Test.YtpingbiibbmcaaaGreatQ06
import Derived.Test.YtpingbiibbmcaaaGreatQ09

namespace Go.Proofs.YtpingbiibbmcaaaGreat.Rf
open Go Go.RowKit Go.Proofs.YtpingbiibbmcaaaGreat.Rw
set_option maxRecDepth 20000

end Go.Proofs.YtpingbiibbmcaaaGreat.Rf

namespace Go.Proofs.YtpingbiibbmcaaaGreat.Tr
open Go

end Go.Proofs.YtpingbiibbmcaaaGreat.Tr

namespace Go.Proofs.YtpingbiibbmcaaaGreat.Se
open Go Go.RowKit Go.Proofs.YtpingbiibbmcaaaGreat.Rw Go.Proofs.YtpingbiibbmcaaaGreat.So
set_option maxRecDepth 20000

/-- A row that is this tree, in blocks from base on. -/
def NdO (base : Nat) (w : World) (v : Value) (t : Tm) : Prop := Ap.RdO (fun g => base ≤ g) w 3 v (flat t).length (cls (flat t))
theorem NdO.nds {base : Nat} {w : World} {v : Value} {t : Tm} (h : NdO base w v t) : Nds w v (flat t) := Ap.RdO.rd h
theorem NdO.below {base : Nat} {w w' : World} {v : Value} {t : Tm} (h : NdO base w v t) (hb : Below w.heap.size w w') : NdO base w' v t := Ap.RdO.below h hb
theorem NdO.more {base base' : Nat} {w : World} {v : Value} {t : Tm} (h : NdO base w v t) (hb : base' ≤ base) : NdO base' w v t := Ap.RdO.imp h fun _ _ h => Nat.le_trans hb h
/-- A call that tells a row which is this tree, in blocks from base on. -/
def OutB (base : Nat) (t : Tm) (w : World) (e : Ending) (w' : World) : Prop := ∃ y, e = .returned y ∧ NdO base w' y t ∧ Below w.heap.size w w'
def nml : List Nd → ByteArray
  | [] => ⟨#[]⟩
  | n :: _ => n.n
def nmT (t : Tm) : ByteArray := nml (flat t)
theorem at0n {l : List Nd} (h : 0 < l.length) : l[0].n = nml l := by
  cases l with
  | nil => simp at h
  | cons n r => rfl
theorem form3 {w : World} {v : Value} {t : Tm} (hv : Nds w v (flat t)) : ∃ b o c, v = .slice (some ⟨b, o, none⟩) (sz t) c ∧ sz t ≤ c ∧ b < w.heap.size ∧ (∀ w', Below w.heap.size w w' → w'.cell? ⟨b, o, none⟩ = some (.int .i64 (kd t)) ∧ w'.cell? ⟨b, o + 1, none⟩ = some (.string (nmT t)) ∧ w'.cell? ⟨b, o + 2, none⟩ = some (.int .i64 (sg t))) ∧ At w b o (flat t) := by
  obtain ⟨b, o, c, rfl, hc, hlt, hw, hat⟩ := form hv
  refine ⟨b, o, c, rfl, hc, hlt, fun w' hb => ⟨(hw w' hb).1, ?_, (hw w' hb).2⟩, hat⟩
  have hp := sz_pos t
  have hl := flat_len t
  have h2 := (hat 0 (by omega)).2.1
  rw [Nat.zero_mul, Nat.add_zero] at h2
  rw [hb.cell (p := ⟨b, o + 1, none⟩) hlt, h2]
  rw [at0n (by omega)]
  rfl
theorem eq_ndP (x y : Nd) (w : World) : (binOp .eql 39 (.agg #[.int .i64 x.k, .string x.n, .int .i64 x.s]) (.agg #[.int .i64 y.k, .string y.n, .int .i64 y.s])).run Tryz.prog w = .ok (.bool (decide (x = y))) w := by
  rw [run_eql_struct, show (10000 : Nat) = 9998 + 2 from rfl, eql_nd]
  rfl
/-- A node against one without a name. -/
theorem eq_bare (k s j r : Int) (n : ByteArray) (w : World) : (binOp .eql 39 (.agg #[.int .i64 k, .string n, .int .i64 s]) (.agg #[.int .i64 j, .string ⟨#[]⟩, .int .i64 r])).run Tryz.prog w = .ok (.bool (decide ((⟨k, n, s⟩ : Nd) = ⟨j, ⟨#[]⟩, r⟩))) w := eq_ndP ⟨k, n, s⟩ ⟨j, ⟨#[]⟩, r⟩ w
theorem overP_any (s : Int) (w : World) : Calls Tryz.prog 117 #[.int .i64 s] w fun e w' => e = .returned (.agg #[.int .i64 11, .string ⟨#[]⟩, .int .i64 s]) ∧ Below w.heap.size w w' := by
  go_enter Tryz.func117, Tryz.ntmps117
  go_wp2_with fail
  refine bodyPost_ret (v := .agg #[.int .i64 11, .string ⟨#[]⟩, .int .i64 s]) (by simp [results, Tryz.results117, go_sem]) rfl ⟨rfl, ?_⟩
  exact below1 w _
theorem endP_any (s : Int) (w : World) : Calls Tryz.prog 126 #[.int .i64 s] w fun e w' => e = .returned (.agg #[.int .i64 14, .string ⟨#[]⟩, .int .i64 s]) ∧ Below w.heap.size w w' := by
  go_enter Tryz.func126, Tryz.ntmps126
  go_wp2_with fail
  refine bodyPost_ret (v := .agg #[.int .i64 14, .string ⟨#[]⟩, .int .i64 s]) (by simp [results, Tryz.results126, go_sem]) rfl ⟨rfl, ?_⟩
  exact below1 w _
/-- How many of a node's trees go on. -/
def goK (k : Int) : Int := if k = 7 then 2 else if k = 5 ∨ k = 8 ∨ k = 9 ∨ k = 12 ∨ k = 13 then 1 else 0
set_option maxHeartbeats 2000000 in
theorem goOn_any (t : Tm) (w : World) : Calls Tryz.prog 110 #[.int .i64 (kd t)] w fun e w' => e = .returned (.int .i64 (goK (kd t))) ∧ w = w' := by
  have hk := kinds (tre_flat t).ar
  change kd t = 1 ∨ kd t = 2 ∨ kd t = 3 ∨ kd t = 4 ∨ kd t = 5 ∨ kd t = 6 ∨ kd t = 7 ∨ kd t = 8 ∨ kd t = 9 ∨ kd t = 10 ∨ kd t = 11 ∨ kd t = 12 ∨ kd t = 13 ∨ kd t = 14 at hk
  generalize kd t = k at hk
  rcases hk with rfl | rfl | rfl | rfl | rfl | rfl | rfl | rfl | rfl | rfl | rfl | rfl | rfl | rfl
  all_goals go_enter Tryz.func110, Tryz.ntmps110
  all_goals go_wp2_with fail
  all_goals go_ret
  all_goals exact ⟨rfl, rfl⟩
theorem rws_two {w : World} {y1 y2 : Value} {l1 l2 : List Nd} (h1 : Nds w y1 l1) (h2 : Nds w y2 l2) (ty : TypeId) : Rws (w.alloc (.cells #[y1, y2] ty)) (.slice (some ⟨w.heap.size, 0, none⟩) 2 2) [l1, l2] := by
  refine ⟨[y1, y2], ⟨rfl, _, 2, rfl, Nat.le_refl _, fun h => (by cases h), fun _ => ⟨w.heap.size, 0, rfl, fun j u hu => ?_⟩⟩, h1.below (below1 w _), h2.below (below1 w _), trivial⟩
  match j, hu with
  | 0, hu => simp at hu; subst hu; simp
  | 1, hu => simp at hu; subst hu; simp
  | j + 2, hu => simp at hu
theorem rws_one {w : World} {y1 : Value} {l1 : List Nd} (h1 : Nds w y1 l1) (ty : TypeId) : Rws (w.alloc (.cells #[y1] ty)) (.slice (some ⟨w.heap.size, 0, none⟩) 1 1) [l1] := by
  refine ⟨[y1], ⟨rfl, _, 1, rfl, Nat.le_refl _, fun h => (by cases h), fun _ => ⟨w.heap.size, 0, rfl, fun j u hu => ?_⟩⟩, h1.below (below1 w _), trivial⟩
  match j, hu with
  | 0, hu => simp at hu; subst hu; simp
  | j + 1, hu => simp at hu
theorem rws_none (w : World) : Rws w (.slice none 0 0) [] := ⟨[], ⟨rfl, none, 0, rfl, Nat.le_refl _, fun _ => ⟨rfl, rfl⟩, fun h => absurd h (Nat.lt_irrefl 0)⟩, trivial⟩
/-- What Make makes: in a row of the call's own. -/
theorem mkP (base : Nat) (x : Nd) (ls : List (List Nd)) (t : Tm) (h : flat t = x :: ls.flatten) (v : Value) (w : World) (hv : Rws w v ls) (hl : ls.length ≤ 2) (hs : sz t ≤ 1000) (hb : base ≤ w.heap.size) :
    Calls Tryz.prog 95 #[.agg #[.int .i64 x.k, .string x.n, .int .i64 x.s], v] w (OutB base t w) := by
  have e := flat_len t
  rw [h, List.length_cons] at e
  refine (Rx.makeP_any x v ls w hv (by omega) (by omega)).mono ?_
  rintro e w1 ⟨y, rfl, hn, hb1⟩
  refine ⟨y, rfl, ?_, hb1⟩
  unfold NdO
  rw [h]
  exact Ap.RdO.imp hn fun _ _ h => Nat.le_trans hb h
theorem mkP0 (base : Nat) (k s : Int) (t : Tm) (h : flat t = [⟨k, ⟨#[]⟩, s⟩]) (w : World) (hb : base ≤ w.heap.size) :
    Calls Tryz.prog 95 #[.agg #[.int .i64 k, .string ⟨#[]⟩, .int .i64 s], .slice none 0 0] w (OutB base t w) :=
  mkP base ⟨k, ⟨#[]⟩, s⟩ [] t h _ w (rws_none w) (by simp) (by have := flat_len t; rw [h] at this; simp at this; omega) hb
theorem mkP1 (base : Nat) (k s : Int) (t a : Tm) (h : flat t = ⟨k, ⟨#[]⟩, s⟩ :: flat a) (v : Value) (w : World) (ty : TypeId) (ha : Nds w v (flat a)) (hs : sz t ≤ 1000) (hb : base ≤ w.heap.size) :
    Calls Tryz.prog 95 #[.agg #[.int .i64 k, .string ⟨#[]⟩, .int .i64 s], .slice (some ⟨w.heap.size, 0, none⟩) 1 1] (w.alloc (.cells #[v] ty)) (OutB base t w) := by
  refine (mkP base ⟨k, ⟨#[]⟩, s⟩ [flat a] t (by rw [h]; simp) _ _ (rws_one ha ty) (by simp) hs (by simp; omega)).mono ?_
  rintro e w1 ⟨y, rfl, hn, hb1⟩
  exact ⟨y, rfl, hn, (below1 w _).trans (hb1.mono (below1 w _).size)⟩
theorem mkP2 (base : Nat) (k s : Int) (t a b : Tm) (h : flat t = ⟨k, ⟨#[]⟩, s⟩ :: (flat a ++ flat b)) (v u : Value) (w : World) (ty : TypeId) (ha : Nds w v (flat a)) (hu : Nds w u (flat b)) (hs : sz t ≤ 1000) (hb : base ≤ w.heap.size) :
    Calls Tryz.prog 95 #[.agg #[.int .i64 k, .string ⟨#[]⟩, .int .i64 s], .slice (some ⟨w.heap.size, 0, none⟩) 2 2] (w.alloc (.cells #[v, u] ty)) (OutB base t w) := by
  refine (mkP base ⟨k, ⟨#[]⟩, s⟩ [flat a, flat b] t (by rw [h]; simp) _ _ (rws_two ha hu ty) (by simp) hs (by simp; omega)).mono ?_
  rintro e w1 ⟨y, rfl, hn, hb1⟩
  exact ⟨y, rfl, hn, (below1 w _).trans (hb1.mono (below1 w _).size)⟩
theorem mkP2d (base : Nat) (k s : Int) (t a b : Tm) (h : flat t = ⟨k, ⟨#[]⟩, s⟩ :: (flat a ++ flat b)) (v u : Value) (w : World) (ty : TypeId) (ha : Nds w v (flat a)) (hu : Nds w u (flat b)) (hs : sz t ≤ 1000) (hb : base ≤ w.heap.size) :
    Calls Tryz.prog 95 #[.agg #[.int .i64 k, .string ⟨#[]⟩, .int .i64 s], .slice (some ⟨w.heap.size, 0, none⟩) 2 2] (w.alloc (.cells #[v, u] ty)).drew (OutB base t w) := by
  refine (mkP base ⟨k, ⟨#[]⟩, s⟩ [flat a, flat b] t (by rw [h]; simp) _ _ ((rws_two ha hu ty).below (Below.refl _ _).drew) (by simp) hs (by simp; omega)).mono ?_
  rintro e w1 ⟨y, rfl, hn, hb1⟩
  exact ⟨y, rfl, hn, (below1 w _).drew.trans (hb1.mono (below1 w _).drew.size)⟩
theorem mkPr (base : Nat) (k s : Int) (t a b : Tm) (h : flat t = ⟨k, ⟨#[]⟩, s⟩ :: (flat a ++ flat b)) (v : Value) (w : World) (hv : Rws w v [flat a, flat b]) (hs : sz t ≤ 1000) (hb : base ≤ w.heap.size) :
    Calls Tryz.prog 95 #[.agg #[.int .i64 k, .string ⟨#[]⟩, .int .i64 s], v] w (OutB base t w) := mkP base ⟨k, ⟨#[]⟩, s⟩ [flat a, flat b] t (by rw [h]; simp) v w hv (by simp) hs hb
/-- A node in a box. -/
theorem box_cells (w : World) (k s : Int) (nm : ByteArray) (ty : TypeId) : ∀ w1, Below (w.alloc (.cells #[.int .i64 k, .string nm, .int .i64 s] ty)).heap.size (w.alloc (.cells #[.int .i64 k, .string nm, .int .i64 s] ty)) w1 → w1.cell? ⟨w.heap.size, 0, none⟩ = some (.int .i64 k) ∧ w1.cell? ⟨w.heap.size, 1, none⟩ = some (.string nm) ∧ w1.cell? ⟨w.heap.size, 2, none⟩ = some (.int .i64 s) := by
  intro w1 hb
  rw [hb.cell (p := ⟨w.heap.size, 0, none⟩) (by simp), hb.cell (p := ⟨w.heap.size, 1, none⟩) (by simp), hb.cell (p := ⟨w.heap.size, 2, none⟩) (by simp)]
  simp [go_sem]
/-- What the walk of settled is asked of shorter trees. -/
abbrev PS (t : Tm) : Prop := ∀ (v : Value) (w : World), Nds w v (flat t) → Calls Tryz.prog 92 #[v] w (OutB w.heap.size (S t) w)
end Go.Proofs.YtpingbiibbmcaaaGreat.Se

namespace Go.Proofs.YtpingbiibbmcaaaGreat.Rf
open Go Go.RowKit Go.Proofs.YtpingbiibbmcaaaGreat.Rw
set_option maxRecDepth 20000

/-- A slice of places that reads as these. -/
def Plc (w : World) (v : Value) (P : List Nat) : Prop := Ap.Rd w 1 v P.length (P.map fun (i : Nat) => .int .i64 (i : Int))
theorem Plc.below {w w' : World} {v : Value} {P : List Nat} (h : Plc w v P) (hb : Below w.heap.size w w') : Plc w' v P := Ap.Rd.below h hb
def AtP (w : World) (b off : Nat) (P : List Nat) : Prop := ∀ k, (h : k < P.length) → w.cell? ⟨b, off + k, none⟩ = some (.int .i64 (P[k] : Int))
theorem Plc.form {w : World} {v : Value} {P : List Nat} (h : Plc w v P) : (P = [] ∧ ∃ a cap, v = .slice a 0 cap) ∨ ∃ b off cap, v = .slice (some ⟨b, off, none⟩) P.length cap ∧ AtP w b off P := by
  obtain ⟨_, a, cap, rfl, hle, _, hcell⟩ := h
  by_cases h0 : 0 < P.length
  · obtain ⟨b, off, rfl, hj⟩ := hcell h0
    exact Or.inr ⟨b, off, cap, rfl, fun k hk => hj _ _ (by rw [List.getElem?_map, List.getElem?_eq_getElem hk]; rfl)⟩
  · have : P = [] := List.eq_nil_of_length_eq_zero (by omega)
    subst this
    exact Or.inl ⟨rfl, a, cap, rfl⟩
end Go.Proofs.YtpingbiibbmcaaaGreat.Rf

namespace Go.Proofs.YtpingbiibbmcaaaGreat.Mn
open Go Tr

/-- One, and where it throws another one behind. -/
def hnd (p q : Tr) : Tr := if p.e = 2 then ⟨p.a ++ q.a, q.e⟩ else p
/-- What a node of a kind makes of two traces. -/
def one (k : Int) (p q : Tr) : List Tr := if k = 5 then [thn p q] else if k = 7 then pr p q else [hnd p q]
def two (k : Int) (A B : List Tr) : List Tr := if k = 6 then A ++ B else A.flatMap fun p => B.flatMap (one k p)
/-- What a block does where this pair is in it. -/
def blk1 (x : Pr) : List Tr := if x.p.e = 1 then [x.p] else if x.p.e = 2 then [⟨x.p.a ++ x.q.a, x.q.e⟩] else []
def blk (X : List Pr) : List Tr := X.flatMap blk1
def tick : Tr := ⟨[], 1⟩
/-- What has not begun gives way. -/
def way : Pr := ⟨⟨[], 3⟩, tick⟩
def going1 (B : List Tr) (p : Tr) : List Pr := if p.e = 1 then B.map (Pr.mk p) else [⟨p, tick⟩]
def going (A B : List Tr) : List Pr := A.flatMap (going1 B)
def seq1 (Y : List Pr) (x : Pr) : List Pr := if x.p.e = 1 then Y.map fun y => ⟨thn x.p y.p, thn y.q x.q⟩ else [x]
def seq (X Y : List Pr) : List Pr := X.flatMap (seq1 Y)
def par1 (x y : Pr) : List Pr := (pr x.p y.p).flatMap fun p => (pr x.q y.q).map (Pr.mk p)
def par (X Y : List Pr) : List Pr := X.flatMap fun x => Y.flatMap (par1 x)
def stack1 (C : List Tr) (x : Pr) : List Pr := C.map fun c => ⟨x.p, thn x.q c⟩
def stack (X : List Pr) (C : List Tr) : List Pr := X.flatMap (stack1 C)
def fin (e : Int) (C : List Tr) : List Pr := C.map (Pr.mk ⟨[], e⟩)
def twoP (k : Int) (X Y : List Pr) : List Pr := if k = 5 then seq X Y else if k = 7 then par X Y else X ++ Y

/-- How many. -/
def fac : Nat → Nat
  | 0 => 1
  | n + 1 => (n + 1) * fac n
def bin : Nat → Nat → Nat
  | 0, _ => 1
  | _ + 1, 0 => 1
  | i + 1, j + 1 => bin i (j + 1) + bin (i + 1) j
theorem bin_pos : ∀ i j, 1 ≤ bin i j
  | 0, _ => by rw [bin]; exact Nat.le_refl _
  | _ + 1, 0 => by rw [bin]; exact Nat.le_refl _
  | i + 1, j + 1 => by rw [bin]; have := bin_pos i (j + 1); omega
theorem bin_l : ∀ i j, bin i j ≤ bin (i + 1) j
  | 0, j => by rw [bin]; exact bin_pos _ _
  | i + 1, 0 => by rw [bin, bin]; exact Nat.le_refl _
  | i + 1, j + 1 => by rw [bin.eq_3 (i + 1) j]; omega
theorem bin_r : ∀ i j, bin i j ≤ bin i (j + 1)
  | 0, j => by rw [bin, bin]; exact Nat.le_refl _
  | i + 1, 0 => by rw [bin]; exact bin_pos _ _
  | i + 1, j + 1 => by rw [bin.eq_3 i (j + 1)]; omega
theorem bin_ml (i j : Nat) : ∀ d, bin i j ≤ bin (i + d) j
  | 0 => Nat.le_refl _
  | d + 1 => Nat.le_trans (bin_ml i j d) (bin_l (i + d) j)
theorem bin_mr (i j : Nat) : ∀ d, bin i j ≤ bin i (j + d)
  | 0 => Nat.le_refl _
  | d + 1 => Nat.le_trans (bin_mr i j d) (bin_r i (j + d))
theorem bin_mono {i j i' j' : Nat} (h1 : i ≤ i') (h2 : j ≤ j') : bin i j ≤ bin i' j' := by
  obtain ⟨d, rfl⟩ := Nat.exists_eq_add_of_le h1
  obtain ⟨e, rfl⟩ := Nat.exists_eq_add_of_le h2
  exact Nat.le_trans (bin_ml i j d) (bin_mr (i + d) j e)
/-- The most that n nodes with a actions make. -/
def K (n a : Nat) : Nat := 2 ^ n * fac a
/-- No trace has more than a of what f asks for; no pair has. -/
def CT (f : ByteArray → Bool) (a : Nat) (A : List Tr) : Prop := ∀ t ∈ A, t.a.countP f ≤ a
def CP (f : ByteArray → Bool) (a : Nat) (X : List Pr) : Prop := ∀ x ∈ X, x.p.a.countP f + x.q.a.countP f ≤ a
theorem thn_cnt (f : ByteArray → Bool) (p q : Tr) : (thn p q).a.countP f ≤ p.a.countP f + q.a.countP f := by
  unfold thn
  split
  · simp [List.countP_append]
  · omega
theorem hnd_cnt (f : ByteArray → Bool) (p q : Tr) : (hnd p q).a.countP f ≤ p.a.countP f + q.a.countP f := by
  unfold hnd
  split
  · simp [List.countP_append]
  · omega
theorem mem_two {k : Int} {A B : List Tr} {t : Tr} : t ∈ two k A B ↔ if k = 6 then t ∈ A ∨ t ∈ B else ∃ p ∈ A, ∃ q ∈ B, t ∈ one k p q := by
  unfold two
  split
  · exact List.mem_append
  · simp only [List.mem_flatMap]
theorem way_cp {f : ByteArray → Bool} {X : List Pr} {a : Nat} (h : CP f a X) : CP f a (X ++ [way]) := fun x hx => by
  rcases List.mem_append.1 hx with hx | hx
  · exact h x hx
  · rw [List.mem_singleton] at hx
    rw [hx]
    exact Nat.zero_le _
theorem mem_par1 {x y z : Pr} : z ∈ par1 x y ↔ z.p ∈ pr x.p y.p ∧ z.q ∈ pr x.q y.q := by
  unfold par1
  simp only [List.mem_flatMap, List.mem_map]
  constructor
  · rintro ⟨p, hp, q, hq, rfl⟩
    exact ⟨hp, hq⟩
  · rintro ⟨hp, hq⟩
    exact ⟨z.p, hp, z.q, hq, rfl⟩
theorem fin_cp {f : ByteArray → Bool} {e : Int} {C : List Tr} {a : Nat} (h : CT f a C) : CP f a (fin e C) := fun z hz => by
  obtain ⟨c, hc, rfl⟩ := List.mem_map.1 hz
  have := h c hc
  show 0 + c.a.countP f ≤ a
  omega
abbrev all : ByteArray → Bool := fun _ => true
/-- How they end. -/
def Sgn (e : Int) : Prop := e = 1 ∨ e = 2 ∨ e = 3
def ST (A : List Tr) : Prop := ∀ t ∈ A, Sgn t.e
def SP (X : List Pr) : Prop := ∀ x ∈ X, Sgn x.p.e ∧ Sgn x.q.e
theorem sgn_both {a b : Int} (h1 : Sgn a) (h2 : Sgn b) : Sgn (Sg.both a b) := by
  rcases h1 with rfl | rfl | rfl <;> rcases h2 with rfl | rfl | rfl <;> first | exact Or.inl rfl | exact Or.inr (Or.inl rfl) | exact Or.inr (Or.inr rfl)
theorem sgn_thn {p q : Tr} (h1 : Sgn p.e) (h2 : Sgn q.e) : Sgn (thn p q).e := by
  unfold thn
  split
  · exact h2
  · exact h1
theorem sgn1 : Sgn 1 := Or.inl rfl
theorem sgn3 : Sgn 3 := Or.inr (Or.inr rfl)
theorem way_sp {X : List Pr} (h : SP X) : SP (X ++ [way]) := fun x hx => by
  rcases List.mem_append.1 hx with hx | hx
  · exact h x hx
  · rw [List.mem_singleton] at hx
    rw [hx]
    exact ⟨sgn3, sgn1⟩
theorem stack_sp {X : List Pr} {C : List Tr} (h1 : SP X) (h2 : ST C) : SP (stack X C) := fun z hz => by
  obtain ⟨x, hx, hz⟩ := List.mem_flatMap.1 hz
  obtain ⟨c, hc, rfl⟩ := List.mem_map.1 hz
  exact ⟨(h1 x hx).1, sgn_thn (h1 x hx).2 (h2 c hc)⟩
theorem fin_sp {e : Int} {C : List Tr} (he : Sgn e) (h : ST C) : SP (fin e C) := fun z hz => by
  obtain ⟨c, hc, rfl⟩ := List.mem_map.1 hz
  exact ⟨he, h c hc⟩
end Go.Proofs.YtpingbiibbmcaaaGreat.Mn
