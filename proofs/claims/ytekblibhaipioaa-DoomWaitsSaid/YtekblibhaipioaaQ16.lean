/- The document's Rewrite of layer 8. Rows mixed: that order does not matter, and that each row has the actions of both in their order. The program's side: what it makes of nodes and trees; over, end, goOn. The document's Mark and Places of layer 8. What is made of the traces, or the pairs, of two: plain; how many they are, which actions they have, how they end. -/
import Derived.Test.YtekblibhaipioaaQ14
import Derived.Test.YtekblibhaipioaaQ03
import Derived.Test.YtekblibhaipioaaQ15
import Derived.Test.YtekblibhaipioaaQ05
import Derived.Test.YtekblibhaipioaaQ09

namespace Go.Proofs.Ytekblibhaipioaa.Rf
open Go Go.RowKit Go.Proofs.Ytekblibhaipioaa.Rw
set_option maxRecDepth 20000

end Go.Proofs.Ytekblibhaipioaa.Rf

namespace Go.Proofs.Ytekblibhaipioaa.Tr
open Go

theorem mem_pr {p q t : Tr} (h : t ∈ pr p q) : t.a ∈ mx 19 p.a q.a ∧ t.e = Sg.both p.e q.e := by
  unfold pr at h
  obtain ⟨r, hr, rfl⟩ := List.mem_map.1 ((mem_norm _ _).1 h)
  exact ⟨hr, rfl⟩
theorem sub_self : ∀ a : List ByteArray, sub a a = true
  | [] => rfl
  | x :: a => by rw [sub, if_pos rfl]; exact sub_self a
end Go.Proofs.Ytekblibhaipioaa.Tr

namespace Go.Proofs.Ytekblibhaipioaa.Se
open Go Go.RowKit Go.Proofs.Ytekblibhaipioaa.Rw Go.Proofs.Ytekblibhaipioaa.So
set_option maxRecDepth 20000

/-- A row that is this tree, in blocks from base on. -/
def NdO (base : Nat) (w : World) (v : Value) (t : Tm) : Prop := Ap.RdO (fun g => base ≤ g) w 3 v (flat t).length (cls (flat t))
theorem NdO.nds {base : Nat} {w : World} {v : Value} {t : Tm} (h : NdO base w v t) : Nds w v (flat t) := Ap.RdO.rd h
theorem NdO.below {base : Nat} {w w' : World} {v : Value} {t : Tm} (h : NdO base w v t) (hb : Below w.heap.size w w') : NdO base w' v t := Ap.RdO.below h hb
theorem NdO.more {base base' : Nat} {w : World} {v : Value} {t : Tm} (h : NdO base w v t) (hb : base' ≤ base) : NdO base' w v t := Ap.RdO.imp h fun _ _ h => Nat.le_trans hb h
/-- A call that tells a row which is this tree, in blocks from base on. -/
def OutB (base : Nat) (t : Tm) (w : World) (e : Ending) (w' : World) : Prop := ∃ y, e = .returned y ∧ NdO base w' y t ∧ Below w.heap.size w w'
def nml : List Nd → ByteArray
  | [] => ⟨#[]⟩
  | n :: _ => n.n
def nmT (t : Tm) : ByteArray := nml (flat t)
theorem at0n {l : List Nd} (h : 0 < l.length) : l[0].n = nml l := by
  cases l with
  | nil => simp at h
  | cons n r => rfl
theorem form3 {w : World} {v : Value} {t : Tm} (hv : Nds w v (flat t)) : ∃ b o c, v = .slice (some ⟨b, o, none⟩) (sz t) c ∧ sz t ≤ c ∧ b < w.heap.size ∧ (∀ w', Below w.heap.size w w' → w'.cell? ⟨b, o, none⟩ = some (.int .i64 (kd t)) ∧ w'.cell? ⟨b, o + 1, none⟩ = some (.string (nmT t)) ∧ w'.cell? ⟨b, o + 2, none⟩ = some (.int .i64 (sg t))) ∧ At w b o (flat t) := by
  obtain ⟨b, o, c, rfl, hc, hlt, hw, hat⟩ := form hv
  refine ⟨b, o, c, rfl, hc, hlt, fun w' hb => ⟨(hw w' hb).1, ?_, (hw w' hb).2⟩, hat⟩
  have hp := sz_pos t
  have hl := flat_len t
  have h2 := (hat 0 (by omega)).2.1
  rw [Nat.zero_mul, Nat.add_zero] at h2
  rw [hb.cell (p := ⟨b, o + 1, none⟩) hlt, h2]
  rw [at0n (by omega)]
  rfl
theorem eq_ndP (x y : Nd) (w : World) : (binOp .eql 34 (.agg #[.int .i64 x.k, .string x.n, .int .i64 x.s]) (.agg #[.int .i64 y.k, .string y.n, .int .i64 y.s])).run Try.prog w = .ok (.bool (decide (x = y))) w := by
  rw [run_eql_struct, show (10000 : Nat) = 9998 + 2 from rfl, eql_nd]
  rfl
/-- A node against one without a name. -/
theorem eq_bare (k s j r : Int) (n : ByteArray) (w : World) : (binOp .eql 34 (.agg #[.int .i64 k, .string n, .int .i64 s]) (.agg #[.int .i64 j, .string ⟨#[]⟩, .int .i64 r])).run Try.prog w = .ok (.bool (decide ((⟨k, n, s⟩ : Nd) = ⟨j, ⟨#[]⟩, r⟩))) w := eq_ndP ⟨k, n, s⟩ ⟨j, ⟨#[]⟩, r⟩ w
theorem overP_any (s : Int) (w : World) : Calls Try.prog 76 #[.int .i64 s] w fun e w' => e = .returned (.agg #[.int .i64 11, .string ⟨#[]⟩, .int .i64 s]) ∧ Below w.heap.size w w' := by
  go_enter Try.func76, Try.ntmps76
  go_wp2_with fail
  refine bodyPost_ret (v := .agg #[.int .i64 11, .string ⟨#[]⟩, .int .i64 s]) (by simp [results, Try.results76, go_sem]) rfl ⟨rfl, ?_⟩
  exact below1 w _
theorem endP_any (s : Int) (w : World) : Calls Try.prog 95 #[.int .i64 s] w fun e w' => e = .returned (.agg #[.int .i64 14, .string ⟨#[]⟩, .int .i64 s]) ∧ Below w.heap.size w w' := by
  go_enter Try.func95, Try.ntmps95
  go_wp2_with fail
  refine bodyPost_ret (v := .agg #[.int .i64 14, .string ⟨#[]⟩, .int .i64 s]) (by simp [results, Try.results95, go_sem]) rfl ⟨rfl, ?_⟩
  exact below1 w _
/-- How many of a node's trees go on. -/
def goK (k : Int) : Int := if k = 7 then 2 else if k = 5 ∨ k = 8 ∨ k = 9 ∨ k = 12 ∨ k = 13 then 1 else 0
set_option maxHeartbeats 2000000 in
theorem goOn_any (t : Tm) (w : World) : Calls Try.prog 57 #[.int .i64 (kd t)] w fun e w' => e = .returned (.int .i64 (goK (kd t))) ∧ w = w' := by
  have hk := kinds (tre_flat t).ar
  change kd t = 1 ∨ kd t = 2 ∨ kd t = 3 ∨ kd t = 4 ∨ kd t = 5 ∨ kd t = 6 ∨ kd t = 7 ∨ kd t = 8 ∨ kd t = 9 ∨ kd t = 10 ∨ kd t = 11 ∨ kd t = 12 ∨ kd t = 13 ∨ kd t = 14 at hk
  generalize kd t = k at hk
  rcases hk with rfl | rfl | rfl | rfl | rfl | rfl | rfl | rfl | rfl | rfl | rfl | rfl | rfl | rfl
  all_goals go_enter Try.func57, Try.ntmps57
  all_goals go_wp2_with fail
  all_goals go_ret
  all_goals exact ⟨rfl, rfl⟩
theorem rws_two {w : World} {y1 y2 : Value} {l1 l2 : List Nd} (h1 : Nds w y1 l1) (h2 : Nds w y2 l2) (ty : TypeId) : Rws (w.alloc (.cells #[y1, y2] ty)) (.slice (some ⟨w.heap.size, 0, none⟩) 2 2) [l1, l2] := by
  refine ⟨[y1, y2], ⟨rfl, _, 2, rfl, Nat.le_refl _, fun h => (by cases h), fun _ => ⟨w.heap.size, 0, rfl, fun j u hu => ?_⟩⟩, h1.below (below1 w _), h2.below (below1 w _), trivial⟩
  match j, hu with
  | 0, hu => simp at hu; subst hu; simp
  | 1, hu => simp at hu; subst hu; simp
  | j + 2, hu => simp at hu
theorem rws_one {w : World} {y1 : Value} {l1 : List Nd} (h1 : Nds w y1 l1) (ty : TypeId) : Rws (w.alloc (.cells #[y1] ty)) (.slice (some ⟨w.heap.size, 0, none⟩) 1 1) [l1] := by
  refine ⟨[y1], ⟨rfl, _, 1, rfl, Nat.le_refl _, fun h => (by cases h), fun _ => ⟨w.heap.size, 0, rfl, fun j u hu => ?_⟩⟩, h1.below (below1 w _), trivial⟩
  match j, hu with
  | 0, hu => simp at hu; subst hu; simp
  | j + 1, hu => simp at hu
theorem rws_none (w : World) : Rws w (.slice none 0 0) [] := ⟨[], ⟨rfl, none, 0, rfl, Nat.le_refl _, fun _ => ⟨rfl, rfl⟩, fun h => absurd h (Nat.lt_irrefl 0)⟩, trivial⟩
/-- What Make makes: in a row of the call's own. -/
theorem mkP (base : Nat) (x : Nd) (ls : List (List Nd)) (t : Tm) (h : flat t = x :: ls.flatten) (v : Value) (w : World) (hv : Rws w v ls) (hl : ls.length ≤ 2) (hs : sz t ≤ 1000) (hb : base ≤ w.heap.size) :
    Calls Try.prog 75 #[.agg #[.int .i64 x.k, .string x.n, .int .i64 x.s], v] w (OutB base t w) := by
  have e := flat_len t
  rw [h, List.length_cons] at e
  refine (Rx.makeP_any x v ls w hv (by omega) (by omega)).mono ?_
  rintro e w1 ⟨y, rfl, hn, hb1⟩
  refine ⟨y, rfl, ?_, hb1⟩
  unfold NdO
  rw [h]
  exact Ap.RdO.imp hn fun _ _ h => Nat.le_trans hb h
theorem mkP0 (base : Nat) (k s : Int) (t : Tm) (h : flat t = [⟨k, ⟨#[]⟩, s⟩]) (w : World) (hb : base ≤ w.heap.size) :
    Calls Try.prog 75 #[.agg #[.int .i64 k, .string ⟨#[]⟩, .int .i64 s], .slice none 0 0] w (OutB base t w) :=
  mkP base ⟨k, ⟨#[]⟩, s⟩ [] t h _ w (rws_none w) (by simp) (by have := flat_len t; rw [h] at this; simp at this; omega) hb
theorem mkP1 (base : Nat) (k s : Int) (t a : Tm) (h : flat t = ⟨k, ⟨#[]⟩, s⟩ :: flat a) (v : Value) (w : World) (ty : TypeId) (ha : Nds w v (flat a)) (hs : sz t ≤ 1000) (hb : base ≤ w.heap.size) :
    Calls Try.prog 75 #[.agg #[.int .i64 k, .string ⟨#[]⟩, .int .i64 s], .slice (some ⟨w.heap.size, 0, none⟩) 1 1] (w.alloc (.cells #[v] ty)) (OutB base t w) := by
  refine (mkP base ⟨k, ⟨#[]⟩, s⟩ [flat a] t (by rw [h]; simp) _ _ (rws_one ha ty) (by simp) hs (by simp; omega)).mono ?_
  rintro e w1 ⟨y, rfl, hn, hb1⟩
  exact ⟨y, rfl, hn, (below1 w _).trans (hb1.mono (below1 w _).size)⟩
theorem mkP2 (base : Nat) (k s : Int) (t a b : Tm) (h : flat t = ⟨k, ⟨#[]⟩, s⟩ :: (flat a ++ flat b)) (v u : Value) (w : World) (ty : TypeId) (ha : Nds w v (flat a)) (hu : Nds w u (flat b)) (hs : sz t ≤ 1000) (hb : base ≤ w.heap.size) :
    Calls Try.prog 75 #[.agg #[.int .i64 k, .string ⟨#[]⟩, .int .i64 s], .slice (some ⟨w.heap.size, 0, none⟩) 2 2] (w.alloc (.cells #[v, u] ty)) (OutB base t w) := by
  refine (mkP base ⟨k, ⟨#[]⟩, s⟩ [flat a, flat b] t (by rw [h]; simp) _ _ (rws_two ha hu ty) (by simp) hs (by simp; omega)).mono ?_
  rintro e w1 ⟨y, rfl, hn, hb1⟩
  exact ⟨y, rfl, hn, (below1 w _).trans (hb1.mono (below1 w _).size)⟩
theorem mkP2d (base : Nat) (k s : Int) (t a b : Tm) (h : flat t = ⟨k, ⟨#[]⟩, s⟩ :: (flat a ++ flat b)) (v u : Value) (w : World) (ty : TypeId) (ha : Nds w v (flat a)) (hu : Nds w u (flat b)) (hs : sz t ≤ 1000) (hb : base ≤ w.heap.size) :
    Calls Try.prog 75 #[.agg #[.int .i64 k, .string ⟨#[]⟩, .int .i64 s], .slice (some ⟨w.heap.size, 0, none⟩) 2 2] (w.alloc (.cells #[v, u] ty)).drew (OutB base t w) := by
  refine (mkP base ⟨k, ⟨#[]⟩, s⟩ [flat a, flat b] t (by rw [h]; simp) _ _ ((rws_two ha hu ty).below (Below.refl _ _).drew) (by simp) hs (by simp; omega)).mono ?_
  rintro e w1 ⟨y, rfl, hn, hb1⟩
  exact ⟨y, rfl, hn, (below1 w _).drew.trans (hb1.mono (below1 w _).drew.size)⟩
theorem mkPr (base : Nat) (k s : Int) (t a b : Tm) (h : flat t = ⟨k, ⟨#[]⟩, s⟩ :: (flat a ++ flat b)) (v : Value) (w : World) (hv : Rws w v [flat a, flat b]) (hs : sz t ≤ 1000) (hb : base ≤ w.heap.size) :
    Calls Try.prog 75 #[.agg #[.int .i64 k, .string ⟨#[]⟩, .int .i64 s], v] w (OutB base t w) := mkP base ⟨k, ⟨#[]⟩, s⟩ [flat a, flat b] t (by rw [h]; simp) v w hv (by simp) hs hb
/-- A node in a box. -/
theorem box_cells (w : World) (k s : Int) (nm : ByteArray) (ty : TypeId) : ∀ w1, Below (w.alloc (.cells #[.int .i64 k, .string nm, .int .i64 s] ty)).heap.size (w.alloc (.cells #[.int .i64 k, .string nm, .int .i64 s] ty)) w1 → w1.cell? ⟨w.heap.size, 0, none⟩ = some (.int .i64 k) ∧ w1.cell? ⟨w.heap.size, 1, none⟩ = some (.string nm) ∧ w1.cell? ⟨w.heap.size, 2, none⟩ = some (.int .i64 s) := by
  intro w1 hb
  rw [hb.cell (p := ⟨w.heap.size, 0, none⟩) (by simp), hb.cell (p := ⟨w.heap.size, 1, none⟩) (by simp), hb.cell (p := ⟨w.heap.size, 2, none⟩) (by simp)]
  simp [go_sem]
/-- What the walk of settled is asked of shorter trees. -/
abbrev PS (t : Tm) : Prop := ∀ (v : Value) (w : World), Nds w v (flat t) → Calls Try.prog 40 #[v] w (OutB w.heap.size (S t) w)
end Go.Proofs.Ytekblibhaipioaa.Se

namespace Go.Proofs.Ytekblibhaipioaa.Rf
open Go Go.RowKit Go.Proofs.Ytekblibhaipioaa.Rw
set_option maxRecDepth 20000

/-- Places in a row of its own. -/
theorem infoIn : (Try.prog.info? 3).map (fun i => (i.zero, i.size, i.bytes)) = some (some (.int .i64 0), 1, 8) := by kernel_rfl
def GotI (w wr : World) (v : Value) (P : List Nat) : Prop := wr.ownsRow w.heap.size 3 1 v P.length (P.map fun (i : Nat) => .int .i64 (i : Int)) ∧ Below w.heap.size w wr
/-- A slice of places that reads as these. -/
def Plc (w : World) (v : Value) (P : List Nat) : Prop := Ap.Rd w 1 v P.length (P.map fun (i : Nat) => .int .i64 (i : Int))
theorem Plc.below {w w' : World} {v : Value} {P : List Nat} (h : Plc w v P) (hb : Below w.heap.size w w') : Plc w' v P := Ap.Rd.below h hb
def AtP (w : World) (b off : Nat) (P : List Nat) : Prop := ∀ k, (h : k < P.length) → w.cell? ⟨b, off + k, none⟩ = some (.int .i64 (P[k] : Int))
theorem AtP.below {w w' : World} {b off : Nat} {l : List Nat} (h : AtP w b off l) (hb : Below w.heap.size w w') : AtP w' b off l := fun k hk => by
  rw [hb.cell (Ap.cell_lt (h k hk))]
  exact h k hk
theorem Plc.form {w : World} {v : Value} {P : List Nat} (h : Plc w v P) : (P = [] ∧ ∃ a cap, v = .slice a 0 cap) ∨ ∃ b off cap, v = .slice (some ⟨b, off, none⟩) P.length cap ∧ AtP w b off P := by
  obtain ⟨_, a, cap, rfl, hle, _, hcell⟩ := h
  by_cases h0 : 0 < P.length
  · obtain ⟨b, off, rfl, hj⟩ := hcell h0
    exact Or.inr ⟨b, off, cap, rfl, fun k hk => hj _ _ (by rw [List.getElem?_map, List.getElem?_eq_getElem hk]; rfl)⟩
  · have : P = [] := List.eq_nil_of_length_eq_zero (by omega)
    subst this
    exact Or.inl ⟨rfl, a, cap, rfl⟩
theorem GotI.plc {w wr : World} {v : Value} {P : List Nat} (h : GotI w wr v P) : Plc wr v P := Ap.Rd.owned h.1
theorem GotI.start (w : World) : GotI w w (.slice none 0 0) [] := ⟨⟨rfl, .inl ⟨rfl, rfl⟩⟩, Below.refl _ _⟩
theorem GotI.below {w wr w' : World} {v : Value} {P : List Nat} (h : GotI w wr v P) (hb : Below wr.heap.size wr w') : GotI w w' v P := ⟨Ap.own_below h.1 hb, h.2.trans (hb.mono h.2.size)⟩
theorem GotI.slice {w wr : World} {v : Value} {P : List Nat} (h : GotI w wr v P) : ∃ a c, v = .slice a P.length c := by
  obtain ⟨_, a, c, e, -⟩ := h.plc
  exact ⟨a, c, e⟩
theorem GotI.one {w wr : World} {v : Value} {P : List Nat} (k : Nat) (h : GotI w wr v P) (hl : P.length ≤ 2000000) :
    ∃ v' w', (Builtin.append_ #[26, 26] 26 #[v, .slice (some ⟨wr.heap.size, 0, none⟩) 1 1]).run Try.prog (wr.alloc (.cells #[.int .i64 (k : Int)] 3)) = .ok v' w' ∧ GotI w w' v' (P ++ [k]) := by
  obtain ⟨i0, hi, hz, hs1, hb8⟩ := info_parts infoIn
  obtain ⟨v', w', h1, h2, _, h4, _⟩ := Ap.run_append_one (P := Try.prog) (ty := 26) Try.underlying26 hi hz hs1 hb8 (by rfl) (by omega) h.1 h.2.size #[.int .i64 (k : Int)] rfl
    (by intro u hu; simp at hu; subst hu; rfl) (by unfold maxLen; omega) (by omega)
  exact ⟨v', w', h1, by simpa using h2, h.2.trans h4⟩

end Go.Proofs.Ytekblibhaipioaa.Rf

namespace Go.Proofs.Ytekblibhaipioaa.Mn
open Go Tr

/-- One, and where it throws another one behind. -/
def hnd (p q : Tr) : Tr := if p.e = 2 then ⟨p.a ++ q.a, q.e⟩ else p
/-- What a node of a kind makes of two traces. -/
def one (k : Int) (p q : Tr) : List Tr := if k = 5 then [thn p q] else if k = 7 then pr p q else [hnd p q]
def two (k : Int) (A B : List Tr) : List Tr := if k = 6 then A ++ B else A.flatMap fun p => B.flatMap (one k p)
/-- What a block does where this pair is in it. -/
def blk1 (x : Pr) : List Tr := if x.p.e = 1 then [x.p] else if x.p.e = 2 then [⟨x.p.a ++ x.q.a, x.q.e⟩] else []
def blk (X : List Pr) : List Tr := X.flatMap blk1
def tick : Tr := ⟨[], 1⟩
/-- What has not begun gives way. -/
def way : Pr := ⟨⟨[], 3⟩, tick⟩
def going1 (B : List Tr) (p : Tr) : List Pr := if p.e = 1 then B.map (Pr.mk p) else [⟨p, tick⟩]
def going (A B : List Tr) : List Pr := A.flatMap (going1 B)
def seq1 (Y : List Pr) (x : Pr) : List Pr := if x.p.e = 1 then Y.map fun y => ⟨thn x.p y.p, thn y.q x.q⟩ else [x]
def seq (X Y : List Pr) : List Pr := X.flatMap (seq1 Y)
def par1 (x y : Pr) : List Pr := (pr x.p y.p).flatMap fun p => (pr x.q y.q).map (Pr.mk p)
def par (X Y : List Pr) : List Pr := X.flatMap fun x => Y.flatMap (par1 x)
def stack1 (C : List Tr) (x : Pr) : List Pr := C.map fun c => ⟨x.p, thn x.q c⟩
def stack (X : List Pr) (C : List Tr) : List Pr := X.flatMap (stack1 C)
def fin (e : Int) (C : List Tr) : List Pr := C.map (Pr.mk ⟨[], e⟩)
def twoP (k : Int) (X Y : List Pr) : List Pr := if k = 5 then seq X Y else if k = 7 then par X Y else X ++ Y

/-- How many. -/
def fac : Nat → Nat
  | 0 => 1
  | n + 1 => (n + 1) * fac n
def bin : Nat → Nat → Nat
  | 0, _ => 1
  | _ + 1, 0 => 1
  | i + 1, j + 1 => bin i (j + 1) + bin (i + 1) j
theorem fac_pos : ∀ n, 1 ≤ fac n
  | 0 => Nat.le_refl _
  | n + 1 => Nat.mul_pos (Nat.succ_pos n) (fac_pos n)
theorem bin_pos : ∀ i j, 1 ≤ bin i j
  | 0, _ => by rw [bin]; exact Nat.le_refl _
  | _ + 1, 0 => by rw [bin]; exact Nat.le_refl _
  | i + 1, j + 1 => by rw [bin]; have := bin_pos i (j + 1); omega
theorem fac_bin : ∀ i j, fac i * fac j * bin i j = fac (i + j)
  | 0, j => by simp [bin, fac]
  | i + 1, 0 => by simp [bin, fac]
  | i + 1, j + 1 => by
    have h1 := fac_bin i (j + 1)
    have h2 := fac_bin (i + 1) j
    rw [show i + 1 + j = i + j + 1 by omega] at h2
    rw [show i + (j + 1) = i + j + 1 by omega] at h1
    rw [show i + 1 + (j + 1) = i + j + 1 + 1 by omega, bin, Nat.mul_add]
    have e1 : fac (i + 1) * fac (j + 1) * bin i (j + 1) = (i + 1) * fac (i + j + 1) := by
      rw [← h1, fac]
      simp only [Nat.mul_assoc]
    have e2 : fac (i + 1) * fac (j + 1) * bin (i + 1) j = (j + 1) * fac (i + j + 1) := by
      rw [← h2, show fac (j + 1) = (j + 1) * fac j from rfl]
      simp only [Nat.mul_assoc, Nat.mul_left_comm]
    rw [e1, e2, ← Nat.add_mul, show fac (i + j + 1 + 1) = (i + j + 1 + 1) * fac (i + j + 1) from rfl]
    congr 1
    omega
theorem bin_l : ∀ i j, bin i j ≤ bin (i + 1) j
  | 0, j => by rw [bin]; exact bin_pos _ _
  | i + 1, 0 => by rw [bin, bin]; exact Nat.le_refl _
  | i + 1, j + 1 => by rw [bin.eq_3 (i + 1) j]; omega
theorem bin_r : ∀ i j, bin i j ≤ bin i (j + 1)
  | 0, j => by rw [bin, bin]; exact Nat.le_refl _
  | i + 1, 0 => by rw [bin]; exact bin_pos _ _
  | i + 1, j + 1 => by rw [bin.eq_3 i (j + 1)]; omega
theorem bin_ml (i j : Nat) : ∀ d, bin i j ≤ bin (i + d) j
  | 0 => Nat.le_refl _
  | d + 1 => Nat.le_trans (bin_ml i j d) (bin_l (i + d) j)
theorem bin_mr (i j : Nat) : ∀ d, bin i j ≤ bin i (j + d)
  | 0 => Nat.le_refl _
  | d + 1 => Nat.le_trans (bin_mr i j d) (bin_r i (j + d))
theorem bin_mono {i j i' j' : Nat} (h1 : i ≤ i') (h2 : j ≤ j') : bin i j ≤ bin i' j' := by
  obtain ⟨d, rfl⟩ := Nat.exists_eq_add_of_le h1
  obtain ⟨e, rfl⟩ := Nat.exists_eq_add_of_le h2
  exact Nat.le_trans (bin_ml i j d) (bin_mr (i + d) j e)
theorem bin_mul (i j : Nat) : ∀ i' j', bin i j * bin i' j' ≤ bin (i + i') (j + j')
  | 0, j' => by rw [bin, Nat.mul_one]; exact bin_mono (by omega) (by omega)
  | i' + 1, 0 => by rw [bin, Nat.mul_one]; exact bin_mono (by omega) (by omega)
  | i' + 1, j' + 1 => by
    have h1 := bin_mul i j i' (j' + 1)
    have h2 := bin_mul i j (i' + 1) j'
    rw [bin.eq_3 i' j', Nat.mul_add]
    have e : bin (i + (i' + 1)) (j + (j' + 1)) = bin (i + i') (j + (j' + 1)) + bin (i + (i' + 1)) (j + j') := by
      rw [show i + (i' + 1) = i + i' + 1 by omega, show j + (j' + 1) = j + j' + 1 by omega, bin.eq_3]
    rw [e]
    exact Nat.add_le_add h1 h2
theorem mx_bin : ∀ (n : Nat) (a b : List ByteArray), (mx n a b).length ≤ bin a.length b.length
  | n, [], b => by rw [mx_nil]; exact bin_pos _ _
  | n, x :: a, [] => by rw [mx_nil_r]; exact bin_pos _ _
  | 0, x :: a, y :: b => by simp [mx]
  | n + 1, x :: a, y :: b => by
    simp only [mx, List.length_append, List.length_map]
    have h1 := mx_bin n a (y :: b)
    have h2 := mx_bin n (x :: a) b
    show _ ≤ bin (a.length + 1) (b.length + 1)
    rw [bin]
    exact Nat.add_le_add h1 h2
theorem pr_bin (p q : Tr) : (pr p q).length ≤ bin p.a.length q.a.length := by
  refine Nat.le_trans (length_norm _) ?_
  rw [List.length_map]
  exact mx_bin _ _ _
theorem flat_len {α β : Type} (f : α → List β) (m : Nat) : ∀ l : List α, (∀ x ∈ l, (f x).length ≤ m) → (l.flatMap f).length ≤ l.length * m
  | [], _ => by simp
  | x :: l, h => by
    rw [List.flatMap_cons, List.length_append, List.length_cons, Nat.add_mul, Nat.one_mul, Nat.add_comm]
    exact Nat.add_le_add (flat_len f m l fun y hy => h y (by simp [hy])) (h x (by simp))

/-- The most that n nodes with a actions make. -/
def K (n a : Nat) : Nat := 2 ^ n * fac a
theorem K_pos (n a : Nat) : 1 ≤ K n a := Nat.mul_pos (Nat.two_pow_pos n) (fac_pos a)
theorem fac_add (a b : Nat) : fac a * fac b ≤ fac (a + b) := by
  rw [← fac_bin]
  exact Nat.le_mul_of_pos_right _ (bin_pos a b)
theorem fac_l (a b : Nat) : fac a ≤ fac (a + b) := Nat.le_trans (Nat.le_mul_of_pos_right _ (fac_pos b)) (fac_add a b)
theorem K_more {n n' a a' : Nat} (h1 : n ≤ n') (h2 : a ≤ a') : K n a ≤ K n' a' := by
  obtain ⟨d, rfl⟩ := Nat.exists_eq_add_of_le h2
  exact Nat.mul_le_mul (Nat.pow_le_pow_right (by omega) h1) (fac_l a d)
theorem K_mul (n m a b : Nat) : K n a * (K m b * bin a b) = K (n + m) (a + b) := by
  unfold K
  rw [← fac_bin, Nat.pow_add]
  simp only [Nat.mul_assoc, Nat.mul_left_comm]
theorem K_mul1 (n m a b : Nat) : K n a * K m b ≤ K (n + m) (a + b) := by
  rw [← K_mul]
  exact Nat.mul_le_mul_left _ (Nat.le_mul_of_pos_right _ (bin_pos a b))
theorem K_succ (n a : Nat) : K (n + 1) a = K n a + K n a := by
  unfold K
  rw [Nat.pow_succ, Nat.mul_assoc, Nat.mul_left_comm, Nat.two_mul]
theorem K_add (n m a b : Nat) : K n a + K m b ≤ K (n + m + 1) (a + b) := by
  rw [K_succ]
  exact Nat.add_le_add (K_more (by omega) (by omega)) (K_more (by omega) (by omega))
/-- No trace has more than a of what f asks for; no pair has. -/
def CT (f : ByteArray → Bool) (a : Nat) (A : List Tr) : Prop := ∀ t ∈ A, t.a.countP f ≤ a
def CP (f : ByteArray → Bool) (a : Nat) (X : List Pr) : Prop := ∀ x ∈ X, x.p.a.countP f + x.q.a.countP f ≤ a
theorem thn_cnt (f : ByteArray → Bool) (p q : Tr) : (thn p q).a.countP f ≤ p.a.countP f + q.a.countP f := by
  unfold thn
  split
  · simp [List.countP_append]
  · omega
theorem hnd_cnt (f : ByteArray → Bool) (p q : Tr) : (hnd p q).a.countP f ≤ p.a.countP f + q.a.countP f := by
  unfold hnd
  split
  · simp [List.countP_append]
  · omega
theorem mx_cnt (f : ByteArray → Bool) : ∀ (n : Nat) (a b r : List ByteArray), r ∈ mx n a b → r.countP f = a.countP f + b.countP f
  | n, [], b, r, h => by rw [mx_nil] at h; simp at h; simp [h]
  | n, x :: a, [], r, h => by rw [mx_nil_r] at h; simp at h; simp [h]
  | 0, x :: a, y :: b, r, h => by simp [mx] at h
  | n + 1, x :: a, y :: b, r, h => by
    simp only [mx, List.mem_append, List.mem_map] at h
    rcases h with ⟨s, hs, rfl⟩ | ⟨s, hs, rfl⟩
    · have := mx_cnt f n a (y :: b) s hs
      rw [List.countP_cons, List.countP_cons (l := a), this]
      omega
    · have := mx_cnt f n (x :: a) b s hs
      rw [List.countP_cons, List.countP_cons (l := b), this]
      omega
theorem pr_cnt (f : ByteArray → Bool) {p q t : Tr} (h : t ∈ pr p q) : t.a.countP f = p.a.countP f + q.a.countP f := mx_cnt f _ _ _ _ (mem_pr h).1
theorem one_cnt (f : ByteArray → Bool) {k : Int} {p q t : Tr} (h : t ∈ one k p q) : t.a.countP f ≤ p.a.countP f + q.a.countP f := by
  unfold one at h
  split at h
  · rw [List.mem_singleton] at h; rw [h]; exact thn_cnt f p q
  · split at h
    · exact Nat.le_of_eq (pr_cnt f h)
    · rw [List.mem_singleton] at h; rw [h]; exact hnd_cnt f p q
theorem mem_two {k : Int} {A B : List Tr} {t : Tr} : t ∈ two k A B ↔ if k = 6 then t ∈ A ∨ t ∈ B else ∃ p ∈ A, ∃ q ∈ B, t ∈ one k p q := by
  unfold two
  split
  · exact List.mem_append
  · simp only [List.mem_flatMap]
theorem CT.norm {f : ByteArray → Bool} {a : Nat} {A : List Tr} (h : CT f a A) : CT f a (norm A) := fun t ht => h t ((mem_norm t A).1 ht)
theorem CP.norm {f : ByteArray → Bool} {a : Nat} {X : List Pr} (h : CP f a X) : CP f a (pnorm X) := fun t ht => h t ((pmem_norm t X).1 ht)
theorem two_ct {f : ByteArray → Bool} {k : Int} {A B : List Tr} {a b : Nat} (h1 : CT f a A) (h2 : CT f b B) : CT f (a + b) (two k A B) := fun t ht => by
  rw [mem_two] at ht
  split at ht
  · rcases ht with ht | ht
    · have := h1 t ht; omega
    · have := h2 t ht; omega
  · obtain ⟨p, hp, q, hq, ht⟩ := ht
    have := h1 p hp
    have := h2 q hq
    have := one_cnt f ht
    omega
theorem blk_ct {f : ByteArray → Bool} {X : List Pr} {a : Nat} (h : CP f a X) : CT f a (blk X) := fun t ht => by
  obtain ⟨x, hx, ht⟩ := List.mem_flatMap.1 ht
  have := h x hx
  unfold blk1 at ht
  split at ht
  · rw [List.mem_singleton] at ht; rw [ht]; omega
  · split at ht
    · rw [List.mem_singleton] at ht; rw [ht, List.countP_append]; exact this
    · cases ht
theorem going_cp {f : ByteArray → Bool} {A B : List Tr} {a b : Nat} (h1 : CT f a A) (h2 : CT f b B) : CP f (a + b) (going A B) := fun x hx => by
  obtain ⟨p, hp, hx⟩ := List.mem_flatMap.1 hx
  have := h1 p hp
  unfold going1 at hx
  split at hx
  · obtain ⟨q, hq, rfl⟩ := List.mem_map.1 hx
    have := h2 q hq
    show p.a.countP f + q.a.countP f ≤ a + b
    omega
  · rw [List.mem_singleton] at hx
    rw [hx]
    show p.a.countP f + 0 ≤ a + b
    omega
theorem way_cp {f : ByteArray → Bool} {X : List Pr} {a : Nat} (h : CP f a X) : CP f a (X ++ [way]) := fun x hx => by
  rcases List.mem_append.1 hx with hx | hx
  · exact h x hx
  · rw [List.mem_singleton] at hx
    rw [hx]
    exact Nat.zero_le _
theorem seq_cp {f : ByteArray → Bool} {X Y : List Pr} {a b : Nat} (h1 : CP f a X) (h2 : CP f b Y) : CP f (a + b) (seq X Y) := fun z hz => by
  obtain ⟨x, hx, hz⟩ := List.mem_flatMap.1 hz
  have := h1 x hx
  unfold seq1 at hz
  split at hz
  · obtain ⟨y, hy, rfl⟩ := List.mem_map.1 hz
    have := h2 y hy
    have := thn_cnt f x.p y.p
    have := thn_cnt f y.q x.q
    show (thn x.p y.p).a.countP f + (thn y.q x.q).a.countP f ≤ a + b
    omega
  · rw [List.mem_singleton] at hz
    rw [hz]
    omega
theorem mem_par1 {x y z : Pr} : z ∈ par1 x y ↔ z.p ∈ pr x.p y.p ∧ z.q ∈ pr x.q y.q := by
  unfold par1
  simp only [List.mem_flatMap, List.mem_map]
  constructor
  · rintro ⟨p, hp, q, hq, rfl⟩
    exact ⟨hp, hq⟩
  · rintro ⟨hp, hq⟩
    exact ⟨z.p, hp, z.q, hq, rfl⟩
theorem par_cp {f : ByteArray → Bool} {X Y : List Pr} {a b : Nat} (h1 : CP f a X) (h2 : CP f b Y) : CP f (a + b) (par X Y) := fun z hz => by
  obtain ⟨x, hx, hz⟩ := List.mem_flatMap.1 hz
  obtain ⟨y, hy, hz⟩ := List.mem_flatMap.1 hz
  obtain ⟨hp, hq⟩ := mem_par1.1 hz
  have := h1 x hx
  have := h2 y hy
  rw [pr_cnt f hp, pr_cnt f hq]
  omega
theorem stack_cp {f : ByteArray → Bool} {X : List Pr} {C : List Tr} {a b : Nat} (h1 : CP f a X) (h2 : CT f b C) : CP f (a + b) (stack X C) := fun z hz => by
  obtain ⟨x, hx, hz⟩ := List.mem_flatMap.1 hz
  obtain ⟨c, hc, rfl⟩ := List.mem_map.1 hz
  have := h1 x hx
  have := h2 c hc
  have := thn_cnt f x.q c
  show x.p.a.countP f + (thn x.q c).a.countP f ≤ a + b
  omega
theorem fin_cp {f : ByteArray → Bool} {e : Int} {C : List Tr} {a : Nat} (h : CT f a C) : CP f a (fin e C) := fun z hz => by
  obtain ⟨c, hc, rfl⟩ := List.mem_map.1 hz
  have := h c hc
  show 0 + c.a.countP f ≤ a
  omega
theorem twoP_cp {f : ByteArray → Bool} {k : Int} {X Y : List Pr} {a b : Nat} (h1 : CP f a X) (h2 : CP f b Y) : CP f (a + b) (twoP k X Y) := by
  unfold twoP
  split
  · exact seq_cp h1 h2
  · split
    · exact par_cp h1 h2
    · intro z hz
      rcases List.mem_append.1 hz with hz | hz
      · have := h1 z hz; omega
      · have := h2 z hz; omega
abbrev all : ByteArray → Bool := fun _ => true
theorem CT.len {a : Nat} {A : List Tr} (h : CT all a A) {t : Tr} (ht : t ∈ A) : t.a.length ≤ a := by
  have := h t ht
  rwa [List.countP_true] at this
theorem CP.len {a : Nat} {X : List Pr} (h : CP all a X) {x : Pr} (hx : x ∈ X) : x.p.a.length + x.q.a.length ≤ a := by
  have := h x hx
  rwa [List.countP_true] at this

/-- How many there are. -/
theorem one_len (k : Int) (p q : Tr) : (one k p q).length ≤ bin p.a.length q.a.length := by
  unfold one
  split
  · exact bin_pos _ _
  · split
    · exact pr_bin p q
    · exact bin_pos _ _
theorem two_len {k : Int} {A B : List Tr} {n m a b : Nat} (h1 : CT all a A) (h2 : CT all b B) (l1 : A.length ≤ K n a) (l2 : B.length ≤ K m b) : (two k A B).length ≤ K (n + m + 1) (a + b) := by
  unfold two
  split
  · rw [List.length_append]
    exact Nat.le_trans (Nat.add_le_add l1 l2) (K_add n m a b)
  · refine Nat.le_trans (flat_len _ (K m b * bin a b) A fun p hp => ?_) (Nat.le_trans (Nat.mul_le_mul_right _ l1) (by rw [K_mul]; exact K_more (by omega) (Nat.le_refl _)))
    refine Nat.le_trans (flat_len _ (bin a b) B fun q hq => ?_) (Nat.mul_le_mul_right _ l2)
    exact Nat.le_trans (one_len k p q) (bin_mono (h1.len hp) (h2.len hq))
theorem blk_len {X : List Pr} {n a : Nat} (h : X.length ≤ K n a) : (blk X).length ≤ K (n + 1) a := by
  refine Nat.le_trans (flat_len _ 1 X fun x _ => ?_) (by rw [Nat.mul_one]; exact Nat.le_trans h (K_more (by omega) (Nat.le_refl _)))
  unfold blk1
  repeat' split
  all_goals simp
theorem going_len {A B : List Tr} {n m a b : Nat} (l1 : A.length ≤ K n a) (l2 : B.length ≤ K m b) : (going A B).length ≤ K (n + m) (a + b) := by
  refine Nat.le_trans (flat_len _ (K m b) A fun p _ => ?_) (Nat.le_trans (Nat.mul_le_mul_right _ l1) (K_mul1 n m a b))
  unfold going1
  split
  · rw [List.length_map]; exact l2
  · exact K_pos m b
theorem way_len {X : List Pr} {n a : Nat} (h : X.length ≤ K n a) : (X ++ [way]).length ≤ K (n + 1) a := by
  rw [List.length_append, K_succ]
  exact Nat.add_le_add h (K_pos n a)
theorem seq_len {X Y : List Pr} {n m a b : Nat} (l1 : X.length ≤ K n a) (l2 : Y.length ≤ K m b) : (seq X Y).length ≤ K (n + m) (a + b) := by
  refine Nat.le_trans (flat_len _ (K m b) X fun x _ => ?_) (Nat.le_trans (Nat.mul_le_mul_right _ l1) (K_mul1 n m a b))
  unfold seq1
  split
  · rw [List.length_map]; exact l2
  · exact K_pos m b
theorem par1_len {x y : Pr} {a b : Nat} (h1 : x.p.a.length + x.q.a.length ≤ a) (h2 : y.p.a.length + y.q.a.length ≤ b) : (par1 x y).length ≤ bin a b := by
  refine Nat.le_trans (flat_len _ (bin x.q.a.length y.q.a.length) _ fun p _ => ?_) (Nat.le_trans (Nat.mul_le_mul_right _ (pr_bin _ _)) (Nat.le_trans (bin_mul _ _ _ _) (bin_mono h1 h2)))
  rw [List.length_map]
  exact pr_bin _ _
theorem par_len {X Y : List Pr} {n m a b : Nat} (h1 : CP all a X) (h2 : CP all b Y) (l1 : X.length ≤ K n a) (l2 : Y.length ≤ K m b) : (par X Y).length ≤ K (n + m) (a + b) := by
  refine Nat.le_trans (flat_len _ (K m b * bin a b) X fun x hx => ?_) (Nat.le_trans (Nat.mul_le_mul_right _ l1) (by rw [K_mul]; exact Nat.le_refl _))
  refine Nat.le_trans (flat_len _ (bin a b) Y fun y hy => ?_) (Nat.mul_le_mul_right _ l2)
  exact par1_len (h1.len hx) (h2.len hy)
theorem stack_len {X : List Pr} {C : List Tr} {n m a b : Nat} (l1 : X.length ≤ K n a) (l2 : C.length ≤ K m b) : (stack X C).length ≤ K (n + m) (a + b) := by
  refine Nat.le_trans (flat_len _ (K m b) X fun x _ => ?_) (Nat.le_trans (Nat.mul_le_mul_right _ l1) (K_mul1 n m a b))
  unfold stack1
  rw [List.length_map]; exact l2
theorem twoP_len {k : Int} {X Y : List Pr} {n m a b : Nat} (h1 : CP all a X) (h2 : CP all b Y) (l1 : X.length ≤ K n a) (l2 : Y.length ≤ K m b) : (twoP k X Y).length ≤ K (n + m + 1) (a + b) := by
  unfold twoP
  split
  · exact Nat.le_trans (seq_len l1 l2) (K_more (by omega) (Nat.le_refl _))
  · split
    · exact Nat.le_trans (par_len h1 h2 l1 l2) (K_more (by omega) (Nat.le_refl _))
    · rw [List.length_append]
      exact Nat.le_trans (Nat.add_le_add l1 l2) (K_add n m a b)

/-- How they end. -/
def Sgn (e : Int) : Prop := e = 1 ∨ e = 2 ∨ e = 3
def ST (A : List Tr) : Prop := ∀ t ∈ A, Sgn t.e
def SP (X : List Pr) : Prop := ∀ x ∈ X, Sgn x.p.e ∧ Sgn x.q.e
theorem sgn_both {a b : Int} (h1 : Sgn a) (h2 : Sgn b) : Sgn (Sg.both a b) := by
  rcases h1 with rfl | rfl | rfl <;> rcases h2 with rfl | rfl | rfl <;> first | exact Or.inl rfl | exact Or.inr (Or.inl rfl) | exact Or.inr (Or.inr rfl)
theorem sgn_thn {p q : Tr} (h1 : Sgn p.e) (h2 : Sgn q.e) : Sgn (thn p q).e := by
  unfold thn
  split
  · exact h2
  · exact h1
theorem sgn_pr {p q t : Tr} (h1 : Sgn p.e) (h2 : Sgn q.e) (h : t ∈ pr p q) : Sgn t.e := by
  rw [(mem_pr h).2]
  exact sgn_both h1 h2
theorem ST.norm {A : List Tr} (h : ST A) : ST (norm A) := fun t ht => h t ((mem_norm t A).1 ht)
theorem SP.norm {X : List Pr} (h : SP X) : SP (pnorm X) := fun t ht => h t ((pmem_norm t X).1 ht)
theorem two_st {k : Int} {A B : List Tr} (h1 : ST A) (h2 : ST B) : ST (two k A B) := fun t ht => by
  rw [mem_two] at ht
  split at ht
  · exact ht.elim (h1 t) (h2 t)
  · obtain ⟨p, hp, q, hq, ht⟩ := ht
    unfold one at ht
    split at ht
    · rw [List.mem_singleton] at ht; rw [ht]; exact sgn_thn (h1 p hp) (h2 q hq)
    · split at ht
      · exact sgn_pr (h1 p hp) (h2 q hq) ht
      · rw [List.mem_singleton] at ht
        rw [ht]
        unfold hnd
        split
        · exact h2 q hq
        · exact h1 p hp
theorem blk_st {X : List Pr} (h : SP X) : ST (blk X) := fun t ht => by
  obtain ⟨x, hx, ht⟩ := List.mem_flatMap.1 ht
  have := h x hx
  unfold blk1 at ht
  split at ht
  · rw [List.mem_singleton] at ht; rw [ht]; exact this.1
  · split at ht
    · rw [List.mem_singleton] at ht; rw [ht]; exact this.2
    · cases ht
theorem sgn1 : Sgn 1 := Or.inl rfl
theorem sgn3 : Sgn 3 := Or.inr (Or.inr rfl)
theorem going_sp {A B : List Tr} (h1 : ST A) (h2 : ST B) : SP (going A B) := fun x hx => by
  obtain ⟨p, hp, hx⟩ := List.mem_flatMap.1 hx
  unfold going1 at hx
  split at hx
  · obtain ⟨q, hq, rfl⟩ := List.mem_map.1 hx
    exact ⟨h1 p hp, h2 q hq⟩
  · rw [List.mem_singleton] at hx
    rw [hx]
    exact ⟨h1 p hp, sgn1⟩
theorem way_sp {X : List Pr} (h : SP X) : SP (X ++ [way]) := fun x hx => by
  rcases List.mem_append.1 hx with hx | hx
  · exact h x hx
  · rw [List.mem_singleton] at hx
    rw [hx]
    exact ⟨sgn3, sgn1⟩
theorem seq_sp {X Y : List Pr} (h1 : SP X) (h2 : SP Y) : SP (seq X Y) := fun z hz => by
  obtain ⟨x, hx, hz⟩ := List.mem_flatMap.1 hz
  unfold seq1 at hz
  split at hz
  · obtain ⟨y, hy, rfl⟩ := List.mem_map.1 hz
    exact ⟨sgn_thn (h1 x hx).1 (h2 y hy).1, sgn_thn (h2 y hy).2 (h1 x hx).2⟩
  · rw [List.mem_singleton] at hz
    rw [hz]
    exact h1 x hx
theorem par_sp {X Y : List Pr} (h1 : SP X) (h2 : SP Y) : SP (par X Y) := fun z hz => by
  obtain ⟨x, hx, hz⟩ := List.mem_flatMap.1 hz
  obtain ⟨y, hy, hz⟩ := List.mem_flatMap.1 hz
  obtain ⟨hp, hq⟩ := mem_par1.1 hz
  exact ⟨sgn_pr (h1 x hx).1 (h2 y hy).1 hp, sgn_pr (h1 x hx).2 (h2 y hy).2 hq⟩
theorem stack_sp {X : List Pr} {C : List Tr} (h1 : SP X) (h2 : ST C) : SP (stack X C) := fun z hz => by
  obtain ⟨x, hx, hz⟩ := List.mem_flatMap.1 hz
  obtain ⟨c, hc, rfl⟩ := List.mem_map.1 hz
  exact ⟨(h1 x hx).1, sgn_thn (h1 x hx).2 (h2 c hc)⟩
theorem fin_sp {e : Int} {C : List Tr} (he : Sgn e) (h : ST C) : SP (fin e C) := fun z hz => by
  obtain ⟨c, hc, rfl⟩ := List.mem_map.1 hz
  exact ⟨he, h c hc⟩
theorem twoP_sp {k : Int} {X Y : List Pr} (h1 : SP X) (h2 : SP Y) : SP (twoP k X Y) := by
  unfold twoP
  split
  · exact seq_sp h1 h2
  · split
    · exact par_sp h1 h2
    · intro z hz
      exact (List.mem_append.1 hz).elim (h1 z) (h2 z)

/-- One that ends well, or throws. -/
def LT (A : List Tr) : Prop := ∃ t ∈ A, t.e = 1 ∨ t.e = 2
def LP (X : List Pr) : Prop := ∃ x ∈ X, (x.p.e = 1 ∨ x.p.e = 2) ∧ (x.q.e = 1 ∨ x.q.e = 2)
theorem LT.norm {A : List Tr} (h : LT A) : LT (norm A) := by
  obtain ⟨t, ht, h⟩ := h
  exact ⟨t, (mem_norm t A).2 ht, h⟩
theorem LP.norm {X : List Pr} (h : LP X) : LP (pnorm X) := by
  obtain ⟨t, ht, h⟩ := h
  exact ⟨t, (pmem_norm t X).2 ht, h⟩
theorem LT.ne {A : List Tr} (h : LT A) : A ≠ [] := fun e => by
  obtain ⟨t, ht, _⟩ := h
  rw [e] at ht
  cases ht
theorem LP.more {X Y : List Pr} (h : LP X) : LP (X ++ Y) := by
  obtain ⟨x, hx, e⟩ := h
  exact ⟨x, List.mem_append.2 (.inl hx), e⟩
end Go.Proofs.Ytekblibhaipioaa.Mn
