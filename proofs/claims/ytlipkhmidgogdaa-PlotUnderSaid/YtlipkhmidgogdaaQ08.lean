/- Rows of lines; what holds in the midst of Lines' region. The program's Over: slices.Clone over numbers, a range that is left early. -/
import Derived.Test.YtlipkhmidgogdaaQ07
import Derived.Lib.SliceRun

namespace Go.Proofs.Ytlipkhmidgogdaa.Pl
open Go Go.RowKit Go.Proofs.Ytlipkhmidgogdaa.Rw Go.Proofs.Ytlipkhmidgogdaa.So Go.Proofs.Ytlipkhmidgogdaa.Ro
set_option maxRecDepth 20000

abbrev Pnt := Nat × Nat
/-- The cells of lines. -/
def lcs : List (Pnt × Pnt) → List Value
  | [] => []
  | (a, b) :: l => cx a :: cx b :: lcs l
theorem lcs_append : ∀ l m, lcs (l ++ m) = lcs l ++ lcs m
  | [], _ => rfl
  | (a, b) :: l, m => by rw [List.cons_append, lcs, lcs_append l m, lcs, List.cons_append, List.cons_append]
theorem lcs_at : ∀ (l : List (Pnt × Pnt)) (k : Nat) (h : k < l.length), (lcs l)[k * 2]? = some (cx l[k].1) ∧ (lcs l)[k * 2 + 1]? = some (cx l[k].2)
  | [], k, h => by simp at h
  | (a, b) :: l, 0, _ => ⟨rfl, rfl⟩
  | (a, b) :: l, k + 1, h => by
    have := lcs_at l k (by simpa using h)
    simpa [lcs, show (k + 1) * 2 = k * 2 + 1 + 1 by omega] using this
theorem infoL : (Try.prog.info? 31).map (fun i => (i.zero, i.size, i.bytes)) = some (some (.agg #[.complex .f64 0 0, .complex .f64 0 0]), 2, 32) := by kernel_rfl
/-- A slice of lines that reads as these. -/
def Lns (w : World) (v : Value) (P : List (Pnt × Pnt)) : Prop := Ap.Rd w 2 v P.length (lcs P)
theorem Lns.below {w w' : World} {v : Value} {P : List (Pnt × Pnt)} (h : Lns w v P) (hb : Below w.heap.size w w') : Lns w' v P := Ap.Rd.below h hb
def OwL (q : Nat) (w : World) (v : Value) (P : List (Pnt × Pnt)) : Prop := w.ownsRow q 31 2 v P.length (lcs P)
theorem OwL.lns {q : Nat} {w : World} {v : Value} {P : List (Pnt × Pnt)} (h : OwL q w v P) : Lns w v P := Ap.Rd.owned h
theorem OwL.ge {q : Nat} {w : World} {v : Value} {P : List (Pnt × Pnt)} (h : OwL q w v P) : ∀ g, v.ownBlock = some g → q ≤ g ∧ g < w.heap.size := fun g hg => by
  refine ⟨?_, Ap.own_lt h g hg⟩
  obtain ⟨_, ⟨rfl, _⟩ | ⟨g', cap, cur, rfl, hq, _⟩⟩ := h
  · cases hg
  · cases hg; exact hq
theorem OwL.turn {q : Nat} {M : Nat → Prop} {w w' : World} {v : Value} {P : List (Pnt × Pnt)} (h : OwL q w v P) (ht : Turn M w w') (hn : ∀ g, v.ownBlock = some g → ¬ M g) : OwL q w' v P := own_turn h ht hn
/-- One line in a new block. -/
def New2 (A : World) (v a b : Value) (w : World) : Prop := ∃ g, v = .slice (some ⟨g, 0, none⟩) 1 1 ∧ A.heap.size ≤ g ∧ w.cell? ⟨g, 0, none⟩ = some a ∧ w.cell? ⟨g, 1, none⟩ = some b
theorem New2.rd {A : World} {v a b : Value} {w : World} (h : New2 A v a b w) : Ap.Rd w 2 v 1 [a, b] := by
  obtain ⟨g, rfl, _, hc, hd⟩ := h
  refine ⟨rfl, _, 1, rfl, Nat.le_refl _, fun h => (by cases h), fun _ => ⟨g, 0, rfl, fun j u' hu => ?_⟩⟩
  match j with
  | 0 => simp at hu; subst hu; exact hc
  | 1 => simp at hu; subst hu; exact hd
  | j + 2 => simp at hu
theorem New2.turn {A : World} {v a b : Value} {M : Nat → Prop} {w w' : World} (h : New2 A v a b w) (ht : Turn M w w') (hn : ∀ g, A.heap.size ≤ g → ¬ M g) : New2 A v a b w' := by
  obtain ⟨g, rfl, hg, hc, hd⟩ := h
  exact ⟨g, rfl, hg, ht.cell hc (hn g hg), ht.cell hd (hn g hg)⟩
theorem New2.new {A : World} {a b : Value} {t : TypeId} {w : World} (hw : A.heap.size ≤ w.heap.size) : New2 A (.slice (some ⟨w.heap.size, 0, none⟩) 1 1) a b (w.alloc (.cells #[a, b] t)) := ⟨_, rfl, hw, by simp, by simp⟩
theorem OwL.push {q : Nat} {w : World} {v x : Value} {P : List (Pnt × Pnt)} {a b : Pnt} (h : OwL q w v P) (hq : q ≤ w.heap.size) (hx : Ap.Rd w 2 x 1 [cx a, cx b]) (hl : P.length ≤ 2199023255552) :
    ∃ v' w', (Builtin.append_ #[29, 29] 29 #[v, x]).run Try.prog w = .ok v' w' ∧ OwL q w' v' (P ++ [(a, b)]) ∧ w.grownBy w' v.ownBlock ∧ Ap.Fresh w v v' := by
  obtain ⟨i0, hi, hz, hs1, hb8⟩ := info_parts infoL
  obtain ⟨v', w', h1, h2, h3, _, h5⟩ := Ap.run_append_rd (P := Try.prog) (ty := 29) Try.underlying29 hi hz hs1 hb8 (by rfl) (by omega) h hq hx
    (by intro u hu; simp at hu; rcases hu with rfl | rfl <;> rfl) (by unfold maxLen; omega) (by omega)
  refine ⟨v', w', h1, ?_, h3, h5⟩
  unfold OwL
  rw [lcs_append, show (P ++ [(a, b)]).length = P.length + 1 by simp]
  exact h2
/-- The node behind which node k stands; its line; the lines of the first k nodes; all lines. -/
def par (l : List Nd) (k : Nat) : Nat := (ov l k).getLastD 0
def ln (l : List Nd) (k : Nat) : Pnt × Pnt := (pt l (par l k), pt l k)
def lnsN (l : List Nd) (k : Nat) : List (Pnt × Pnt) := (List.range (k - 1)).map fun j => ln l (j + 1)
def lns (l : List Nd) : List (Pnt × Pnt) := lnsN l (rounds l)
theorem lnsN_succ (l : List Nd) (k : Nat) : lnsN l (k + 1 + 1) = lnsN l (k + 1) ++ [ln l (k + 1)] := by
  unfold lnsN
  rw [show k + 1 + 1 - 1 = k + 1 by omega, show k + 1 - 1 = k by omega, List.range_succ, List.map_append]
  rfl
theorem lnsN_one (l : List Nd) : lnsN l 1 = lnsN l 0 := rfl
theorem lnsN_len (l : List Nd) (k : Nat) : (lnsN l k).length = k - 1 := by unfold lnsN; simp
theorem par_is {l : List Nd} (ht : Tre l) {k : Nat} (h0 : 0 < k) (hk : k < l.length) : par l k < k ∧ 0 < (ov l k).length ∧ (ov l k)[(ov l k).length - 1]? = some (par l k) ∧ (pt l k).2 = (pt l (par l k)).2 + 1 ∧ (pt l (par l k)).1 ≤ (pt l k).1 := by
  obtain ⟨o, h1, h2, h3⟩ := parent ht h0 hk
  have hp : par l k = o := by unfold par; rw [h3]; simp
  refine ⟨by omega, by rw [h3]; simp, by rw [h3, hp]; simp, ?_, ?_⟩
  · rw [hp]
    show (ov l k).length = (ov l o).length + 1
    rw [h3]
    simp
  · rw [hp]
    exact xl_mono (by omega)

/-! ### The region -/
def Mk2 (vm : Value) (bm : Nat) (i t : Nat) : Prop := (i = 16 ∧ vm.ownBlock = some t) ∨ (i = 17 ∧ t = bm)
def GrL (q : Nat) (A : World) (v0 v : Value) (P : List (Pnt × Pnt)) (w : World) : Prop := OwL q w v P ∧ ∀ g, v.ownBlock = some g → v0.ownBlock = some g ∨ A.heap.size ≤ g
def Rk2 (q : Nat) (A : World) (vm vp va : Value) (bm ab ao pb po n o k : Nat) (p1 p2 : Pnt) (P : List (Pnt × Pnt)) (i : Nat) (v : Value) (w : World) : Prop := match i with
  | 0 => v = vm
  | 1 => v = vp
  | 2 => v = va
  | 3 => v = va
  | 4 => v = .int .i64 (n + 1 : Nat)
  | 5 => v = .int .i64 (n : Nat)
  | 6 => v = .pointer (some ⟨ab, ao + n, none⟩)
  | 7 => v = .int .i64 (o : Nat)
  | 8 => v = .pointer (some ⟨pb, po + o, none⟩)
  | 9 => v = .complex .f64 (fo p1.1) (fo p1.2)
  | 10 => v = vp
  | 11 => v = .int .i64 (k : Nat)
  | 12 => v = .pointer (some ⟨pb, po + k, none⟩)
  | 13 => v = .complex .f64 (fo p2.1) (fo p2.2)
  | 14 => v = .agg #[.complex .f64 (fo p1.1) (fo p1.2), .complex .f64 (fo p2.1) (fo p2.2)]
  | 15 => New2 A v (cx p1) (cx p2) w
  | 16 => GrL q A vm v (P ++ [(p1, p2)]) w
  | 17 => ∃ v', w.cell? ⟨bm, 0, none⟩ = some v' ∧ w.frozen? ⟨bm, 0, none⟩ = false ∧ GrL q A vm v' (P ++ [(p1, p2)]) w
  | _ => True
def Nk2 (A : World) (vm : Value) (bm : Nat) (i : Nat) (w : World) : Prop := (i < 17 → Below A.heap.size A w) ∧ (i = 17 → w.cell? ⟨bm, 0, none⟩ = some vm ∧ w.frozen? ⟨bm, 0, none⟩ = false)
def tabK : List (List Nat) := [[], [], [], [], [3], [3, 4], [2, 3, 4, 5], [2, 3, 4, 5, 6], [1, 2, 3, 4, 5, 6, 7], [1, 2, 3, 4, 5, 6, 7, 8], [], [], [10, 11], [10, 11, 12], [1, 2, 3, 4, 5, 6, 7, 8, 9, 10, 11, 12, 13], [1, 2, 3, 4, 5, 6, 7, 8, 9, 10, 11, 12, 13, 14], [0, 1, 2, 3, 4, 5, 6, 7, 8, 9, 10, 11, 12, 13, 14, 15], [0, 1, 2, 3, 4, 5, 6, 7, 8, 9, 10, 11, 12, 13, 14, 15, 16]]
structure SepK (q : Nat) (A : World) (vm : Value) (bm : Nat) : Prop where
  hm : ∀ g, vm.ownBlock = some g → q ≤ g ∧ g < A.heap.size
  hb : bm < q
  hq : q ≤ A.heap.size
section
variable {q : Nat} {A : World} {vm vp va : Value} {bm ab ao pb po n o k : Nat} {p1 p2 : Pnt} {P : List (Pnt × Pnt)}
theorem SepK.mn (hs : SepK q A vm bm) (i : Nat) : ∀ g, A.heap.size ≤ g → ¬ Mk2 vm bm i g := by
  rintro g hg (⟨_, h⟩ | ⟨_, h⟩)
  · have := hs.hm _ h; omega
  · have := hs.hb; have := hs.hq; omega
theorem Bk2.turn (i : Nat) (w w' : World) (h : Turn (fun t => vm.ownBlock = some t ∨ t = bm) A w) (ht : Turn (Mk2 vm bm i) w w') : Turn (fun t => vm.ownBlock = some t ∨ t = bm) A w' :=
  h.trans (ht.imp (by rintro t (⟨_, h⟩ | ⟨_, h⟩); exact .inl h; exact .inr h))
theorem Rk2.turn (hs : SepK q A vm bm) (i j : Nat) (v : Value) (w w' : World) (hij : i ≠ j) (hlt : i < 18) (hp : Rq.tab tabK j i = false) (h : Rk2 q A vm vp va bm ab ao pb po n o k p1 p2 P j v w) (ht : Turn (Mk2 vm bm i) w w') : Rk2 q A vm vp va bm ab ao pb po n o k p1 p2 P j v w' := by
  unfold Rk2 at h ⊢
  split at h
  case h_16 => exact h.turn ht (hs.mn i)
  case h_17 =>
    refine ⟨h.1.turn ht fun g hg hm => ?_, h.2⟩
    rcases hm with ⟨rfl, _⟩ | ⟨_, h7⟩
    · exact hij rfl
    · have := h.1.ge g hg; have := hs.hb; omega
  case h_18 =>
    exfalso
    have : ∀ i, i < 18 → i ≠ 17 → Rq.tab tabK 17 i = true := by decide
    rw [this i hlt hij] at hp
    cases hp
  all_goals exact h
theorem Nk2.turn (hs : SepK q A vm bm) (i j : Nat) (w w' : World) (hij : i ≠ j) (hp : Rq.tab tabK i j = false) (h : Nk2 A vm bm j w) (ht : Turn (Mk2 vm bm i) w w') : Nk2 A vm bm j w' := by
  have h16 : ∀ j, j < 16 → Rq.tab tabK 16 j = true := by decide
  have h17 : ∀ j, j < 17 → Rq.tab tabK 17 j = true := by decide
  refine ⟨fun hj => ?_, fun hj => ?_⟩
  · have hb := h.1 hj
    refine hb.trans (ht.below hb.size fun t hm => ?_)
    exfalso
    rcases hm with ⟨rfl, _⟩ | ⟨rfl, _⟩
    · rw [h16 j (by omega)] at hp; cases hp
    · rw [h17 j hj] at hp; cases hp
  · obtain ⟨h1, h2⟩ := h.2 hj
    have hn : ¬ Mk2 vm bm i bm := by
      rintro (⟨_, h⟩ | ⟨h, _⟩)
      · have := hs.hm _ h; have := hs.hb; omega
      · exact hij (h.trans hj.symm)
    exact ⟨ht.cell h1 hn, (turn_frozen ht h1 hn).trans h2⟩
theorem GrL.grow {v0 v' : Value} {P : List (Pnt × Pnt)} {w w' : World} (h1 : OwL q w' v' P) (hf : Ap.Fresh w v0 v') (hw : A.heap.size ≤ w.heap.size) : GrL q A v0 v' P w' :=
  ⟨h1, fun g hg => by
    rcases hf with hf | ⟨g', hf, hle⟩
    · rw [hf] at hg; exact .inl hg
    · rw [hf] at hg; cases hg; exact .inr (by omega)⟩
end
end Go.Proofs.Ytlipkhmidgogdaa.Pl

namespace Go.Proofs.Ytlipkhmidgogdaa.Pl
open Go Go.RowKit Go.Proofs.Ytlipkhmidgogdaa.Rw Go.Proofs.Ytlipkhmidgogdaa.So Go.Proofs.Ytlipkhmidgogdaa.Ro
set_option maxRecDepth 20000
attribute [local go_sem] Oper.semAt_some

theorem own_madeI (w : World) : (w.alloc (.cells #[] 3)).ownsRow w.heap.size 3 1 (.slice (some ⟨w.heap.size, 0, none⟩) 0 0) 0 [] :=
  ⟨rfl, .inr ⟨w.heap.size, 0, #[], rfl, Nat.le_refl _, by show (w.heap.push _)[w.heap.size]? = _; simp, Nat.le_refl _, Nat.zero_le _, rfl, rfl⟩⟩
set_option maxHeartbeats 800000 in
theorem cloneI_any (x : Value) (L : List Nat) (w : World) (hx : Rf.Plc w x L) (hlen : L.length ≤ 4398046511104) :
    Calls Try.prog 35 #[x] w fun e w' => ∃ v, e = .returned v ∧ w'.ownsRow w.heap.size 3 1 v L.length (Rx.ic L) ∧ Below w.heap.size w w' := by
  have q : ∀ (w : World) (a : Option Addr) (n c n' c' : Nat), (binOp .eql 37 (.slice a n c) (.slice none n' c')).run Try.prog w = .ok (.bool a.isNone) w := fun w a n c n' c' => Lib.run_eql_slice_nil w _ _ a n c n' c' Try.underlying37
  have hb0 : Below w.heap.size w (w.alloc (.cells #[] 3)) := below1 w _
  obtain ⟨i0, hi, hz, hs1, hb8⟩ := info_parts Rx.infoI
  obtain ⟨v1, w1, hrun, hown, _, hb, _⟩ := Ap.run_append_rd (P := Try.prog) (ty := 37) Try.underlying37 hi hz hs1 hb8 (by rfl) (by omega) (own_madeI w) hb0.size (hx.below hb0)
    (by intro u hu; rw [List.mem_map] at hu; obtain ⟨k, _, rfl⟩ := hu; rfl) (by unfold maxLen; omega) (by omega)
  rw [List.nil_append, Nat.zero_add] at hown
  obtain ⟨hl, a, c, rfl, _, hn, _⟩ := hx
  cases a with
  | none =>
    obtain ⟨h0, rfl⟩ := hn rfl
    obtain rfl : L = [] := List.eq_nil_of_length_eq_zero h0
    clear hrun hown hb hb0 hl hn h0 hi hz hs1 hb8
    go_enter Try.func35, Try.ntmps35
    go_wp2_with fail
    go_ret
    exact ⟨_, rfl, ⟨rfl, .inl ⟨rfl, rfl⟩⟩, Below.refl _ _⟩
  | some ad =>
    have R := Lib.hid hrun
    have O := Lib.hid hown
    have B := Lib.hid (hb0.trans hb)
    clear hrun hown hb hb0 hn hl hi hz hs1 hb8
    go_enter Try.func35, Try.ntmps35
    go_wp2_with (at_builtin; refine Ap.wpList_append_run (by rfl) _ _ _ _ rfl _ _ rfl rfl v1 w1 R.out ?_)
    go_ret
    exact ⟨_, rfl, O.out, B.out⟩

/-- The places of the nodes above node k, or none. -/
def ovI (l : List Nd) (k : Int) : List Nat := if 0 ≤ k ∧ k < rounds l then ov l k.toNat else []
/-- Between two rounds of Over. -/
structure Ost (w : World) (l : List Nd) (kk : Int) (k : Nat) (W : World) : Prop where
  ck : W.cell? ⟨w.heap.size, 0, none⟩ = some (.int .i64 kk)
  cr : W.cell? ⟨w.heap.size + 1, 0, none⟩ = some (.slice none 0 0)
  fr : W.frozen? ⟨w.heap.size + 1, 0, none⟩ = false
  no : ∀ j : Nat, j < k → (j : Int) ≠ kk
  bel : Below w.heap.size w W
  size : w.heap.size + 3 ≤ W.heap.size
theorem Ost.turn {w : World} {l : List Nd} {T : Nat → Prop} {kk : Int} {k : Nat} {A B : World} (h : Ost w l kk k A) (hT : ∀ t, T t → w.heap.size + 3 ≤ t ∧ t < A.heap.size) (ht : Turn T A B) : Ost w l kk k B := by
  have n0 : ∀ t, t < w.heap.size + 3 → ¬ T t := fun t h1 h2 => by have := hT t h2; omega
  exact ⟨ht.cell h.ck (n0 _ (by show w.heap.size < _; omega)), ht.cell h.cr (n0 _ (by show w.heap.size + 1 < _; omega)), (turn_frozen ht h.cr (n0 _ (by show w.heap.size + 1 < _; omega))).trans h.fr, h.no, h.bel.trans (ht.below h.bel.size fun t h' => by have := hT t h'; omega), Nat.le_trans h.size ht.size⟩
/-- Left. -/
structure Oed (w : World) (l : List Nd) (kk : Int) (T : Nat → Prop) (y : Value) (W : World) : Prop where
  lt : 0 ≤ kk ∧ kk < rounds l
  cr : W.cell? ⟨w.heap.size + 1, 0, none⟩ = some y
  own : Ow W y (ov l kk.toNat)
  apart : ∀ g, y.ownBlock = some g → ¬ T g
  bel : Below w.heap.size w W
theorem Oed.turn {w : World} {l : List Nd} {T : Nat → Prop} {kk : Int} {y : Value} {A B : World} (h : Oed w l kk T y A) (hT : ∀ t, T t → w.heap.size + 3 ≤ t ∧ t < A.heap.size) (ht : Turn T A B) : Oed w l kk T y B :=
  ⟨h.lt, ht.cell h.cr (fun h' => by have := (hT _ h').1; change _ ≤ w.heap.size + 1 at this; omega), h.own.turn ht h.apart, h.apart, h.bel.trans (ht.below h.bel.size fun t h' => by have := hT t h'; omega)⟩

set_option maxHeartbeats 400000 in
theorem overP_any (v : Value) (l : List Nd) (kk : Int) (w : World) (hv : Nds w v l) (hl : l.length ≤ 4398046511104) :
    Calls Try.prog 19 #[v, .int .i64 kk] w fun e w' => ∃ y, e = .returned y ∧ Rf.Plc w' y (ovI l kk) ∧ Below w.heap.size w w' := by
  have HN := Lib.hid hv
  obtain ⟨_, a, cap, rfl, -⟩ := hv
  refine calls_of_marks Try.func19 rfl ?_
  simp only [Try.ntmps19, List.size_toArray, List.length_cons, List.length_nil, Nat.reduceAdd, Nat.reduceSub, Array.replicate_succ, Array.replicate_zero, List.push_toArray, List.append_toArray, List.nil_append, List.cons_append]
  go_wp2_with fail
  refine (nodes_any a l.length cap _).mono ?_
  rintro e w' ⟨rfl, rfl⟩
  go_wp2_with fail
  obtain ⟨wl, hwl⟩ : ∃ wl, (((w.alloc (.cells #[.int .i64 kk] 3)).alloc (.cells #[.slice none 0 0] 37)).alloc (.cells #[.slice a l.length cap] 22)) = wl := ⟨_, rfl⟩
  have hsz : wl.heap.size = w.heap.size + 3 := by rw [← hwl]; simp
  have hbl : Below w.heap.size w wl := by
    rw [← hwl]
    exact ((below1 w _).alloc (by simp) _).alloc (by simp; omega) _
  have b0 := cell_new_l w (.int .i64 kk) 3
  have b1 := cell_new_l (w.alloc (.cells #[.int .i64 kk] 3)) (.slice none 0 0) 37
  have b2 := cell_new_l ((w.alloc (.cells #[.int .i64 kk] 3)).alloc (.cells #[.slice none 0 0] 37)) (.slice a l.length cap) 22
  simp only [World.size_alloc] at b1 b2
  have hc0 := (cell_al (.cells #[.slice a l.length cap] 22) (cell_al (.cells #[.slice none 0 0] 37) b0)).1
  have hc1 := cell_al (.cells #[.slice a l.length cap] 22) b1
  have hc2 := b2.1
  rw [hwl] at hc0 hc1 hc2 ⊢
  clear b0 b1 b2 hwl
  refine wp_range (gf := 38) (lb := #[.pointer (some ⟨w.heap.size + 1 + 1, 0, none⟩)]) rfl (enters_of Try.func38 (by kernel_rfl) rfl)
    (iter_any (w.heap.size + 1 + 1) _ l w wl HN.out hl hbl hc2) (by omega) (Below.refl _ _) Told.size Told.stay
    (fun T k W => Ost w l kk k W) (fun c T k W => c = .ret ∧ ∃ y, Oed w l kk T y W)
    (fun T k A B h hT ht => h.turn (by rw [← hsz]; exact hT) ht) (fun T k A B h hT ht _ => h.turn (by rw [← hsz]; exact hT) ht) (fun c T k A B ⟨e, y, h⟩ hT ht _ => ⟨e, y, h.turn (by rw [← hsz]; exact hT) ht⟩)
    (fun W hb _ => ⟨by rw [hb.cell (Ap.cell_lt hc0)]; exact hc0, by rw [hb.cell (Ap.cell_lt hc1.1)]; exact hc1.1, (World.frozen?_of_block (hb.block _ (Ap.cell_lt hc1.1))).trans hc1.2, fun j hj => absurd hj (Nat.not_lt_zero j), hbl.trans (hb.mono hbl.size), by have := hb.size; omega⟩)
    (fun args => { tmps := #[.slice a l.length cap, .int .i64 kk, undef, .pointer (some ⟨w.heap.size, 0, none⟩), .pointer (some ⟨w.heap.size + 1, 0, none⟩), args.getD 0 undef, args.getD 1 undef, .slice a l.length cap, .func (.func 38) #[] #[.pointer (some ⟨w.heap.size + 1 + 1, 0, none⟩)], args.getD 0 undef, args.getD 1 undef, undef, undef, undef, undef, undef], defers := [] }) ?assign ?body ?done ?stop
  case assign =>
    rintro l0 k args A K ⟨va, rfl, hva⟩ hK
    gi_wp2
    exact hK
  case body =>
    rintro l0 T k args A hp hT hk ⟨va, rfl, hva⟩
    have hlt := rounds_lt hk
    have hck := hp.ck
    obtain ⟨_, aa, ca, rfl, -⟩ := id hva
    have HP := Lib.hid hp
    have HT3 : Hid (∀ t, T t → w.heap.size + 3 ≤ t ∧ t < A.heap.size) := Lib.hid (by rw [← hsz]; exact hT)
    have HVA := Lib.hid hva
    have HK := Lib.hid hk
    have HLV : Hid ((ov l k).length ≤ 4398046511104) := Lib.hid (by
      unfold ov
      exact Nat.le_trans (List.length_filter_le _ _) (by simp; omega))
    clear hp hT hva hk
    by_cases he : (k : Int) = kk
    · subst he
      gi_wp2
      refine ⟨trivial, rfl, (CallsIn.inRound l0 (callsIn_wide.2 (cloneI_any _ _ A HVA.out HLV.out))).mono ?_⟩
      rintro e w2 ⟨y, rfl, hown, hb⟩
      have hlk := HP.out.size
      have hbA := hb.size
      have hr2 : w2.cell? ⟨w.heap.size + 1, 0, none⟩ = some (.slice none 0 0) := by rw [hb.cell (Ap.cell_lt HP.out.cr)]; exact HP.out.cr
      have hf2 : w2.frozen? ⟨w.heap.size + 1, 0, none⟩ = false := (World.frozen?_of_block (hb.block _ (Ap.cell_lt HP.out.cr))).trans HP.out.fr
      have hyb : ∀ g, y.ownBlock = some g → A.heap.size ≤ g := fun g hg => by
        obtain ⟨_, ⟨rfl, _⟩ | ⟨g', cp, cur, rfl, hq, _⟩⟩ := hown
        · cases hg
        · cases hg; exact hq
      have hown0 : Ow w2 y (ov l k) := Ap.own_base hown (Nat.zero_le _)
      have HE : Hid (Oed w l (k : Int) T y (w2.setCell ⟨w.heap.size + 1, 0, none⟩ y)) := by
        refine Lib.hid ⟨⟨by omega, by have := HK.out; omega⟩, World.cell?_setCell_same' _ _ _ (by rw [hr2]; rfl), ?_, fun g hg ht => ?_, ?_⟩
        · rw [Int.toNat_natCast]
          exact hown0.turn (M := fun t => t = w.heap.size + 1) (Turn.setCell rfl) fun g hg e => by have := hyb g hg; omega
        · have h1 := hyb g hg
          have h2 := HT3.out g ht
          omega
        · exact (HP.out.bel.trans (hb.mono HP.out.bel.size)).trans ((Turn.setCell (T := fun t => t = w.heap.size + 1) rfl).below (by omega) fun t h => by omega)
      have HKp : Hid (Keep (fun t => T t ∨ t < w.heap.size) A (w2.setCell ⟨w.heap.size + 1, 0, none⟩ y)) := Lib.hid
        ((Keep.of_below hb fun t h => by
          rcases h with h | h
          · exact (HT3.out t h).2
          · omega).trans (Keep.setCell fun h => by
          rcases h with h | h
          · have h1 := (HT3.out _ h).1
            change _ ≤ w.heap.size + 1 at h1
            omega
          · change w.heap.size + 1 < w.heap.size at h
            omega))
      obtain ⟨ya, yc, rfl⟩ := hown0.slice
      clear hown hown0 hyb hb
      gi_wp2
      exact ⟨HKp.out, rfl, _, HE.out⟩
    · have g0 : ((k : Int) == kk) = false := by rw [beq_eq_false_iff_ne]; exact he
      gi_wp2
      refine ⟨Keep.refl _ _, HP.out.ck, HP.out.cr, HP.out.fr, fun j hj => ?_, HP.out.bel, HP.out.size⟩
      by_cases h : j = k
      · subst h; exact he
      · exact HP.out.no j (by omega)
  case done =>
    rintro T W hp hTD hT hD
    have hcr := hp.cr
    have hfr := hp.fr
    have hne : wl.heap.size ≠ w.heap.size + 1 := by omega
    have e0 : ovI l kk = [] := by
      unfold ovI
      rw [if_neg]
      rintro ⟨h1, h2⟩
      exact hp.no kk.toNat (by omega) (by omega)
    have hD2 : (W.setCell ⟨w.heap.size + 1, 0, none⟩ (.slice none 0 0)).heap[wl.heap.size]? = some (.deferred (some [])) := (Below.heap_setCell W _ _ _ hne).trans hD
    have HD := Lib.hid hD2
    have hc5 := cell_kept (World.cell?_setCell_same' W ⟨w.heap.size + 1, 0, none⟩ (.slice none 0 0) (by rw [hcr]; rfl)) (grownBy_putObj' _ wl.heap.size (.deferred none)) (fun r e => by cases e; exact ⟨_, hD2, rfl⟩)
    have HC5 := Lib.hid hc5
    have hbs := hp.bel.trans ((Turn.setCell (T := fun t => t = w.heap.size + 1) (w := W) (p := ⟨w.heap.size + 1, 0, none⟩) (v := .slice none 0 0) rfl).below hp.bel.size fun t h => by omega)
    have HB := Lib.hid (hbs.trans ((putObj_turn (T := fun t => t = wl.heap.size) (o := .deferred none) rfl).below hbs.size fun t h => by omega))
    have HE0 := Lib.hid e0
    clear hp hT hTD hD hD2 hc5 hbs e0
    go_wp2_with fail
    refine leaves_mark (v := .slice none 0 0) HD.out ?_ ⟨_, rfl, ?_, HB.out⟩
    · have hc6 := HC5.out
      simp [results, Try.f19, go_sem, hc6]
    · rw [HE0.out]
      exact ⟨rfl, none, 0, rfl, Nat.le_refl _, fun _ => ⟨rfl, rfl⟩, fun h => absurd h (Nat.lt_irrefl 0)⟩
  case stop =>
    rintro T c k W _ ⟨rfl, y, h⟩ hTD hT hD
    have hne : y.ownBlock ≠ some wl.heap.size := fun e => h.apart _ e hTD
    have e0 : ovI l kk = ov l kk.toNat := by
      unfold ovI
      rw [if_pos h.lt]
    have hc6 := cell_kept h.cr (grownBy_putObj' _ wl.heap.size (.deferred none)) (fun r e => by cases e; exact ⟨_, hD, rfl⟩)
    refine wpIn_ret (leaves_mark (v := y) hD ?_ ⟨_, rfl, ?_, ?_⟩)
    · simp [results, Try.f19, go_sem, hc6]
    · rw [e0]
      exact (h.own.turn (M := fun t => t = wl.heap.size) (putObj_turn rfl) fun g hg e => hne (by rw [hg, e])).plc
    · exact h.bel.trans ((putObj_turn (T := fun t => t = wl.heap.size) rfl).below h.bel.size fun t h => by omega)
end Go.Proofs.Ytlipkhmidgogdaa.Pl
