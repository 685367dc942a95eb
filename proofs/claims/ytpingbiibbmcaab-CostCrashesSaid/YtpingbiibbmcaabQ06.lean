/- The program's first: the sort of the tree with which a row begins, and what lies behind it. The document's Right. Rows of rows of actions; the document's ahead: the walk. Plain: the sorts of kids, of blocks, of what is made of two. The program's Of, Term, Right. The document's mixed: all rows of two, the walk. Plain: trees of the fourteen kinds of nodes, the rows that they are, their sorts. The program's On. The program's Right: the walk. The document's mixed at any two rows: the walk of the step. -/
import Derived.Test.YtpingbiibbmcaabQ05
import Derived.Test.YtpingbiibbmcaabQ02
import Derived.Deep.QuietTactic
import Derived.BigQuiet

namespace Go.Proofs.Ytpingbiibbmcaab.Sx
open Go Go.RowKit Go.Proofs.Ytpingbiibbmcaab.Rw Go.Proofs.Ytpingbiibbmcaab.So
set_option maxRecDepth 20000

/-- What is asked of shorter trees. -/
def FirstC (m : Nat) : Prop := ∀ (L R : List Nd) (w0 w : World) (v : Value), L.length < m → Tre L → Nds w0 v (L ++ R) → Below w0.heap.size w0 w →
  Calls Try.prog 23 #[v] w fun e w' => ∃ y, e = .returned (.tuple #[.int .i64 (So.first L), y]) ∧ Nds w0 y R ∧ Below w.heap.size w w'
/-- The first node, and the sorts of its kids, in blocks of their own; below them all is as it was. -/
structure Loc (w wx : World) (n : Nd) (x0 x1 : Int) : Prop where
  bel : Below w.heap.size w wx
  sz : w.heap.size + 1 < wx.heap.size
  c0 : wx.cell? ⟨w.heap.size, 0, none⟩ = some (.int .i64 n.k)
  k0 : wx.cell? ⟨w.heap.size + 1, 0, none⟩ = some (.int .i64 x0)
  k1 : wx.cell? ⟨w.heap.size + 1, 1, none⟩ = some (.int .i64 x1)
  f0 : wx.frozen? ⟨w.heap.size + 1, 0, none⟩ = false
  f1 : wx.frozen? ⟨w.heap.size + 1, 1, none⟩ = false
theorem Loc.below {w wx wy : World} {n : Nd} {x0 x1 : Int} (h : Loc w wx n x0 x1) (hb : Below wx.heap.size wx wy) : Loc w wy n x0 x1 := by
  have hs := h.sz
  exact ⟨h.bel.trans (hb.mono h.bel.size), Nat.lt_of_lt_of_le h.sz hb.size, by rw [hb.cell (p := ⟨w.heap.size, 0, none⟩) (by show w.heap.size < _; omega)]; exact h.c0,
    by rw [hb.cell (p := ⟨w.heap.size + 1, 0, none⟩) hs]; exact h.k0, by rw [hb.cell (p := ⟨w.heap.size + 1, 1, none⟩) hs]; exact h.k1,
    by rw [hb.frozen (p := ⟨w.heap.size + 1, 0, none⟩) hs]; exact h.f0, by rw [hb.frozen (p := ⟨w.heap.size + 1, 1, none⟩) hs]; exact h.f1⟩
theorem Loc.start (w : World) (n : Nd) : Loc w ((w.alloc (.cells #[.int .i64 n.k, .string n.n, .int .i64 n.s] 29)).alloc (.cells #[.int .i64 0, .int .i64 0] 47)).drew n 0 0 := by
  constructor
  · exact (((Below.refl _ _).alloc (Nat.le_refl _) _).alloc (by simp) _).drew
  all_goals simp
theorem set_size (w : World) (p : Addr) (v : Value) : (w.setCell p v).heap.size = w.heap.size := by simp [World.setCell]
theorem Loc.set0 {w wx : World} {n : Nd} {x0 x1 : Int} (h : Loc w wx n x0 x1) (y : Int) : Loc w (wx.setCell ⟨w.heap.size + 1, 0, none⟩ (.int .i64 y)) n y x1 := by
  have hs := h.sz
  obtain ⟨h1, h2, h3, h4, h5, h6, h7⟩ := h
  exact ⟨h1.setCell (by show w.heap.size ≤ w.heap.size + 1; omega) _, (by rw [set_size]; exact h2), (by rw [World.cell?_setCell_other _ _ _ _ (by intro e; injection e with e1 e2; omega)]; exact h3),
    World.cell?_setCell_same _ _ _ h4, (by rw [World.cell?_setCell_other _ _ _ _ (by intro e; injection e with e1 e2; omega)]; exact h5), (by rw [World.frozen?_setCell]; exact h6), (by rw [World.frozen?_setCell]; exact h7)⟩
theorem Loc.set1 {w wx : World} {n : Nd} {x0 x1 : Int} (h : Loc w wx n x0 x1) (y : Int) : Loc w (wx.setCell ⟨w.heap.size + 1, 1, none⟩ (.int .i64 y)) n x0 y := by
  have hs := h.sz
  obtain ⟨h1, h2, h3, h4, h5, h6, h7⟩ := h
  exact ⟨h1.setCell (by show w.heap.size ≤ w.heap.size + 1; omega) _, (by rw [set_size]; exact h2), (by rw [World.cell?_setCell_other _ _ _ _ (by intro e; injection e with e1 e2; omega)]; exact h3),
    (by rw [World.cell?_setCell_other _ _ _ _ (by intro e; injection e with e1 e2; omega)]; exact h4), World.cell?_setCell_same _ _ _ h5, (by rw [World.frozen?_setCell]; exact h6), (by rw [World.frozen?_setCell]; exact h7)⟩
theorem tail_nds {w : World} {b o c : Nat} {n : Nd} {R : List Nd} (h : At w b o (n :: R)) (hc : (n :: R).length ≤ c) :
    ∃ a, (if c = 1 then some (⟨b, o, none⟩ : Addr) else some ⟨b, o + 3, none⟩) = a ∧ Nds w (.slice a R.length (c - 1)) R := by
  refine ⟨_, rfl, ?_⟩
  have hl : R.length + 1 ≤ c := hc
  split
  · rename_i h0
    have : R = [] := List.eq_nil_of_length_eq_zero (by omega)
    subst this
    exact ⟨rfl, _, _, rfl, by simp, fun h => (by cases h), fun h => absurd h (Nat.lt_irrefl 0)⟩
  · have := part_nds h 1 R.length (c - 1) (by simp; omega) (by omega)
    simpa using this
theorem ret_two {z z' : Nat} {y : Value} (h : z = z') : Ending.returned (.tuple #[.int .i64 (z' : Int), y]) = Ending.returned (.tuple #[.int .i64 (z : Int), y]) := by rw [h]
set_option maxHeartbeats 2000000 in
theorem first0 (L R : List Nd) (w0 w : World) (v : Value) (h : Tre L) (h0 : Rw.ar (hd L) = 0) (hv : Nds w0 v (L ++ R)) (hw : Below w0.heap.size w0 w) :
    Calls Try.prog 23 #[v] w fun e w' => ∃ y, e = .returned (.tuple #[.int .i64 (So.first L), y]) ∧ Nds w0 y R ∧ Below w.heap.size w w' := by
  obtain ⟨n, hn, rfl, hf⟩ := parts0 h h0
  rw [hn] at h0
  have H0 := Lib.hid h0
  have HF := Lib.hid hf
  have HK := Lib.hid (show 0 ≤ Rw.ar n.k by rw [h0]; decide)
  rcases hv.form with ⟨hx, _⟩ | ⟨b0, o, c, rfl, hc, hat⟩
  · cases hx
  have hz : [n] ++ R = n :: R := by simp
  rw [hz] at hat hc ⊢
  obtain ⟨e1, e2, e3⟩ := hat 0 (by simp)
  rw [Nat.zero_mul, Nat.add_zero] at e1 e2 e3
  simp only [List.getElem_cons_zero] at e1 e2 e3
  rw [← hw.cell (Ap.cell_lt e1)] at e1
  rw [← hw.cell (Ap.cell_lt e2)] at e2
  rw [← hw.cell (Ap.cell_lt e3)] at e3
  have HW := Lib.hid hw
  obtain ⟨a1, hsl, hnd⟩ := tail_nds hat hc
  have ND := Lib.hid hnd
  have HL := Lib.hid (Loc.start w n)
  rw [List.length_cons]
  obtain ⟨N, hN⟩ : ∃ N, R.length = N := ⟨_, rfl⟩
  rw [hN] at ND ⊢
  obtain ⟨F, hF⟩ : ∃ F, So.first [n] = F := ⟨_, rfl⟩
  rw [hF] at HF ⊢
  have g1 : (1 : Int) ≤ (N : Int) + 1 := by omega
  have lt : b0 < w.heap.size := Ap.cell_lt e1
  clear hat hc hnd hz hN hF hn hf h0 h hv hw
  go_enter Try.func23, Try.ntmps23
  go_wp2_with fail
  go_region
  go_wp2_with fail
  refine (Rx.arP_eq n.k _).mono ?_
  rw [H0.out]
  rintro e w' ⟨rfl, rfl⟩
  go_wp2_with fail
  refine Go.wp_loop_rounds 1 ?_
  rw [rounds_succ]
  go_wp2_with fail
  refine (fit_any n.k 0 0 _ HK.out (by omega) (by omega) (fun _ => rfl) (fun _ => rfl)).mono ?_
  rintro e w' ⟨rfl, rfl⟩
  cases hq : fit n.k 0 0 with
  | false =>
    have HZ : Hid (F = 0) := by
      show _ = _
      rw [HF.out]
      unfold comb
      rw [hq]
      rfl
    clear hq
    go_wp2_with fail
    go_ret2
    exact ⟨_, ret_two HZ.out, ND.out, HL.out.bel⟩
  | true =>
    have HZ : Hid (F = made n.k 0 0) := by
      show _ = _
      rw [HF.out]
      unfold comb
      rw [hq]
      rfl
    clear hq
    go_wp2_with fail
    refine (made_any n.k 0 0 _ HK.out (by omega)).mono ?_
    rintro e w' ⟨rfl, rfl⟩
    go_wp2_with fail
    go_ret2
    exact ⟨_, ret_two HZ.out, ND.out, HL.out.bel⟩
set_option maxHeartbeats 2000000 in
theorem first1 (m : Nat) (IH : FirstC m) (L R : List Nd) (w0 w : World) (v : Value) (hm : L.length ≤ m) (h : Tre L) (h0 : Rw.ar (hd L) = 1) (hv : Nds w0 v (L ++ R)) (hw : Below w0.heap.size w0 w) :
    Calls Try.prog 23 #[v] w fun e w' => ∃ y, e = .returned (.tuple #[.int .i64 (So.first L), y]) ∧ Nds w0 y R ∧ Below w.heap.size w w' := by
  obtain ⟨n, a, hn, rfl, hta, hf⟩ := parts1 h h0
  rw [hn] at h0
  have H0 := Lib.hid h0
  have HF := Lib.hid hf
  have HK := Lib.hid (show 0 ≤ Rw.ar n.k by rw [h0]; decide)
  have HTA := Lib.hid hta
  have HA4 := Lib.hid (first_le a)
  have la : a.length < m := by simp at hm; omega
  rcases hv.form with ⟨hx, _⟩ | ⟨b0, o, c, rfl, hc, hat⟩
  · cases hx
  have hz : (n :: a) ++ R = n :: (a ++ R) := by simp
  rw [hz] at hat hc ⊢
  obtain ⟨e1, e2, e3⟩ := hat 0 (by simp)
  rw [Nat.zero_mul, Nat.add_zero] at e1 e2 e3
  simp only [List.getElem_cons_zero] at e1 e2 e3
  rw [← hw.cell (Ap.cell_lt e1)] at e1
  rw [← hw.cell (Ap.cell_lt e2)] at e2
  rw [← hw.cell (Ap.cell_lt e3)] at e3
  have HW := Lib.hid hw
  obtain ⟨a1, hsl, hnd⟩ := tail_nds hat hc
  have ND := Lib.hid hnd
  have HL := Lib.hid (Loc.start w n)
  rw [List.length_cons]
  obtain ⟨N, hN⟩ : ∃ N, (a ++ R).length = N := ⟨_, rfl⟩
  rw [hN] at ND ⊢
  obtain ⟨F, hF⟩ : ∃ F, So.first (n :: a) = F := ⟨_, rfl⟩
  rw [hF] at HF ⊢
  have g1 : (1 : Int) ≤ (N : Int) + 1 := by omega
  have lt : b0 < w.heap.size := Ap.cell_lt e1
  obtain ⟨A, hA⟩ : ∃ A, So.first a = A := ⟨_, rfl⟩
  rw [hA] at HF HA4
  have HA := Lib.hid hA
  clear hA hta
  clear hat hc hnd hz hN hF hn hf h0 h hv hw hm
  go_enter Try.func23, Try.ntmps23
  go_wp2_with fail
  go_region
  go_wp2_with fail
  refine (Rx.arP_eq n.k _).mono ?_
  rw [H0.out]
  rintro e w' ⟨rfl, rfl⟩
  go_wp2_with fail
  refine Go.wp_loop_rounds 2 ?_
  rw [rounds_succ]
  go_wp2_with fail
  refine (IH a R w0 _ _ la HTA.out ND.out (HW.out.trans (HL.out.bel.mono HW.out.size))).mono ?_
  rw [HA.out]
  rintro e w1 ⟨y1, rfl, hy, hb⟩
  have HY := Lib.hid hy
  have HM := Lib.hid (HL.out.below hb)
  obtain ⟨_, a2, c2, rfl, -⟩ := hy
  clear hb e1 e2 e3 lt
  obtain ⟨k1, k2, k3, k4, k5, k6, k7⟩ := HM.out
  go_wp2_with fail
  rw [rounds_succ]
  go_wp2_with fail
  refine (fit_any n.k A 0 _ HK.out HA4.out (by omega) (fun h => by rw [H0.out] at h; exact absurd h (by decide)) (fun _ => rfl)).mono ?_
  rintro e w' ⟨rfl, rfl⟩
  cases hq : fit n.k A 0 with
  | false =>
    have HZ : Hid (F = 0) := by
      show _ = _
      rw [HF.out]
      unfold comb
      rw [hq]
      rfl
    clear hq
    go_wp2_with fail
    go_ret2
    exact ⟨_, ret_two HZ.out, HY.out, (HM.out.set0 A).bel⟩
  | true =>
    have HZ : Hid (F = made n.k A 0) := by
      show _ = _
      rw [HF.out]
      unfold comb
      rw [hq]
      rfl
    clear hq
    go_wp2_with fail
    refine (made_any n.k A 0 _ HK.out HA4.out).mono ?_
    rintro e w' ⟨rfl, rfl⟩
    go_wp2_with fail
    go_ret2
    exact ⟨_, ret_two HZ.out, HY.out, (HM.out.set0 A).bel⟩
set_option maxHeartbeats 2000000 in
theorem first2 (m : Nat) (IH : FirstC m) (L R : List Nd) (w0 w : World) (v : Value) (hm : L.length ≤ m) (h : Tre L) (h0 : Rw.ar (hd L) = 2) (hv : Nds w0 v (L ++ R)) (hw : Below w0.heap.size w0 w) :
    Calls Try.prog 23 #[v] w fun e w' => ∃ y, e = .returned (.tuple #[.int .i64 (So.first L), y]) ∧ Nds w0 y R ∧ Below w.heap.size w w' := by
  obtain ⟨n, a, b, hn, rfl, hta, htb, hf⟩ := parts2 h h0
  rw [hn] at h0
  have H0 := Lib.hid h0
  have HF := Lib.hid hf
  have HK := Lib.hid (show 0 ≤ Rw.ar n.k by rw [h0]; decide)
  have HTA := Lib.hid hta
  have HA4 := Lib.hid (first_le a)
  have la : a.length < m := by simp at hm; omega
  have HTB := Lib.hid htb
  have HB4 := Lib.hid (first_le b)
  have lb : b.length < m := by simp at hm; omega
  rcases hv.form with ⟨hx, _⟩ | ⟨b0, o, c, rfl, hc, hat⟩
  · cases hx
  have hz : (n :: (a ++ b)) ++ R = n :: (a ++ (b ++ R)) := by simp
  rw [hz] at hat hc ⊢
  obtain ⟨e1, e2, e3⟩ := hat 0 (by simp)
  rw [Nat.zero_mul, Nat.add_zero] at e1 e2 e3
  simp only [List.getElem_cons_zero] at e1 e2 e3
  rw [← hw.cell (Ap.cell_lt e1)] at e1
  rw [← hw.cell (Ap.cell_lt e2)] at e2
  rw [← hw.cell (Ap.cell_lt e3)] at e3
  have HW := Lib.hid hw
  obtain ⟨a1, hsl, hnd⟩ := tail_nds hat hc
  have ND := Lib.hid hnd
  have HL := Lib.hid (Loc.start w n)
  rw [List.length_cons]
  obtain ⟨N, hN⟩ : ∃ N, (a ++ (b ++ R)).length = N := ⟨_, rfl⟩
  rw [hN] at ND ⊢
  obtain ⟨F, hF⟩ : ∃ F, So.first (n :: (a ++ b)) = F := ⟨_, rfl⟩
  rw [hF] at HF ⊢
  have g1 : (1 : Int) ≤ (N : Int) + 1 := by omega
  have lt : b0 < w.heap.size := Ap.cell_lt e1
  obtain ⟨A, hA⟩ : ∃ A, So.first a = A := ⟨_, rfl⟩
  rw [hA] at HF HA4
  have HA := Lib.hid hA
  clear hA hta
  obtain ⟨B, hB⟩ : ∃ B, So.first b = B := ⟨_, rfl⟩
  rw [hB] at HF HB4
  have HB := Lib.hid hB
  clear hB htb
  clear hat hc hnd hz hN hF hn hf h0 h hv hw hm
  go_enter Try.func23, Try.ntmps23
  go_wp2_with fail
  go_region
  go_wp2_with fail
  refine (Rx.arP_eq n.k _).mono ?_
  rw [H0.out]
  rintro e w' ⟨rfl, rfl⟩
  go_wp2_with fail
  refine Go.wp_loop_rounds 3 ?_
  rw [rounds_succ]
  go_wp2_with fail
  refine (IH a (b ++ R) w0 _ _ la HTA.out ND.out (HW.out.trans (HL.out.bel.mono HW.out.size))).mono ?_
  rw [HA.out]
  rintro e w1 ⟨y1, rfl, hy, hb⟩
  have HY := Lib.hid hy
  have HM := Lib.hid (HL.out.below hb)
  obtain ⟨_, a2, c2, rfl, -⟩ := hy
  obtain ⟨M, hM⟩ : ∃ M, (b ++ R).length = M := ⟨_, rfl⟩
  rw [hM] at HY ⊢
  clear hM
  clear hb e1 e2 e3 lt
  obtain ⟨k1, k2, k3, k4, k5, k6, k7⟩ := HM.out
  go_wp2_with fail
  rw [rounds_succ]
  go_wp2_with fail
  refine (IH b R w0 _ _ lb HTB.out HY.out (HW.out.trans ((HM.out.set0 A).bel.mono HW.out.size))).mono ?_
  rw [HB.out]
  rintro e w2 ⟨y2, rfl, hy, hb⟩
  have HY2 := Lib.hid hy
  have HM2 := Lib.hid ((HM.out.set0 A).below hb)
  obtain ⟨_, a3, c3, rfl, -⟩ := hy
  clear hb k1 k2 k3 k4 k5 k6 k7
  obtain ⟨k1, k2, k3, k4, k5, k6, k7⟩ := HM2.out
  go_wp2_with fail
  rw [rounds_succ]
  go_wp2_with fail
  refine (fit_any n.k A B _ HK.out HA4.out HB4.out (fun h => by rw [H0.out] at h; exact absurd h (by decide)) (fun h => by rw [H0.out] at h; exact absurd h (by decide))).mono ?_
  rintro e w' ⟨rfl, rfl⟩
  cases hq : fit n.k A B with
  | false =>
    have HZ : Hid (F = 0) := by
      show _ = _
      rw [HF.out]
      unfold comb
      rw [hq]
      rfl
    clear hq
    go_wp2_with fail
    go_ret2
    exact ⟨_, ret_two HZ.out, HY2.out, (HM2.out.set1 B).bel⟩
  | true =>
    have HZ : Hid (F = made n.k A B) := by
      show _ = _
      rw [HF.out]
      unfold comb
      rw [hq]
      rfl
    clear hq
    go_wp2_with fail
    refine (made_any n.k A B _ HK.out HA4.out).mono ?_
    rintro e w' ⟨rfl, rfl⟩
    go_wp2_with fail
    go_ret2
    exact ⟨_, ret_two HZ.out, HY2.out, (HM2.out.set1 B).bel⟩
theorem first_all : ∀ m, FirstC m
  | 0 => fun _ _ _ _ _ h => absurd h (Nat.not_lt_zero _)
  | m + 1 => fun L R w0 w v hl h hv hw => by
    have ha := h.ar
    rcases ar_cases (hd L) with h0 | h0 | h0 | h0
    · rw [h0] at ha
      exact absurd ha (by decide)
    · exact first0 L R w0 w v h h0 hv hw
    · exact first1 m (first_all m) L R w0 w v (by omega) h h0 hv hw
    · exact first2 m (first_all m) L R w0 w v (by omega) h h0 hv hw
/-- The program's first. -/
theorem first_any (L R : List Nd) (w : World) (v : Value) (h : Tre L) (hv : Nds w v (L ++ R)) :
    Calls Try.prog 23 #[v] w fun e w' => ∃ y, e = .returned (.tuple #[.int .i64 (So.first L), y]) ∧ Nds w y R ∧ Below w.heap.size w w' :=
  first_all (L.length + 1) L R w w v (by omega) h hv (Below.refl _ _)
end Go.Proofs.Ytpingbiibbmcaab.Sx

namespace Go.Proofs.Ytpingbiibbmcaab.So
open Go Go.RowKit Go.Proofs.Ytpingbiibbmcaab.Rw
set_option maxRecDepth 20000

end Go.Proofs.Ytpingbiibbmcaab.So

namespace Go.Proofs.Ytpingbiibbmcaab.Tr
open Go Go.RowKit
set_option maxRecDepth 20000

/-- A slice of texts, in a block that is as ok says. -/
def StrsO (ok : Nat → Prop) (w : World) (v : Value) (l : List ByteArray) : Prop := Ap.RdO ok w 1 v l.length (l.map .string)
/-- The cells of some rows. -/
def RwO (ok : Nat → Prop) (w : World) : List Value → List (List ByteArray) → Prop
  | [], [] => True
  | a :: cs, r :: rs => StrsO ok w a r ∧ RwO ok w cs rs
  | _, _ => False
/-- A slice of rows that reads as these. -/
def Rws (w : World) (v : Value) (rs : List (List ByteArray)) : Prop := ∃ cs, Ap.Rd w 1 v rs.length cs ∧ RwO (fun _ => True) w cs rs

end Go.Proofs.Ytpingbiibbmcaab.Tr

namespace Go.Proofs.Ytpingbiibbmcaab.So
open Go Go.Proofs.Ytpingbiibbmcaab.Rw

theorem whole_rgt {l : List Nd} (h : whole l = true) : l.all rgt = true := by
  unfold whole at h
  simp only [Bool.and_eq_true] at h
  exact h.1.1
theorem of_not {l : List Nd} (h : whole l = false) : of l = 0 := by
  unfold of
  rw [h]
  rfl
/-- A node of two. -/
def nOf (k : Int) : Nd := ⟨k, ⟨#[]⟩, 0⟩
theorem kids_mk {k : Int} {a b : List Nd} (hk : ar k = 2) (ha : Tre a) (hb : Tre b) : Tre (nOf k :: (a ++ b)) ∧ kids (nOf k :: (a ++ b)) = [a, b] := by
  obtain ⟨d1, t1⟩ := ha
  obtain ⟨d2, t2⟩ := hb
  have a1 := T_append b t1
  have s1 : S 1 (a ++ b) = some (a.length, max 0 d1) := by
    rw [show (1 : Nat) = 0 + 1 from rfl, S_succ, S_zero]
    simp only [List.drop_zero, a1, Nat.zero_add]
  have dm : (a ++ b).drop a.length = b := by simp
  have s2 : S 2 (a ++ b) = some (a.length + b.length, max (max 0 d1) d2) := by
    rw [show (2 : Nat) = 1 + 1 from rfl, S_succ, s1]
    simp only [dm, t2]
  have hT : T (nOf k :: (a ++ b)) = some (a.length + b.length + 1, max (max 0 d1) d2 + 1) := by
    rw [T_cons, if_neg (show ¬ ar (nOf k).k < 0 by show ¬ ar k < 0; omega), show (ar (nOf k).k).toNat = 2 by show (ar k).toNat = 2; rw [hk]; rfl, s2]
  have ht : Tre (nOf k :: (a ++ b)) := ⟨_, by rw [hT, List.length_cons, List.length_append]⟩
  refine ⟨ht, ?_⟩
  obtain ⟨x, y, hxy, tx, ty, _, _⟩ := ht.two hk
  obtain ⟨_, _, he⟩ := ht.flat
  rw [hxy] at he
  injection he with _ he
  simp at he
  obtain ⟨dx, hx⟩ := tx
  have hx2 := T_append y hx
  rw [← he, a1] at hx2
  have hlen : a.length = x.length := by
    have := congrArg (fun o => o.map (·.1)) hx2
    simpa using this
  have h1 := congrArg (List.take a.length) he
  have h2 := congrArg (List.drop a.length) he
  rw [List.take_append_of_le_length (Nat.le_refl _), List.take_length, hlen, List.take_append_of_le_length (Nat.le_refl _), List.take_length] at h1
  rw [dm, hlen, List.drop_append_of_le_length (Nat.le_refl _), List.drop_length, List.nil_append] at h2
  rw [hxy, ← h1, ← h2]
end Go.Proofs.Ytpingbiibbmcaab.So

namespace Go.Proofs.Ytpingbiibbmcaab.Sx
open Go Go.RowKit Go.Proofs.Ytpingbiibbmcaab.Rw Go.Proofs.Ytpingbiibbmcaab.So
set_option maxRecDepth 20000

theorem whole_tre {l : List Nd} (h : whole l = true) : Tre l := by
  unfold whole at h
  simp only [Bool.and_eq_true, decide_eq_true_eq] at h
  exact Tre.of_size h.2 (fun e => by rw [e] at h; exact absurd h.1.2.1 (by decide))
set_option maxHeartbeats 400000 in
theorem ofP_any (l : List Nd) (v : Value) (w : World) (hv : Nds w v l) (hl : l.length ≤ 1000) (hm : Nms l) :
    Calls Try.prog 20 #[v] w fun e w' => e = .returned (.int .i64 (of l)) ∧ Below w.heap.size w w' := by
  have HV := Lib.hid hv
  have HM := Lib.hid hm
  obtain ⟨_, a, cap, rfl, -⟩ := hv
  clear hm
  cases hq : whole l with
  | false =>
    have HZ : Hid (of l = 0) := by
      show _ = _
      unfold of
      rw [hq]
      rfl
    have HQ := Lib.hid hq
    clear hq
    go_enter Try.func20, Try.ntmps20
    go_wp2_with fail
    refine (Rx.wholeP_any _ l _ HV.out hl HM.out).mono ?_
    rw [HQ.out]
    rintro e w' ⟨rfl, hb⟩
    have HB := Lib.hid hb
    clear hb
    go_wp2_with fail
    go_ret
    exact ⟨ret_int (by rw [HZ.out]; rfl), HB.out⟩
  | true =>
    have HZ : Hid (of l = So.first l) := by
      show _ = _
      unfold of
      rw [hq]
      rfl
    have HT := Lib.hid (whole_tre hq)
    have HQ := Lib.hid hq
    obtain ⟨F, hF⟩ : ∃ F, So.first l = F := ⟨_, rfl⟩
    rw [hF] at HZ
    have HF := Lib.hid hF
    clear hq hF
    go_enter Try.func20, Try.ntmps20
    go_wp2_with fail
    refine (Rx.wholeP_any _ l _ HV.out hl HM.out).mono ?_
    rw [HQ.out]
    rintro e w' ⟨rfl, hb⟩
    have HB := Lib.hid hb
    have HV1 : Hid (Nds w' (.slice a l.length cap) (l ++ [])) := by
      show Nds _ _ _
      rw [List.append_nil]
      exact HV.out.below hb
    clear hb
    go_wp2_with fail
    refine (first_any l [] _ _ HT.out HV1.out).mono ?_
    rw [HF.out]
    rintro e w2 ⟨y, rfl, _, hb⟩
    have HB2 := Lib.hid hb
    clear hb
    go_wp2_with fail
    go_ret
    exact ⟨ret_int (by rw [HZ.out]), HB.out.trans (HB2.out.mono HB.out.size)⟩
end Go.Proofs.Ytpingbiibbmcaab.Sx

namespace Go.Proofs.Ytpingbiibbmcaab.Tr
open Go Go.RowKit
set_option maxRecDepth 20000

/-- All rows that have the actions of both, each in order. -/
def mx : Nat → List ByteArray → List ByteArray → List (List ByteArray)
  | _, [], b => [b]
  | _, a, [] => [a]
  | 0, _, _ => []
  | n + 1, x :: a, y :: b => (mx n a (y :: b)).map (x :: ·) ++ (mx n (x :: a) b).map (y :: ·)
end Go.Proofs.Ytpingbiibbmcaab.Tr

namespace Go.Proofs.Ytpingbiibbmcaab.Se
open Go Go.Proofs.Ytpingbiibbmcaab.Rw Go.Proofs.Ytpingbiibbmcaab.So

inductive Tm
  | act (s : ByteArray)
  | skip
  | throw
  | yield
  | over (s : Int)
  | block (a : Tm)
  | fin (s : Int) (c : Tm)
  | seq (a b : Tm)
  | alt (a b : Tm)
  | par (a b : Tm)
  | hand (a b : Tm)
  | pair (a b : Tm)
  | going (a b : Tm)
  | stack (a b : Tm)
deriving DecidableEq

/-- A node of an action; one that has ended; one of what has ended and can be taken back. -/
abbrev nAct (s : ByteArray) : Nd := ⟨1, s, 0⟩
abbrev nOver (s : Int) : Nd := ⟨11, ⟨#[]⟩, s⟩
abbrev nEnd (s : Int) : Nd := ⟨14, ⟨#[]⟩, s⟩

/-- The row that a tree is. -/
def flat : Tm → List Nd
  | .act s => [nAct s]
  | .skip => [nOf 2]
  | .throw => [nOf 3]
  | .yield => [nOf 4]
  | .over s => [nOver s]
  | .block a => nOf 9 :: flat a
  | .fin s c => nEnd s :: flat c
  | .seq a b => nOf 5 :: (flat a ++ flat b)
  | .alt a b => nOf 6 :: (flat a ++ flat b)
  | .par a b => nOf 7 :: (flat a ++ flat b)
  | .hand a b => nOf 8 :: (flat a ++ flat b)
  | .pair a b => nOf 10 :: (flat a ++ flat b)
  | .going a b => nOf 12 :: (flat a ++ flat b)
  | .stack a b => nOf 13 :: (flat a ++ flat b)

/-- How many nodes a tree has. -/
def sz : Tm → Nat
  | .act _ => 1
  | .skip => 1
  | .throw => 1
  | .yield => 1
  | .over _ => 1
  | .block a => sz a + 1
  | .fin _ c => sz c + 1
  | .seq a b => sz a + sz b + 1
  | .alt a b => sz a + sz b + 1
  | .par a b => sz a + sz b + 1
  | .hand a b => sz a + sz b + 1
  | .pair a b => sz a + sz b + 1
  | .going a b => sz a + sz b + 1
  | .stack a b => sz a + sz b + 1
theorem flat_len : ∀ t : Tm, (flat t).length = sz t := by
  intro t
  induction t <;> simp_all [flat, sz]
theorem sz_pos (t : Tm) : 1 ≤ sz t := by cases t <;> simp [sz]
theorem flat_ne (t : Tm) : flat t ≠ [] := fun e => by
  have h := flat_len t
  have := sz_pos t
  rw [e] at h
  simp at h
  omega

/-- A node with one tree behind it. -/
theorem kids_one {n : Nd} {a : List Nd} (hk : ar n.k = 1) (ha : Tre a) : Tre (n :: a) ∧ kids (n :: a) = [a] := by
  obtain ⟨d1, t1⟩ := ha
  have s1 : S 1 a = some (a.length, max 0 d1) := by
    rw [show (1 : Nat) = 0 + 1 from rfl, S_succ, S_zero]
    simp only [List.drop_zero, t1, Nat.zero_add]
  have hT : T (n :: a) = some (a.length + 1, max 0 d1 + 1) := by
    rw [T_cons, if_neg (by omega), hk, show (1 : Int).toNat = 1 from rfl, s1]
  have ht : Tre (n :: a) := ⟨_, by rw [hT, List.length_cons]⟩
  refine ⟨ht, ?_⟩
  obtain ⟨x, hx, _, _⟩ := ht.one hk
  obtain ⟨_, _, he⟩ := ht.flat
  rw [hx] at he
  injection he with _ he
  simp at he
  rw [hx, he]
theorem tre_leaf {n : Nd} (hk : ar n.k = 0) : Tre [n] := ⟨1, by rw [T_cons, if_neg (by omega), hk]; rfl⟩
theorem tre_flat : ∀ t : Tm, Tre (flat t) := by
  intro t
  induction t with
  | act s => exact tre_leaf rfl
  | skip => exact tre_leaf rfl
  | throw => exact tre_leaf rfl
  | yield => exact tre_leaf rfl
  | over s => exact tre_leaf rfl
  | block a ia => exact (kids_one rfl ia).1
  | fin s c ic => exact (kids_one rfl ic).1
  | seq a b ia ib => exact (kids_mk rfl ia ib).1
  | alt a b ia ib => exact (kids_mk rfl ia ib).1
  | par a b ia ib => exact (kids_mk rfl ia ib).1
  | hand a b ia ib => exact (kids_mk rfl ia ib).1
  | pair a b ia ib => exact (kids_mk rfl ia ib).1
  | going a b ia ib => exact (kids_mk rfl ia ib).1
  | stack a b ia ib => exact (kids_mk rfl ia ib).1
theorem kids_block (a : Tm) : kids (flat (.block a)) = [flat a] := (kids_one (n := nOf 9) rfl (tre_flat a)).2
theorem kids_fin (s : Int) (c : Tm) : kids (flat (.fin s c)) = [flat c] := (kids_one (n := nEnd s) rfl (tre_flat c)).2
theorem kids_seq (a b : Tm) : kids (flat (.seq a b)) = [flat a, flat b] := (kids_mk rfl (tre_flat a) (tre_flat b)).2
theorem kids_alt (a b : Tm) : kids (flat (.alt a b)) = [flat a, flat b] := (kids_mk rfl (tre_flat a) (tre_flat b)).2
theorem kids_par (a b : Tm) : kids (flat (.par a b)) = [flat a, flat b] := (kids_mk rfl (tre_flat a) (tre_flat b)).2
theorem kids_hand (a b : Tm) : kids (flat (.hand a b)) = [flat a, flat b] := (kids_mk rfl (tre_flat a) (tre_flat b)).2
theorem kids_pair (a b : Tm) : kids (flat (.pair a b)) = [flat a, flat b] := (kids_mk rfl (tre_flat a) (tre_flat b)).2
theorem kids_going (a b : Tm) : kids (flat (.going a b)) = [flat a, flat b] := (kids_mk rfl (tre_flat a) (tre_flat b)).2
theorem kids_stack (a b : Tm) : kids (flat (.stack a b)) = [flat a, flat b] := (kids_mk rfl (tre_flat a) (tre_flat b)).2
theorem k0_block (a : Tm) : k0 (flat (.block a)) = flat a := by unfold k0; rw [kids_block]; rfl
theorem k0_fin (s : Int) (a : Tm) : k0 (flat (.fin s a)) = flat a := by unfold k0; rw [kids_fin]; rfl
theorem k0_seq (a b : Tm) : k0 (flat (.seq a b)) = flat a := by unfold k0; rw [kids_seq]; rfl
theorem k1_seq (a b : Tm) : k1 (flat (.seq a b)) = flat b := by unfold k1; rw [kids_seq]; rfl
theorem k0_alt (a b : Tm) : k0 (flat (.alt a b)) = flat a := by unfold k0; rw [kids_alt]; rfl
theorem k1_alt (a b : Tm) : k1 (flat (.alt a b)) = flat b := by unfold k1; rw [kids_alt]; rfl
theorem k0_par (a b : Tm) : k0 (flat (.par a b)) = flat a := by unfold k0; rw [kids_par]; rfl
theorem k1_par (a b : Tm) : k1 (flat (.par a b)) = flat b := by unfold k1; rw [kids_par]; rfl
theorem k0_hand (a b : Tm) : k0 (flat (.hand a b)) = flat a := by unfold k0; rw [kids_hand]; rfl
theorem k1_hand (a b : Tm) : k1 (flat (.hand a b)) = flat b := by unfold k1; rw [kids_hand]; rfl
theorem k0_pair (a b : Tm) : k0 (flat (.pair a b)) = flat a := by unfold k0; rw [kids_pair]; rfl
theorem k1_pair (a b : Tm) : k1 (flat (.pair a b)) = flat b := by unfold k1; rw [kids_pair]; rfl
theorem k0_going (a b : Tm) : k0 (flat (.going a b)) = flat a := by unfold k0; rw [kids_going]; rfl
theorem k1_going (a b : Tm) : k1 (flat (.going a b)) = flat b := by unfold k1; rw [kids_going]; rfl
theorem k0_stack (a b : Tm) : k0 (flat (.stack a b)) = flat a := by unfold k0; rw [kids_stack]; rfl
theorem k1_stack (a b : Tm) : k1 (flat (.stack a b)) = flat b := by unfold k1; rw [kids_stack]; rfl

/-- Is a tree of a sort? As the document's: 1 plain, 2 paired, 3 plain or goes on so, 4 paired or goes on so. -/
def is : Tm → Nat → Bool
  | .act _, s => s == 1 || s == 3
  | .skip, s => s == 1 || s == 3
  | .throw, s => s == 1 || s == 3
  | .yield, s => s == 1 || s == 3
  | .over _, s => s == 3
  | .block a, s => if s = 1 then is a 2 else if s = 3 then is a 4 else false
  | .fin _ c, s => s == 4 && is c 1
  | .seq a b, s => if s = 1 then is a 1 && is b 1 else if s = 2 then is a 2 && is b 2 else if s = 3 then is a 3 && is b 1 else is a 4 && is b 2
  | .alt a b, s => if s = 1 ∨ s = 3 then is a 1 && is b 1 else is a 2 && is b 2
  | .par a b, s => is a s && is b s
  | .hand a b, s => if s = 1 then is a 1 && is b 1 else if s = 3 then is a 3 && is b 1 else false
  | .pair a b, s => if s = 2 ∨ s = 4 then is a 1 && is b 1 else false
  | .going a b, s => if s = 4 then is a 3 && is b 1 else false
  | .stack a b, s => if s = 4 then is a 4 && is b 1 else false
theorem is13 : ∀ t : Tm, (is t 1 = true → is t 3 = true) ∧ (is t 2 = true → is t 4 = true) := by
  intro t
  induction t <;> simp_all [is]
theorem abs0 {p r : Bool} (h : p = true → r = true) : (p || r) = r := by cases p <;> cases r <;> simp_all
theorem abs1 {p q r : Bool} (h : p = true → r = true) : (p && q || r && q) = (r && q) := by cases p <;> cases q <;> cases r <;> simp_all
theorem abs2 {p q r s : Bool} (h : p = true → r = true) (g : q = true → s = true) : (p && q || r && s) = (r && s) := by cases p <;> cases q <;> cases r <;> cases s <;> simp_all
theorem is_flat : ∀ (t : Tm) (s : Nat), s = 1 ∨ s = 2 ∨ s = 3 ∨ s = 4 → Is s (flat t) = is t s := by
  intro t
  induction t with
  | act s =>
    intro s' hs
    rcases hs with rfl | rfl | rfl | rfl
    · rw [eq_1_1 (l := flat (.act s)) rfl]; rfl
    · rw [eq_1_2 (l := flat (.act s)) rfl]; rfl
    · rw [eq_1_3 (l := flat (.act s)) rfl]; rfl
    · rw [eq_1_4 (l := flat (.act s)) rfl]; rfl
  | skip =>
    intro s' hs
    rcases hs with rfl | rfl | rfl | rfl
    · rw [eq_2_1 (l := flat (.skip)) rfl]; rfl
    · rw [eq_2_2 (l := flat (.skip)) rfl]; rfl
    · rw [eq_2_3 (l := flat (.skip)) rfl]; rfl
    · rw [eq_2_4 (l := flat (.skip)) rfl]; rfl
  | throw =>
    intro s' hs
    rcases hs with rfl | rfl | rfl | rfl
    · rw [eq_3_1 (l := flat (.throw)) rfl]; rfl
    · rw [eq_3_2 (l := flat (.throw)) rfl]; rfl
    · rw [eq_3_3 (l := flat (.throw)) rfl]; rfl
    · rw [eq_3_4 (l := flat (.throw)) rfl]; rfl
  | yield =>
    intro s' hs
    rcases hs with rfl | rfl | rfl | rfl
    · rw [eq_4_1 (l := flat (.yield)) rfl]; rfl
    · rw [eq_4_2 (l := flat (.yield)) rfl]; rfl
    · rw [eq_4_3 (l := flat (.yield)) rfl]; rfl
    · rw [eq_4_4 (l := flat (.yield)) rfl]; rfl
  | over s =>
    intro s' hs
    rcases hs with rfl | rfl | rfl | rfl
    · rw [eq_11_1 (l := flat (.over s)) rfl]; rfl
    · rw [eq_11_2 (l := flat (.over s)) rfl]; rfl
    · rw [eq_11_3 (l := flat (.over s)) rfl]; rfl
    · rw [eq_11_4 (l := flat (.over s)) rfl]; rfl
  | block a ia =>
    intro s' hs
    rcases hs with rfl | rfl | rfl | rfl
    · rw [eq_9_1 (l := flat (.block a)) rfl, k0_block, ia _ (Or.inr (Or.inl rfl))]; rfl
    · rw [eq_9_2 (l := flat (.block a)) rfl]; rfl
    · rw [eq_9_3 (l := flat (.block a)) rfl, k0_block, ia _ (Or.inr (Or.inl rfl)), ia _ (Or.inr (Or.inr (Or.inr rfl))), abs0 (is13 a).2]; rfl
    · rw [eq_9_4 (l := flat (.block a)) rfl]; rfl
  | fin e c ic =>
    intro s' hs
    rcases hs with rfl | rfl | rfl | rfl
    · rw [eq_14_1 (l := flat (.fin e c)) rfl]; rfl
    · rw [eq_14_2 (l := flat (.fin e c)) rfl]; rfl
    · rw [eq_14_3 (l := flat (.fin e c)) rfl]; rfl
    · rw [eq_14_4 (l := flat (.fin e c)) rfl, k0_fin, ic _ (Or.inl rfl)]; rfl
  | seq a b ia ib =>
    intro s' hs
    rcases hs with rfl | rfl | rfl | rfl
    · rw [eq_5_1 (l := flat (.seq a b)) rfl, k0_seq, k1_seq, ia _ (Or.inl rfl), ib _ (Or.inl rfl)]; rfl
    · rw [eq_5_2 (l := flat (.seq a b)) rfl, k0_seq, k1_seq, ia _ (Or.inr (Or.inl rfl)), ib _ (Or.inr (Or.inl rfl))]; rfl
    · rw [eq_5_3 (l := flat (.seq a b)) rfl, k0_seq, k1_seq, ia _ (Or.inl rfl), ia _ (Or.inr (Or.inr (Or.inl rfl))), ib _ (Or.inl rfl), abs1 (is13 a).1]; rfl
    · rw [eq_5_4 (l := flat (.seq a b)) rfl, k0_seq, k1_seq, ia _ (Or.inr (Or.inl rfl)), ia _ (Or.inr (Or.inr (Or.inr rfl))), ib _ (Or.inr (Or.inl rfl)), abs1 (is13 a).2]; rfl
  | alt a b ia ib =>
    intro s' hs
    rcases hs with rfl | rfl | rfl | rfl
    · rw [eq_6_1 (l := flat (.alt a b)) rfl, k0_alt, k1_alt, ia _ (Or.inl rfl), ib _ (Or.inl rfl)]; rfl
    · rw [eq_6_2 (l := flat (.alt a b)) rfl, k0_alt, k1_alt, ia _ (Or.inr (Or.inl rfl)), ib _ (Or.inr (Or.inl rfl))]; rfl
    · rw [eq_6_3 (l := flat (.alt a b)) rfl, k0_alt, k1_alt, ia _ (Or.inl rfl), ib _ (Or.inl rfl), Bool.or_false]; rfl
    · rw [eq_6_4 (l := flat (.alt a b)) rfl, k0_alt, k1_alt, ia _ (Or.inr (Or.inl rfl)), ib _ (Or.inr (Or.inl rfl)), Bool.or_false]; rfl
  | par a b ia ib =>
    intro s' hs
    rcases hs with rfl | rfl | rfl | rfl
    · rw [eq_7_1 (l := flat (.par a b)) rfl, k0_par, k1_par, ia _ (Or.inl rfl), ib _ (Or.inl rfl)]; rfl
    · rw [eq_7_2 (l := flat (.par a b)) rfl, k0_par, k1_par, ia _ (Or.inr (Or.inl rfl)), ib _ (Or.inr (Or.inl rfl))]; rfl
    · rw [eq_7_3 (l := flat (.par a b)) rfl, k0_par, k1_par, ia _ (Or.inl rfl), ia _ (Or.inr (Or.inr (Or.inl rfl))), ib _ (Or.inl rfl), ib _ (Or.inr (Or.inr (Or.inl rfl))), abs2 (is13 a).1 (is13 b).1]; rfl
    · rw [eq_7_4 (l := flat (.par a b)) rfl, k0_par, k1_par, ia _ (Or.inr (Or.inl rfl)), ia _ (Or.inr (Or.inr (Or.inr rfl))), ib _ (Or.inr (Or.inl rfl)), ib _ (Or.inr (Or.inr (Or.inr rfl))), abs2 (is13 a).2 (is13 b).2]; rfl
  | hand a b ia ib =>
    intro s' hs
    rcases hs with rfl | rfl | rfl | rfl
    · rw [eq_8_1 (l := flat (.hand a b)) rfl, k0_hand, k1_hand, ia _ (Or.inl rfl), ib _ (Or.inl rfl)]; rfl
    · rw [eq_8_2 (l := flat (.hand a b)) rfl]; rfl
    · rw [eq_8_3 (l := flat (.hand a b)) rfl, k0_hand, k1_hand, ia _ (Or.inl rfl), ia _ (Or.inr (Or.inr (Or.inl rfl))), ib _ (Or.inl rfl), abs1 (is13 a).1]; rfl
    · rw [eq_8_4 (l := flat (.hand a b)) rfl]; rfl
  | pair a b ia ib =>
    intro s' hs
    rcases hs with rfl | rfl | rfl | rfl
    · rw [eq_10_1 (l := flat (.pair a b)) rfl]; rfl
    · rw [eq_10_2 (l := flat (.pair a b)) rfl, k0_pair, k1_pair, ia _ (Or.inl rfl), ib _ (Or.inl rfl)]; rfl
    · rw [eq_10_3 (l := flat (.pair a b)) rfl]; rfl
    · rw [eq_10_4 (l := flat (.pair a b)) rfl, k0_pair, k1_pair, ia _ (Or.inl rfl), ib _ (Or.inl rfl), Bool.or_false]; rfl
  | going a b ia ib =>
    intro s' hs
    rcases hs with rfl | rfl | rfl | rfl
    · rw [eq_12_1 (l := flat (.going a b)) rfl]; rfl
    · rw [eq_12_2 (l := flat (.going a b)) rfl]; rfl
    · rw [eq_12_3 (l := flat (.going a b)) rfl]; rfl
    · rw [eq_12_4 (l := flat (.going a b)) rfl, k0_going, k1_going, ia _ (Or.inr (Or.inr (Or.inl rfl))), ib _ (Or.inl rfl)]; rfl
  | stack a b ia ib =>
    intro s' hs
    rcases hs with rfl | rfl | rfl | rfl
    · rw [eq_13_1 (l := flat (.stack a b)) rfl]; rfl
    · rw [eq_13_2 (l := flat (.stack a b)) rfl]; rfl
    · rw [eq_13_3 (l := flat (.stack a b)) rfl]; rfl
    · rw [eq_13_4 (l := flat (.stack a b)) rfl, k0_stack, k1_stack, ia _ (Or.inr (Or.inr (Or.inr rfl))), ib _ (Or.inl rfl)]; rfl

/-- Each row that is a tree, of right nodes, is such a tree. -/
theorem rgt_of {x : Nd} (h : rgt x = true) (h1 : x.k ≠ 1) (h2 : ¬ (x.k = 11 ∨ x.k = 14)) : x = nOf x.k := by
  obtain ⟨k, n, s⟩ := x
  have h0 : ¬ ar k < 0 := fun h0 => by unfold rgt at h; rw [if_pos h0] at h; cases h
  rw [rgt_other n s h0 h1 h2] at h
  simp only [Bool.and_eq_true, decide_eq_true_eq, beq_iff_eq] at h
  obtain ⟨hn, rfl⟩ := h
  rw [empty_of hn]
  rfl
theorem rgt_end {x : Nd} (h : rgt x = true) (h2 : x.k = 11 ∨ x.k = 14) : x = ⟨x.k, ⟨#[]⟩, x.s⟩ ∧ 1 ≤ x.s ∧ x.s ≤ 3 := by
  obtain ⟨k, n, s⟩ := x
  rw [rgt_sign n s h2] at h
  simp only [Bool.and_eq_true, decide_eq_true_eq] at h
  rw [empty_of h.1]
  exact ⟨rfl, h.2⟩
theorem rgt_name {x : Nd} (h : rgt x = true) (h1 : x.k = 1) : x = nAct x.n := by
  obtain ⟨k, n, s⟩ := x
  obtain rfl : k = 1 := h1
  rw [rgt_act n s] at h
  simp only [Bool.and_eq_true, beq_iff_eq] at h
  obtain ⟨⟨_, rfl⟩, _⟩ := h
  rfl
theorem tm_of : ∀ (m : Nat) (l : List Nd), l.length ≤ m → Tre l → l.all rgt = true → ∃ t, flat t = l
  | 0, l, h, ht, _ => absurd ht.pos (by omega)
  | m + 1, l, h, ht, hr => by
    obtain ⟨x, hx, he⟩ := ht.flat
    have hxr : rgt x = true := by rw [he, List.all_cons, Bool.and_eq_true] at hr; exact hr.1
    have leaf : ar (hd l) = 0 → l = [x] := fun h0 => by
      have hk : kids l = [] := List.eq_nil_of_length_eq_zero (by rw [ht.kids.1, h0]; rfl)
      rw [hk] at he
      exact he
    have one : ar (hd l) = 1 → ∃ t, l = x :: flat t := fun h1 => by
      obtain ⟨a, hk, ta, la⟩ := ht.one h1
      rw [hk] at he
      have he : l = x :: a := by rw [he]; simp
      have ra : a.all rgt = true := by rw [he, List.all_cons, Bool.and_eq_true] at hr; exact hr.2
      obtain ⟨t, rfl⟩ := tm_of m a (by omega) ta ra
      exact ⟨t, he⟩
    have two : ar (hd l) = 2 → ∃ t u, l = x :: (flat t ++ flat u) := fun h2 => by
      obtain ⟨a, b, hk, ta, tb, la, lb⟩ := ht.two h2
      rw [hk] at he
      have he : l = x :: (a ++ b) := by rw [he]; simp
      have rab : a.all rgt = true ∧ b.all rgt = true := by
        rw [he, List.all_cons, List.all_append, Bool.and_eq_true, Bool.and_eq_true] at hr
        exact hr.2
      obtain ⟨t, rfl⟩ := tm_of m a (by omega) ta rab.1
      obtain ⟨u, rfl⟩ := tm_of m b (by omega) tb rab.2
      exact ⟨t, u, he⟩
    rcases kinds ht.ar with hk | hk | hk | hk | hk | hk | hk | hk | hk | hk | hk | hk | hk | hk
    · refine ⟨.act x.n, ?_⟩
      rw [leaf (by rw [hk]; rfl)]
      exact congrArg (fun y => [y]) (rgt_name hxr (by rw [← hx]; exact hk)).symm
    · refine ⟨.skip, ?_⟩
      rw [leaf (by rw [hk]; rfl)]
      have := rgt_of hxr (by omega) (by omega)
      rw [show x.k = 2 by omega] at this
      rw [this]
      rfl
    · refine ⟨.throw, ?_⟩
      rw [leaf (by rw [hk]; rfl)]
      have := rgt_of hxr (by omega) (by omega)
      rw [show x.k = 3 by omega] at this
      rw [this]
      rfl
    · refine ⟨.yield, ?_⟩
      rw [leaf (by rw [hk]; rfl)]
      have := rgt_of hxr (by omega) (by omega)
      rw [show x.k = 4 by omega] at this
      rw [this]
      rfl
    · obtain ⟨t, u, e⟩ := two (by rw [hk]; rfl)
      refine ⟨.seq t u, ?_⟩
      have := rgt_of hxr (by omega) (by omega)
      rw [show x.k = 5 by omega] at this
      rw [e, this]
      rfl
    · obtain ⟨t, u, e⟩ := two (by rw [hk]; rfl)
      refine ⟨.alt t u, ?_⟩
      have := rgt_of hxr (by omega) (by omega)
      rw [show x.k = 6 by omega] at this
      rw [e, this]
      rfl
    · obtain ⟨t, u, e⟩ := two (by rw [hk]; rfl)
      refine ⟨.par t u, ?_⟩
      have := rgt_of hxr (by omega) (by omega)
      rw [show x.k = 7 by omega] at this
      rw [e, this]
      rfl
    · obtain ⟨t, u, e⟩ := two (by rw [hk]; rfl)
      refine ⟨.hand t u, ?_⟩
      have := rgt_of hxr (by omega) (by omega)
      rw [show x.k = 8 by omega] at this
      rw [e, this]
      rfl
    · obtain ⟨t, e⟩ := one (by rw [hk]; rfl)
      refine ⟨.block t, ?_⟩
      have := rgt_of hxr (by omega) (by omega)
      rw [show x.k = 9 by omega] at this
      rw [e, this]
      rfl
    · obtain ⟨t, u, e⟩ := two (by rw [hk]; rfl)
      refine ⟨.pair t u, ?_⟩
      have := rgt_of hxr (by omega) (by omega)
      rw [show x.k = 10 by omega] at this
      rw [e, this]
      rfl
    · refine ⟨.over x.s, ?_⟩
      rw [leaf (by rw [hk]; rfl)]
      have := (rgt_end hxr (by omega)).1
      rw [show x.k = 11 by omega] at this
      exact congrArg (fun y => [y]) this.symm
    · obtain ⟨t, u, e⟩ := two (by rw [hk]; rfl)
      refine ⟨.going t u, ?_⟩
      have := rgt_of hxr (by omega) (by omega)
      rw [show x.k = 12 by omega] at this
      rw [e, this]
      rfl
    · obtain ⟨t, u, e⟩ := two (by rw [hk]; rfl)
      refine ⟨.stack t u, ?_⟩
      have := rgt_of hxr (by omega) (by omega)
      rw [show x.k = 13 by omega] at this
      rw [e, this]
      rfl
    · obtain ⟨t, e⟩ := one (by rw [hk]; rfl)
      refine ⟨.fin x.s t, ?_⟩
      have := (rgt_end hxr (by omega)).1
      rw [show x.k = 14 by omega] at this
      rw [e]
      exact congrArg (fun y => y :: flat t) this.symm
/-- A whole row is a tree. -/
theorem whole_tm {l : List Nd} (h : whole l = true) : ∃ t, flat t = l := tm_of l.length l (Nat.le_refl _) (whole_tre h) (whole_rgt h)
end Go.Proofs.Ytpingbiibbmcaab.Se

namespace Go.Proofs.Ytpingbiibbmcaab.Sx
open Go Go.RowKit Go.Proofs.Ytpingbiibbmcaab.Rw Go.Proofs.Ytpingbiibbmcaab.So
set_option maxRecDepth 20000
end Go.Proofs.Ytpingbiibbmcaab.Sx

namespace Go.Proofs.Ytpingbiibbmcaab.Sx
open Go Go.RowKit Go.Proofs.Ytpingbiibbmcaab.Rw Go.Proofs.Ytpingbiibbmcaab.So
set_option maxRecDepth 20000

end Go.Proofs.Ytpingbiibbmcaab.Sx

namespace Go.Proofs.Ytpingbiibbmcaab.Tr
open Go Go.RowKit
set_option maxRecDepth 20000

end Go.Proofs.Ytpingbiibbmcaab.Tr
