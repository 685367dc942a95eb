/- The program's first: the sort of the tree with which a row begins, and what lies behind it. The document's On. Rows of rows of actions; the document's ahead: the walk. Plain: the sorts of kids, of blocks, of what is made of two. The program's Of, Term, Right. The document's mixed: all rows of two, the walk. The program's On. -/
import Derived.Test.YtghnonbcojbohaaGreatDoorQ12
import Derived.Test.YtghnonbcojbohaaGreatDoorQ05
import Derived.Deep.QuietTactic
import Derived.BigQuiet
import Derived.Test.YtghnonbcojbohaaGreatDoorQ11

namespace Go.Proofs.YtghnonbcojbohaaGreatDoor.Sx
open Go Go.RowKit Go.Proofs.YtghnonbcojbohaaGreatDoor.Rw Go.Proofs.YtghnonbcojbohaaGreatDoor.So
set_option maxRecDepth 20000

/-- What is asked of shorter trees. -/
def FirstC (m : Nat) : Prop := ∀ (L R : List Nd) (w0 w : World) (v : Value), L.length < m → Tre L → Nds w0 v (L ++ R) → Below w0.heap.size w0 w →
  Calls Tryz.prog 83 #[v] w fun e w' => ∃ y, e = .returned (.tuple #[.int .i64 (So.first L), y]) ∧ Nds w0 y R ∧ Below w.heap.size w w'
/-- The first node, and the sorts of its kids, in blocks of their own; below them all is as it was. -/
structure Loc (w wx : World) (n : Nd) (x0 x1 : Int) : Prop where
  bel : Below w.heap.size w wx
  sz : w.heap.size + 1 < wx.heap.size
  c0 : wx.cell? ⟨w.heap.size, 0, none⟩ = some (.int .i64 n.k)
  k0 : wx.cell? ⟨w.heap.size + 1, 0, none⟩ = some (.int .i64 x0)
  k1 : wx.cell? ⟨w.heap.size + 1, 1, none⟩ = some (.int .i64 x1)
  f0 : wx.frozen? ⟨w.heap.size + 1, 0, none⟩ = false
  f1 : wx.frozen? ⟨w.heap.size + 1, 1, none⟩ = false
theorem Loc.below {w wx wy : World} {n : Nd} {x0 x1 : Int} (h : Loc w wx n x0 x1) (hb : Below wx.heap.size wx wy) : Loc w wy n x0 x1 := by
  have hs := h.sz
  exact ⟨h.bel.trans (hb.mono h.bel.size), Nat.lt_of_lt_of_le h.sz hb.size, by rw [hb.cell (p := ⟨w.heap.size, 0, none⟩) (by show w.heap.size < _; omega)]; exact h.c0,
    by rw [hb.cell (p := ⟨w.heap.size + 1, 0, none⟩) hs]; exact h.k0, by rw [hb.cell (p := ⟨w.heap.size + 1, 1, none⟩) hs]; exact h.k1,
    by rw [hb.frozen (p := ⟨w.heap.size + 1, 0, none⟩) hs]; exact h.f0, by rw [hb.frozen (p := ⟨w.heap.size + 1, 1, none⟩) hs]; exact h.f1⟩
theorem Loc.start (w : World) (n : Nd) : Loc w ((w.alloc (.cells #[.int .i64 n.k, .string n.n, .int .i64 n.s] 48)).alloc (.cells #[.int .i64 0, .int .i64 0] 151)).drew n 0 0 := by
  constructor
  · exact (((Below.refl _ _).alloc (Nat.le_refl _) _).alloc (by simp) _).drew
  all_goals simp
theorem Loc.drew {w wx : World} {n : Nd} {x0 x1 : Int} (h : Loc w wx n x0 x1) : Loc w wx.drew n x0 x1 := ⟨h.bel.drew, h.sz, h.c0, h.k0, h.k1, h.f0, h.f1⟩
theorem set_size (w : World) (p : Addr) (v : Value) : (w.setCell p v).heap.size = w.heap.size := by simp [World.setCell]
theorem Loc.set0 {w wx : World} {n : Nd} {x0 x1 : Int} (h : Loc w wx n x0 x1) (y : Int) : Loc w (wx.setCell ⟨w.heap.size + 1, 0, none⟩ (.int .i64 y)) n y x1 := by
  have hs := h.sz
  obtain ⟨h1, h2, h3, h4, h5, h6, h7⟩ := h
  exact ⟨h1.setCell (by show w.heap.size ≤ w.heap.size + 1; omega) _, (by rw [set_size]; exact h2), (by rw [World.cell?_setCell_other _ _ _ _ (by intro e; injection e with e1 e2; omega)]; exact h3),
    World.cell?_setCell_same _ _ _ h4, (by rw [World.cell?_setCell_other _ _ _ _ (by intro e; injection e with e1 e2; omega)]; exact h5), (by rw [World.frozen?_setCell]; exact h6), (by rw [World.frozen?_setCell]; exact h7)⟩
theorem Loc.set1 {w wx : World} {n : Nd} {x0 x1 : Int} (h : Loc w wx n x0 x1) (y : Int) : Loc w (wx.setCell ⟨w.heap.size + 1, 1, none⟩ (.int .i64 y)) n x0 y := by
  have hs := h.sz
  obtain ⟨h1, h2, h3, h4, h5, h6, h7⟩ := h
  exact ⟨h1.setCell (by show w.heap.size ≤ w.heap.size + 1; omega) _, (by rw [set_size]; exact h2), (by rw [World.cell?_setCell_other _ _ _ _ (by intro e; injection e with e1 e2; omega)]; exact h3),
    (by rw [World.cell?_setCell_other _ _ _ _ (by intro e; injection e with e1 e2; omega)]; exact h4), World.cell?_setCell_same _ _ _ h5, (by rw [World.frozen?_setCell]; exact h6), (by rw [World.frozen?_setCell]; exact h7)⟩
theorem tail_nds {w : World} {b o c : Nat} {n : Nd} {R : List Nd} (h : At w b o (n :: R)) (hc : (n :: R).length ≤ c) :
    ∃ a, (if c = 1 then some (⟨b, o, none⟩ : Addr) else some ⟨b, o + 3, none⟩) = a ∧ Nds w (.slice a R.length (c - 1)) R := by
  refine ⟨_, rfl, ?_⟩
  have hl : R.length + 1 ≤ c := hc
  split
  · rename_i h0
    have : R = [] := List.eq_nil_of_length_eq_zero (by omega)
    subst this
    exact ⟨rfl, _, _, rfl, by simp, fun h => (by cases h), fun h => absurd h (Nat.lt_irrefl 0)⟩
  · have := part_nds h 1 R.length (c - 1) (by simp; omega) (by omega)
    simpa using this
theorem ret_two {z z' : Nat} {y : Value} (h : z = z') : Ending.returned (.tuple #[.int .i64 (z' : Int), y]) = Ending.returned (.tuple #[.int .i64 (z : Int), y]) := by rw [h]
set_option maxHeartbeats 2000000 in
theorem first0 (L R : List Nd) (w0 w : World) (v : Value) (h : Tre L) (h0 : Rw.ar (hd L) = 0) (hv : Nds w0 v (L ++ R)) (hw : Below w0.heap.size w0 w) :
    Calls Tryz.prog 83 #[v] w fun e w' => ∃ y, e = .returned (.tuple #[.int .i64 (So.first L), y]) ∧ Nds w0 y R ∧ Below w.heap.size w w' := by
  obtain ⟨n, hn, rfl, hf⟩ := parts0 h h0
  rw [hn] at h0
  have H0 := Lib.hid h0
  have HF := Lib.hid hf
  have HK := Lib.hid (show 0 ≤ Rw.ar n.k by rw [h0]; decide)
  rcases hv.form with ⟨hx, _⟩ | ⟨b0, o, c, rfl, hc, hat⟩
  · cases hx
  have hz : [n] ++ R = n :: R := by simp
  rw [hz] at hat hc ⊢
  obtain ⟨e1, e2, e3⟩ := hat 0 (by simp)
  rw [Nat.zero_mul, Nat.add_zero] at e1 e2 e3
  simp only [List.getElem_cons_zero] at e1 e2 e3
  rw [← hw.cell (Ap.cell_lt e1)] at e1
  rw [← hw.cell (Ap.cell_lt e2)] at e2
  rw [← hw.cell (Ap.cell_lt e3)] at e3
  have HW := Lib.hid hw
  obtain ⟨a1, hsl, hnd⟩ := tail_nds hat hc
  have ND := Lib.hid hnd
  have HL := Lib.hid (Loc.start w n)
  rw [List.length_cons]
  obtain ⟨N, hN⟩ : ∃ N, R.length = N := ⟨_, rfl⟩
  rw [hN] at ND ⊢
  obtain ⟨F, hF⟩ : ∃ F, So.first [n] = F := ⟨_, rfl⟩
  rw [hF] at HF ⊢
  have g1 : (1 : Int) ≤ (N : Int) + 1 := by omega
  have lt : b0 < w.heap.size := Ap.cell_lt e1
  clear hat hc hnd hz hN hF hn hf h0 h hv hw
  go_enter Tryz.func83, Tryz.ntmps83
  go_wp2_with fail
  go_region
  go_wp2_with fail
  refine (Rx.arP_eq n.k _).mono ?_
  rw [H0.out]
  rintro e w' ⟨rfl, rfl⟩
  go_wp2_with fail
  refine Go.wp_loop_rounds 1 ?_
  rw [rounds_succ]
  go_wp2_with fail
  refine (fit_any n.k 0 0 _ HK.out (by omega) (by omega) (fun _ => rfl) (fun _ => rfl)).mono ?_
  rintro e w' ⟨rfl, rfl⟩
  cases hq : fit n.k 0 0 with
  | false =>
    have HZ : Hid (F = 0) := by
      show _ = _
      rw [HF.out]
      unfold comb
      rw [hq]
      rfl
    clear hq
    go_wp2_with fail
    go_ret2
    exact ⟨_, ret_two HZ.out, ND.out, HL.out.bel⟩
  | true =>
    have HZ : Hid (F = made n.k 0 0) := by
      show _ = _
      rw [HF.out]
      unfold comb
      rw [hq]
      rfl
    clear hq
    go_wp2_with fail
    refine (made_any n.k 0 0 _ HK.out (by omega)).mono ?_
    rintro e w' ⟨rfl, rfl⟩
    go_wp2_with fail
    go_ret2
    exact ⟨_, ret_two HZ.out, ND.out, HL.out.bel⟩
set_option maxHeartbeats 2000000 in
theorem first1 (m : Nat) (IH : FirstC m) (L R : List Nd) (w0 w : World) (v : Value) (hm : L.length ≤ m) (h : Tre L) (h0 : Rw.ar (hd L) = 1) (hv : Nds w0 v (L ++ R)) (hw : Below w0.heap.size w0 w) :
    Calls Tryz.prog 83 #[v] w fun e w' => ∃ y, e = .returned (.tuple #[.int .i64 (So.first L), y]) ∧ Nds w0 y R ∧ Below w.heap.size w w' := by
  obtain ⟨n, a, hn, rfl, hta, hf⟩ := parts1 h h0
  rw [hn] at h0
  have H0 := Lib.hid h0
  have HF := Lib.hid hf
  have HK := Lib.hid (show 0 ≤ Rw.ar n.k by rw [h0]; decide)
  have HTA := Lib.hid hta
  have HA4 := Lib.hid (first_le a)
  have la : a.length < m := by simp at hm; omega
  rcases hv.form with ⟨hx, _⟩ | ⟨b0, o, c, rfl, hc, hat⟩
  · cases hx
  have hz : (n :: a) ++ R = n :: (a ++ R) := by simp
  rw [hz] at hat hc ⊢
  obtain ⟨e1, e2, e3⟩ := hat 0 (by simp)
  rw [Nat.zero_mul, Nat.add_zero] at e1 e2 e3
  simp only [List.getElem_cons_zero] at e1 e2 e3
  rw [← hw.cell (Ap.cell_lt e1)] at e1
  rw [← hw.cell (Ap.cell_lt e2)] at e2
  rw [← hw.cell (Ap.cell_lt e3)] at e3
  have HW := Lib.hid hw
  obtain ⟨a1, hsl, hnd⟩ := tail_nds hat hc
  have ND := Lib.hid hnd
  have HL := Lib.hid (Loc.start w n)
  rw [List.length_cons]
  obtain ⟨N, hN⟩ : ∃ N, (a ++ R).length = N := ⟨_, rfl⟩
  rw [hN] at ND ⊢
  obtain ⟨F, hF⟩ : ∃ F, So.first (n :: a) = F := ⟨_, rfl⟩
  rw [hF] at HF ⊢
  have g1 : (1 : Int) ≤ (N : Int) + 1 := by omega
  have lt : b0 < w.heap.size := Ap.cell_lt e1
  obtain ⟨A, hA⟩ : ∃ A, So.first a = A := ⟨_, rfl⟩
  rw [hA] at HF HA4
  have HA := Lib.hid hA
  clear hA hta
  clear hat hc hnd hz hN hF hn hf h0 h hv hw hm
  go_enter Tryz.func83, Tryz.ntmps83
  go_wp2_with fail
  go_region
  go_wp2_with fail
  refine (Rx.arP_eq n.k _).mono ?_
  rw [H0.out]
  rintro e w' ⟨rfl, rfl⟩
  go_wp2_with fail
  refine Go.wp_loop_rounds 2 ?_
  rw [rounds_succ]
  go_wp2_with fail
  refine (IH a R w0 _ _ la HTA.out ND.out (HW.out.trans (HL.out.bel.mono HW.out.size))).mono ?_
  rw [HA.out]
  rintro e w1 ⟨y1, rfl, hy, hb⟩
  have HY := Lib.hid hy
  have HM := Lib.hid (HL.out.below hb)
  obtain ⟨_, a2, c2, rfl, -⟩ := hy
  clear hb e1 e2 e3 lt
  obtain ⟨k1, k2, k3, k4, k5, k6, k7⟩ := HM.out
  go_wp2_with fail
  rw [rounds_succ]
  go_wp2_with fail
  refine (fit_any n.k A 0 _ HK.out HA4.out (by omega) (fun h => by rw [H0.out] at h; exact absurd h (by decide)) (fun _ => rfl)).mono ?_
  rintro e w' ⟨rfl, rfl⟩
  cases hq : fit n.k A 0 with
  | false =>
    have HZ : Hid (F = 0) := by
      show _ = _
      rw [HF.out]
      unfold comb
      rw [hq]
      rfl
    clear hq
    go_wp2_with fail
    go_ret2
    exact ⟨_, ret_two HZ.out, HY.out, (HM.out.set0 A).bel⟩
  | true =>
    have HZ : Hid (F = made n.k A 0) := by
      show _ = _
      rw [HF.out]
      unfold comb
      rw [hq]
      rfl
    clear hq
    go_wp2_with fail
    refine (made_any n.k A 0 _ HK.out HA4.out).mono ?_
    rintro e w' ⟨rfl, rfl⟩
    go_wp2_with fail
    go_ret2
    exact ⟨_, ret_two HZ.out, HY.out, (HM.out.set0 A).bel⟩
set_option maxHeartbeats 2000000 in
theorem first2 (m : Nat) (IH : FirstC m) (L R : List Nd) (w0 w : World) (v : Value) (hm : L.length ≤ m) (h : Tre L) (h0 : Rw.ar (hd L) = 2) (hv : Nds w0 v (L ++ R)) (hw : Below w0.heap.size w0 w) :
    Calls Tryz.prog 83 #[v] w fun e w' => ∃ y, e = .returned (.tuple #[.int .i64 (So.first L), y]) ∧ Nds w0 y R ∧ Below w.heap.size w w' := by
  obtain ⟨n, a, b, hn, rfl, hta, htb, hf⟩ := parts2 h h0
  rw [hn] at h0
  have H0 := Lib.hid h0
  have HF := Lib.hid hf
  have HK := Lib.hid (show 0 ≤ Rw.ar n.k by rw [h0]; decide)
  have HTA := Lib.hid hta
  have HA4 := Lib.hid (first_le a)
  have la : a.length < m := by simp at hm; omega
  have HTB := Lib.hid htb
  have HB4 := Lib.hid (first_le b)
  have lb : b.length < m := by simp at hm; omega
  rcases hv.form with ⟨hx, _⟩ | ⟨b0, o, c, rfl, hc, hat⟩
  · cases hx
  have hz : (n :: (a ++ b)) ++ R = n :: (a ++ (b ++ R)) := by simp
  rw [hz] at hat hc ⊢
  obtain ⟨e1, e2, e3⟩ := hat 0 (by simp)
  rw [Nat.zero_mul, Nat.add_zero] at e1 e2 e3
  simp only [List.getElem_cons_zero] at e1 e2 e3
  rw [← hw.cell (Ap.cell_lt e1)] at e1
  rw [← hw.cell (Ap.cell_lt e2)] at e2
  rw [← hw.cell (Ap.cell_lt e3)] at e3
  have HW := Lib.hid hw
  obtain ⟨a1, hsl, hnd⟩ := tail_nds hat hc
  have ND := Lib.hid hnd
  have HL := Lib.hid (Loc.start w n)
  rw [List.length_cons]
  obtain ⟨N, hN⟩ : ∃ N, (a ++ (b ++ R)).length = N := ⟨_, rfl⟩
  rw [hN] at ND ⊢
  obtain ⟨F, hF⟩ : ∃ F, So.first (n :: (a ++ b)) = F := ⟨_, rfl⟩
  rw [hF] at HF ⊢
  have g1 : (1 : Int) ≤ (N : Int) + 1 := by omega
  have lt : b0 < w.heap.size := Ap.cell_lt e1
  obtain ⟨A, hA⟩ : ∃ A, So.first a = A := ⟨_, rfl⟩
  rw [hA] at HF HA4
  have HA := Lib.hid hA
  clear hA hta
  obtain ⟨B, hB⟩ : ∃ B, So.first b = B := ⟨_, rfl⟩
  rw [hB] at HF HB4
  have HB := Lib.hid hB
  clear hB htb
  clear hat hc hnd hz hN hF hn hf h0 h hv hw hm
  go_enter Tryz.func83, Tryz.ntmps83
  go_wp2_with fail
  go_region
  go_wp2_with fail
  refine (Rx.arP_eq n.k _).mono ?_
  rw [H0.out]
  rintro e w' ⟨rfl, rfl⟩
  go_wp2_with fail
  refine Go.wp_loop_rounds 3 ?_
  rw [rounds_succ]
  go_wp2_with fail
  refine (IH a (b ++ R) w0 _ _ la HTA.out ND.out (HW.out.trans (HL.out.bel.mono HW.out.size))).mono ?_
  rw [HA.out]
  rintro e w1 ⟨y1, rfl, hy, hb⟩
  have HY := Lib.hid hy
  have HM := Lib.hid (HL.out.below hb)
  obtain ⟨_, a2, c2, rfl, -⟩ := hy
  obtain ⟨M, hM⟩ : ∃ M, (b ++ R).length = M := ⟨_, rfl⟩
  rw [hM] at HY ⊢
  clear hM
  clear hb e1 e2 e3 lt
  obtain ⟨k1, k2, k3, k4, k5, k6, k7⟩ := HM.out
  go_wp2_with fail
  rw [rounds_succ]
  go_wp2_with fail
  refine (IH b R w0 _ _ lb HTB.out HY.out (HW.out.trans ((HM.out.set0 A).bel.mono HW.out.size))).mono ?_
  rw [HB.out]
  rintro e w2 ⟨y2, rfl, hy, hb⟩
  have HY2 := Lib.hid hy
  have HM2 := Lib.hid ((HM.out.set0 A).below hb)
  obtain ⟨_, a3, c3, rfl, -⟩ := hy
  clear hb k1 k2 k3 k4 k5 k6 k7
  obtain ⟨k1, k2, k3, k4, k5, k6, k7⟩ := HM2.out
  go_wp2_with fail
  rw [rounds_succ]
  go_wp2_with fail
  refine (fit_any n.k A B _ HK.out HA4.out HB4.out (fun h => by rw [H0.out] at h; exact absurd h (by decide)) (fun h => by rw [H0.out] at h; exact absurd h (by decide))).mono ?_
  rintro e w' ⟨rfl, rfl⟩
  cases hq : fit n.k A B with
  | false =>
    have HZ : Hid (F = 0) := by
      show _ = _
      rw [HF.out]
      unfold comb
      rw [hq]
      rfl
    clear hq
    go_wp2_with fail
    go_ret2
    exact ⟨_, ret_two HZ.out, HY2.out, (HM2.out.set1 B).bel⟩
  | true =>
    have HZ : Hid (F = made n.k A B) := by
      show _ = _
      rw [HF.out]
      unfold comb
      rw [hq]
      rfl
    clear hq
    go_wp2_with fail
    refine (made_any n.k A B _ HK.out HA4.out).mono ?_
    rintro e w' ⟨rfl, rfl⟩
    go_wp2_with fail
    go_ret2
    exact ⟨_, ret_two HZ.out, HY2.out, (HM2.out.set1 B).bel⟩
theorem first_all : ∀ m, FirstC m
  | 0 => fun _ _ _ _ _ h => absurd h (Nat.not_lt_zero _)
  | m + 1 => fun L R w0 w v hl h hv hw => by
    have ha := h.ar
    rcases ar_cases (hd L) with h0 | h0 | h0 | h0
    · rw [h0] at ha
      exact absurd ha (by decide)
    · exact first0 L R w0 w v h h0 hv hw
    · exact first1 m (first_all m) L R w0 w v (by omega) h h0 hv hw
    · exact first2 m (first_all m) L R w0 w v (by omega) h h0 hv hw
/-- The program's first. -/
theorem first_any (L R : List Nd) (w : World) (v : Value) (h : Tre L) (hv : Nds w v (L ++ R)) :
    Calls Tryz.prog 83 #[v] w fun e w' => ∃ y, e = .returned (.tuple #[.int .i64 (So.first L), y]) ∧ Nds w y R ∧ Below w.heap.size w w' :=
  first_all (L.length + 1) L R w w v (by omega) h hv (Below.refl _ _)
end Go.Proofs.YtghnonbcojbohaaGreatDoor.Sx

namespace Go.Proofs.YtghnonbcojbohaaGreatDoor.So
open Go Go.RowKit Go.Proofs.YtghnonbcojbohaaGreatDoor.Rw
set_option maxRecDepth 20000

def onB (l : List Nd) (p : Bool) : Bool := if p then of l == 2 || of l == 4 else of l == 1 || of l == 3
set_option maxHeartbeats 2000000 in
theorem onR_any (l : List Nd) (p : Bool) (v : Value) (w : World) (hv : Nds w v l) (hl : l.length ≤ 1000) (hm : Nms l) : Calls Tryz.prog 64 #[v, .bool p] w fun e w' => e = .returned (.bool (onB l p)) ∧ Below w.heap.size w w' := by
  have HV := Lib.hid hv
  have HC := Lib.hid (fun w h => ofR_any l v w h hl hm)
  have hr : onB l p = if p then of l == 2 || of l == 4 else of l == 1 || of l == 3 := rfl
  have hz := of_cases l
  obtain ⟨z, hzz⟩ : ∃ z, of l = z := ⟨_, rfl⟩
  rw [hzz] at hr hz HC
  rw [hr]
  obtain ⟨_, a, cap, rfl, -⟩ := hv
  clear hm hzz hr
  cases p
  all_goals
    rcases hz with rfl | rfl | rfl | rfl | rfl
    all_goals
      go_enter Tryz.func64, Tryz.ntmps64
      go_wp2_with fail
      refine (HC.out _ HV.out).mono ?_
      rintro e w1 ⟨rfl, hb⟩
      have HV1 := Lib.hid (HV.out.below hb)
      have HB := Lib.hid hb
      clear hb
      go_wp2_with fail
      first
        | (go_ret; exact ⟨rfl, HB.out⟩)
        | (refine (HC.out _ HV1.out).mono ?_
           rintro e w2 ⟨rfl, hb⟩
           go_wp2_with fail
           go_ret
           exact ⟨rfl, HB.out.trans (hb.mono HB.out.size)⟩)
end Go.Proofs.YtghnonbcojbohaaGreatDoor.So

namespace Go.Proofs.YtghnonbcojbohaaGreatDoor.Tr
open Go Go.RowKit
set_option maxRecDepth 20000

/-- A slice of texts, in a block that is as ok says. -/
def StrsO (ok : Nat → Prop) (w : World) (v : Value) (l : List ByteArray) : Prop := Ap.RdO ok w 1 v l.length (l.map .string)
/-- The cells of some rows. -/
def RwO (ok : Nat → Prop) (w : World) : List Value → List (List ByteArray) → Prop
  | [], [] => True
  | a :: cs, r :: rs => StrsO ok w a r ∧ RwO ok w cs rs
  | _, _ => False
/-- A slice of rows that reads as these. -/
def Rws (w : World) (v : Value) (rs : List (List ByteArray)) : Prop := ∃ cs, Ap.Rd w 1 v rs.length cs ∧ RwO (fun _ => True) w cs rs

theorem RwO.map {ok ok' : Nat → Prop} {w w' : World} (h : ∀ v l, StrsO ok w v l → StrsO ok' w' v l) : ∀ {cs : List Value} {rs : List (List ByteArray)}, RwO ok w cs rs → RwO ok' w' cs rs
  | [], [], _ => trivial
  | _ :: _, _ :: _, hr => ⟨h _ _ hr.1, RwO.map h hr.2⟩
  | [], _ :: _, hr => hr.elim
  | _ :: _, [], hr => hr.elim
theorem RwO.snoc {ok : Nat → Prop} {w : World} {a : Value} {r : List ByteArray} (ha : StrsO ok w a r) : ∀ {cs : List Value} {rs : List (List ByteArray)}, RwO ok w cs rs → RwO ok w (cs ++ [a]) (rs ++ [r])
  | [], [], _ => ⟨ha, trivial⟩
  | _ :: _, _ :: _, hr => ⟨hr.1, RwO.snoc ha hr.2⟩
  | [], _ :: _, hr => hr.elim
  | _ :: _, [], hr => hr.elim
theorem RwO.append {ok : Nat → Prop} {w : World} {ds : List Value} {ss : List (List ByteArray)} (hd : RwO ok w ds ss) : ∀ {cs : List Value} {rs : List (List ByteArray)}, RwO ok w cs rs → RwO ok w (cs ++ ds) (rs ++ ss)
  | [], [], _ => hd
  | _ :: _, _ :: _, hr => ⟨hr.1, RwO.append hd hr.2⟩
  | [], _ :: _, hr => hr.elim
  | _ :: _, [], hr => hr.elim
theorem RwO.len {ok : Nat → Prop} {w : World} : ∀ {cs : List Value} {rs : List (List ByteArray)}, RwO ok w cs rs → cs.length = rs.length
  | [], [], _ => rfl
  | _ :: _, _ :: _, hr => by simp [RwO.len hr.2]
  | [], _ :: _, hr => hr.elim
  | _ :: _, [], hr => hr.elim
theorem RwO.at {ok : Nat → Prop} {w : World} : ∀ {cs : List Value} {rs : List (List ByteArray)}, RwO ok w cs rs → ∀ k (hk : k < rs.length), ∃ a, cs[k]? = some a ∧ StrsO ok w a rs[k]
  | [], [], _, k, hk => by simp at hk
  | a :: _, _ :: _, hr, 0, _ => ⟨a, rfl, hr.1⟩
  | _ :: _, _ :: _, hr, k + 1, hk => by
    obtain ⟨a, h1, h2⟩ := RwO.at hr.2 k (by simpa using hk)
    exact ⟨a, by simpa using h1, h2⟩
  | [], _ :: _, hr, _, _ => hr.elim
  | _ :: _, [], hr, _, _ => hr.elim
theorem RwO.one {ok : Nat → Prop} {w : World} : ∀ {cs : List Value} {rs : List (List ByteArray)}, RwO ok w cs rs → ∀ u ∈ cs, u.oneCell' = true
  | [], [], _, u, hu => by cases hu
  | a :: _, _ :: _, hr, u, hu => by
    rcases List.mem_cons.1 hu with rfl | hu
    · obtain ⟨_, _, _, rfl, _⟩ := hr.1
      rfl
    · exact RwO.one hr.2 u hu
  | [], _ :: _, hr, _, _ => hr.elim
  | _ :: _, [], hr, _, _ => hr.elim
theorem Rws.below {w w' : World} {v : Value} {rs : List (List ByteArray)} (h : Rws w v rs) (hb : Below w.heap.size w w') : Rws w' v rs := by
  obtain ⟨cs, h1, h2⟩ := h
  exact ⟨cs, h1.below hb, h2.map fun _ _ h => Ap.RdO.below h hb⟩
theorem Rws.val {w : World} {v : Value} {rs : List (List ByteArray)} (h : Rws w v rs) : ∃ a cap, v = .slice a rs.length cap ∧ rs.length ≤ cap ∧
    ∀ k, (hk : k < rs.length) → ∃ b off x, a = some ⟨b, off, none⟩ ∧ w.cell? ⟨b, off + k, none⟩ = some x ∧ Strs w x rs[k] := by
  obtain ⟨cs, ⟨_, a, cap, rfl, hcap, _, hcell⟩, hc⟩ := h
  refine ⟨a, cap, rfl, hcap, fun k hk => ?_⟩
  obtain ⟨b, off, rfl, hj⟩ := hcell (by omega)
  obtain ⟨x, h1, h2⟩ := hc.at k hk
  exact ⟨b, off, x, rfl, hj _ _ h1, h2.rd⟩

theorem infoR : (Tryz.prog.info? 44).map (fun i => (i.zero, i.size, i.bytes)) = some (some (.slice none 0 0), 1, 24) := by kernel_rfl

/-- One row appended to a row of rows that the call owns. -/
theorem run_append_row {wr : World} {base n : Nat} {v a : Value} {cs : List Value} (hown : wr.ownsRow base 44 1 v n cs) (hbase : base ≤ wr.heap.size) (ha : a.oneCell' = true) (hlen : n ≤ 2000000000000) :
    ∃ v' w', (Builtin.append_ #[122, 122] 122 #[v, .slice (some ⟨wr.heap.size, 0, none⟩) 1 1]).run Tryz.prog (wr.alloc (.cells #[a] 44)) = .ok v' w' ∧
      w'.ownsRow base 44 1 v' (n + 1) (cs ++ [a]) ∧ wr.grownBy w' v.ownBlock ∧ Below base wr w' ∧ Ap.Fresh wr v v' := by
  obtain ⟨i0, hi, hz, hs1, hb8⟩ := info_parts infoR
  obtain ⟨v', w', h1, h2, h3, h4, h5⟩ := Ap.run_append_one (P := Tryz.prog) (ty := 122) Tryz.underlying122 hi hz hs1 hb8 (by rfl) (by omega) hown hbase #[a] rfl
    (fun u hu => by
      simp at hu
      subst hu
      exact ha) (by unfold maxLen; omega) (by omega)
  exact ⟨v', w', h1, by simpa using h2, h3, h4, h5⟩

theorem strs_new (w : World) (s : ByteArray) (t : TypeId) : Strs (w.alloc (.cells #[.string s] t)) (.slice (some ⟨w.heap.size, 0, none⟩) 1 1) [s] := by
  refine ⟨rfl, _, 1, rfl, Nat.le_refl _, fun h => (by cases h), fun _ => ⟨w.heap.size, 0, rfl, fun j u hu => ?_⟩⟩
  rw [Nat.zero_add, World.cell?_alloc_new]
  simpa using hu

theorem map_take (x : ByteArray) (rs : List (List ByteArray)) (k : Nat) (h : k < rs.length) : (rs.take (k + 1)).map (x :: ·) = (rs.take k).map (x :: ·) ++ [x :: rs[k]] := by
  rw [List.take_succ_eq_append_getElem h, List.map_append]
  rfl

set_option maxHeartbeats 2000000 in
theorem ahead_any (s : ByteArray) (x : Value) (rs : List (List ByteArray)) (w : World) (hx : Rws w x rs) (hlen : rs.length ≤ 1500000000000) (hrow : ∀ r ∈ rs, r.length ≤ 1000000000000) :
    Calls Tryz.prog 188 #[.string s, x] w fun e w' => ∃ v cs, e = .returned v ∧ w'.ownsRow w.heap.size 44 1 v rs.length cs ∧ RwO (fun b => w.heap.size ≤ b ∧ some b ≠ v.ownBlock) w' cs (rs.map (s :: ·)) ∧ Below w.heap.size w w' := by
  obtain ⟨a1, c1, rfl, _, h1⟩ := hx.val
  have H1 := Lib.hid h1
  have HR := Lib.hid hrow
  clear h1 hx hrow
  go_enter Tryz.func188, Tryz.ntmps188
  go_wp2_with fail
  go_loopw [5, 6] (fun v i wr => ∃ (k : Nat) (cs : List Value), k ≤ rs.length ∧ i = .int .i64 k ∧ Below w.heap.size w wr ∧ wr.ownsRow w.heap.size 44 1 v k cs ∧ RwO (fun b => w.heap.size ≤ b ∧ some b ≠ v.ownBlock) wr cs ((rs.take k).map (s :: ·))) (fun _ i _ => rs.length - (intOf i).toNat)
  case atStart => exact ⟨0, [], Nat.zero_le _, rfl, Below.refl _ _, ⟨rfl, .inl ⟨rfl, rfl⟩⟩, trivial⟩
  case round =>
    obtain ⟨k, cs, hk, rfl, hb, hown, hcs⟩ := hrel
    have HB := Lib.hid hb
    have HO := Lib.hid hown
    have HC := Lib.hid hcs
    clear hb hown hcs
    by_cases hlt : k < rs.length
    · obtain ⟨b1, o1, a, rfl, e1, hs⟩ := H1.out k hlt
      have c1' : wr.cell? ⟨b1, o1 + k, none⟩ = some a := by rw [HB.out.cell (Ap.cell_lt e1)]; exact e1
      have HS := Lib.hid hs
      have HM := Lib.hid (map_take s rs k hlt)
      have HL := Lib.hid (HR.out _ (List.getElem_mem hlt))
      generalize rs[k] = r at *
      clear e1 hs
      have hblt : b1 < wr.heap.size := Ap.cell_lt c1'
      go_wp2_with fail
      refine (cat_any _ _ [s] r _ (strs_new wr s _) (HS.out.below (HB.out.alloc HB.out.size _)) (by have := HL.out; simp; omega)).mono ?_
      rintro e w1 ⟨v1, rfl, hown1, hb1⟩
      have HO1 := Lib.hid hown1
      have B1 : Hid (Below wr.heap.size wr w1) := ((Below.refl _ _).alloc (Nat.le_refl _) _).trans (hb1.mono (by simp))
      obtain ⟨_, av, cv, rfl, _⟩ := Ap.Rd.owned hown1
      obtain ⟨v2, w2, hrun, hown2, hgr, hb2, hfr⟩ := run_append_row (a := .slice av ([s] ++ r).length cv) (Ap.own_below HO.out B1.out) (Nat.le_trans HB.out.size B1.out.size) rfl (by omega)
      have HRUN := Lib.hid hrun
      have HO2 := Lib.hid hown2
      have HG := Lib.hid hgr
      have HFR := Lib.hid hfr
      have B2 := Lib.hid ((HB.out.trans (B1.out.mono HB.out.size)).trans hb2)
      clear hrun hown2 hgr hb2 hfr hown1 hb1
      go_wp2_with (at_builtin; refine Ap.wpList_append_run (by rfl) _ _ _ _ rfl _ _ rfl rfl v2 w2 HRUN.out ?_)
      go_roundw
      case rel =>
        refine ⟨k + 1, cs ++ [.slice av ([s] ++ r).length cv], by omega, by go_num, B2.out, HO2.out, ?_⟩
        rw [HM.out]
        refine RwO.snoc ?_ (HC.out.map fun v l h => Ap.RdO.grow (Ap.RdO.below h B1.out) HG.out HFR.out)
        refine Ap.RdO.grow (Ap.RdO.imp (Ap.RdO.fresh HO1.out) fun b _ hb => ⟨Nat.le_trans HB.out.size (Nat.le_trans (by simp) hb), ?_⟩) HG.out HFR.out
        intro hbo
        have := Ap.own_lt HO.out b hbo.symm
        simp at hb
        omega
      case measure => simp [intOf]; omega
    · go_wp2_with fail
      go_ret
      refine ⟨_, cs, rfl, ?_, ?_, HB.out⟩
      · have : k = rs.length := by omega
        rw [← this]
        exact HO.out
      · have := HC.out
        rw [List.take_of_length_le (by omega)] at this
        exact this
end Go.Proofs.YtghnonbcojbohaaGreatDoor.Tr

namespace Go.Proofs.YtghnonbcojbohaaGreatDoor.So
open Go Go.Proofs.YtghnonbcojbohaaGreatDoor.Rw

theorem not_both {l : List Nd} (h3 : Is 3 l = true) : Is 4 l = false := by
  cases h : Is 4 l with
  | false => rfl
  | true => exact absurd ⟨h3, h⟩ (apart _ l (Nat.le_refl _))
theorem not_both' {l : List Nd} (h4 : Is 4 l = true) : Is 3 l = false := by
  cases h : Is 3 l with
  | false => rfl
  | true => exact absurd ⟨h, h4⟩ (apart _ l (Nat.le_refl _))
theorem not_two {l : List Nd} (h : Is 4 l = false) : Is 2 l = false := by
  cases h2 : Is 2 l with
  | false => rfl
  | true => rw [two_four h2] at h; cases h
theorem not_one {l : List Nd} (h : Is 3 l = false) : Is 1 l = false := by
  cases h1 : Is 1 l with
  | false => rfl
  | true => rw [one_three h1] at h; cases h
theorem plain_all {l : List Nd} (h : Is 1 l = true) : Is 1 l = true ∧ Is 2 l = false ∧ Is 3 l = true ∧ Is 4 l = false :=
  ⟨h, not_two (not_both (one_three h)), one_three h, not_both (one_three h)⟩
theorem paired_all {l : List Nd} (h : Is 2 l = true) : Is 1 l = false ∧ Is 2 l = true ∧ Is 3 l = false ∧ Is 4 l = true :=
  ⟨not_one (not_both' (two_four h)), h, not_both' (two_four h), two_four h⟩
theorem whole_mk {l : List Nd} (hr : l.all rgt = true) (ht : Tre l) (hl : l.length ≤ 200) : whole l = true := by
  unfold whole
  simp only [Bool.and_eq_true, decide_eq_true_eq]
  exact ⟨⟨hr, ht.pos, hl⟩, ht.size⟩
theorem whole_rgt {l : List Nd} (h : whole l = true) : l.all rgt = true := by
  unfold whole at h
  simp only [Bool.and_eq_true] at h
  exact h.1.1
theorem of_whole {l : List Nd} (h : whole l = true) : of l = first l := by
  unfold of
  rw [h]
  rfl
theorem of_not {l : List Nd} (h : whole l = false) : of l = 0 := by
  unfold of
  rw [h]
  rfl
theorem first_plain {l : List Nd} (h : Is 1 l = true) : first l = 1 := by unfold first; rw [h]; rfl
theorem first_paired {l : List Nd} (h : Is 2 l = true) : first l = 2 := by
  obtain ⟨h1, h2, _, _⟩ := paired_all h
  unfold first
  rw [h1, h2]
  rfl
/-- A block of one. -/
def nBlk : Nd := ⟨9, ⟨#[]⟩, 0⟩
theorem T_blk (l : List Nd) : T (nBlk :: l) = match T l with | none => none | some (c, d) => some (c + 1, d + 1) := by
  rw [T_cons, if_neg (show ¬ ar nBlk.k < 0 by decide), show (ar nBlk.k).toNat = 0 + 1 from rfl, S_succ, S_zero]
  simp only [List.drop_zero]
  cases T l with
  | none => rfl
  | some x => obtain ⟨c, d⟩ := x; simp
theorem tre_blk {l : List Nd} : Tre (nBlk :: l) ↔ Tre l := by
  unfold Tre
  rw [T_blk]
  cases T l with
  | none => simp
  | some x => obtain ⟨c, d⟩ := x; simp
theorem kids_blk {l : List Nd} (h : Tre l) : kids (nBlk :: l) = [l] := by
  have ht := tre_blk.2 h
  obtain ⟨a, ha, _, _⟩ := ht.one rfl
  obtain ⟨x, _, he⟩ := ht.flat
  rw [ha] at he
  injection he with _ he
  simp at he
  rw [ha, he]
theorem whole_blk {l : List Nd} (hl : l.length < 200) : whole (nBlk :: l) = whole l := by
  cases h : whole l with
  | true =>
    refine whole_mk ?_ (tre_blk.2 (whole_tre h)) (by simp; omega)
    rw [List.all_cons, whole_rgt h]
    rfl
  | false =>
    cases h' : whole (nBlk :: l) with
    | false => rfl
    | true =>
      have hr := whole_rgt h'
      rw [List.all_cons, Bool.and_eq_true] at hr
      rw [whole_mk hr.2 (tre_blk.1 (whole_tre h')) (by omega)] at h
      cases h
/-- The sort of a block. -/
theorem of_blk {l : List Nd} (hl : l.length < 200) : of (nBlk :: l) = if of l = 2 then 1 else if of l = 4 then 3 else 0 := by
  cases hw : whole l with
  | false =>
    rw [of_not hw, of_not (by rw [whole_blk hl]; exact hw)]
    rfl
  | true =>
    have ht := whole_tre hw
    have hk := kids_blk ht
    have e : k0 (nBlk :: l) = l := by unfold k0; rw [hk]; rfl
    have b1 : Is 1 (nBlk :: l) = Is 2 l := by rw [eq_9_1 rfl, e]
    have b2 : Is 2 (nBlk :: l) = false := eq_9_2 rfl
    have b3 : Is 3 (nBlk :: l) = (Is 2 l || Is 4 l) := by rw [eq_9_3 rfl, e]
    have b4 : Is 4 (nBlk :: l) = false := by rw [eq_9_4 rfl]; rfl
    rw [of_whole (by rw [whole_blk hl]; exact hw), of_whole hw]
    cases h2 : Is 2 l with
    | true =>
      rw [first_paired h2, if_pos rfl]
      exact first_plain (by rw [b1]; exact h2)
    | false =>
      cases h4 : Is 4 l with
      | true =>
        have h3 := not_both' h4
        have h1 := not_one h3
        have f1 : first l = 4 := by unfold first; rw [h1, h2, h3, h4]; rfl
        have f2 : first (nBlk :: l) = 3 := by unfold first; rw [b1, b2, b3, h2, h4]; rfl
        rw [f1, f2]
        rfl
      | false =>
        have f2 : first (nBlk :: l) = 0 := by unfold first; rw [b1, b2, b3, b4, h2, h4]; rfl
        rw [f2]
        have : first l ≠ 2 ∧ first l ≠ 4 := by
          unfold first
          rw [h2, h4]
          constructor <;> (repeat' split) <;> simp_all
        rw [if_neg this.1, if_neg this.2]

/-- A node of two. -/
def nOf (k : Int) : Nd := ⟨k, ⟨#[]⟩, 0⟩
theorem kids_mk {k : Int} {a b : List Nd} (hk : ar k = 2) (ha : Tre a) (hb : Tre b) : Tre (nOf k :: (a ++ b)) ∧ kids (nOf k :: (a ++ b)) = [a, b] := by
  obtain ⟨d1, t1⟩ := ha
  obtain ⟨d2, t2⟩ := hb
  have a1 := T_append b t1
  have s1 : S 1 (a ++ b) = some (a.length, max 0 d1) := by
    rw [show (1 : Nat) = 0 + 1 from rfl, S_succ, S_zero]
    simp only [List.drop_zero, a1, Nat.zero_add]
  have dm : (a ++ b).drop a.length = b := by simp
  have s2 : S 2 (a ++ b) = some (a.length + b.length, max (max 0 d1) d2) := by
    rw [show (2 : Nat) = 1 + 1 from rfl, S_succ, s1]
    simp only [dm, t2]
  have hT : T (nOf k :: (a ++ b)) = some (a.length + b.length + 1, max (max 0 d1) d2 + 1) := by
    rw [T_cons, if_neg (show ¬ ar (nOf k).k < 0 by show ¬ ar k < 0; omega), show (ar (nOf k).k).toNat = 2 by show (ar k).toNat = 2; rw [hk]; rfl, s2]
  have ht : Tre (nOf k :: (a ++ b)) := ⟨_, by rw [hT, List.length_cons, List.length_append]⟩
  refine ⟨ht, ?_⟩
  obtain ⟨x, y, hxy, tx, ty, _, _⟩ := ht.two hk
  obtain ⟨_, _, he⟩ := ht.flat
  rw [hxy] at he
  injection he with _ he
  simp at he
  obtain ⟨dx, hx⟩ := tx
  have hx2 := T_append y hx
  rw [← he, a1] at hx2
  have hlen : a.length = x.length := by
    have := congrArg (fun o => o.map (·.1)) hx2
    simpa using this
  have h1 := congrArg (List.take a.length) he
  have h2 := congrArg (List.drop a.length) he
  rw [List.take_append_of_le_length (Nat.le_refl _), List.take_length, hlen, List.take_append_of_le_length (Nat.le_refl _), List.take_length] at h1
  rw [dm, hlen, List.drop_append_of_le_length (Nat.le_refl _), List.drop_length, List.nil_append] at h2
  rw [hxy, ← h1, ← h2]
theorem whole_mk2 {k : Int} {a b : List Nd} (hk : ar k = 2) (hr : rgt (nOf k) = true) (ha : whole a = true) (hb : whole b = true) (hl : a.length + b.length < 200) : whole (nOf k :: (a ++ b)) = true := by
  refine whole_mk ?_ (kids_mk hk (whole_tre ha) (whole_tre hb)).1 (by simp; omega)
  rw [List.all_cons, List.all_append, whole_rgt ha, whole_rgt hb, hr]
  rfl
end Go.Proofs.YtghnonbcojbohaaGreatDoor.So

namespace Go.Proofs.YtghnonbcojbohaaGreatDoor.Sx
open Go Go.RowKit Go.Proofs.YtghnonbcojbohaaGreatDoor.Rw Go.Proofs.YtghnonbcojbohaaGreatDoor.So
set_option maxRecDepth 20000

theorem whole_tre {l : List Nd} (h : whole l = true) : Tre l := by
  unfold whole at h
  simp only [Bool.and_eq_true, decide_eq_true_eq] at h
  exact Tre.of_size h.2 (fun e => by rw [e] at h; exact absurd h.1.2.1 (by decide))
set_option maxHeartbeats 400000 in
theorem ofP_any (l : List Nd) (v : Value) (w : World) (hv : Nds w v l) (hl : l.length ≤ 1000) (hm : Nms l) :
    Calls Tryz.prog 47 #[v] w fun e w' => e = .returned (.int .i64 (of l)) ∧ Below w.heap.size w w' := by
  have HV := Lib.hid hv
  have HM := Lib.hid hm
  obtain ⟨_, a, cap, rfl, -⟩ := hv
  clear hm
  cases hq : whole l with
  | false =>
    have HZ : Hid (of l = 0) := by
      show _ = _
      unfold of
      rw [hq]
      rfl
    have HQ := Lib.hid hq
    clear hq
    go_enter Tryz.func47, Tryz.ntmps47
    go_wp2_with fail
    refine (Rx.wholeP_any _ l _ HV.out hl HM.out).mono ?_
    rw [HQ.out]
    rintro e w' ⟨rfl, hb⟩
    have HB := Lib.hid hb
    clear hb
    go_wp2_with fail
    go_ret
    exact ⟨ret_int (by rw [HZ.out]; rfl), HB.out⟩
  | true =>
    have HZ : Hid (of l = So.first l) := by
      show _ = _
      unfold of
      rw [hq]
      rfl
    have HT := Lib.hid (whole_tre hq)
    have HQ := Lib.hid hq
    obtain ⟨F, hF⟩ : ∃ F, So.first l = F := ⟨_, rfl⟩
    rw [hF] at HZ
    have HF := Lib.hid hF
    clear hq hF
    go_enter Tryz.func47, Tryz.ntmps47
    go_wp2_with fail
    refine (Rx.wholeP_any _ l _ HV.out hl HM.out).mono ?_
    rw [HQ.out]
    rintro e w' ⟨rfl, hb⟩
    have HB := Lib.hid hb
    have HV1 : Hid (Nds w' (.slice a l.length cap) (l ++ [])) := by
      show Nds _ _ _
      rw [List.append_nil]
      exact HV.out.below hb
    clear hb
    go_wp2_with fail
    refine (first_any l [] _ _ HT.out HV1.out).mono ?_
    rw [HF.out]
    rintro e w2 ⟨y, rfl, _, hb⟩
    have HB2 := Lib.hid hb
    clear hb
    go_wp2_with fail
    go_ret
    exact ⟨ret_int (by rw [HZ.out]), HB.out.trans (HB2.out.mono HB.out.size)⟩
set_option maxHeartbeats 400000 in
theorem termP_any (l : List Nd) (v : Value) (w : World) (hv : Nds w v l) (hl : l.length ≤ 1000) (hm : Nms l) :
    Calls Tryz.prog 25 #[v] w fun e w' => e = .returned (.bool (of l == 1)) ∧ Below w.heap.size w w' := by
  have HV := Lib.hid hv
  have HC := Lib.hid (fun w h => ofP_any l v w h hl hm)
  have hz := of_cases l
  obtain ⟨z, hzz⟩ : ∃ z, of l = z := ⟨_, rfl⟩
  rw [hzz] at hz HC
  rw [hzz]
  obtain ⟨_, a, cap, rfl, -⟩ := hv
  clear hm hzz
  rcases hz with rfl | rfl | rfl | rfl | rfl
  all_goals
    go_enter Tryz.func25, Tryz.ntmps25
    go_wp2_with fail
    refine (HC.out _ HV.out).mono ?_
    rintro e w1 ⟨rfl, hb⟩
    have HB := Lib.hid hb
    clear hb
    go_wp2_with fail
    go_ret
    exact ⟨rfl, HB.out⟩
end Go.Proofs.YtghnonbcojbohaaGreatDoor.Sx

namespace Go.Proofs.YtghnonbcojbohaaGreatDoor.Tr
open Go Go.RowKit
set_option maxRecDepth 20000

/-- All rows that have the actions of both, each in order. -/
def mx : Nat → List ByteArray → List ByteArray → List (List ByteArray)
  | _, [], b => [b]
  | _, a, [] => [a]
  | 0, _, _ => []
  | n + 1, x :: a, y :: b => (mx n a (y :: b)).map (x :: ·) ++ (mx n (x :: a) b).map (y :: ·)
theorem mx_nil (n : Nat) (b : List ByteArray) : mx n [] b = [b] := by cases n <;> rfl
theorem mx_nil_r (n : Nat) (x : ByteArray) (a : List ByteArray) : mx n (x :: a) [] = [x :: a] := by cases n <;> rfl
theorem mx_len : ∀ (n : Nat) (a b : List ByteArray), (mx n a b).length ≤ 2 ^ n
  | n, [], b => by rw [mx_nil]; exact Nat.one_le_two_pow
  | n, x :: a, [] => by rw [mx_nil_r]; exact Nat.one_le_two_pow
  | 0, x :: a, y :: b => by simp [mx]
  | n + 1, x :: a, y :: b => by
    simp only [mx, List.length_append, List.length_map]
    have h1 := mx_len n a (y :: b)
    have h2 := mx_len n (x :: a) b
    rw [Nat.pow_succ]
    omega
theorem mx_row : ∀ (n : Nat) (a b r : List ByteArray), r ∈ mx n a b → r.length = a.length + b.length
  | n, [], b, r, h => by rw [mx_nil] at h; simp at h; simp [h]
  | n, x :: a, [], r, h => by rw [mx_nil_r] at h; simp at h; simp [h]
  | 0, x :: a, y :: b, r, h => by simp [mx] at h
  | n + 1, x :: a, y :: b, r, h => by
    simp only [mx, List.mem_append, List.mem_map] at h
    rcases h with ⟨s, hs, rfl⟩ | ⟨s, hs, rfl⟩
    · have := mx_row n a (y :: b) s hs; simp at this ⊢; omega
    · have := mx_row n (x :: a) b s hs; simp at this ⊢; omega
theorem pow20 {n : Nat} (h : n ≤ 20) : 2 ^ n ≤ 1048576 := Nat.le_trans (Nat.pow_le_pow_right (by decide) h) (by decide)

/-- The rest behind the first, wherever an empty rest is said to lie. -/
theorem Strs.tail {w : World} {b off cap : Nat} {x : ByteArray} {l : List ByteArray} (h : Strs w (.slice (some ⟨b, off, none⟩) (l.length + 1) cap) (x :: l)) (o : Nat) (ho : o = off + 1 ∨ cap = 1) :
    Strs w (.slice (some ⟨b, o, none⟩) l.length (cap - 1)) l := by
  obtain ⟨hl, a, cap', hv, hc, hn, hcell⟩ := h
  cases hv
  simp at hc
  refine ⟨by simp, some ⟨b, o, none⟩, cap - 1, rfl, by omega, fun h => (by cases h), fun h0 => ?_⟩
  obtain ⟨b', off', ha, hj⟩ := hcell (by simp)
  cases ha
  rcases ho with rfl | h1
  · refine ⟨b, off + 1, rfl, fun j u hu => ?_⟩
    rw [show off + 1 + j = off + (j + 1) by omega]
    exact hj (j + 1) u (by simpa using hu)
  · omega

/-- Rows appended to a row of rows that the call owns. -/
theorem run_append_rows {w : World} {base n m : Nat} {v x : Value} {cs ds : List Value} (hown : w.ownsRow base 44 1 v n cs) (hbase : base ≤ w.heap.size) (hx : Ap.Rd w 1 x m ds) (h1 : ∀ u ∈ ds, u.oneCell' = true) (hlen : n + m ≤ 3000000000000) :
    ∃ v' w', (Builtin.append_ #[122, 122] 122 #[v, x]).run Tryz.prog w = .ok v' w' ∧ w'.ownsRow base 44 1 v' (n + m) (cs ++ ds) ∧ w.grownBy w' v.ownBlock ∧ Below base w w' ∧ Ap.Fresh w v v' := by
  obtain ⟨i0, hi, hz, hs1, hb8⟩ := info_parts infoR
  exact Ap.run_append_rd (P := Tryz.prog) (ty := 122) Tryz.underlying122 hi hz hs1 hb8 (by rfl) (by omega) hown hbase hx h1 (by unfold maxLen; omega) (by omega)

/-- What mixed tells. -/
def Mxd (w : World) (n : Nat) (l m : List ByteArray) (e : Ending) (w' : World) : Prop :=
  ∃ v cs, e = .returned v ∧ w'.ownsRow w.heap.size 44 1 v (mx n l m).length cs ∧ RwO (fun b => some b ≠ v.ownBlock) w' cs (mx n l m) ∧ Below w.heap.size w w'

theorem own_new (w : World) (a : Value) : (w.alloc (.cells #[a] 44)).ownsRow w.heap.size 44 1 (.slice (some ⟨w.heap.size, 0, none⟩) 1 1) 1 [a] :=
  World.ownsRow_lit w #[a] 1 (Nat.le_refl _) (by unfold maxLen; omega) rfl
theorem new_off {w : World} {a : Value} {l : List ByteArray} (h : Strs w a l) : RwO (fun b => some b ≠ (Value.slice (some ⟨w.heap.size, 0, none⟩) 1 1).ownBlock) (w.alloc (.cells #[a] 44)) [a] [l] := by
  refine ⟨Ap.RdO.below (Ap.RdO.imp (Ap.RdO.of (by omega) h) fun b hb _ => ?_) ((Below.refl _ _).alloc (Nat.le_refl _) _), trivial⟩
  intro e
  simp [Value.ownBlock] at e
  omega

set_option maxHeartbeats 400000 in
theorem mixed_nil (n : Nat) (a1 : Option Addr) (c1 : Nat) (y : Value) (m : List ByteArray) (w : World) (hy : Strs w y m) :
    Calls Tryz.prog 160 #[.slice a1 0 c1, y] w (Mxd w n [] m) := by
  have hy' := hy
  obtain ⟨_, a2, c2, rfl, _⟩ := hy'
  have HY := Lib.hid hy
  clear hy
  go_enter Tryz.func160, Tryz.ntmps160
  go_wp2_with fail
  go_ret
  refine ⟨_, [.slice a2 m.length c2], rfl, ?_, ?_, (Below.refl _ _).alloc (Nat.le_refl _) _⟩
  · rw [mx_nil]; exact own_new w _
  · rw [mx_nil]; exact new_off HY.out
set_option maxHeartbeats 400000 in
theorem mixed_nil_r (n : Nat) (x0 : ByteArray) (l : List ByteArray) (a1 a2 : Option Addr) (c1 c2 : Nat) (w : World) (hl : l.length ≤ 1000) (hx : Strs w (.slice a1 (l.length + 1) c1) (x0 :: l)) :
    Calls Tryz.prog 160 #[.slice a1 (l.length + 1) c1, .slice a2 0 c2] w (Mxd w n (x0 :: l) []) := by
  have HX := Lib.hid hx
  have hne : (((l.length + 1 : Nat) : Int) == 0) = false := by rw [beq_eq_false_iff_ne]; omega
  clear hx
  go_enter Tryz.func160, Tryz.ntmps160
  go_wp2_with fail
  go_ret
  refine ⟨_, [.slice a1 (l.length + 1) c1], rfl, ?_, ?_, (Below.refl _ _).alloc (Nat.le_refl _) _⟩
  · rw [mx_nil_r]; exact own_new w _
  · rw [mx_nil_r]; exact new_off HX.out
end Go.Proofs.YtghnonbcojbohaaGreatDoor.Tr

namespace Go.Proofs.YtghnonbcojbohaaGreatDoor.Sx
open Go Go.RowKit Go.Proofs.YtghnonbcojbohaaGreatDoor.Rw Go.Proofs.YtghnonbcojbohaaGreatDoor.So
set_option maxRecDepth 20000
set_option maxHeartbeats 800000 in
theorem onP_any (l : List Nd) (p : Bool) (v : Value) (w : World) (hv : Nds w v l) (hl : l.length ≤ 1000) (hm : Nms l) :
    Calls Tryz.prog 59 #[v, .bool p] w fun e w' => e = .returned (.bool (onB l p)) ∧ Below w.heap.size w w' := by
  have HV := Lib.hid hv
  have HC := Lib.hid (fun w h => ofP_any l v w h hl hm)
  have hr : onB l p = if p then pd (of l) else pl (of l) := rfl
  have h4 := of_le l
  obtain ⟨z, hzz⟩ : ∃ z, of l = z := ⟨_, rfl⟩
  rw [hzz] at hr HC h4
  rw [hr]
  obtain ⟨_, a, cap, rfl, -⟩ := hv
  clear hm hzz hr
  cases p
  · rw [if_neg (by decide)]
    go_enter Tryz.func59, Tryz.ntmps59
    go_wp2_with fail
    refine (HC.out _ HV.out).mono ?_
    rintro e w1 ⟨rfl, hb⟩
    have HB := Lib.hid hb
    clear hb
    go_wp2_with fail
    refine (plP z _ h4).mono ?_
    rintro e w2 ⟨rfl, rfl⟩
    go_wp2_with fail
    go_ret
    exact ⟨rfl, HB.out⟩
  · rw [if_pos rfl]
    go_enter Tryz.func59, Tryz.ntmps59
    go_wp2_with fail
    refine (HC.out _ HV.out).mono ?_
    rintro e w1 ⟨rfl, hb⟩
    have HB := Lib.hid hb
    clear hb
    go_wp2_with fail
    refine (pdP z _ h4).mono ?_
    rintro e w2 ⟨rfl, rfl⟩
    go_wp2_with fail
    go_ret
    exact ⟨rfl, HB.out⟩
end Go.Proofs.YtghnonbcojbohaaGreatDoor.Sx
