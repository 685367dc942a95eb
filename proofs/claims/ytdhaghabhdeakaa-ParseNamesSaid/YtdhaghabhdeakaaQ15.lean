/- The program's first: the sort of the tree with which a row begins, and what lies behind it. Plain: the sorts kind by kind; terms have no node of what goes on, and what goes on has one. The document's level, pair and atom: whatever the tokens. The program's Of, Term, Right. -/
import Derived.Test.YtdhaghabhdeakaaQ13
import Derived.Test.YtdhaghabhdeakaaQ04
import Derived.Test.YtdhaghabhdeakaaQ12
import Derived.Test.YtdhaghabhdeakaaQ14
import Derived.Test.YtdhaghabhdeakaaQ11

namespace Go.Proofs.Ytdhaghabhdeakaa.Sx
open Go Go.RowKit Go.Proofs.Ytdhaghabhdeakaa.Rw Go.Proofs.Ytdhaghabhdeakaa.So
set_option maxRecDepth 20000

/-- What is asked of shorter trees. -/
def FirstC (m : Nat) : Prop := ∀ (L R : List Nd) (w0 w : World) (v : Value), L.length < m → Tre L → Nds w0 v (L ++ R) → Below w0.heap.size w0 w →
  Calls Try.prog 66 #[v] w fun e w' => ∃ y, e = .returned (.tuple #[.int .i64 (So.first L), y]) ∧ Nds w0 y R ∧ Below w.heap.size w w'
/-- The first node, and the sorts of its kids, in blocks of their own; below them all is as it was. -/
structure Loc (w wx : World) (n : Nd) (x0 x1 : Int) : Prop where
  bel : Below w.heap.size w wx
  sz : w.heap.size + 1 < wx.heap.size
  c0 : wx.cell? ⟨w.heap.size, 0, none⟩ = some (.int .i64 n.k)
  k0 : wx.cell? ⟨w.heap.size + 1, 0, none⟩ = some (.int .i64 x0)
  k1 : wx.cell? ⟨w.heap.size + 1, 1, none⟩ = some (.int .i64 x1)
  f0 : wx.frozen? ⟨w.heap.size + 1, 0, none⟩ = false
  f1 : wx.frozen? ⟨w.heap.size + 1, 1, none⟩ = false
theorem Loc.below {w wx wy : World} {n : Nd} {x0 x1 : Int} (h : Loc w wx n x0 x1) (hb : Below wx.heap.size wx wy) : Loc w wy n x0 x1 := by
  have hs := h.sz
  exact ⟨h.bel.trans (hb.mono h.bel.size), Nat.lt_of_lt_of_le h.sz hb.size, by rw [hb.cell (p := ⟨w.heap.size, 0, none⟩) (by show w.heap.size < _; omega)]; exact h.c0,
    by rw [hb.cell (p := ⟨w.heap.size + 1, 0, none⟩) hs]; exact h.k0, by rw [hb.cell (p := ⟨w.heap.size + 1, 1, none⟩) hs]; exact h.k1,
    by rw [hb.frozen (p := ⟨w.heap.size + 1, 0, none⟩) hs]; exact h.f0, by rw [hb.frozen (p := ⟨w.heap.size + 1, 1, none⟩) hs]; exact h.f1⟩
theorem Loc.start (w : World) (n : Nd) : Loc w ((w.alloc (.cells #[.int .i64 n.k, .string n.n, .int .i64 n.s] 37)).alloc (.cells #[.int .i64 0, .int .i64 0] 95)).drew n 0 0 := by
  constructor
  · exact (((Below.refl _ _).alloc (Nat.le_refl _) _).alloc (by simp) _).drew
  all_goals simp
theorem Loc.drew {w wx : World} {n : Nd} {x0 x1 : Int} (h : Loc w wx n x0 x1) : Loc w wx.drew n x0 x1 := ⟨h.bel.drew, h.sz, h.c0, h.k0, h.k1, h.f0, h.f1⟩
theorem set_size (w : World) (p : Addr) (v : Value) : (w.setCell p v).heap.size = w.heap.size := by simp [World.setCell]
theorem Loc.set0 {w wx : World} {n : Nd} {x0 x1 : Int} (h : Loc w wx n x0 x1) (y : Int) : Loc w (wx.setCell ⟨w.heap.size + 1, 0, none⟩ (.int .i64 y)) n y x1 := by
  have hs := h.sz
  obtain ⟨h1, h2, h3, h4, h5, h6, h7⟩ := h
  exact ⟨h1.setCell (by show w.heap.size ≤ w.heap.size + 1; omega) _, (by rw [set_size]; exact h2), (by rw [World.cell?_setCell_other _ _ _ _ (by intro e; injection e with e1 e2; omega)]; exact h3),
    World.cell?_setCell_same _ _ _ h4, (by rw [World.cell?_setCell_other _ _ _ _ (by intro e; injection e with e1 e2; omega)]; exact h5), (by rw [World.frozen?_setCell]; exact h6), (by rw [World.frozen?_setCell]; exact h7)⟩
theorem Loc.set1 {w wx : World} {n : Nd} {x0 x1 : Int} (h : Loc w wx n x0 x1) (y : Int) : Loc w (wx.setCell ⟨w.heap.size + 1, 1, none⟩ (.int .i64 y)) n x0 y := by
  have hs := h.sz
  obtain ⟨h1, h2, h3, h4, h5, h6, h7⟩ := h
  exact ⟨h1.setCell (by show w.heap.size ≤ w.heap.size + 1; omega) _, (by rw [set_size]; exact h2), (by rw [World.cell?_setCell_other _ _ _ _ (by intro e; injection e with e1 e2; omega)]; exact h3),
    (by rw [World.cell?_setCell_other _ _ _ _ (by intro e; injection e with e1 e2; omega)]; exact h4), World.cell?_setCell_same _ _ _ h5, (by rw [World.frozen?_setCell]; exact h6), (by rw [World.frozen?_setCell]; exact h7)⟩
theorem tail_nds {w : World} {b o c : Nat} {n : Nd} {R : List Nd} (h : At w b o (n :: R)) (hc : (n :: R).length ≤ c) :
    ∃ a, (if c = 1 then some (⟨b, o, none⟩ : Addr) else some ⟨b, o + 3, none⟩) = a ∧ Nds w (.slice a R.length (c - 1)) R := by
  refine ⟨_, rfl, ?_⟩
  have hl : R.length + 1 ≤ c := hc
  split
  · rename_i h0
    have : R = [] := List.eq_nil_of_length_eq_zero (by omega)
    subst this
    exact ⟨rfl, _, _, rfl, by simp, fun h => (by cases h), fun h => absurd h (Nat.lt_irrefl 0)⟩
  · have := part_nds h 1 R.length (c - 1) (by simp; omega) (by omega)
    simpa using this
theorem ret_two {z z' : Nat} {y : Value} (h : z = z') : Ending.returned (.tuple #[.int .i64 (z' : Int), y]) = Ending.returned (.tuple #[.int .i64 (z : Int), y]) := by rw [h]
set_option maxHeartbeats 2000000 in
theorem first0 (L R : List Nd) (w0 w : World) (v : Value) (h : Tre L) (h0 : Rw.ar (hd L) = 0) (hv : Nds w0 v (L ++ R)) (hw : Below w0.heap.size w0 w) :
    Calls Try.prog 66 #[v] w fun e w' => ∃ y, e = .returned (.tuple #[.int .i64 (So.first L), y]) ∧ Nds w0 y R ∧ Below w.heap.size w w' := by
  obtain ⟨n, hn, rfl, hf⟩ := parts0 h h0
  rw [hn] at h0
  have H0 := Lib.hid h0
  have HF := Lib.hid hf
  have HK := Lib.hid (show 0 ≤ Rw.ar n.k by rw [h0]; decide)
  rcases hv.form with ⟨hx, _⟩ | ⟨b0, o, c, rfl, hc, hat⟩
  · cases hx
  have hz : [n] ++ R = n :: R := by simp
  rw [hz] at hat hc ⊢
  obtain ⟨e1, e2, e3⟩ := hat 0 (by simp)
  rw [Nat.zero_mul, Nat.add_zero] at e1 e2 e3
  simp only [List.getElem_cons_zero] at e1 e2 e3
  rw [← hw.cell (Ap.cell_lt e1)] at e1
  rw [← hw.cell (Ap.cell_lt e2)] at e2
  rw [← hw.cell (Ap.cell_lt e3)] at e3
  have HW := Lib.hid hw
  obtain ⟨a1, hsl, hnd⟩ := tail_nds hat hc
  have ND := Lib.hid hnd
  have HL := Lib.hid (Loc.start w n)
  rw [List.length_cons]
  obtain ⟨N, hN⟩ : ∃ N, R.length = N := ⟨_, rfl⟩
  rw [hN] at ND ⊢
  obtain ⟨F, hF⟩ : ∃ F, So.first [n] = F := ⟨_, rfl⟩
  rw [hF] at HF ⊢
  have g1 : (1 : Int) ≤ (N : Int) + 1 := by omega
  have lt : b0 < w.heap.size := Ap.cell_lt e1
  clear hat hc hnd hz hN hF hn hf h0 h hv hw
  go_enter Try.func66, Try.ntmps66
  go_wp2_with fail
  go_region
  go_wp2_with fail
  refine (Rx.arP_eq n.k _).mono ?_
  rw [H0.out]
  rintro e w' ⟨rfl, rfl⟩
  go_wp2_with fail
  refine Go.wp_loop_rounds 1 ?_
  rw [rounds_succ]
  go_wp2_with fail
  refine (fit_any n.k 0 0 _ HK.out (by omega) (by omega) (fun _ => rfl) (fun _ => rfl)).mono ?_
  rintro e w' ⟨rfl, rfl⟩
  cases hq : fit n.k 0 0 with
  | false =>
    have HZ : Hid (F = 0) := by
      show _ = _
      rw [HF.out]
      unfold comb
      rw [hq]
      rfl
    clear hq
    go_wp2_with fail
    go_ret2
    exact ⟨_, ret_two HZ.out, ND.out, HL.out.bel⟩
  | true =>
    have HZ : Hid (F = made n.k 0 0) := by
      show _ = _
      rw [HF.out]
      unfold comb
      rw [hq]
      rfl
    clear hq
    go_wp2_with fail
    refine (made_any n.k 0 0 _ HK.out (by omega)).mono ?_
    rintro e w' ⟨rfl, rfl⟩
    go_wp2_with fail
    go_ret2
    exact ⟨_, ret_two HZ.out, ND.out, HL.out.bel⟩
set_option maxHeartbeats 2000000 in
theorem first1 (m : Nat) (IH : FirstC m) (L R : List Nd) (w0 w : World) (v : Value) (hm : L.length ≤ m) (h : Tre L) (h0 : Rw.ar (hd L) = 1) (hv : Nds w0 v (L ++ R)) (hw : Below w0.heap.size w0 w) :
    Calls Try.prog 66 #[v] w fun e w' => ∃ y, e = .returned (.tuple #[.int .i64 (So.first L), y]) ∧ Nds w0 y R ∧ Below w.heap.size w w' := by
  obtain ⟨n, a, hn, rfl, hta, hf⟩ := parts1 h h0
  rw [hn] at h0
  have H0 := Lib.hid h0
  have HF := Lib.hid hf
  have HK := Lib.hid (show 0 ≤ Rw.ar n.k by rw [h0]; decide)
  have HTA := Lib.hid hta
  have HA4 := Lib.hid (first_le a)
  have la : a.length < m := by simp at hm; omega
  rcases hv.form with ⟨hx, _⟩ | ⟨b0, o, c, rfl, hc, hat⟩
  · cases hx
  have hz : (n :: a) ++ R = n :: (a ++ R) := by simp
  rw [hz] at hat hc ⊢
  obtain ⟨e1, e2, e3⟩ := hat 0 (by simp)
  rw [Nat.zero_mul, Nat.add_zero] at e1 e2 e3
  simp only [List.getElem_cons_zero] at e1 e2 e3
  rw [← hw.cell (Ap.cell_lt e1)] at e1
  rw [← hw.cell (Ap.cell_lt e2)] at e2
  rw [← hw.cell (Ap.cell_lt e3)] at e3
  have HW := Lib.hid hw
  obtain ⟨a1, hsl, hnd⟩ := tail_nds hat hc
  have ND := Lib.hid hnd
  have HL := Lib.hid (Loc.start w n)
  rw [List.length_cons]
  obtain ⟨N, hN⟩ : ∃ N, (a ++ R).length = N := ⟨_, rfl⟩
  rw [hN] at ND ⊢
  obtain ⟨F, hF⟩ : ∃ F, So.first (n :: a) = F := ⟨_, rfl⟩
  rw [hF] at HF ⊢
  have g1 : (1 : Int) ≤ (N : Int) + 1 := by omega
  have lt : b0 < w.heap.size := Ap.cell_lt e1
  obtain ⟨A, hA⟩ : ∃ A, So.first a = A := ⟨_, rfl⟩
  rw [hA] at HF HA4
  have HA := Lib.hid hA
  clear hA hta
  clear hat hc hnd hz hN hF hn hf h0 h hv hw hm
  go_enter Try.func66, Try.ntmps66
  go_wp2_with fail
  go_region
  go_wp2_with fail
  refine (Rx.arP_eq n.k _).mono ?_
  rw [H0.out]
  rintro e w' ⟨rfl, rfl⟩
  go_wp2_with fail
  refine Go.wp_loop_rounds 2 ?_
  rw [rounds_succ]
  go_wp2_with fail
  refine (IH a R w0 _ _ la HTA.out ND.out (HW.out.trans (HL.out.bel.mono HW.out.size))).mono ?_
  rw [HA.out]
  rintro e w1 ⟨y1, rfl, hy, hb⟩
  have HY := Lib.hid hy
  have HM := Lib.hid (HL.out.below hb)
  obtain ⟨_, a2, c2, rfl, -⟩ := hy
  clear hb e1 e2 e3 lt
  obtain ⟨k1, k2, k3, k4, k5, k6, k7⟩ := HM.out
  go_wp2_with fail
  rw [rounds_succ]
  go_wp2_with fail
  refine (fit_any n.k A 0 _ HK.out HA4.out (by omega) (fun h => by rw [H0.out] at h; exact absurd h (by decide)) (fun _ => rfl)).mono ?_
  rintro e w' ⟨rfl, rfl⟩
  cases hq : fit n.k A 0 with
  | false =>
    have HZ : Hid (F = 0) := by
      show _ = _
      rw [HF.out]
      unfold comb
      rw [hq]
      rfl
    clear hq
    go_wp2_with fail
    go_ret2
    exact ⟨_, ret_two HZ.out, HY.out, (HM.out.set0 A).bel⟩
  | true =>
    have HZ : Hid (F = made n.k A 0) := by
      show _ = _
      rw [HF.out]
      unfold comb
      rw [hq]
      rfl
    clear hq
    go_wp2_with fail
    refine (made_any n.k A 0 _ HK.out HA4.out).mono ?_
    rintro e w' ⟨rfl, rfl⟩
    go_wp2_with fail
    go_ret2
    exact ⟨_, ret_two HZ.out, HY.out, (HM.out.set0 A).bel⟩
set_option maxHeartbeats 2000000 in
theorem first2 (m : Nat) (IH : FirstC m) (L R : List Nd) (w0 w : World) (v : Value) (hm : L.length ≤ m) (h : Tre L) (h0 : Rw.ar (hd L) = 2) (hv : Nds w0 v (L ++ R)) (hw : Below w0.heap.size w0 w) :
    Calls Try.prog 66 #[v] w fun e w' => ∃ y, e = .returned (.tuple #[.int .i64 (So.first L), y]) ∧ Nds w0 y R ∧ Below w.heap.size w w' := by
  obtain ⟨n, a, b, hn, rfl, hta, htb, hf⟩ := parts2 h h0
  rw [hn] at h0
  have H0 := Lib.hid h0
  have HF := Lib.hid hf
  have HK := Lib.hid (show 0 ≤ Rw.ar n.k by rw [h0]; decide)
  have HTA := Lib.hid hta
  have HA4 := Lib.hid (first_le a)
  have la : a.length < m := by simp at hm; omega
  have HTB := Lib.hid htb
  have HB4 := Lib.hid (first_le b)
  have lb : b.length < m := by simp at hm; omega
  rcases hv.form with ⟨hx, _⟩ | ⟨b0, o, c, rfl, hc, hat⟩
  · cases hx
  have hz : (n :: (a ++ b)) ++ R = n :: (a ++ (b ++ R)) := by simp
  rw [hz] at hat hc ⊢
  obtain ⟨e1, e2, e3⟩ := hat 0 (by simp)
  rw [Nat.zero_mul, Nat.add_zero] at e1 e2 e3
  simp only [List.getElem_cons_zero] at e1 e2 e3
  rw [← hw.cell (Ap.cell_lt e1)] at e1
  rw [← hw.cell (Ap.cell_lt e2)] at e2
  rw [← hw.cell (Ap.cell_lt e3)] at e3
  have HW := Lib.hid hw
  obtain ⟨a1, hsl, hnd⟩ := tail_nds hat hc
  have ND := Lib.hid hnd
  have HL := Lib.hid (Loc.start w n)
  rw [List.length_cons]
  obtain ⟨N, hN⟩ : ∃ N, (a ++ (b ++ R)).length = N := ⟨_, rfl⟩
  rw [hN] at ND ⊢
  obtain ⟨F, hF⟩ : ∃ F, So.first (n :: (a ++ b)) = F := ⟨_, rfl⟩
  rw [hF] at HF ⊢
  have g1 : (1 : Int) ≤ (N : Int) + 1 := by omega
  have lt : b0 < w.heap.size := Ap.cell_lt e1
  obtain ⟨A, hA⟩ : ∃ A, So.first a = A := ⟨_, rfl⟩
  rw [hA] at HF HA4
  have HA := Lib.hid hA
  clear hA hta
  obtain ⟨B, hB⟩ : ∃ B, So.first b = B := ⟨_, rfl⟩
  rw [hB] at HF HB4
  have HB := Lib.hid hB
  clear hB htb
  clear hat hc hnd hz hN hF hn hf h0 h hv hw hm
  go_enter Try.func66, Try.ntmps66
  go_wp2_with fail
  go_region
  go_wp2_with fail
  refine (Rx.arP_eq n.k _).mono ?_
  rw [H0.out]
  rintro e w' ⟨rfl, rfl⟩
  go_wp2_with fail
  refine Go.wp_loop_rounds 3 ?_
  rw [rounds_succ]
  go_wp2_with fail
  refine (IH a (b ++ R) w0 _ _ la HTA.out ND.out (HW.out.trans (HL.out.bel.mono HW.out.size))).mono ?_
  rw [HA.out]
  rintro e w1 ⟨y1, rfl, hy, hb⟩
  have HY := Lib.hid hy
  have HM := Lib.hid (HL.out.below hb)
  obtain ⟨_, a2, c2, rfl, -⟩ := hy
  obtain ⟨M, hM⟩ : ∃ M, (b ++ R).length = M := ⟨_, rfl⟩
  rw [hM] at HY ⊢
  clear hM
  clear hb e1 e2 e3 lt
  obtain ⟨k1, k2, k3, k4, k5, k6, k7⟩ := HM.out
  go_wp2_with fail
  rw [rounds_succ]
  go_wp2_with fail
  refine (IH b R w0 _ _ lb HTB.out HY.out (HW.out.trans ((HM.out.set0 A).bel.mono HW.out.size))).mono ?_
  rw [HB.out]
  rintro e w2 ⟨y2, rfl, hy, hb⟩
  have HY2 := Lib.hid hy
  have HM2 := Lib.hid ((HM.out.set0 A).below hb)
  obtain ⟨_, a3, c3, rfl, -⟩ := hy
  clear hb k1 k2 k3 k4 k5 k6 k7
  obtain ⟨k1, k2, k3, k4, k5, k6, k7⟩ := HM2.out
  go_wp2_with fail
  rw [rounds_succ]
  go_wp2_with fail
  refine (fit_any n.k A B _ HK.out HA4.out HB4.out (fun h => by rw [H0.out] at h; exact absurd h (by decide)) (fun h => by rw [H0.out] at h; exact absurd h (by decide))).mono ?_
  rintro e w' ⟨rfl, rfl⟩
  cases hq : fit n.k A B with
  | false =>
    have HZ : Hid (F = 0) := by
      show _ = _
      rw [HF.out]
      unfold comb
      rw [hq]
      rfl
    clear hq
    go_wp2_with fail
    go_ret2
    exact ⟨_, ret_two HZ.out, HY2.out, (HM2.out.set1 B).bel⟩
  | true =>
    have HZ : Hid (F = made n.k A B) := by
      show _ = _
      rw [HF.out]
      unfold comb
      rw [hq]
      rfl
    clear hq
    go_wp2_with fail
    refine (made_any n.k A B _ HK.out HA4.out).mono ?_
    rintro e w' ⟨rfl, rfl⟩
    go_wp2_with fail
    go_ret2
    exact ⟨_, ret_two HZ.out, HY2.out, (HM2.out.set1 B).bel⟩
theorem first_all : ∀ m, FirstC m
  | 0 => fun _ _ _ _ _ h => absurd h (Nat.not_lt_zero _)
  | m + 1 => fun L R w0 w v hl h hv hw => by
    have ha := h.ar
    rcases ar_cases (hd L) with h0 | h0 | h0 | h0
    · rw [h0] at ha
      exact absurd ha (by decide)
    · exact first0 L R w0 w v h h0 hv hw
    · exact first1 m (first_all m) L R w0 w v (by omega) h h0 hv hw
    · exact first2 m (first_all m) L R w0 w v (by omega) h h0 hv hw
/-- The program's first. -/
theorem first_any (L R : List Nd) (w : World) (v : Value) (h : Tre L) (hv : Nds w v (L ++ R)) :
    Calls Try.prog 66 #[v] w fun e w' => ∃ y, e = .returned (.tuple #[.int .i64 (So.first L), y]) ∧ Nds w y R ∧ Below w.heap.size w w' :=
  first_all (L.length + 1) L R w w v (by omega) h hv (Below.refl _ _)
end Go.Proofs.Ytdhaghabhdeakaa.Sx

namespace Go.Proofs.Ytdhaghabhdeakaa.So
open Go Go.Proofs.Ytdhaghabhdeakaa.Rw

theorem eq_1_1 {l : List Nd} (h : hd l = 1) : Is 1 l = true := by
  rw [Is_one]
  unfold plainB
  rw [h]
  rfl
theorem eq_1_2 {l : List Nd} (h : hd l = 1) : Is 2 l = false := by
  rw [Is_two]
  unfold pairedB
  rw [h]
  rfl
theorem eq_1_3 {l : List Nd} (h : hd l = 1) : Is 3 l = (true || false) := by
  rw [Is_three]
  unfold plainB plainOnB
  rw [h]
  rfl
theorem eq_1_4 {l : List Nd} (h : hd l = 1) : Is 4 l = (false || false) := by
  rw [Is_four]
  unfold pairedB pairedOnB
  rw [h]
  rfl
theorem eq_2_1 {l : List Nd} (h : hd l = 2) : Is 1 l = true := by
  rw [Is_one]
  unfold plainB
  rw [h]
  rfl
theorem eq_2_2 {l : List Nd} (h : hd l = 2) : Is 2 l = false := by
  rw [Is_two]
  unfold pairedB
  rw [h]
  rfl
theorem eq_2_3 {l : List Nd} (h : hd l = 2) : Is 3 l = (true || false) := by
  rw [Is_three]
  unfold plainB plainOnB
  rw [h]
  rfl
theorem eq_2_4 {l : List Nd} (h : hd l = 2) : Is 4 l = (false || false) := by
  rw [Is_four]
  unfold pairedB pairedOnB
  rw [h]
  rfl
theorem eq_3_1 {l : List Nd} (h : hd l = 3) : Is 1 l = true := by
  rw [Is_one]
  unfold plainB
  rw [h]
  rfl
theorem eq_3_2 {l : List Nd} (h : hd l = 3) : Is 2 l = false := by
  rw [Is_two]
  unfold pairedB
  rw [h]
  rfl
theorem eq_3_3 {l : List Nd} (h : hd l = 3) : Is 3 l = (true || false) := by
  rw [Is_three]
  unfold plainB plainOnB
  rw [h]
  rfl
theorem eq_3_4 {l : List Nd} (h : hd l = 3) : Is 4 l = (false || false) := by
  rw [Is_four]
  unfold pairedB pairedOnB
  rw [h]
  rfl
theorem eq_4_1 {l : List Nd} (h : hd l = 4) : Is 1 l = true := by
  rw [Is_one]
  unfold plainB
  rw [h]
  rfl
theorem eq_4_2 {l : List Nd} (h : hd l = 4) : Is 2 l = false := by
  rw [Is_two]
  unfold pairedB
  rw [h]
  rfl
theorem eq_4_3 {l : List Nd} (h : hd l = 4) : Is 3 l = (true || false) := by
  rw [Is_three]
  unfold plainB plainOnB
  rw [h]
  rfl
theorem eq_4_4 {l : List Nd} (h : hd l = 4) : Is 4 l = (false || false) := by
  rw [Is_four]
  unfold pairedB pairedOnB
  rw [h]
  rfl
theorem eq_5_1 {l : List Nd} (h : hd l = 5) : Is 1 l = (Is 1 (k0 l) && Is 1 (k1 l)) := by
  rw [Is_one]
  unfold plainB
  rw [h]
  rfl
theorem eq_5_2 {l : List Nd} (h : hd l = 5) : Is 2 l = (Is 2 (k0 l) && Is 2 (k1 l)) := by
  rw [Is_two]
  unfold pairedB
  rw [h]
  rfl
theorem eq_5_3 {l : List Nd} (h : hd l = 5) : Is 3 l = ((Is 1 (k0 l) && Is 1 (k1 l)) || (Is 3 (k0 l) && Is 1 (k1 l))) := by
  rw [Is_three]
  unfold plainB plainOnB
  rw [h]
  rfl
theorem eq_5_4 {l : List Nd} (h : hd l = 5) : Is 4 l = ((Is 2 (k0 l) && Is 2 (k1 l)) || (Is 4 (k0 l) && Is 2 (k1 l))) := by
  rw [Is_four]
  unfold pairedB pairedOnB
  rw [h]
  rfl
theorem eq_6_1 {l : List Nd} (h : hd l = 6) : Is 1 l = (Is 1 (k0 l) && Is 1 (k1 l)) := by
  rw [Is_one]
  unfold plainB
  rw [h]
  rfl
theorem eq_6_2 {l : List Nd} (h : hd l = 6) : Is 2 l = (Is 2 (k0 l) && Is 2 (k1 l)) := by
  rw [Is_two]
  unfold pairedB
  rw [h]
  rfl
theorem eq_6_3 {l : List Nd} (h : hd l = 6) : Is 3 l = ((Is 1 (k0 l) && Is 1 (k1 l)) || false) := by
  rw [Is_three]
  unfold plainB plainOnB
  rw [h]
  rfl
theorem eq_6_4 {l : List Nd} (h : hd l = 6) : Is 4 l = ((Is 2 (k0 l) && Is 2 (k1 l)) || false) := by
  rw [Is_four]
  unfold pairedB pairedOnB
  rw [h]
  rfl
theorem eq_7_1 {l : List Nd} (h : hd l = 7) : Is 1 l = (Is 1 (k0 l) && Is 1 (k1 l)) := by
  rw [Is_one]
  unfold plainB
  rw [h]
  rfl
theorem eq_7_2 {l : List Nd} (h : hd l = 7) : Is 2 l = (Is 2 (k0 l) && Is 2 (k1 l)) := by
  rw [Is_two]
  unfold pairedB
  rw [h]
  rfl
theorem eq_7_3 {l : List Nd} (h : hd l = 7) : Is 3 l = ((Is 1 (k0 l) && Is 1 (k1 l)) || (Is 3 (k0 l) && Is 3 (k1 l))) := by
  rw [Is_three]
  unfold plainB plainOnB
  rw [h]
  rfl
theorem eq_7_4 {l : List Nd} (h : hd l = 7) : Is 4 l = ((Is 2 (k0 l) && Is 2 (k1 l)) || (Is 4 (k0 l) && Is 4 (k1 l))) := by
  rw [Is_four]
  unfold pairedB pairedOnB
  rw [h]
  rfl
theorem eq_8_1 {l : List Nd} (h : hd l = 8) : Is 1 l = (Is 1 (k0 l) && Is 1 (k1 l)) := by
  rw [Is_one]
  unfold plainB
  rw [h]
  rfl
theorem eq_8_2 {l : List Nd} (h : hd l = 8) : Is 2 l = false := by
  rw [Is_two]
  unfold pairedB
  rw [h]
  rfl
theorem eq_8_3 {l : List Nd} (h : hd l = 8) : Is 3 l = ((Is 1 (k0 l) && Is 1 (k1 l)) || (Is 3 (k0 l) && Is 1 (k1 l))) := by
  rw [Is_three]
  unfold plainB plainOnB
  rw [h]
  rfl
theorem eq_8_4 {l : List Nd} (h : hd l = 8) : Is 4 l = (false || false) := by
  rw [Is_four]
  unfold pairedB pairedOnB
  rw [h]
  rfl
theorem eq_9_1 {l : List Nd} (h : hd l = 9) : Is 1 l = Is 2 (k0 l) := by
  rw [Is_one]
  unfold plainB
  rw [h]
  rfl
theorem eq_9_2 {l : List Nd} (h : hd l = 9) : Is 2 l = false := by
  rw [Is_two]
  unfold pairedB
  rw [h]
  rfl
theorem eq_9_3 {l : List Nd} (h : hd l = 9) : Is 3 l = (Is 2 (k0 l) || Is 4 (k0 l)) := by
  rw [Is_three]
  unfold plainB plainOnB
  rw [h]
  rfl
theorem eq_9_4 {l : List Nd} (h : hd l = 9) : Is 4 l = (false || false) := by
  rw [Is_four]
  unfold pairedB pairedOnB
  rw [h]
  rfl
theorem eq_10_1 {l : List Nd} (h : hd l = 10) : Is 1 l = false := by
  rw [Is_one]
  unfold plainB
  rw [h]
  rfl
theorem eq_10_2 {l : List Nd} (h : hd l = 10) : Is 2 l = (Is 1 (k0 l) && Is 1 (k1 l)) := by
  rw [Is_two]
  unfold pairedB
  rw [h]
  rfl
theorem eq_10_3 {l : List Nd} (h : hd l = 10) : Is 3 l = (false || false) := by
  rw [Is_three]
  unfold plainB plainOnB
  rw [h]
  rfl
theorem eq_10_4 {l : List Nd} (h : hd l = 10) : Is 4 l = ((Is 1 (k0 l) && Is 1 (k1 l)) || false) := by
  rw [Is_four]
  unfold pairedB pairedOnB
  rw [h]
  rfl
theorem eq_11_1 {l : List Nd} (h : hd l = 11) : Is 1 l = false := by
  rw [Is_one]
  unfold plainB
  rw [h]
  rfl
theorem eq_11_2 {l : List Nd} (h : hd l = 11) : Is 2 l = false := by
  rw [Is_two]
  unfold pairedB
  rw [h]
  rfl
theorem eq_11_3 {l : List Nd} (h : hd l = 11) : Is 3 l = (false || true) := by
  rw [Is_three]
  unfold plainB plainOnB
  rw [h]
  rfl
theorem eq_11_4 {l : List Nd} (h : hd l = 11) : Is 4 l = (false || false) := by
  rw [Is_four]
  unfold pairedB pairedOnB
  rw [h]
  rfl
theorem eq_12_1 {l : List Nd} (h : hd l = 12) : Is 1 l = false := by
  rw [Is_one]
  unfold plainB
  rw [h]
  rfl
theorem eq_12_2 {l : List Nd} (h : hd l = 12) : Is 2 l = false := by
  rw [Is_two]
  unfold pairedB
  rw [h]
  rfl
theorem eq_12_3 {l : List Nd} (h : hd l = 12) : Is 3 l = (false || false) := by
  rw [Is_three]
  unfold plainB plainOnB
  rw [h]
  rfl
theorem eq_12_4 {l : List Nd} (h : hd l = 12) : Is 4 l = (false || (Is 3 (k0 l) && Is 1 (k1 l))) := by
  rw [Is_four]
  unfold pairedB pairedOnB
  rw [h]
  rfl
theorem eq_13_1 {l : List Nd} (h : hd l = 13) : Is 1 l = false := by
  rw [Is_one]
  unfold plainB
  rw [h]
  rfl
theorem eq_13_2 {l : List Nd} (h : hd l = 13) : Is 2 l = false := by
  rw [Is_two]
  unfold pairedB
  rw [h]
  rfl
theorem eq_13_3 {l : List Nd} (h : hd l = 13) : Is 3 l = (false || false) := by
  rw [Is_three]
  unfold plainB plainOnB
  rw [h]
  rfl
theorem eq_13_4 {l : List Nd} (h : hd l = 13) : Is 4 l = (false || (Is 4 (k0 l) && Is 1 (k1 l))) := by
  rw [Is_four]
  unfold pairedB pairedOnB
  rw [h]
  rfl
theorem eq_14_1 {l : List Nd} (h : hd l = 14) : Is 1 l = false := by
  rw [Is_one]
  unfold plainB
  rw [h]
  rfl
theorem eq_14_2 {l : List Nd} (h : hd l = 14) : Is 2 l = false := by
  rw [Is_two]
  unfold pairedB
  rw [h]
  rfl
theorem eq_14_3 {l : List Nd} (h : hd l = 14) : Is 3 l = (false || false) := by
  rw [Is_three]
  unfold plainB plainOnB
  rw [h]
  rfl
theorem eq_14_4 {l : List Nd} (h : hd l = 14) : Is 4 l = (false || Is 1 (k0 l)) := by
  rw [Is_four]
  unfold pairedB pairedOnB
  rw [h]
  rfl
/-- How many nodes are of what goes on. -/
def on (l : List Nd) : Nat := cnt l [11, 12, 13, 14]
theorem on_append (l m : List Nd) : on (l ++ m) = on l + on m := List.countP_append
theorem on_cons (x : Nd) (l : List Nd) : on (x :: l) = on l + if x.k ∈ ([11, 12, 13, 14] : List Int) then 1 else 0 := by
  unfold on cnt
  rw [List.countP_cons]
  simp
/-- A tree, by its first node. -/
theorem Tre.flat {l : List Nd} (h : Tre l) : ∃ x, hd l = x.k ∧ l = x :: (Rw.kids l).flatten := by
  have hs := h.size
  have hp := h.pos
  cases l with
  | nil => exact absurd hp (Nat.lt_irrefl 0)
  | cons x r =>
    refine ⟨x, rfl, ?_⟩
    have := kids_flat (n := x) (r := r) (by rw [hs]; omega)
    rw [hs, List.take_length] at this
    exact this.symm
theorem Tre.on0 {l : List Nd} (h : Tre l) (h0 : Rw.ar (hd l) = 0) : on l = if hd l ∈ ([11, 12, 13, 14] : List Int) then 1 else 0 := by
  obtain ⟨x, hx, he⟩ := h.flat
  have hk : Rw.kids l = [] := List.eq_nil_of_length_eq_zero (by rw [h.kids.1, h0]; rfl)
  rw [hk] at he
  rw [he, on_cons]
  simp [on, cnt, hd]
theorem Tre.on1 {l : List Nd} (h : Tre l) (h1 : Rw.ar (hd l) = 1) : ∃ a, k0 l = a ∧ Tre a ∧ a.length < l.length ∧ on l = on a + if hd l ∈ ([11, 12, 13, 14] : List Int) then 1 else 0 := by
  obtain ⟨x, hx, he⟩ := h.flat
  obtain ⟨a, hk, ht, hs⟩ := h.one h1
  rw [hk] at he
  refine ⟨a, by unfold k0; rw [hk]; rfl, ht, hs, ?_⟩
  rw [hx]
  have : on l = on (x :: [a].flatten) := by rw [← he]
  rw [this, on_cons]
  simp
theorem Tre.on2 {l : List Nd} (h : Tre l) (h2 : Rw.ar (hd l) = 2) : ∃ a b, k0 l = a ∧ k1 l = b ∧ Tre a ∧ Tre b ∧ a.length < l.length ∧ b.length < l.length ∧ on l = on a + on b + if hd l ∈ ([11, 12, 13, 14] : List Int) then 1 else 0 := by
  obtain ⟨x, hx, he⟩ := h.flat
  obtain ⟨a, b, hk, t1, t2, s1, s2⟩ := h.two h2
  rw [hk] at he
  refine ⟨a, b, by unfold k0; rw [hk]; rfl, by unfold k1; rw [hk]; rfl, t1, t2, s1, s2, ?_⟩
  rw [hx]
  have : on l = on (x :: [a, b].flatten) := by rw [← he]
  rw [this, on_cons]
  simp [on_append]
theorem term_none : ∀ (m : Nat) (l : List Nd), l.length ≤ m → Tre l → (Is 1 l = true ∨ Is 2 l = true) → on l = 0
  | 0, l, h, ht, _ => absurd ht.pos (by omega)
  | m + 1, l, h, ht, hs => by
    rcases kinds ht.ar with hk | hk | hk | hk | hk | hk | hk | hk | hk | hk | hk | hk | hk | hk
    · rw [eq_1_1 hk, eq_1_2 hk] at hs
      rw [ht.on0 (by rw [hk]; rfl), hk]
      rfl
    · rw [eq_2_1 hk, eq_2_2 hk] at hs
      rw [ht.on0 (by rw [hk]; rfl), hk]
      rfl
    · rw [eq_3_1 hk, eq_3_2 hk] at hs
      rw [ht.on0 (by rw [hk]; rfl), hk]
      rfl
    · rw [eq_4_1 hk, eq_4_2 hk] at hs
      rw [ht.on0 (by rw [hk]; rfl), hk]
      rfl
    · rw [eq_5_1 hk, eq_5_2 hk] at hs
      obtain ⟨a, b, ea, eb, ta, tb, la, lb, eo⟩ := ht.on2 (by rw [hk]; rfl)
      rw [ea, eb] at hs
      simp only [Bool.and_eq_true] at hs
      have hh : (Is 1 a = true ∨ Is 2 a = true) ∧ (Is 1 b = true ∨ Is 2 b = true) := hs.elim (fun h => ⟨Or.inl h.1, Or.inl h.2⟩) (fun h => ⟨Or.inr h.1, Or.inr h.2⟩)
      have h1 := term_none m a (by omega) ta hh.1
      have h2 := term_none m b (by omega) tb hh.2
      rw [eo, h1, h2, hk]
      rfl
    · rw [eq_6_1 hk, eq_6_2 hk] at hs
      obtain ⟨a, b, ea, eb, ta, tb, la, lb, eo⟩ := ht.on2 (by rw [hk]; rfl)
      rw [ea, eb] at hs
      simp only [Bool.and_eq_true] at hs
      have hh : (Is 1 a = true ∨ Is 2 a = true) ∧ (Is 1 b = true ∨ Is 2 b = true) := hs.elim (fun h => ⟨Or.inl h.1, Or.inl h.2⟩) (fun h => ⟨Or.inr h.1, Or.inr h.2⟩)
      have h1 := term_none m a (by omega) ta hh.1
      have h2 := term_none m b (by omega) tb hh.2
      rw [eo, h1, h2, hk]
      rfl
    · rw [eq_7_1 hk, eq_7_2 hk] at hs
      obtain ⟨a, b, ea, eb, ta, tb, la, lb, eo⟩ := ht.on2 (by rw [hk]; rfl)
      rw [ea, eb] at hs
      simp only [Bool.and_eq_true] at hs
      have hh : (Is 1 a = true ∨ Is 2 a = true) ∧ (Is 1 b = true ∨ Is 2 b = true) := hs.elim (fun h => ⟨Or.inl h.1, Or.inl h.2⟩) (fun h => ⟨Or.inr h.1, Or.inr h.2⟩)
      have h1 := term_none m a (by omega) ta hh.1
      have h2 := term_none m b (by omega) tb hh.2
      rw [eo, h1, h2, hk]
      rfl
    · rw [eq_8_1 hk, eq_8_2 hk] at hs
      obtain ⟨a, b, ea, eb, ta, tb, la, lb, eo⟩ := ht.on2 (by rw [hk]; rfl)
      rw [ea, eb] at hs
      simp only [Bool.and_eq_true] at hs
      have hh : (Is 1 a = true ∨ Is 2 a = true) ∧ (Is 1 b = true ∨ Is 2 b = true) := hs.elim (fun h => ⟨Or.inl h.1, Or.inl h.2⟩) (fun h => by cases h)
      have h1 := term_none m a (by omega) ta hh.1
      have h2 := term_none m b (by omega) tb hh.2
      rw [eo, h1, h2, hk]
      rfl
    · rw [eq_9_1 hk, eq_9_2 hk] at hs
      obtain ⟨a, ea, ta, la, eo⟩ := ht.on1 (by rw [hk]; rfl)
      rw [ea] at hs
      have h1 := term_none m a (by omega) ta (hs.elim (fun h => Or.inr h) (fun h => by cases h))
      rw [eo, h1, hk]
      rfl
    · rw [eq_10_1 hk, eq_10_2 hk] at hs
      obtain ⟨a, b, ea, eb, ta, tb, la, lb, eo⟩ := ht.on2 (by rw [hk]; rfl)
      rw [ea, eb] at hs
      simp only [Bool.and_eq_true] at hs
      have hh : (Is 1 a = true ∨ Is 2 a = true) ∧ (Is 1 b = true ∨ Is 2 b = true) := hs.elim (fun h => by cases h) (fun h => ⟨Or.inl h.1, Or.inl h.2⟩)
      have h1 := term_none m a (by omega) ta hh.1
      have h2 := term_none m b (by omega) tb hh.2
      rw [eo, h1, h2, hk]
      rfl
    · rw [eq_11_1 hk, eq_11_2 hk] at hs
      rcases hs with hs | hs <;> cases hs
    · rw [eq_12_1 hk, eq_12_2 hk] at hs
      rcases hs with hs | hs <;> cases hs
    · rw [eq_13_1 hk, eq_13_2 hk] at hs
      rcases hs with hs | hs <;> cases hs
    · rw [eq_14_1 hk, eq_14_2 hk] at hs
      rcases hs with hs | hs <;> cases hs
theorem on_some : ∀ (m : Nat) (l : List Nd), l.length ≤ m → Tre l → (Is 3 l = true → Is 1 l = false → 0 < on l) ∧ (Is 4 l = true → Is 2 l = false → 0 < on l)
  | 0, l, h, ht => absurd ht.pos (by omega)
  | m + 1, l, h, ht => by
    rcases kinds ht.ar with hk | hk | hk | hk | hk | hk | hk | hk | hk | hk | hk | hk | hk | hk
    · rw [eq_1_1 hk, eq_1_2 hk, eq_1_3 hk, eq_1_4 hk]
      refine ⟨?_, ?_⟩
      · exact fun _ n => by cases n
      · exact fun h n => by rw [n] at h; cases h
    · rw [eq_2_1 hk, eq_2_2 hk, eq_2_3 hk, eq_2_4 hk]
      refine ⟨?_, ?_⟩
      · exact fun _ n => by cases n
      · exact fun h n => by rw [n] at h; cases h
    · rw [eq_3_1 hk, eq_3_2 hk, eq_3_3 hk, eq_3_4 hk]
      refine ⟨?_, ?_⟩
      · exact fun _ n => by cases n
      · exact fun h n => by rw [n] at h; cases h
    · rw [eq_4_1 hk, eq_4_2 hk, eq_4_3 hk, eq_4_4 hk]
      refine ⟨?_, ?_⟩
      · exact fun _ n => by cases n
      · exact fun h n => by rw [n] at h; cases h
    · rw [eq_5_1 hk, eq_5_2 hk, eq_5_3 hk, eq_5_4 hk]
      obtain ⟨a, b, ea, eb, ta, tb, la, lb, eo⟩ := ht.on2 (by rw [hk]; rfl)
      rw [ea, eb]
      obtain ⟨i1, i2⟩ := on_some m a (by omega) ta
      obtain ⟨j1, j2⟩ := on_some m b (by omega) tb
      refine ⟨?_, ?_⟩
      · exact fun h n => by
          rw [n, Bool.false_or, Bool.and_eq_true] at h
          rw [h.2, Bool.and_true] at n
          have := i1 h.1 n
          omega
      · exact fun h n => by
          rw [n, Bool.false_or, Bool.and_eq_true] at h
          rw [h.2, Bool.and_true] at n
          have := i2 h.1 n
          omega
    · rw [eq_6_1 hk, eq_6_2 hk, eq_6_3 hk, eq_6_4 hk]
      obtain ⟨a, b, ea, eb, ta, tb, la, lb, eo⟩ := ht.on2 (by rw [hk]; rfl)
      rw [ea, eb]
      obtain ⟨i1, i2⟩ := on_some m a (by omega) ta
      obtain ⟨j1, j2⟩ := on_some m b (by omega) tb
      refine ⟨?_, ?_⟩
      · exact fun h n => by rw [n] at h; cases h
      · exact fun h n => by rw [n] at h; cases h
    · rw [eq_7_1 hk, eq_7_2 hk, eq_7_3 hk, eq_7_4 hk]
      obtain ⟨a, b, ea, eb, ta, tb, la, lb, eo⟩ := ht.on2 (by rw [hk]; rfl)
      rw [ea, eb]
      obtain ⟨i1, i2⟩ := on_some m a (by omega) ta
      obtain ⟨j1, j2⟩ := on_some m b (by omega) tb
      refine ⟨?_, ?_⟩
      · exact fun h n => by
          rw [n, Bool.false_or, Bool.and_eq_true] at h
          cases ha : Is 1 a with
          | false =>
            have := i1 h.1 ha
            omega
          | true =>
            rw [ha, Bool.true_and] at n
            have := j1 h.2 n
            omega
      · exact fun h n => by
          rw [n, Bool.false_or, Bool.and_eq_true] at h
          cases ha : Is 2 a with
          | false =>
            have := i2 h.1 ha
            omega
          | true =>
            rw [ha, Bool.true_and] at n
            have := j2 h.2 n
            omega
    · rw [eq_8_1 hk, eq_8_2 hk, eq_8_3 hk, eq_8_4 hk]
      obtain ⟨a, b, ea, eb, ta, tb, la, lb, eo⟩ := ht.on2 (by rw [hk]; rfl)
      rw [ea, eb]
      obtain ⟨i1, i2⟩ := on_some m a (by omega) ta
      obtain ⟨j1, j2⟩ := on_some m b (by omega) tb
      refine ⟨?_, ?_⟩
      · exact fun h n => by
          rw [n, Bool.false_or, Bool.and_eq_true] at h
          rw [h.2, Bool.and_true] at n
          have := i1 h.1 n
          omega
      · exact fun h n => by rw [n] at h; cases h
    · rw [eq_9_1 hk, eq_9_2 hk, eq_9_3 hk, eq_9_4 hk]
      obtain ⟨a, ea, ta, la, eo⟩ := ht.on1 (by rw [hk]; rfl)
      rw [ea]
      obtain ⟨i1, i2⟩ := on_some m a (by omega) ta
      refine ⟨?_, ?_⟩
      · exact fun h n => by
          rw [n, Bool.false_or] at h
          have := i2 h n
          omega
      · exact fun h n => by rw [n] at h; cases h
    · rw [eq_10_1 hk, eq_10_2 hk, eq_10_3 hk, eq_10_4 hk]
      obtain ⟨a, b, ea, eb, ta, tb, la, lb, eo⟩ := ht.on2 (by rw [hk]; rfl)
      rw [ea, eb]
      obtain ⟨i1, i2⟩ := on_some m a (by omega) ta
      obtain ⟨j1, j2⟩ := on_some m b (by omega) tb
      refine ⟨?_, ?_⟩
      · exact fun h n => by rw [n] at h; cases h
      · exact fun h n => by rw [n] at h; cases h
    · rw [eq_11_1 hk, eq_11_2 hk, eq_11_3 hk, eq_11_4 hk]
      have eo := ht.on0 (by rw [hk]; rfl)
      rw [hk] at eo
      simp only [List.mem_cons] at eo
      have : 0 < on l := by rw [eo]; simp
      exact ⟨fun _ _ => this, fun _ _ => this⟩
    · rw [eq_12_1 hk, eq_12_2 hk, eq_12_3 hk, eq_12_4 hk]
      obtain ⟨a, b, ea, eb, ta, tb, la, lb, eo⟩ := ht.on2 (by rw [hk]; rfl)
      rw [hk] at eo
      simp only [List.mem_cons] at eo
      have : 0 < on l := by rw [eo]; simp
      exact ⟨fun _ _ => this, fun _ _ => this⟩
    · rw [eq_13_1 hk, eq_13_2 hk, eq_13_3 hk, eq_13_4 hk]
      obtain ⟨a, b, ea, eb, ta, tb, la, lb, eo⟩ := ht.on2 (by rw [hk]; rfl)
      rw [hk] at eo
      simp only [List.mem_cons] at eo
      have : 0 < on l := by rw [eo]; simp
      exact ⟨fun _ _ => this, fun _ _ => this⟩
    · rw [eq_14_1 hk, eq_14_2 hk, eq_14_3 hk, eq_14_4 hk]
      obtain ⟨a, ea, ta, la, eo⟩ := ht.on1 (by rw [hk]; rfl)
      rw [hk] at eo
      simp only [List.mem_cons] at eo
      have : 0 < on l := by rw [eo]; simp
      exact ⟨fun _ _ => this, fun _ _ => this⟩
theorem of_one {l : List Nd} (h : of l = 1) : whole l = true ∧ Is 1 l = true := by
  unfold of first at h
  repeat' split at h
  all_goals first | (exact ⟨‹_›, ‹_›⟩) | omega
theorem of_two {l : List Nd} (h : of l = 2) : whole l = true ∧ Is 2 l = true ∧ Is 1 l = false := by
  unfold of first at h
  repeat' split at h
  all_goals first | (exact ⟨‹_›, ‹_›, by simpa using ‹¬ Is 1 l = true›⟩) | omega
theorem of_three {l : List Nd} (h : of l = 3) : whole l = true ∧ Is 3 l = true ∧ Is 1 l = false ∧ Is 2 l = false := by
  unfold of first at h
  repeat' split at h
  all_goals first | (exact ⟨‹_›, ‹_›, by simpa using ‹¬ Is 1 l = true›, by simpa using ‹¬ Is 2 l = true›⟩) | omega
theorem of_four {l : List Nd} (h : of l = 4) : whole l = true ∧ Is 4 l = true ∧ Is 1 l = false ∧ Is 2 l = false ∧ Is 3 l = false := by
  unfold of first at h
  repeat' split at h
  all_goals first | (exact ⟨‹_›, ‹_›, by simpa using ‹¬ Is 1 l = true›, by simpa using ‹¬ Is 2 l = true›, by simpa using ‹¬ Is 3 l = true›⟩) | omega
/-- Terms have no node of what goes on; what goes on has one. -/
theorem on_of (l : List Nd) : ((of l = 1 ∨ of l = 2) → on l = 0) ∧ ((of l = 3 ∨ of l = 4) → 0 < on l) := by
  refine ⟨fun h => ?_, fun h => ?_⟩
  · rcases h with h | h
    · obtain ⟨hw, hi⟩ := of_one h
      exact term_none _ l (Nat.le_refl _) (whole_tre hw) (Or.inl hi)
    · obtain ⟨hw, hi, _⟩ := of_two h
      exact term_none _ l (Nat.le_refl _) (whole_tre hw) (Or.inr hi)
  · rcases h with h | h
    · obtain ⟨hw, hi, h1, _⟩ := of_three h
      exact (on_some _ l (Nat.le_refl _) (whole_tre hw)).1 hi h1
    · obtain ⟨hw, hi, _, h2, _⟩ := of_four h
      exact (on_some _ l (Nat.le_refl _) (whole_tre hw)).2 hi h2
end Go.Proofs.Ytdhaghabhdeakaa.So

namespace Go.Proofs.Ytdhaghabhdeakaa.Pa
open Go Go.RowKit Rw
set_option maxRecDepth 20000

theorem walks {ts : List To.Tk} (hts : ts.length ≤ 1000) (f : Nat) : LvC f ts ∧ PrC f ts ∧ AtC f ts := by
  induction f with
  | zero => exact ⟨fun _ _ _ _ _ _ _ h => (by rw [lv] at h; cases h), fun _ _ _ _ _ h => (by rw [pr] at h; cases h), fun _ _ _ _ _ h => (by rw [ato] at h; cases h)⟩
  | succ f ih =>
    obtain ⟨i1, i2, i3⟩ := ih
    refine ⟨fun p k g w v hp hk h hv => ?_, pr_walk hts i3, ato_walk hts i1⟩
    have : k = 0 ∨ k = 1 ∨ k = 2 ∨ k = 3 ∨ k = 4 := by omega
    rcases this with rfl | rfl | rfl | rfl | rfl
    · exact lv_loop0 hts i1 p g w v hp h hv
    · exact lv_loop1 hts i1 p g w v hp h hv
    · exact lv_loop2 hts i1 p g w v hp h hv
    · exact lv_loop3 hts i1 p g w v hp h hv
    · exact lv_four i2 p g w v hp h hv
/-- All tokens read as a term. -/
theorem level_any (v : Value) (ts : List To.Tk) (w : World) (hts : ts.length ≤ 1000) (hv : To.Tks w v ts) : Calls Try.prog 29 #[v, .int .i64 0, .int .i64 0] w (GotPost (got (tkn ts)) w) := by
  obtain ⟨f, hf⟩ := got_is (tkn ts)
  exact (walks hts f).1 0 0 _ w v (Nat.zero_le _) (by omega) hf hv
end Go.Proofs.Ytdhaghabhdeakaa.Pa

namespace Go.Proofs.Ytdhaghabhdeakaa.Sx
open Go Go.RowKit Go.Proofs.Ytdhaghabhdeakaa.Rw Go.Proofs.Ytdhaghabhdeakaa.So
set_option maxRecDepth 20000

theorem whole_tre {l : List Nd} (h : whole l = true) : Tre l := by
  unfold whole at h
  simp only [Bool.and_eq_true, decide_eq_true_eq] at h
  exact Tre.of_size h.2 (fun e => by rw [e] at h; exact absurd h.1.2.1 (by decide))
set_option maxHeartbeats 400000 in
theorem ofP_any (l : List Nd) (v : Value) (w : World) (hv : Nds w v l) (hl : l.length ≤ 1000) (hm : Nms l) :
    Calls Try.prog 46 #[v] w fun e w' => e = .returned (.int .i64 (of l)) ∧ Below w.heap.size w w' := by
  have HV := Lib.hid hv
  have HM := Lib.hid hm
  obtain ⟨_, a, cap, rfl, -⟩ := hv
  clear hm
  cases hq : whole l with
  | false =>
    have HZ : Hid (of l = 0) := by
      show _ = _
      unfold of
      rw [hq]
      rfl
    have HQ := Lib.hid hq
    clear hq
    go_enter Try.func46, Try.ntmps46
    go_wp2_with fail
    refine (Rx.wholeP_any _ l _ HV.out hl HM.out).mono ?_
    rw [HQ.out]
    rintro e w' ⟨rfl, hb⟩
    have HB := Lib.hid hb
    clear hb
    go_wp2_with fail
    go_ret
    exact ⟨ret_int (by rw [HZ.out]; rfl), HB.out⟩
  | true =>
    have HZ : Hid (of l = So.first l) := by
      show _ = _
      unfold of
      rw [hq]
      rfl
    have HT := Lib.hid (whole_tre hq)
    have HQ := Lib.hid hq
    obtain ⟨F, hF⟩ : ∃ F, So.first l = F := ⟨_, rfl⟩
    rw [hF] at HZ
    have HF := Lib.hid hF
    clear hq hF
    go_enter Try.func46, Try.ntmps46
    go_wp2_with fail
    refine (Rx.wholeP_any _ l _ HV.out hl HM.out).mono ?_
    rw [HQ.out]
    rintro e w' ⟨rfl, hb⟩
    have HB := Lib.hid hb
    have HV1 : Hid (Nds w' (.slice a l.length cap) (l ++ [])) := by
      show Nds _ _ _
      rw [List.append_nil]
      exact HV.out.below hb
    clear hb
    go_wp2_with fail
    refine (first_any l [] _ _ HT.out HV1.out).mono ?_
    rw [HF.out]
    rintro e w2 ⟨y, rfl, _, hb⟩
    have HB2 := Lib.hid hb
    clear hb
    go_wp2_with fail
    go_ret
    exact ⟨ret_int (by rw [HZ.out]), HB.out.trans (HB2.out.mono HB.out.size)⟩
set_option maxHeartbeats 400000 in
theorem termP_any (l : List Nd) (v : Value) (w : World) (hv : Nds w v l) (hl : l.length ≤ 1000) (hm : Nms l) :
    Calls Try.prog 27 #[v] w fun e w' => e = .returned (.bool (of l == 1)) ∧ Below w.heap.size w w' := by
  have HV := Lib.hid hv
  have HC := Lib.hid (fun w h => ofP_any l v w h hl hm)
  have hz := of_cases l
  obtain ⟨z, hzz⟩ : ∃ z, of l = z := ⟨_, rfl⟩
  rw [hzz] at hz HC
  rw [hzz]
  obtain ⟨_, a, cap, rfl, -⟩ := hv
  clear hm hzz
  rcases hz with rfl | rfl | rfl | rfl | rfl
  all_goals
    go_enter Try.func27, Try.ntmps27
    go_wp2_with fail
    refine (HC.out _ HV.out).mono ?_
    rintro e w1 ⟨rfl, hb⟩
    have HB := Lib.hid hb
    clear hb
    go_wp2_with fail
    go_ret
    exact ⟨rfl, HB.out⟩
set_option maxHeartbeats 800000 in
theorem rightP_any (l : List Nd) (v : Value) (w : World) (hv : Nds w v l) (hl : l.length ≤ 1000) (hm : Nms l) :
    Calls Try.prog 14 #[v] w fun e w' => e = .returned (.bool (rightB l)) ∧ Below w.heap.size w w' := by
  have HV := Lib.hid hv
  have HC := Lib.hid (fun w h => termP_any l v w h hl hm)
  have hr : rightB l = ((of l == 1) && (decide (l.length ≤ 60) && decide (depth l ≤ 16))) := rfl
  obtain ⟨z, hzz⟩ : ∃ z, (of l == 1) = z := ⟨_, rfl⟩
  rw [hzz] at hr HC
  rw [hr]
  obtain ⟨_, a, cap, rfl, -⟩ := hv
  clear hm hzz hr
  cases z with
  | true =>
    rw [Bool.true_and]
    by_cases h2 : l.length ≤ 60
    · rw [decide_eq_true h2, Bool.true_and]
      obtain ⟨d, hd⟩ : ∃ d, depth l = d := ⟨_, rfl⟩
      have HD := Lib.hid hd
      rw [hd]
      clear hd
      go_enter Try.func14, Try.ntmps14
      go_wp2_with fail
      refine (HC.out _ HV.out).mono ?_
      rintro e w1 ⟨rfl, hb⟩
      have HV1 := Lib.hid (HV.out.below hb)
      have HB := Lib.hid hb
      clear hb
      go_wp2_with fail
      refine (Rx.depthP_any _ l _ HV1.out (by omega)).mono ?_
      rw [HD.out]
      rintro e w2 ⟨rfl, hb⟩
      have HB2 := Lib.hid hb
      clear hb
      go_wp2_with fail
      go_ret
      exact ⟨ret_bool (decide_eq_decide.2 (by omega)), HB.out.trans (HB2.out.mono HB.out.size)⟩
    · have g2 : decide (l.length ≤ 60) = false := decide_eq_false h2
      rw [g2, Bool.false_and]
      go_enter Try.func14, Try.ntmps14
      go_wp2_with fail
      refine (HC.out _ HV.out).mono ?_
      rintro e w1 ⟨rfl, hb⟩
      have HB := Lib.hid hb
      clear hb
      go_wp2_with fail
      go_ret
      exact ⟨rfl, HB.out⟩
  | false =>
    rw [Bool.false_and]
    go_enter Try.func14, Try.ntmps14
    go_wp2_with fail
    refine (HC.out _ HV.out).mono ?_
    rintro e w1 ⟨rfl, hb⟩
    have HB := Lib.hid hb
    clear hb
    go_wp2_with fail
    go_ret
    exact ⟨rfl, HB.out⟩
end Go.Proofs.Ytdhaghabhdeakaa.Sx
