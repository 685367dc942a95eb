/- The program's first: the sort of the tree with which a row begins, and what lies behind it. -/
import Derived.Test.YtpkbpooiaddcaaaSxf
import Derived.Test.YtpkbpooiaddcaaaRxa
namespace Go.Proofs.Ytpkbpooiaddcaaa.Sx
open Go Go.RowKit Go.Proofs.Ytpkbpooiaddcaaa.Rw Go.Proofs.Ytpkbpooiaddcaaa.So
set_option maxRecDepth 20000

/-- What is asked of shorter trees. -/
def FirstC (m : Nat) : Prop := ∀ (L R : List Nd) (w0 w : World) (v : Value), L.length < m → Tre L → Nds w0 v (L ++ R) → Below w0.heap.size w0 w →
  Calls Try.prog 30 #[v] w fun e w' => ∃ y, e = .returned (.tuple #[.int .i64 (So.first L), y]) ∧ Nds w0 y R ∧ Below w.heap.size w w'
/-- The first node, and the sorts of its kids, in blocks of their own; below them all is as it was. -/
structure Loc (w wx : World) (n : Nd) (x0 x1 : Int) : Prop where
  bel : Below w.heap.size w wx
  sz : w.heap.size + 1 < wx.heap.size
  c0 : wx.cell? ⟨w.heap.size, 0, none⟩ = some (.int .i64 n.k)
  k0 : wx.cell? ⟨w.heap.size + 1, 0, none⟩ = some (.int .i64 x0)
  k1 : wx.cell? ⟨w.heap.size + 1, 1, none⟩ = some (.int .i64 x1)
  f0 : wx.frozen? ⟨w.heap.size + 1, 0, none⟩ = false
  f1 : wx.frozen? ⟨w.heap.size + 1, 1, none⟩ = false
theorem Loc.below {w wx wy : World} {n : Nd} {x0 x1 : Int} (h : Loc w wx n x0 x1) (hb : Below wx.heap.size wx wy) : Loc w wy n x0 x1 := by
  have hs := h.sz
  exact ⟨h.bel.trans (hb.mono h.bel.size), Nat.lt_of_lt_of_le h.sz hb.size, by rw [hb.cell (p := ⟨w.heap.size, 0, none⟩) (by show w.heap.size < _; omega)]; exact h.c0,
    by rw [hb.cell (p := ⟨w.heap.size + 1, 0, none⟩) hs]; exact h.k0, by rw [hb.cell (p := ⟨w.heap.size + 1, 1, none⟩) hs]; exact h.k1,
    by rw [hb.frozen (p := ⟨w.heap.size + 1, 0, none⟩) hs]; exact h.f0, by rw [hb.frozen (p := ⟨w.heap.size + 1, 1, none⟩) hs]; exact h.f1⟩
theorem Loc.start (w : World) (n : Nd) : Loc w ((w.alloc (.cells #[.int .i64 n.k, .string n.n, .int .i64 n.s] 39)).alloc (.cells #[.int .i64 0, .int .i64 0] 52)).drew n 0 0 := by
  constructor
  · exact (((Below.refl _ _).alloc (Nat.le_refl _) _).alloc (by simp) _).drew
  all_goals simp
theorem Loc.drew {w wx : World} {n : Nd} {x0 x1 : Int} (h : Loc w wx n x0 x1) : Loc w wx.drew n x0 x1 := ⟨h.bel.drew, h.sz, h.c0, h.k0, h.k1, h.f0, h.f1⟩
theorem set_size (w : World) (p : Addr) (v : Value) : (w.setCell p v).heap.size = w.heap.size := by simp [World.setCell]
theorem Loc.set0 {w wx : World} {n : Nd} {x0 x1 : Int} (h : Loc w wx n x0 x1) (y : Int) : Loc w (wx.setCell ⟨w.heap.size + 1, 0, none⟩ (.int .i64 y)) n y x1 := by
  have hs := h.sz
  obtain ⟨h1, h2, h3, h4, h5, h6, h7⟩ := h
  exact ⟨h1.setCell (by show w.heap.size ≤ w.heap.size + 1; omega) _, (by rw [set_size]; exact h2), (by rw [World.cell?_setCell_other _ _ _ _ (by intro e; injection e with e1 e2; omega)]; exact h3),
    World.cell?_setCell_same _ _ _ h4, (by rw [World.cell?_setCell_other _ _ _ _ (by intro e; injection e with e1 e2; omega)]; exact h5), (by rw [World.frozen?_setCell]; exact h6), (by rw [World.frozen?_setCell]; exact h7)⟩
theorem Loc.set1 {w wx : World} {n : Nd} {x0 x1 : Int} (h : Loc w wx n x0 x1) (y : Int) : Loc w (wx.setCell ⟨w.heap.size + 1, 1, none⟩ (.int .i64 y)) n x0 y := by
  have hs := h.sz
  obtain ⟨h1, h2, h3, h4, h5, h6, h7⟩ := h
  exact ⟨h1.setCell (by show w.heap.size ≤ w.heap.size + 1; omega) _, (by rw [set_size]; exact h2), (by rw [World.cell?_setCell_other _ _ _ _ (by intro e; injection e with e1 e2; omega)]; exact h3),
    (by rw [World.cell?_setCell_other _ _ _ _ (by intro e; injection e with e1 e2; omega)]; exact h4), World.cell?_setCell_same _ _ _ h5, (by rw [World.frozen?_setCell]; exact h6), (by rw [World.frozen?_setCell]; exact h7)⟩
theorem tail_nds {w : World} {b o c : Nat} {n : Nd} {R : List Nd} (h : At w b o (n :: R)) (hc : (n :: R).length ≤ c) :
    ∃ a, (if c = 1 then some (⟨b, o, none⟩ : Addr) else some ⟨b, o + 3, none⟩) = a ∧ Nds w (.slice a R.length (c - 1)) R := by
  refine ⟨_, rfl, ?_⟩
  have hl : R.length + 1 ≤ c := hc
  split
  · rename_i h0
    have : R = [] := List.eq_nil_of_length_eq_zero (by omega)
    subst this
    exact ⟨rfl, _, _, rfl, by simp, fun h => (by cases h), fun h => absurd h (Nat.lt_irrefl 0)⟩
  · have := part_nds h 1 R.length (c - 1) (by simp; omega) (by omega)
    simpa using this
theorem ret_two {z z' : Nat} {y : Value} (h : z = z') : Ending.returned (.tuple #[.int .i64 (z' : Int), y]) = Ending.returned (.tuple #[.int .i64 (z : Int), y]) := by rw [h]
set_option maxHeartbeats 2000000 in
theorem first0 (L R : List Nd) (w0 w : World) (v : Value) (h : Tre L) (h0 : Rw.ar (hd L) = 0) (hv : Nds w0 v (L ++ R)) (hw : Below w0.heap.size w0 w) :
    Calls Try.prog 30 #[v] w fun e w' => ∃ y, e = .returned (.tuple #[.int .i64 (So.first L), y]) ∧ Nds w0 y R ∧ Below w.heap.size w w' := by
  obtain ⟨n, hn, rfl, hf⟩ := parts0 h h0
  rw [hn] at h0
  have H0 := Lib.hid h0
  have HF := Lib.hid hf
  have HK := Lib.hid (show 0 ≤ Rw.ar n.k by rw [h0]; decide)
  rcases hv.form with ⟨hx, _⟩ | ⟨b0, o, c, rfl, hc, hat⟩
  · cases hx
  have hz : [n] ++ R = n :: R := by simp
  rw [hz] at hat hc ⊢
  obtain ⟨e1, e2, e3⟩ := hat 0 (by simp)
  rw [Nat.zero_mul, Nat.add_zero] at e1 e2 e3
  simp only [List.getElem_cons_zero] at e1 e2 e3
  rw [← hw.cell (Ap.cell_lt e1)] at e1
  rw [← hw.cell (Ap.cell_lt e2)] at e2
  rw [← hw.cell (Ap.cell_lt e3)] at e3
  have HW := Lib.hid hw
  obtain ⟨a1, hsl, hnd⟩ := tail_nds hat hc
  have ND := Lib.hid hnd
  have HL := Lib.hid (Loc.start w n)
  rw [List.length_cons]
  obtain ⟨N, hN⟩ : ∃ N, R.length = N := ⟨_, rfl⟩
  rw [hN] at ND ⊢
  obtain ⟨F, hF⟩ : ∃ F, So.first [n] = F := ⟨_, rfl⟩
  rw [hF] at HF ⊢
  have g1 : (1 : Int) ≤ (N : Int) + 1 := by omega
  have lt : b0 < w.heap.size := Ap.cell_lt e1
  clear hat hc hnd hz hN hF hn hf h0 h hv hw
  go_enter Try.func30, Try.ntmps30
  go_wp2_with fail
  go_region
  go_wp2_with fail
  refine (Rx.arP_eq n.k _).mono ?_
  rw [H0.out]
  rintro e w' ⟨rfl, rfl⟩
  go_wp2_with fail
  refine Go.wp_loop_rounds 1 ?_
  rw [rounds_succ]
  go_wp2_with fail
  refine (fit_any n.k 0 0 _ HK.out (by omega) (by omega) (fun _ => rfl) (fun _ => rfl)).mono ?_
  rintro e w' ⟨rfl, rfl⟩
  cases hq : fit n.k 0 0 with
  | false =>
    have HZ : Hid (F = 0) := by
      show _ = _
      rw [HF.out]
      unfold comb
      rw [hq]
      rfl
    clear hq
    go_wp2_with fail
    go_ret2
    exact ⟨_, ret_two HZ.out, ND.out, HL.out.bel⟩
  | true =>
    have HZ : Hid (F = made n.k 0 0) := by
      show _ = _
      rw [HF.out]
      unfold comb
      rw [hq]
      rfl
    clear hq
    go_wp2_with fail
    refine (made_any n.k 0 0 _ HK.out (by omega)).mono ?_
    rintro e w' ⟨rfl, rfl⟩
    go_wp2_with fail
    go_ret2
    exact ⟨_, ret_two HZ.out, ND.out, HL.out.bel⟩
set_option maxHeartbeats 2000000 in
theorem first1 (m : Nat) (IH : FirstC m) (L R : List Nd) (w0 w : World) (v : Value) (hm : L.length ≤ m) (h : Tre L) (h0 : Rw.ar (hd L) = 1) (hv : Nds w0 v (L ++ R)) (hw : Below w0.heap.size w0 w) :
    Calls Try.prog 30 #[v] w fun e w' => ∃ y, e = .returned (.tuple #[.int .i64 (So.first L), y]) ∧ Nds w0 y R ∧ Below w.heap.size w w' := by
  obtain ⟨n, a, hn, rfl, hta, hf⟩ := parts1 h h0
  rw [hn] at h0
  have H0 := Lib.hid h0
  have HF := Lib.hid hf
  have HK := Lib.hid (show 0 ≤ Rw.ar n.k by rw [h0]; decide)
  have HTA := Lib.hid hta
  have HA4 := Lib.hid (first_le a)
  have la : a.length < m := by simp at hm; omega
  rcases hv.form with ⟨hx, _⟩ | ⟨b0, o, c, rfl, hc, hat⟩
  · cases hx
  have hz : (n :: a) ++ R = n :: (a ++ R) := by simp
  rw [hz] at hat hc ⊢
  obtain ⟨e1, e2, e3⟩ := hat 0 (by simp)
  rw [Nat.zero_mul, Nat.add_zero] at e1 e2 e3
  simp only [List.getElem_cons_zero] at e1 e2 e3
  rw [← hw.cell (Ap.cell_lt e1)] at e1
  rw [← hw.cell (Ap.cell_lt e2)] at e2
  rw [← hw.cell (Ap.cell_lt e3)] at e3
  have HW := Lib.hid hw
  obtain ⟨a1, hsl, hnd⟩ := tail_nds hat hc
  have ND := Lib.hid hnd
  have HL := Lib.hid (Loc.start w n)
  rw [List.length_cons]
  obtain ⟨N, hN⟩ : ∃ N, (a ++ R).length = N := ⟨_, rfl⟩
  rw [hN] at ND ⊢
  obtain ⟨F, hF⟩ : ∃ F, So.first (n :: a) = F := ⟨_, rfl⟩
  rw [hF] at HF ⊢
  have g1 : (1 : Int) ≤ (N : Int) + 1 := by omega
  have lt : b0 < w.heap.size := Ap.cell_lt e1
  obtain ⟨A, hA⟩ : ∃ A, So.first a = A := ⟨_, rfl⟩
  rw [hA] at HF HA4
  have HA := Lib.hid hA
  clear hA hta
  clear hat hc hnd hz hN hF hn hf h0 h hv hw hm
  go_enter Try.func30, Try.ntmps30
  go_wp2_with fail
  go_region
  go_wp2_with fail
  refine (Rx.arP_eq n.k _).mono ?_
  rw [H0.out]
  rintro e w' ⟨rfl, rfl⟩
  go_wp2_with fail
  refine Go.wp_loop_rounds 2 ?_
  rw [rounds_succ]
  go_wp2_with fail
  refine (IH a R w0 _ _ la HTA.out ND.out (HW.out.trans (HL.out.bel.mono HW.out.size))).mono ?_
  rw [HA.out]
  rintro e w1 ⟨y1, rfl, hy, hb⟩
  have HY := Lib.hid hy
  have HM := Lib.hid (HL.out.below hb)
  obtain ⟨_, a2, c2, rfl, -⟩ := hy
  clear hb e1 e2 e3 lt
  obtain ⟨k1, k2, k3, k4, k5, k6, k7⟩ := HM.out
  go_wp2_with fail
  rw [rounds_succ]
  go_wp2_with fail
  refine (fit_any n.k A 0 _ HK.out HA4.out (by omega) (fun h => by rw [H0.out] at h; exact absurd h (by decide)) (fun _ => rfl)).mono ?_
  rintro e w' ⟨rfl, rfl⟩
  cases hq : fit n.k A 0 with
  | false =>
    have HZ : Hid (F = 0) := by
      show _ = _
      rw [HF.out]
      unfold comb
      rw [hq]
      rfl
    clear hq
    go_wp2_with fail
    go_ret2
    exact ⟨_, ret_two HZ.out, HY.out, (HM.out.set0 A).bel⟩
  | true =>
    have HZ : Hid (F = made n.k A 0) := by
      show _ = _
      rw [HF.out]
      unfold comb
      rw [hq]
      rfl
    clear hq
    go_wp2_with fail
    refine (made_any n.k A 0 _ HK.out HA4.out).mono ?_
    rintro e w' ⟨rfl, rfl⟩
    go_wp2_with fail
    go_ret2
    exact ⟨_, ret_two HZ.out, HY.out, (HM.out.set0 A).bel⟩
set_option maxHeartbeats 2000000 in
theorem first2 (m : Nat) (IH : FirstC m) (L R : List Nd) (w0 w : World) (v : Value) (hm : L.length ≤ m) (h : Tre L) (h0 : Rw.ar (hd L) = 2) (hv : Nds w0 v (L ++ R)) (hw : Below w0.heap.size w0 w) :
    Calls Try.prog 30 #[v] w fun e w' => ∃ y, e = .returned (.tuple #[.int .i64 (So.first L), y]) ∧ Nds w0 y R ∧ Below w.heap.size w w' := by
  obtain ⟨n, a, b, hn, rfl, hta, htb, hf⟩ := parts2 h h0
  rw [hn] at h0
  have H0 := Lib.hid h0
  have HF := Lib.hid hf
  have HK := Lib.hid (show 0 ≤ Rw.ar n.k by rw [h0]; decide)
  have HTA := Lib.hid hta
  have HA4 := Lib.hid (first_le a)
  have la : a.length < m := by simp at hm; omega
  have HTB := Lib.hid htb
  have HB4 := Lib.hid (first_le b)
  have lb : b.length < m := by simp at hm; omega
  rcases hv.form with ⟨hx, _⟩ | ⟨b0, o, c, rfl, hc, hat⟩
  · cases hx
  have hz : (n :: (a ++ b)) ++ R = n :: (a ++ (b ++ R)) := by simp
  rw [hz] at hat hc ⊢
  obtain ⟨e1, e2, e3⟩ := hat 0 (by simp)
  rw [Nat.zero_mul, Nat.add_zero] at e1 e2 e3
  simp only [List.getElem_cons_zero] at e1 e2 e3
  rw [← hw.cell (Ap.cell_lt e1)] at e1
  rw [← hw.cell (Ap.cell_lt e2)] at e2
  rw [← hw.cell (Ap.cell_lt e3)] at e3
  have HW := Lib.hid hw
  obtain ⟨a1, hsl, hnd⟩ := tail_nds hat hc
  have ND := Lib.hid hnd
  have HL := Lib.hid (Loc.start w n)
  rw [List.length_cons]
  obtain ⟨N, hN⟩ : ∃ N, (a ++ (b ++ R)).length = N := ⟨_, rfl⟩
  rw [hN] at ND ⊢
  obtain ⟨F, hF⟩ : ∃ F, So.first (n :: (a ++ b)) = F := ⟨_, rfl⟩
  rw [hF] at HF ⊢
  have g1 : (1 : Int) ≤ (N : Int) + 1 := by omega
  have lt : b0 < w.heap.size := Ap.cell_lt e1
  obtain ⟨A, hA⟩ : ∃ A, So.first a = A := ⟨_, rfl⟩
  rw [hA] at HF HA4
  have HA := Lib.hid hA
  clear hA hta
  obtain ⟨B, hB⟩ : ∃ B, So.first b = B := ⟨_, rfl⟩
  rw [hB] at HF HB4
  have HB := Lib.hid hB
  clear hB htb
  clear hat hc hnd hz hN hF hn hf h0 h hv hw hm
  go_enter Try.func30, Try.ntmps30
  go_wp2_with fail
  go_region
  go_wp2_with fail
  refine (Rx.arP_eq n.k _).mono ?_
  rw [H0.out]
  rintro e w' ⟨rfl, rfl⟩
  go_wp2_with fail
  refine Go.wp_loop_rounds 3 ?_
  rw [rounds_succ]
  go_wp2_with fail
  refine (IH a (b ++ R) w0 _ _ la HTA.out ND.out (HW.out.trans (HL.out.bel.mono HW.out.size))).mono ?_
  rw [HA.out]
  rintro e w1 ⟨y1, rfl, hy, hb⟩
  have HY := Lib.hid hy
  have HM := Lib.hid (HL.out.below hb)
  obtain ⟨_, a2, c2, rfl, -⟩ := hy
  obtain ⟨M, hM⟩ : ∃ M, (b ++ R).length = M := ⟨_, rfl⟩
  rw [hM] at HY ⊢
  clear hM
  clear hb e1 e2 e3 lt
  obtain ⟨k1, k2, k3, k4, k5, k6, k7⟩ := HM.out
  go_wp2_with fail
  rw [rounds_succ]
  go_wp2_with fail
  refine (IH b R w0 _ _ lb HTB.out HY.out (HW.out.trans ((HM.out.set0 A).bel.mono HW.out.size))).mono ?_
  rw [HB.out]
  rintro e w2 ⟨y2, rfl, hy, hb⟩
  have HY2 := Lib.hid hy
  have HM2 := Lib.hid ((HM.out.set0 A).below hb)
  obtain ⟨_, a3, c3, rfl, -⟩ := hy
  clear hb k1 k2 k3 k4 k5 k6 k7
  obtain ⟨k1, k2, k3, k4, k5, k6, k7⟩ := HM2.out
  go_wp2_with fail
  rw [rounds_succ]
  go_wp2_with fail
  refine (fit_any n.k A B _ HK.out HA4.out HB4.out (fun h => by rw [H0.out] at h; exact absurd h (by decide)) (fun h => by rw [H0.out] at h; exact absurd h (by decide))).mono ?_
  rintro e w' ⟨rfl, rfl⟩
  cases hq : fit n.k A B with
  | false =>
    have HZ : Hid (F = 0) := by
      show _ = _
      rw [HF.out]
      unfold comb
      rw [hq]
      rfl
    clear hq
    go_wp2_with fail
    go_ret2
    exact ⟨_, ret_two HZ.out, HY2.out, (HM2.out.set1 B).bel⟩
  | true =>
    have HZ : Hid (F = made n.k A B) := by
      show _ = _
      rw [HF.out]
      unfold comb
      rw [hq]
      rfl
    clear hq
    go_wp2_with fail
    refine (made_any n.k A B _ HK.out HA4.out).mono ?_
    rintro e w' ⟨rfl, rfl⟩
    go_wp2_with fail
    go_ret2
    exact ⟨_, ret_two HZ.out, HY2.out, (HM2.out.set1 B).bel⟩
theorem first_all : ∀ m, FirstC m
  | 0 => fun _ _ _ _ _ h => absurd h (Nat.not_lt_zero _)
  | m + 1 => fun L R w0 w v hl h hv hw => by
    have ha := h.ar
    rcases ar_cases (hd L) with h0 | h0 | h0 | h0
    · rw [h0] at ha
      exact absurd ha (by decide)
    · exact first0 L R w0 w v h h0 hv hw
    · exact first1 m (first_all m) L R w0 w v (by omega) h h0 hv hw
    · exact first2 m (first_all m) L R w0 w v (by omega) h h0 hv hw
/-- The program's first. -/
theorem first_any (L R : List Nd) (w : World) (v : Value) (h : Tre L) (hv : Nds w v (L ++ R)) :
    Calls Try.prog 30 #[v] w fun e w' => ∃ y, e = .returned (.tuple #[.int .i64 (So.first L), y]) ∧ Nds w y R ∧ Below w.heap.size w w' :=
  first_all (L.length + 1) L R w w v (by omega) h hv (Below.refl _ _)
end Go.Proofs.Ytpkbpooiaddcaaa.Sx
