/- The program's first: the sort of the tree with which a row begins, and what lies behind it. The document's Right. The program's Put: the walk. The nodes above, and how many trees each is still to have: plain. RowDeep from the contracts: a tree is one deeper than the deepest of its kids, and has one node more than all of them. Rows of rows of actions; the document's ahead: the walk. Plain: the sorts of kids, of blocks, of what is made of two. The program's Of, Term, Right. A row that is too long is of no sort: the document's walks. The document's mixed: all rows of two, the walk. -/
import Derived.Test.YtpingbiibbmcaaaGreatQ10
import Derived.Test.YtpingbiibbmcaaaGreatQ04
import Derived.Deep.QuietTactic
import Derived.BigQuiet
import Derived.Deep.RegionLaw
import Derived.Test.YtpingbiibbmcaaaGreatQ01
import Derived.Test.YtpingbiibbmcaaaGreatQ09

namespace Go.Proofs.YtpingbiibbmcaaaGreat.Sx
open Go Go.RowKit Go.Proofs.YtpingbiibbmcaaaGreat.Rw Go.Proofs.YtpingbiibbmcaaaGreat.So
set_option maxRecDepth 20000

/-- What is asked of shorter trees. -/
def FirstC (m : Nat) : Prop := ∀ (L R : List Nd) (w0 w : World) (v : Value), L.length < m → Tre L → Nds w0 v (L ++ R) → Below w0.heap.size w0 w →
  Calls Tryz.prog 62 #[v] w fun e w' => ∃ y, e = .returned (.tuple #[.int .i64 (So.first L), y]) ∧ Nds w0 y R ∧ Below w.heap.size w w'
/-- The first node, and the sorts of its kids, in blocks of their own; below them all is as it was. -/
structure Loc (w wx : World) (n : Nd) (x0 x1 : Int) : Prop where
  bel : Below w.heap.size w wx
  sz : w.heap.size + 1 < wx.heap.size
  c0 : wx.cell? ⟨w.heap.size, 0, none⟩ = some (.int .i64 n.k)
  k0 : wx.cell? ⟨w.heap.size + 1, 0, none⟩ = some (.int .i64 x0)
  k1 : wx.cell? ⟨w.heap.size + 1, 1, none⟩ = some (.int .i64 x1)
  f0 : wx.frozen? ⟨w.heap.size + 1, 0, none⟩ = false
  f1 : wx.frozen? ⟨w.heap.size + 1, 1, none⟩ = false
theorem Loc.below {w wx wy : World} {n : Nd} {x0 x1 : Int} (h : Loc w wx n x0 x1) (hb : Below wx.heap.size wx wy) : Loc w wy n x0 x1 := by
  have hs := h.sz
  exact ⟨h.bel.trans (hb.mono h.bel.size), Nat.lt_of_lt_of_le h.sz hb.size, by rw [hb.cell (p := ⟨w.heap.size, 0, none⟩) (by show w.heap.size < _; omega)]; exact h.c0,
    by rw [hb.cell (p := ⟨w.heap.size + 1, 0, none⟩) hs]; exact h.k0, by rw [hb.cell (p := ⟨w.heap.size + 1, 1, none⟩) hs]; exact h.k1,
    by rw [hb.frozen (p := ⟨w.heap.size + 1, 0, none⟩) hs]; exact h.f0, by rw [hb.frozen (p := ⟨w.heap.size + 1, 1, none⟩) hs]; exact h.f1⟩
theorem Loc.start (w : World) (n : Nd) : Loc w ((w.alloc (.cells #[.int .i64 n.k, .string n.n, .int .i64 n.s] 39)).alloc (.cells #[.int .i64 0, .int .i64 0] 105)).drew n 0 0 := by
  constructor
  · exact (((Below.refl _ _).alloc (Nat.le_refl _) _).alloc (by simp) _).drew
  all_goals simp
theorem set_size (w : World) (p : Addr) (v : Value) : (w.setCell p v).heap.size = w.heap.size := by simp [World.setCell]
theorem Loc.set0 {w wx : World} {n : Nd} {x0 x1 : Int} (h : Loc w wx n x0 x1) (y : Int) : Loc w (wx.setCell ⟨w.heap.size + 1, 0, none⟩ (.int .i64 y)) n y x1 := by
  have hs := h.sz
  obtain ⟨h1, h2, h3, h4, h5, h6, h7⟩ := h
  exact ⟨h1.setCell (by show w.heap.size ≤ w.heap.size + 1; omega) _, (by rw [set_size]; exact h2), (by rw [World.cell?_setCell_other _ _ _ _ (by intro e; injection e with e1 e2; omega)]; exact h3),
    World.cell?_setCell_same _ _ _ h4, (by rw [World.cell?_setCell_other _ _ _ _ (by intro e; injection e with e1 e2; omega)]; exact h5), (by rw [World.frozen?_setCell]; exact h6), (by rw [World.frozen?_setCell]; exact h7)⟩
theorem Loc.set1 {w wx : World} {n : Nd} {x0 x1 : Int} (h : Loc w wx n x0 x1) (y : Int) : Loc w (wx.setCell ⟨w.heap.size + 1, 1, none⟩ (.int .i64 y)) n x0 y := by
  have hs := h.sz
  obtain ⟨h1, h2, h3, h4, h5, h6, h7⟩ := h
  exact ⟨h1.setCell (by show w.heap.size ≤ w.heap.size + 1; omega) _, (by rw [set_size]; exact h2), (by rw [World.cell?_setCell_other _ _ _ _ (by intro e; injection e with e1 e2; omega)]; exact h3),
    (by rw [World.cell?_setCell_other _ _ _ _ (by intro e; injection e with e1 e2; omega)]; exact h4), World.cell?_setCell_same _ _ _ h5, (by rw [World.frozen?_setCell]; exact h6), (by rw [World.frozen?_setCell]; exact h7)⟩
theorem tail_nds {w : World} {b o c : Nat} {n : Nd} {R : List Nd} (h : At w b o (n :: R)) (hc : (n :: R).length ≤ c) :
    ∃ a, (if c = 1 then some (⟨b, o, none⟩ : Addr) else some ⟨b, o + 3, none⟩) = a ∧ Nds w (.slice a R.length (c - 1)) R := by
  refine ⟨_, rfl, ?_⟩
  have hl : R.length + 1 ≤ c := hc
  split
  · rename_i h0
    have : R = [] := List.eq_nil_of_length_eq_zero (by omega)
    subst this
    exact ⟨rfl, _, _, rfl, by simp, fun h => (by cases h), fun h => absurd h (Nat.lt_irrefl 0)⟩
  · have := part_nds h 1 R.length (c - 1) (by simp; omega) (by omega)
    simpa using this
theorem ret_two {z z' : Nat} {y : Value} (h : z = z') : Ending.returned (.tuple #[.int .i64 (z' : Int), y]) = Ending.returned (.tuple #[.int .i64 (z : Int), y]) := by rw [h]
set_option maxHeartbeats 2000000 in
theorem first0 (L R : List Nd) (w0 w : World) (v : Value) (h : Tre L) (h0 : Rw.ar (hd L) = 0) (hv : Nds w0 v (L ++ R)) (hw : Below w0.heap.size w0 w) :
    Calls Tryz.prog 62 #[v] w fun e w' => ∃ y, e = .returned (.tuple #[.int .i64 (So.first L), y]) ∧ Nds w0 y R ∧ Below w.heap.size w w' := by
  obtain ⟨n, hn, rfl, hf⟩ := parts0 h h0
  rw [hn] at h0
  have H0 := Lib.hid h0
  have HF := Lib.hid hf
  have HK := Lib.hid (show 0 ≤ Rw.ar n.k by rw [h0]; decide)
  rcases hv.form with ⟨hx, _⟩ | ⟨b0, o, c, rfl, hc, hat⟩
  · cases hx
  have hz : [n] ++ R = n :: R := by simp
  rw [hz] at hat hc ⊢
  obtain ⟨e1, e2, e3⟩ := hat 0 (by simp)
  rw [Nat.zero_mul, Nat.add_zero] at e1 e2 e3
  simp only [List.getElem_cons_zero] at e1 e2 e3
  rw [← hw.cell (Ap.cell_lt e1)] at e1
  rw [← hw.cell (Ap.cell_lt e2)] at e2
  rw [← hw.cell (Ap.cell_lt e3)] at e3
  have HW := Lib.hid hw
  obtain ⟨a1, hsl, hnd⟩ := tail_nds hat hc
  have ND := Lib.hid hnd
  have HL := Lib.hid (Loc.start w n)
  rw [List.length_cons]
  obtain ⟨N, hN⟩ : ∃ N, R.length = N := ⟨_, rfl⟩
  rw [hN] at ND ⊢
  obtain ⟨F, hF⟩ : ∃ F, So.first [n] = F := ⟨_, rfl⟩
  rw [hF] at HF ⊢
  have g1 : (1 : Int) ≤ (N : Int) + 1 := by omega
  have lt : b0 < w.heap.size := Ap.cell_lt e1
  clear hat hc hnd hz hN hF hn hf h0 h hv hw
  go_enter Tryz.func62, Tryz.ntmps62
  go_wp2_with fail
  go_region
  go_wp2_with fail
  refine (Rx.arP_eq n.k _).mono ?_
  rw [H0.out]
  rintro e w' ⟨rfl, rfl⟩
  go_wp2_with fail
  refine Go.wp_loop_rounds 1 ?_
  rw [rounds_succ]
  go_wp2_with fail
  refine (fit_any n.k 0 0 _ HK.out (by omega) (by omega) (fun _ => rfl) (fun _ => rfl)).mono ?_
  rintro e w' ⟨rfl, rfl⟩
  cases hq : fit n.k 0 0 with
  | false =>
    have HZ : Hid (F = 0) := by
      show _ = _
      rw [HF.out]
      unfold comb
      rw [hq]
      rfl
    clear hq
    go_wp2_with fail
    go_ret2
    exact ⟨_, ret_two HZ.out, ND.out, HL.out.bel⟩
  | true =>
    have HZ : Hid (F = made n.k 0 0) := by
      show _ = _
      rw [HF.out]
      unfold comb
      rw [hq]
      rfl
    clear hq
    go_wp2_with fail
    refine (made_any n.k 0 0 _ HK.out (by omega)).mono ?_
    rintro e w' ⟨rfl, rfl⟩
    go_wp2_with fail
    go_ret2
    exact ⟨_, ret_two HZ.out, ND.out, HL.out.bel⟩
set_option maxHeartbeats 2000000 in
theorem first1 (m : Nat) (IH : FirstC m) (L R : List Nd) (w0 w : World) (v : Value) (hm : L.length ≤ m) (h : Tre L) (h0 : Rw.ar (hd L) = 1) (hv : Nds w0 v (L ++ R)) (hw : Below w0.heap.size w0 w) :
    Calls Tryz.prog 62 #[v] w fun e w' => ∃ y, e = .returned (.tuple #[.int .i64 (So.first L), y]) ∧ Nds w0 y R ∧ Below w.heap.size w w' := by
  obtain ⟨n, a, hn, rfl, hta, hf⟩ := parts1 h h0
  rw [hn] at h0
  have H0 := Lib.hid h0
  have HF := Lib.hid hf
  have HK := Lib.hid (show 0 ≤ Rw.ar n.k by rw [h0]; decide)
  have HTA := Lib.hid hta
  have HA4 := Lib.hid (first_le a)
  have la : a.length < m := by simp at hm; omega
  rcases hv.form with ⟨hx, _⟩ | ⟨b0, o, c, rfl, hc, hat⟩
  · cases hx
  have hz : (n :: a) ++ R = n :: (a ++ R) := by simp
  rw [hz] at hat hc ⊢
  obtain ⟨e1, e2, e3⟩ := hat 0 (by simp)
  rw [Nat.zero_mul, Nat.add_zero] at e1 e2 e3
  simp only [List.getElem_cons_zero] at e1 e2 e3
  rw [← hw.cell (Ap.cell_lt e1)] at e1
  rw [← hw.cell (Ap.cell_lt e2)] at e2
  rw [← hw.cell (Ap.cell_lt e3)] at e3
  have HW := Lib.hid hw
  obtain ⟨a1, hsl, hnd⟩ := tail_nds hat hc
  have ND := Lib.hid hnd
  have HL := Lib.hid (Loc.start w n)
  rw [List.length_cons]
  obtain ⟨N, hN⟩ : ∃ N, (a ++ R).length = N := ⟨_, rfl⟩
  rw [hN] at ND ⊢
  obtain ⟨F, hF⟩ : ∃ F, So.first (n :: a) = F := ⟨_, rfl⟩
  rw [hF] at HF ⊢
  have g1 : (1 : Int) ≤ (N : Int) + 1 := by omega
  have lt : b0 < w.heap.size := Ap.cell_lt e1
  obtain ⟨A, hA⟩ : ∃ A, So.first a = A := ⟨_, rfl⟩
  rw [hA] at HF HA4
  have HA := Lib.hid hA
  clear hA hta
  clear hat hc hnd hz hN hF hn hf h0 h hv hw hm
  go_enter Tryz.func62, Tryz.ntmps62
  go_wp2_with fail
  go_region
  go_wp2_with fail
  refine (Rx.arP_eq n.k _).mono ?_
  rw [H0.out]
  rintro e w' ⟨rfl, rfl⟩
  go_wp2_with fail
  refine Go.wp_loop_rounds 2 ?_
  rw [rounds_succ]
  go_wp2_with fail
  refine (IH a R w0 _ _ la HTA.out ND.out (HW.out.trans (HL.out.bel.mono HW.out.size))).mono ?_
  rw [HA.out]
  rintro e w1 ⟨y1, rfl, hy, hb⟩
  have HY := Lib.hid hy
  have HM := Lib.hid (HL.out.below hb)
  obtain ⟨_, a2, c2, rfl, -⟩ := hy
  clear hb e1 e2 e3 lt
  obtain ⟨k1, k2, k3, k4, k5, k6, k7⟩ := HM.out
  go_wp2_with fail
  rw [rounds_succ]
  go_wp2_with fail
  refine (fit_any n.k A 0 _ HK.out HA4.out (by omega) (fun h => by rw [H0.out] at h; exact absurd h (by decide)) (fun _ => rfl)).mono ?_
  rintro e w' ⟨rfl, rfl⟩
  cases hq : fit n.k A 0 with
  | false =>
    have HZ : Hid (F = 0) := by
      show _ = _
      rw [HF.out]
      unfold comb
      rw [hq]
      rfl
    clear hq
    go_wp2_with fail
    go_ret2
    exact ⟨_, ret_two HZ.out, HY.out, (HM.out.set0 A).bel⟩
  | true =>
    have HZ : Hid (F = made n.k A 0) := by
      show _ = _
      rw [HF.out]
      unfold comb
      rw [hq]
      rfl
    clear hq
    go_wp2_with fail
    refine (made_any n.k A 0 _ HK.out HA4.out).mono ?_
    rintro e w' ⟨rfl, rfl⟩
    go_wp2_with fail
    go_ret2
    exact ⟨_, ret_two HZ.out, HY.out, (HM.out.set0 A).bel⟩
set_option maxHeartbeats 2000000 in
theorem first2 (m : Nat) (IH : FirstC m) (L R : List Nd) (w0 w : World) (v : Value) (hm : L.length ≤ m) (h : Tre L) (h0 : Rw.ar (hd L) = 2) (hv : Nds w0 v (L ++ R)) (hw : Below w0.heap.size w0 w) :
    Calls Tryz.prog 62 #[v] w fun e w' => ∃ y, e = .returned (.tuple #[.int .i64 (So.first L), y]) ∧ Nds w0 y R ∧ Below w.heap.size w w' := by
  obtain ⟨n, a, b, hn, rfl, hta, htb, hf⟩ := parts2 h h0
  rw [hn] at h0
  have H0 := Lib.hid h0
  have HF := Lib.hid hf
  have HK := Lib.hid (show 0 ≤ Rw.ar n.k by rw [h0]; decide)
  have HTA := Lib.hid hta
  have HA4 := Lib.hid (first_le a)
  have la : a.length < m := by simp at hm; omega
  have HTB := Lib.hid htb
  have HB4 := Lib.hid (first_le b)
  have lb : b.length < m := by simp at hm; omega
  rcases hv.form with ⟨hx, _⟩ | ⟨b0, o, c, rfl, hc, hat⟩
  · cases hx
  have hz : (n :: (a ++ b)) ++ R = n :: (a ++ (b ++ R)) := by simp
  rw [hz] at hat hc ⊢
  obtain ⟨e1, e2, e3⟩ := hat 0 (by simp)
  rw [Nat.zero_mul, Nat.add_zero] at e1 e2 e3
  simp only [List.getElem_cons_zero] at e1 e2 e3
  rw [← hw.cell (Ap.cell_lt e1)] at e1
  rw [← hw.cell (Ap.cell_lt e2)] at e2
  rw [← hw.cell (Ap.cell_lt e3)] at e3
  have HW := Lib.hid hw
  obtain ⟨a1, hsl, hnd⟩ := tail_nds hat hc
  have ND := Lib.hid hnd
  have HL := Lib.hid (Loc.start w n)
  rw [List.length_cons]
  obtain ⟨N, hN⟩ : ∃ N, (a ++ (b ++ R)).length = N := ⟨_, rfl⟩
  rw [hN] at ND ⊢
  obtain ⟨F, hF⟩ : ∃ F, So.first (n :: (a ++ b)) = F := ⟨_, rfl⟩
  rw [hF] at HF ⊢
  have g1 : (1 : Int) ≤ (N : Int) + 1 := by omega
  have lt : b0 < w.heap.size := Ap.cell_lt e1
  obtain ⟨A, hA⟩ : ∃ A, So.first a = A := ⟨_, rfl⟩
  rw [hA] at HF HA4
  have HA := Lib.hid hA
  clear hA hta
  obtain ⟨B, hB⟩ : ∃ B, So.first b = B := ⟨_, rfl⟩
  rw [hB] at HF HB4
  have HB := Lib.hid hB
  clear hB htb
  clear hat hc hnd hz hN hF hn hf h0 h hv hw hm
  go_enter Tryz.func62, Tryz.ntmps62
  go_wp2_with fail
  go_region
  go_wp2_with fail
  refine (Rx.arP_eq n.k _).mono ?_
  rw [H0.out]
  rintro e w' ⟨rfl, rfl⟩
  go_wp2_with fail
  refine Go.wp_loop_rounds 3 ?_
  rw [rounds_succ]
  go_wp2_with fail
  refine (IH a (b ++ R) w0 _ _ la HTA.out ND.out (HW.out.trans (HL.out.bel.mono HW.out.size))).mono ?_
  rw [HA.out]
  rintro e w1 ⟨y1, rfl, hy, hb⟩
  have HY := Lib.hid hy
  have HM := Lib.hid (HL.out.below hb)
  obtain ⟨_, a2, c2, rfl, -⟩ := hy
  obtain ⟨M, hM⟩ : ∃ M, (b ++ R).length = M := ⟨_, rfl⟩
  rw [hM] at HY ⊢
  clear hM
  clear hb e1 e2 e3 lt
  obtain ⟨k1, k2, k3, k4, k5, k6, k7⟩ := HM.out
  go_wp2_with fail
  rw [rounds_succ]
  go_wp2_with fail
  refine (IH b R w0 _ _ lb HTB.out HY.out (HW.out.trans ((HM.out.set0 A).bel.mono HW.out.size))).mono ?_
  rw [HB.out]
  rintro e w2 ⟨y2, rfl, hy, hb⟩
  have HY2 := Lib.hid hy
  have HM2 := Lib.hid ((HM.out.set0 A).below hb)
  obtain ⟨_, a3, c3, rfl, -⟩ := hy
  clear hb k1 k2 k3 k4 k5 k6 k7
  obtain ⟨k1, k2, k3, k4, k5, k6, k7⟩ := HM2.out
  go_wp2_with fail
  rw [rounds_succ]
  go_wp2_with fail
  refine (fit_any n.k A B _ HK.out HA4.out HB4.out (fun h => by rw [H0.out] at h; exact absurd h (by decide)) (fun h => by rw [H0.out] at h; exact absurd h (by decide))).mono ?_
  rintro e w' ⟨rfl, rfl⟩
  cases hq : fit n.k A B with
  | false =>
    have HZ : Hid (F = 0) := by
      show _ = _
      rw [HF.out]
      unfold comb
      rw [hq]
      rfl
    clear hq
    go_wp2_with fail
    go_ret2
    exact ⟨_, ret_two HZ.out, HY2.out, (HM2.out.set1 B).bel⟩
  | true =>
    have HZ : Hid (F = made n.k A B) := by
      show _ = _
      rw [HF.out]
      unfold comb
      rw [hq]
      rfl
    clear hq
    go_wp2_with fail
    refine (made_any n.k A B _ HK.out HA4.out).mono ?_
    rintro e w' ⟨rfl, rfl⟩
    go_wp2_with fail
    go_ret2
    exact ⟨_, ret_two HZ.out, HY2.out, (HM2.out.set1 B).bel⟩
theorem first_all : ∀ m, FirstC m
  | 0 => fun _ _ _ _ _ h => absurd h (Nat.not_lt_zero _)
  | m + 1 => fun L R w0 w v hl h hv hw => by
    have ha := h.ar
    rcases ar_cases (hd L) with h0 | h0 | h0 | h0
    · rw [h0] at ha
      exact absurd ha (by decide)
    · exact first0 L R w0 w v h h0 hv hw
    · exact first1 m (first_all m) L R w0 w v (by omega) h h0 hv hw
    · exact first2 m (first_all m) L R w0 w v (by omega) h h0 hv hw
/-- The program's first. -/
theorem first_any (L R : List Nd) (w : World) (v : Value) (h : Tre L) (hv : Nds w v (L ++ R)) :
    Calls Tryz.prog 62 #[v] w fun e w' => ∃ y, e = .returned (.tuple #[.int .i64 (So.first L), y]) ∧ Nds w y R ∧ Below w.heap.size w w' :=
  first_all (L.length + 1) L R w w v (by omega) h hv (Below.refl _ _)
end Go.Proofs.YtpingbiibbmcaaaGreat.Sx

namespace Go.Proofs.YtpingbiibbmcaaaGreat.So
open Go Go.RowKit Go.Proofs.YtpingbiibbmcaaaGreat.Rw
set_option maxRecDepth 20000

end Go.Proofs.YtpingbiibbmcaaaGreat.So

namespace Go.Proofs.YtpingbiibbmcaaaGreat.St
open Go Go.RowKit Go.Proofs.YtpingbiibbmcaaaGreat.Rw
set_option maxRecDepth 20000

set_option maxHeartbeats 2000000 in
theorem putP_none (v vx : Value) (l x : List Nd) (z : Int) (w : World) (hv : Nds w v l) (hx : Nds w vx x) (hl : l.length ≤ 1000) (h0 : szA l z = 0) :
    Calls Tryz.prog 75 #[v, .int .i64 z, vx] w fun e w' => ∃ y, e = .returned y ∧ w'.ownsRow w.heap.size 39 3 y l.length (cls l) ∧ Below w.heap.size w w' := by
  have HS := Lib.hid (sizeAt_any v l z w hv hl)
  rw [h0] at HS
  have HC := Lib.hid (fun w1 (hb : Below w.heap.size w w1) => Rx.clone_any v l w1 (hv.below hb) (by omega))
  obtain ⟨_, a, c, rfl, -⟩ := id hv
  obtain ⟨_, ax, cx, rfl, -⟩ := id hx
  clear hv hx h0
  go_enter Tryz.func75, Tryz.ntmps75
  go_wp2_with fail
  refine HS.out.mono ?_
  rintro e w1 ⟨rfl, hb1⟩
  have D1 := Lib.hid hb1
  clear hb1
  go_wp2_with fail
  refine (HC.out _ D1.out).mono ?_
  rintro e w2 ⟨y, rfl, hown, hb2⟩
  have D2 := Lib.hid (D1.out.trans (hb2.mono D1.out.size))
  have O2 := Lib.hid (Ap.own_base hown D1.out.size)
  obtain ⟨_, ay, cy, rfl, -⟩ := id (Ap.Rd.owned hown)
  clear hb2 hown
  go_wp2_with fail
  go_ret
  exact ⟨_, rfl, O2.out, D2.out⟩
set_option maxHeartbeats 4000000 in
theorem putP_some (b o c n m N q s r : Nat) (vx : Value) (L1 x L2 : List Nd) (w : World) (v : Value)
    (hvv : v = .slice (some ⟨b, o, none⟩) n c)
    (hT : ∀ w1, Below w.heap.size w w1 → Nds w1 (.slice (some ⟨b, o, none⟩) q c) L1) (hX : ∀ w1, Below w.heap.size w w1 → Nds w1 vx x) (hR : r < c → ∀ w1, Below w.heap.size w w1 → Nds w1 (.slice (some ⟨b, o + r * 3, none⟩) (n - r) (c - r)) L2)
    (h1 : L1.length = q) (h2 : x.length = m) (h3 : L2.length = n - r) (hqn : q < n) (hs : 0 < s) (hr : r = q + s) (hrn : r ≤ n) (hnc : n ≤ c) (hN : N = q + m + (n - r)) (hn : n ≤ 1000) (hm : m ≤ 1000)
    (hS : Calls Tryz.prog 93 #[v, .int .i64 (q : Int)] w fun e w' => e = .returned (.int .i64 (s : Int)) ∧ Below w.heap.size w w') :
    Calls Tryz.prog 75 #[v, .int .i64 (q : Int), vx] w fun e w' => ∃ y, e = .returned y ∧ w'.ownsRow w.heap.size 39 3 y (L1 ++ x ++ L2).length (cls (L1 ++ x ++ L2)) ∧ Below w.heap.size w w' := by
  obtain ⟨i0, hi0, hz0, hs0, hb0⟩ := info_parts infoN
  subst hvv
  have HS := Lib.hid hS
  have HT := Lib.hid hT
  have HX := Lib.hid hX
  have HR := Lib.hid hR
  have hmax : N ≤ maxLen := by unfold maxLen; omega
  obtain ⟨_, ax, cx, rfl, -⟩ := id (hX w (Below.refl _ _))
  have F1 := Lib.hid h1
  have F2 := Lib.hid h2
  have F3 := Lib.hid h3
  have HOF := Lib.hid (fun w' (g base : Nat) (cur : List Value) (hb : base ≤ g) (hc : cur.length = N * 3) hg => own_filled (w := w') (g := g) (base := base) (N := N) (cur := cur) L1 x L2 (by omega) hc hmax hb hg)
  rw [h1, h2] at HOF
  rw [h2]
  have eN : (n : Int) - (s : Int) + (m : Int) = (N : Int) := by omega
  have eR : (q : Int) + (s : Int) = (r : Int) := by omega
  have hqN : q ≤ N := by omega
  have hqmN : q + m ≤ N := by omega
  have gs : ((s : Int) == 0) = false := beq_eq_false_iff_ne.2 (by omega)
  have hN1 : N ≤ 10000 := by omega
  obtain ⟨p, hp⟩ : ∃ p, q + m = p := ⟨_, rfl⟩
  have hwp : IntKind.i64.wrap ((q : Int) + (m : Int)) = (p : Int) := by rw [IntKind.wrap_i64]; omega
  have hwr : IntKind.i64.wrap (r : Int) = (r : Int) := by rw [IntKind.wrap_i64]; omega
  rw [hp] at HOF hqmN
  have HP := Lib.hid hp
  have HN := Lib.hid hN
  have HR1 := Lib.hid hr
  clear hS hT hX hR h1 h2 h3 hN hr hp
  go_enter Tryz.func75, Tryz.ntmps75
  go_wp2_with fail
  refine HS.out.mono ?_
  rintro e w1 ⟨rfl, hb1⟩
  have D1 := Lib.hid hb1
  clear hb1
  go_wp2_with (at_make; refine wpList_make_full _ rfl _ _ 22 rfl w1.heap.size 39 i0 _ 3 Tryz.underlying22 hi0 hz0 hs0 .i64 .i64 _ _ N rfl rfl rfl rfl (by rw [hb0]; omega) hmax (Nat.le_refl _) ?_; intro w2 hown2 hgrow2)
  obtain ⟨cur, hcur, hblk⟩ := made_block hown2
  have hb2 := (Below.refl w1.heap.size w1).grown hgrow2 (Nat.le_refl _) (fun k hk => by cases hk)
  have D2 := Lib.hid (D1.out.trans (hb2.mono D1.out.size))
  obtain ⟨g, hg⟩ : ∃ g, w1.heap.size = g := ⟨_, rfl⟩
  have hwg : w.heap.size ≤ g := by rw [← hg]; exact D1.out.size
  rw [hg] at hblk ⊢
  have HB := Lib.hid hblk
  have HC := Lib.hid hcur
  clear hblk hown2 hgrow2 hb2 hcur hg
  obtain ⟨w3, r3, h3, d3⟩ := copy_nds g 0 L1 ⟨_, HT.out _ D2.out⟩ cur HB.out (by rw [F1.out, HC.out]; omega) w.heap.size w D2.out hwg 3
  have C3 : Hid ((splice cur 0 (cls L1)).length = N * 3) := Lib.hid (by rw [length_splice _ _ _ (by rw [cls_len, F1.out, HC.out]; omega)]; exact HC.out)
  have e3 := Lib.hid (r3 (some ⟨g, 0, none⟩) N N _ (HT.out _ D2.out) (by rw [F1.out]; exact hqN) (fun _ => rfl))
  obtain ⟨w4, r4, h4, d4⟩ := copy_nds g (q * 3) x ⟨_, HX.out _ d3⟩ _ h3 (by rw [F2.out, C3.out]; omega) w.heap.size w d3 hwg 3
  have C4 : Hid ((splice (splice cur 0 (cls L1)) (q * 3) (cls x)).length = N * 3) := Lib.hid (by rw [length_splice _ _ _ (by rw [cls_len, F2.out, C3.out]; omega)]; exact C3.out)
  have HX3 := Lib.hid (HX.out _ d3)
  have R4 := Lib.hid (fun dp M cap (h : x.length ≤ M) hd => r4 dp M cap _ HX3.out h hd)
  have D4 := Lib.hid d4.drew
  obtain ⟨w5, r5, h5, d5⟩ := copy_nds (w := w4.drew) g (p * 3) L2 (by
      by_cases hrc : r < c
      · exact ⟨_, HR.out hrc _ D4.out⟩
      · obtain rfl : L2 = [] := List.eq_nil_of_length_eq_zero (by rw [F3.out]; omega)
        exact ⟨_, nds_zero _ ⟨b, o, none⟩ 0⟩) _ h4 (by rw [F3.out, C4.out]; have := HN.out; have := HP.out; omega) w.heap.size w D4.out hwg 3
  have R5 := Lib.hid r5
  have D5 := Lib.hid d5
  have O5 := Lib.hid (HOF.out w5 g w.heap.size cur hwg HC.out h5)
  rw [F2.out] at R4
  rw [F3.out] at R5
  clear r3 r4 r5 h3 h4 h5 d3 d4 d5 HOF C3 C4 HX3
  have HRD := Lib.hid (fun hrc => HR.out hrc w4.drew D4.out)
  have E3 := e3.out
  go_wp2_with fail
  all_goals rw [E3]
  all_goals clear E3
  by_cases hq1 : N = q
  · obtain rfl := hq1
    obtain rfl : p = N := by have := HP.out; omega
    go_wp2_with fail
    rw [R4.out]
    · by_cases hrc : r < c
      · have HSV := Lib.hid (HRD.out hrc)
        have hrc2 : ¬ c = r := by omega
        go_wp2_with fail
        have E5 := Lib.hid (R5.out (some ⟨g, 0, none⟩) 0 0 (.slice (some ⟨b, o + r * 3, none⟩) (n - r) (c - r)) HSV.out (by have := HN.out; have := HP.out; omega) (by have := HN.out; have := HP.out; intro h0; first | omega | rfl))
        go_region_law (refine Cy.step_copy_run rfl (.tmp 39) (.tmp 44) _ _ rfl _ _ _ (by simp [Act.eval, Act.put]) (by simp [Act.eval, Act.put]) w5 E5.out ?_)
        go_wp2_with fail
        go_ret
        exact ⟨_, rfl, O5.out, D5.out⟩
      · obtain rfl : r = n := by omega
        obtain rfl : r = c := by omega
        obtain rfl : L2 = [] := List.eq_nil_of_length_eq_zero (by rw [F3.out]; omega)
        rw [Nat.sub_self] at R5
        go_wp2_with fail
        have E5 := Lib.hid (R5.out (some ⟨g, 0, none⟩) 0 0 (.slice (some ⟨b, o, none⟩) 0 0) (nds_zero _ _ _) (by have := HN.out; have := HP.out; omega) (by have := HN.out; have := HP.out; intro h0; first | omega | rfl))
        go_region_law (refine Cy.step_copy_run rfl (.tmp 39) (.tmp 44) _ _ rfl _ _ _ (by simp [Act.eval, Act.put]) (by simp [Act.eval, Act.put]) w5 E5.out ?_)
        go_wp2_with fail
        go_ret
        exact ⟨_, rfl, O5.out, D5.out⟩
    · have := HN.out; have := HP.out; omega
    · intro h0
      have := HN.out; have := HP.out
      first | omega | rfl
  · by_cases hq2 : N = p
    · obtain rfl := hq2
      go_wp2_with fail
      rw [R4.out]
      · by_cases hrc : r < c
        · have HSV := Lib.hid (HRD.out hrc)
          have hrc2 : ¬ c = r := by omega
          go_wp2_with fail
          have E5 := Lib.hid (R5.out (some ⟨g, 0, none⟩) 0 0 (.slice (some ⟨b, o + r * 3, none⟩) (n - r) (c - r)) HSV.out (by have := HN.out; have := HP.out; omega) (by have := HN.out; have := HP.out; intro h0; first | omega | rfl))
          go_region_law (refine Cy.step_copy_run rfl (.tmp 39) (.tmp 44) _ _ rfl _ _ _ (by simp [Act.eval, Act.put]) (by simp [Act.eval, Act.put]) w5 E5.out ?_)
          go_wp2_with fail
          go_ret
          exact ⟨_, rfl, O5.out, D5.out⟩
        · obtain rfl : r = n := by omega
          obtain rfl : r = c := by omega
          obtain rfl : L2 = [] := List.eq_nil_of_length_eq_zero (by rw [F3.out]; omega)
          rw [Nat.sub_self] at R5
          go_wp2_with fail
          have E5 := Lib.hid (R5.out (some ⟨g, 0, none⟩) 0 0 (.slice (some ⟨b, o, none⟩) 0 0) (nds_zero _ _ _) (by have := HN.out; have := HP.out; omega) (by have := HN.out; have := HP.out; intro h0; first | omega | rfl))
          go_region_law (refine Cy.step_copy_run rfl (.tmp 39) (.tmp 44) _ _ rfl _ _ _ (by simp [Act.eval, Act.put]) (by simp [Act.eval, Act.put]) w5 E5.out ?_)
          go_wp2_with fail
          go_ret
          exact ⟨_, rfl, O5.out, D5.out⟩
      · have := HN.out; have := HP.out; omega
      · intro h0
        have := HN.out; have := HP.out
        first | omega | rfl
    · go_wp2_with fail
      rw [R4.out]
      · by_cases hrc : r < c
        · have HSV := Lib.hid (HRD.out hrc)
          have hrc2 : ¬ c = r := by omega
          go_wp2_with fail
          have E5 := Lib.hid (R5.out (some ⟨g, p * 3, none⟩) (N - p) (N - p) (.slice (some ⟨b, o + r * 3, none⟩) (n - r) (c - r)) HSV.out (by have := HN.out; have := HP.out; omega) (by have := HN.out; have := HP.out; intro h0; first | omega | rfl))
          go_region_law (refine Cy.step_copy_run rfl (.tmp 39) (.tmp 44) _ _ rfl _ _ _ (by simp [Act.eval, Act.put]) (by simp [Act.eval, Act.put]) w5 E5.out ?_)
          go_wp2_with fail
          go_ret
          exact ⟨_, rfl, O5.out, D5.out⟩
        · obtain rfl : r = n := by omega
          obtain rfl : r = c := by omega
          obtain rfl : L2 = [] := List.eq_nil_of_length_eq_zero (by rw [F3.out]; omega)
          rw [Nat.sub_self] at R5
          go_wp2_with fail
          have E5 := Lib.hid (R5.out (some ⟨g, p * 3, none⟩) (N - p) (N - p) (.slice (some ⟨b, o, none⟩) 0 0) (nds_zero _ _ _) (by have := HN.out; have := HP.out; omega) (by have := HN.out; have := HP.out; intro h0; first | omega | rfl))
          go_region_law (refine Cy.step_copy_run rfl (.tmp 39) (.tmp 44) _ _ rfl _ _ _ (by simp [Act.eval, Act.put]) (by simp [Act.eval, Act.put]) w5 E5.out ?_)
          go_wp2_with fail
          go_ret
          exact ⟨_, rfl, O5.out, D5.out⟩
      · have := HN.out; have := HP.out; omega
      · intro h0
        have := HN.out; have := HP.out
        first | omega | rfl
end Go.Proofs.YtpingbiibbmcaaaGreat.St

namespace Go.Proofs.YtpingbiibbmcaaaGreat.Pl
open Go Go.Proofs.YtpingbiibbmcaaaGreat.Rw Go.Proofs.YtpingbiibbmcaaaGreat.So

theorem front {c n d : Nat} {r : List Nd} (h : S (c + 1) r = some (n, d)) : ∃ n1 d1 n2 d2, T r = some (n1, d1) ∧ S c (r.drop n1) = some (n2, d2) ∧ n = n1 + n2 := by
  rw [Rx.S_front] at h
  cases h1 : T r with
  | none => rw [h1] at h; cases h
  | some x =>
    obtain ⟨n1, d1⟩ := x
    rw [h1] at h
    simp only at h
    cases h2 : S c (r.drop n1) with
    | none => rw [h2] at h; cases h
    | some y =>
      obtain ⟨n2, d2⟩ := y
      rw [h2] at h
      simp only [Option.some.injEq, Prod.mk.injEq] at h
      exact ⟨n1, d1, n2, d2, rfl, h2, h.1.symm⟩
/-- Innermost first: what stands behind e is what is still to come of each. -/
def Ch (l : List Nd) : Nat → List Nat → List Nat → Prop
  | e, [], [] => e = l.length
  | e, a :: ab, c :: st => (∃ n d, S c (l.drop e) = some (n, d) ∧ e + n = a + zz l a) ∧ Ch l (a + zz l a) ab st
  | _, [], _ :: _ => False
  | _, _ :: _, [] => False
theorem Ch.le {l : List Nd} : ∀ {ab st : List Nat} {e : Nat}, Ch l e ab st → ∀ x ∈ ab, e ≤ x + zz l x
  | [], _, _, _, x, hx => by cases hx
  | _ :: _, [], _, h, _, _ => h.elim
  | a :: ab, c :: st, e, h, x, hx => by
    obtain ⟨⟨n, d, _, h2⟩, h3⟩ := h
    rcases List.mem_cons.1 hx with rfl | hx
    · omega
    · have := h3.le x hx
      omega
theorem Ch.zero {l : List Nd} {ab st : List Nat} {e a : Nat} (h : Ch l e (a :: ab) (0 :: st)) : a + zz l a = e ∧ Ch l e ab st := by
  obtain ⟨⟨n, d, h1, h2⟩, h3⟩ := h
  rw [S_zero] at h1
  cases h1
  exact ⟨by omega, by rw [show e = a + zz l a by omega]; exact h3⟩
theorem Ch.succ {l : List Nd} {ab st : List Nat} {e a c : Nat} (h : Ch l e (a :: ab) ((c + 1) :: st)) : e < l.length ∧ e < a + zz l a ∧ Ch l (e + zz l e) (a :: ab) (c :: st) := by
  obtain ⟨⟨n, d, h1, h2⟩, h3⟩ := h
  obtain ⟨n1, d1, n2, d2, g1, g2, rfl⟩ := front h1
  obtain ⟨z1, _⟩ := zz_some g1
  obtain ⟨b1, b2, _⟩ := T_bd g1
  rw [List.length_drop] at b2
  refine ⟨by omega, by omega, ⟨n2, d2, ?_, by omega⟩, h3⟩
  rw [z1, ← List.drop_drop]
  exact g2
theorem Ch.push {l : List Nd} (ht : Tre l) {k : Nat} (hk : k < l.length) {ab st : List Nat} (h : Ch l (k + zz l k) ab st) : Ch l (k + 1) (k :: ab) ((Rw.ar l[k].k).toNat :: st) := by
  obtain ⟨h1, h2, h3⟩ := in_tree ht hk
  rw [List.drop_eq_getElem_cons hk, T_cons] at h1
  split at h1
  · cases h1
  · cases hs : S (Rw.ar l[k].k).toNat (l.drop (k + 1)) with
    | none => rw [hs] at h1; cases h1
    | some x =>
      obtain ⟨c, d⟩ := x
      rw [hs] at h1
      simp only [Option.some.injEq, Prod.mk.injEq] at h1
      exact ⟨⟨c, d, hs, by omega⟩, h⟩
theorem ar_tree {l : List Nd} (ht : Tre l) {k : Nat} (hk : k < l.length) : 0 ≤ Rw.ar l[k].k := by
  obtain ⟨h1, h2, h3⟩ := in_tree ht hk
  rw [List.drop_eq_getElem_cons hk, T_cons] at h1
  split at h1
  · cases h1
  · omega

/-- Ahead of node k. -/
structure Op (l : List Nd) (k : Nat) (ab st : List Nat) : Prop where
  eq : ab = ov l k
  len : st.length = ab.length
  ch : Ch l (k + zz l k) ab.reverse st.reverse
/-- Behind node k, the last ones being taken off. -/
structure Pp (l : List Nd) (k g : Nat) (ab st : List Nat) : Prop where
  len : st.length = ab.length
  ch : Ch l (k + 1) (ab.take g).reverse (st.take g).reverse
  eq : ov l (k + 1) = (ab.take g).filter fun j => decide (k + 1 < j + zz l j)
theorem Op.start {l : List Nd} (ht : Tre l) : Op l 0 [] [] := ⟨rfl, rfl, by rw [zz_zero ht, Nat.zero_add]; rfl⟩
theorem Op.push {l : List Nd} (ht : Tre l) {k : Nat} (hk : k < l.length) {ab st : List Nat} (h : Op l k ab st) {r n : Nat} (hr : Rw.ar l[k].k = (r : Int)) (hn : n = ab.length) : Pp l k (n + 1) (ab ++ [k]) (st ++ [r]) := by
  subst hn
  have h1 : (ab ++ [k]).take (ab.length + 1) = ab ++ [k] := List.take_of_length_le (by simp)
  have h2 : (st ++ [r]).take (ab.length + 1) = st ++ [r] := List.take_of_length_le (by simp [h.len])
  refine ⟨by simp [h.len], ?_, ?_⟩
  · rw [h1, h2, List.reverse_append, List.reverse_append]
    have := h.ch.push ht hk
    rw [hr] at this
    exact this
  · rw [h1, List.filter_append, h.eq]
    unfold ov
    rw [List.range_succ, List.filter_append, List.filter_filter]
    congr 1
    refine List.filter_congr fun j _ => ?_
    rw [Bool.eq_iff_iff]
    simp
    omega
theorem rev_take {ab : List Nat} {i : Nat} (h : i < ab.length) : (ab.take (i + 1)).reverse = ab[i] :: (ab.take i).reverse := by
  rw [List.take_succ_eq_append_getElem h, List.reverse_append]
  rfl
theorem Pp.zero {l : List Nd} {k i : Nat} {ab st : List Nat} (h : Pp l k (i + 1) ab st) (hi : i < st.length) (h0 : st[i] = 0) : Pp l k i ab st := by
  have hc := h.ch
  rw [rev_take hi, rev_take (by rw [← h.len]; exact hi), h0] at hc
  obtain ⟨h1, h2⟩ := hc.zero
  refine ⟨h.len, h2, ?_⟩
  rw [h.eq, List.take_succ_eq_append_getElem (by rw [← h.len]; exact hi), List.filter_append]
  have : List.filter (fun j => decide (k + 1 < j + zz l j)) [ab[i]'(by rw [← h.len]; exact hi)] = [] := by
    simp
    omega
  rw [this, List.append_nil]
theorem Pp.none {l : List Nd} {k : Nat} {ab st : List Nat} (h : Pp l k 0 ab st) : k + 1 = l.length := by
  have := h.ch
  simp only [List.take_zero, List.reverse_nil] at this
  exact this
theorem Pp.some {l : List Nd} {k i c : Nat} {ab st : List Nat} (h : Pp l k (i + 1) ab st) (hi : i < st.length) (h0 : st[i] = c + 1) : k + 1 < l.length ∧ Op l (k + 1) (ab.take (i + 1)) (st.take i ++ [c]) := by
  have hl := h.len
  have hc := h.ch
  rw [rev_take hi, rev_take (by omega), h0] at hc
  obtain ⟨h1, h2, h3⟩ := hc.succ
  refine ⟨h1, ?_, ?_, ?_⟩
  · rw [h.eq, List.filter_eq_self.2]
    intro x hx
    rw [decide_eq_true_eq]
    rw [List.take_succ_eq_append_getElem (by omega), List.mem_append, List.mem_singleton] at hx
    rcases hx with hx | rfl
    · have := h3.2.le x (by rwa [List.mem_reverse])
      omega
    · exact h2
  · simp
    omega
  · rw [List.reverse_append, rev_take (by omega)]
    exact h3
end Go.Proofs.YtpingbiibbmcaaaGreat.Pl

namespace Go.Proofs.YtpingbiibbmcaaaGreat.Rw
open Go Go.RowKit
set_option maxRecDepth 20000

def deepest : List (List Nd) → Nat
  | [] => 0
  | r :: rs => max (depth r) (deepest rs)
theorem RwC.at {w : World} : ∀ {cs : List Value} {ls : List (List Nd)}, RwC w cs ls → ∀ i (h : i < ls.length), ∃ a, cs[i]? = some a ∧ Nds w a ls[i]
  | [], [], _, i, h => by simp at h
  | a :: _, _ :: _, hr, 0, _ => ⟨a, rfl, hr.1⟩
  | _ :: cs, _ :: ls, hr, i + 1, h => by
    obtain ⟨a, h1, h2⟩ := RwC.at hr.2 i (by simpa using h)
    exact ⟨a, by simpa using h1, by simpa using h2⟩
  | [], _ :: _, h, _, _ => h.elim
  | _ :: _, [], h, _, _ => h.elim
/-- The rows' cells. -/
def AtR (w : World) (b off : Nat) (ls : List (List Nd)) : Prop := ∀ i, (h : i < ls.length) → ∃ a, w.cell? ⟨b, off + i, none⟩ = some a ∧ Nds w a ls[i]
theorem Rws.form {w : World} {v : Value} {ls : List (List Nd)} (h : Rws w v ls) :
    (ls = [] ∧ ∃ a cap, v = .slice a 0 cap) ∨ ∃ b off cap, v = .slice (some ⟨b, off, none⟩) ls.length cap ∧ AtR w b off ls := by
  obtain ⟨cs, ⟨_, a, cap, rfl, hle, _, hcell⟩, hr⟩ := h
  by_cases h0 : 0 < ls.length
  · obtain ⟨b, off, rfl, hj⟩ := hcell h0
    refine Or.inr ⟨b, off, cap, rfl, fun i hi => ?_⟩
    obtain ⟨a, h1, h2⟩ := hr.at i hi
    exact ⟨a, hj _ _ h1, h2⟩
  · have : ls = [] := List.eq_nil_of_length_eq_zero (by omega)
    subst this
    exact Or.inl ⟨rfl, a, cap, rfl⟩

/-- A row of nodes, and rows of them. -/
structure Kr (w0 : World) (v : Value) (l : List Nd) (b o : Nat) (ls : List (List Nd)) (w : World) : Prop where
  kp : Kp w0 v l w
  at' : AtR w b o ls
end Go.Proofs.YtpingbiibbmcaaaGreat.Rw

namespace Go.Proofs.YtpingbiibbmcaaaGreat.Tr
open Go Go.RowKit
set_option maxRecDepth 20000

/-- A slice of texts, in a block that is as ok says. -/
def StrsO (ok : Nat → Prop) (w : World) (v : Value) (l : List ByteArray) : Prop := Ap.RdO ok w 1 v l.length (l.map .string)
/-- The cells of some rows. -/
def RwO (ok : Nat → Prop) (w : World) : List Value → List (List ByteArray) → Prop
  | [], [] => True
  | a :: cs, r :: rs => StrsO ok w a r ∧ RwO ok w cs rs
  | _, _ => False
/-- A slice of rows that reads as these. -/
def Rws (w : World) (v : Value) (rs : List (List ByteArray)) : Prop := ∃ cs, Ap.Rd w 1 v rs.length cs ∧ RwO (fun _ => True) w cs rs

end Go.Proofs.YtpingbiibbmcaaaGreat.Tr

namespace Go.Proofs.YtpingbiibbmcaaaGreat.So
open Go Go.Proofs.YtpingbiibbmcaaaGreat.Rw

theorem whole_rgt {l : List Nd} (h : whole l = true) : l.all rgt = true := by
  unfold whole at h
  simp only [Bool.and_eq_true] at h
  exact h.1.1
theorem of_not {l : List Nd} (h : whole l = false) : of l = 0 := by
  unfold of
  rw [h]
  rfl
/-- A node of two. -/
def nOf (k : Int) : Nd := ⟨k, ⟨#[]⟩, 0⟩
theorem kids_mk {k : Int} {a b : List Nd} (hk : ar k = 2) (ha : Tre a) (hb : Tre b) : Tre (nOf k :: (a ++ b)) ∧ kids (nOf k :: (a ++ b)) = [a, b] := by
  obtain ⟨d1, t1⟩ := ha
  obtain ⟨d2, t2⟩ := hb
  have a1 := T_append b t1
  have s1 : S 1 (a ++ b) = some (a.length, max 0 d1) := by
    rw [show (1 : Nat) = 0 + 1 from rfl, S_succ, S_zero]
    simp only [List.drop_zero, a1, Nat.zero_add]
  have dm : (a ++ b).drop a.length = b := by simp
  have s2 : S 2 (a ++ b) = some (a.length + b.length, max (max 0 d1) d2) := by
    rw [show (2 : Nat) = 1 + 1 from rfl, S_succ, s1]
    simp only [dm, t2]
  have hT : T (nOf k :: (a ++ b)) = some (a.length + b.length + 1, max (max 0 d1) d2 + 1) := by
    rw [T_cons, if_neg (show ¬ ar (nOf k).k < 0 by show ¬ ar k < 0; omega), show (ar (nOf k).k).toNat = 2 by show (ar k).toNat = 2; rw [hk]; rfl, s2]
  have ht : Tre (nOf k :: (a ++ b)) := ⟨_, by rw [hT, List.length_cons, List.length_append]⟩
  refine ⟨ht, ?_⟩
  obtain ⟨x, y, hxy, tx, ty, _, _⟩ := ht.two hk
  obtain ⟨_, _, he⟩ := ht.flat
  rw [hxy] at he
  injection he with _ he
  simp at he
  obtain ⟨dx, hx⟩ := tx
  have hx2 := T_append y hx
  rw [← he, a1] at hx2
  have hlen : a.length = x.length := by
    have := congrArg (fun o => o.map (·.1)) hx2
    simpa using this
  have h1 := congrArg (List.take a.length) he
  have h2 := congrArg (List.drop a.length) he
  rw [List.take_append_of_le_length (Nat.le_refl _), List.take_length, hlen, List.take_append_of_le_length (Nat.le_refl _), List.take_length] at h1
  rw [dm, hlen, List.drop_append_of_le_length (Nat.le_refl _), List.drop_length, List.nil_append] at h2
  rw [hxy, ← h1, ← h2]
end Go.Proofs.YtpingbiibbmcaaaGreat.So

namespace Go.Proofs.YtpingbiibbmcaaaGreat.Sx
open Go Go.RowKit Go.Proofs.YtpingbiibbmcaaaGreat.Rw Go.Proofs.YtpingbiibbmcaaaGreat.So
set_option maxRecDepth 20000

theorem whole_tre {l : List Nd} (h : whole l = true) : Tre l := by
  unfold whole at h
  simp only [Bool.and_eq_true, decide_eq_true_eq] at h
  exact Tre.of_size h.2 (fun e => by rw [e] at h; exact absurd h.1.2.1 (by decide))
set_option maxHeartbeats 400000 in
theorem ofP_any (l : List Nd) (v : Value) (w : World) (hv : Nds w v l) (hl : l.length ≤ 1000) (hm : Nms l) :
    Calls Tryz.prog 42 #[v] w fun e w' => e = .returned (.int .i64 (of l)) ∧ Below w.heap.size w w' := by
  have HV := Lib.hid hv
  have HM := Lib.hid hm
  obtain ⟨_, a, cap, rfl, -⟩ := hv
  clear hm
  cases hq : whole l with
  | false =>
    have HZ : Hid (of l = 0) := by
      show _ = _
      unfold of
      rw [hq]
      rfl
    have HQ := Lib.hid hq
    clear hq
    go_enter Tryz.func42, Tryz.ntmps42
    go_wp2_with fail
    refine (Rx.wholeP_any _ l _ HV.out hl HM.out).mono ?_
    rw [HQ.out]
    rintro e w' ⟨rfl, hb⟩
    have HB := Lib.hid hb
    clear hb
    go_wp2_with fail
    go_ret
    exact ⟨ret_int (by rw [HZ.out]; rfl), HB.out⟩
  | true =>
    have HZ : Hid (of l = So.first l) := by
      show _ = _
      unfold of
      rw [hq]
      rfl
    have HT := Lib.hid (whole_tre hq)
    have HQ := Lib.hid hq
    obtain ⟨F, hF⟩ : ∃ F, So.first l = F := ⟨_, rfl⟩
    rw [hF] at HZ
    have HF := Lib.hid hF
    clear hq hF
    go_enter Tryz.func42, Tryz.ntmps42
    go_wp2_with fail
    refine (Rx.wholeP_any _ l _ HV.out hl HM.out).mono ?_
    rw [HQ.out]
    rintro e w' ⟨rfl, hb⟩
    have HB := Lib.hid hb
    have HV1 : Hid (Nds w' (.slice a l.length cap) (l ++ [])) := by
      show Nds _ _ _
      rw [List.append_nil]
      exact HV.out.below hb
    clear hb
    go_wp2_with fail
    refine (first_any l [] _ _ HT.out HV1.out).mono ?_
    rw [HF.out]
    rintro e w2 ⟨y, rfl, _, hb⟩
    have HB2 := Lib.hid hb
    clear hb
    go_wp2_with fail
    go_ret
    exact ⟨ret_int (by rw [HZ.out]), HB.out.trans (HB2.out.mono HB.out.size)⟩
end Go.Proofs.YtpingbiibbmcaaaGreat.Sx

namespace Go.Proofs.YtpingbiibbmcaaaGreat.Ru
open Go Go.RowKit Go.Proofs.YtpingbiibbmcaaaGreat.Rw Go.Proofs.YtpingbiibbmcaaaGreat.So
set_option maxRecDepth 20000

set_option maxHeartbeats 1000000 in
theorem wholeR_far (b off cap : Nat) (l : List Nd) (w : World) (hat : At w b off l) (hm : Nms l) (h2 : 200 < l.length) (hl : l.length ≤ 9223372036854775807) :
    Calls Tryz.prog 26 #[.slice (some ⟨b, off, none⟩) l.length cap] w fun e w' => e = .returned (.bool false) ∧ Below w.heap.size w w' := by
  have HA := Lib.hid hat
  have HM := Lib.hid hm
  have g2 : ¬ ((l.length : Int) ≤ 200) := by omega
  clear hat hm
  go_enter Tryz.func26, Tryz.ntmps26
  go_wp2_with fail
  go_loopw [3] (fun i wr => ∃ k : Nat, k ≤ l.length ∧ i = .int .i64 k ∧ Below w.heap.size w wr) (fun i _ => l.length - (intOf i).toNat)
  case atStart => exact ⟨0, Nat.zero_le _, rfl, Below.refl _ _⟩
  case round =>
    obtain ⟨k, hk, rfl, hb⟩ := hrel
    have HB := Lib.hid hb
    clear hb
    by_cases hlt : k < l.length
    · obtain ⟨e1, e2, e3⟩ := HA.out k hlt
      have c1 : wr.cell? ⟨b, off + k * 3, none⟩ = some (.int .i64 l[k].k) := by rw [HB.out.cell (Ap.cell_lt e1)]; exact e1
      have c2 : wr.cell? ⟨b, off + k * 3 + 1, none⟩ = some (.string l[k].n) := by rw [HB.out.cell (Ap.cell_lt e2)]; exact e2
      have c3 : wr.cell? ⟨b, off + k * 3 + 2, none⟩ = some (.int .i64 l[k].s) := by rw [HB.out.cell (Ap.cell_lt e3)]; exact e3
      have hxm : (l[k]).n.size ≤ 140737488355328 := HM.out _ (List.getElem_mem hlt)
      obtain ⟨x, hx⟩ : ∃ x, l[k] = x := ⟨_, rfl⟩
      rw [hx] at c1 c2 c3 hxm
      clear hx e1 e2 e3
      cases hr : rgt x with
      | false =>
        have HR := Lib.hid hr
        clear hr
        go_wp2_with fail
        refine (rightR_any x _ hxm).mono ?_
        rw [HR.out]
        rintro e w' ⟨rfl, hb'⟩
        go_wp2_with fail
        go_ret
        exact ⟨rfl, HB.out.trans (hb'.mono HB.out.size)⟩
      | true =>
        have HR := Lib.hid hr
        clear hr
        go_wp2_with fail
        refine (rightR_any x _ hxm).mono ?_
        rw [HR.out]
        rintro e w' ⟨rfl, hb'⟩
        go_wp2_with fail
        go_roundw
        case rel => exact ⟨k + 1, by omega, by go_num, HB.out.trans (hb'.mono HB.out.size)⟩
        case measure => simp [intOf]; omega
    · have g1 : (1 : Int) ≤ l.length := by omega
      go_wp2_with fail
      go_ret
      exact ⟨rfl, HB.out⟩
set_option maxHeartbeats 1000000 in
theorem ofR_far (b off cap : Nat) (l : List Nd) (w : World) (hat : At w b off l) (hm : Nms l) (h2 : 200 < l.length) (hl : l.length ≤ 9223372036854775807) :
    Calls Tryz.prog 12 #[.slice (some ⟨b, off, none⟩) l.length cap] w fun e w' => e = .returned (.int .i64 0) ∧ Below w.heap.size w w' := by
  have HW := Lib.hid (wholeR_far b off cap l w hat hm h2 hl)
  clear hat hm
  go_enter Tryz.func12, Tryz.ntmps12
  go_wp2_with fail
  refine HW.out.mono ?_
  rintro e w1 ⟨rfl, hb⟩
  have B1 := Lib.hid hb
  clear hb
  go_wp2_with fail
  go_ret
  exact ⟨rfl, B1.out⟩
end Go.Proofs.YtpingbiibbmcaaaGreat.Ru

namespace Go.Proofs.YtpingbiibbmcaaaGreat.Tr
open Go Go.RowKit
set_option maxRecDepth 20000

/-- All rows that have the actions of both, each in order. -/
def mx : Nat → List ByteArray → List ByteArray → List (List ByteArray)
  | _, [], b => [b]
  | _, a, [] => [a]
  | 0, _, _ => []
  | n + 1, x :: a, y :: b => (mx n a (y :: b)).map (x :: ·) ++ (mx n (x :: a) b).map (y :: ·)
end Go.Proofs.YtpingbiibbmcaaaGreat.Tr
