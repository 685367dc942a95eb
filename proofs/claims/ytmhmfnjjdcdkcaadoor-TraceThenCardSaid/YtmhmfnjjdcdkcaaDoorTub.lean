/- The program's Has and Text: the walks. -/
import Derived.Test.YtmhmfnjjdcdkcaaDoorTt9
import Derived.Lib.Join
namespace Go.Proofs.YtmhmfnjjdcdkcaaDoor.Tr
open Go Go.RowKit
set_option maxRecDepth 20000

theorem tc_append {w : World} {ds : List Value} {ss : List Tr} (hd : TrCells w ds ss) : ∀ {cs : List Value} {ts : List Tr}, TrCells w cs ts → TrCells w (cs ++ ds) (ts ++ ss)
  | [], [], _ => hd
  | _ :: _ :: _, _ :: _, h => ⟨h.1, h.2.1, tc_append hd h.2.2⟩
  | [], _ :: _, h => h.elim
  | [_], [], h => h.elim
  | [_], _ :: _, h => h.elim
  | _ :: _ :: _, [], h => h.elim
theorem cell_new0 (w : World) (a b : Value) (t : TypeId) : (w.alloc (.cells #[a, b] t)).cell? ⟨w.heap.size, 0, none⟩ = some a := by simp
theorem cell_new1 (w : World) (a b : Value) (t : TypeId) : (w.alloc (.cells #[a, b] t)).cell? ⟨w.heap.size, 1, none⟩ = some b := by simp

set_option maxHeartbeats 2000000 in
theorem orT_any (x y : Value) (l m : List Tr) (w : World) (hx : Trs w x l) (hy : Trs w y m) (hlen : l.length + m.length ≤ 1000000) (hl : ∀ t ∈ l ++ m, t.a.length ≤ 1000000) :
    Calls Tryd.prog 18 #[x, y] w (SetPost (norm (l ++ m)) w) := by
  obtain ⟨cs, hr1, hc1⟩ := hx
  obtain ⟨ds, hr2, hc2⟩ := hy
  have hb0 : ∀ o, Below w.heap.size w (w.alloc o) := fun o => (Below.refl _ _).alloc (Nat.le_refl _) o
  have HC := Lib.hid (fun o (e0 : (w.alloc o).cell? ⟨w.heap.size, 0, none⟩ = some x) (e1 : (w.alloc o).cell? ⟨w.heap.size, 1, none⟩ = some y) => concatT_any w.heap.size x y l.length m.length cs ds (w.alloc o) e0 e1 (hr1.below (hb0 o)) (hr2.below (hb0 o)) (trs_one hc1) (trs_one hc2) hlen)
  have HB0 := Lib.hid hb0
  have HT := Lib.hid (tc_append hc2 hc1)
  have HL := Lib.hid hl
  obtain ⟨_, a1, c1, rfl, _⟩ := hr1
  obtain ⟨_, a2, c2, rfl, _⟩ := hr2
  unfold SetPost
  obtain ⟨nl, hnn⟩ : ∃ nl, norm (l ++ m) = nl := ⟨_, rfl⟩
  have HN := Lib.hid hnn
  rw [hnn]
  clear hc1 hc2 hl hb0 hnn
  go_enter Tryd.func18, Tryd.ntmps18
  go_wp2_with fail
  refine (HC.out _ (cell_new0 _ _ _ _) (cell_new1 _ _ _ _)).mono ?_
  rintro e w1 ⟨v1, rfl, hown, hb1⟩
  have B1 := Lib.hid ((HB0.out _).trans (hb1.mono (HB0.out _).size))
  have T1 : Trs w1 v1 (l ++ m) := ⟨cs ++ ds, by rw [List.length_append]; exact Ap.Rd.owned hown, TrCells.below B1.out HT.out⟩
  have S1 := setT_any v1 (l ++ m) w1 T1 (by rw [List.length_append]; exact hlen) HL.out
  rw [HN.out] at S1
  have HS := Lib.hid S1
  obtain ⟨_, a3, c3, rfl, _⟩ := Ap.Rd.owned hown
  clear hown hb1 T1 S1
  go_wp2_with fail
  refine HS.out.mono ?_
  rintro e w2 ⟨v2, rfl, ht2, hb2⟩
  have HT2 := Lib.hid ht2
  have B2 := Lib.hid (B1.out.trans (hb2.mono B1.out.size))
  obtain ⟨_, ⟨_, a4, c4, rfl, _⟩, _⟩ := ht2
  clear hb2
  go_wp2_with fail
  go_ret
  exact ⟨_, rfl, HT2.out, B2.out⟩

theorem mine_of {w : World} {base : Nat} {v : Value} {l : List ByteArray} (h : w.ownsRow base 9 1 v l.length (l.map .string)) : Mine base w v l := by
  refine ⟨Ap.RdO.fresh h, fun b off cap hv j hj => ?_⟩
  obtain ⟨_, ⟨rfl, h0⟩ | ⟨g, cap', cur, rfl, _, hg, _⟩⟩ := h
  · cases hv
  · cases hv
    simp [World.frozen?, hg]
theorem mine_gb {w w' : World} {base g : Nat} {v : Value} {l : List ByteArray} (h : Mine base w v l) (hg : w.grownBy w' (some g)) (hgb : g < base) : Mine base w' v l := by
  obtain ⟨⟨hl, a, cap, hv, hc, hn, hcell⟩, hf⟩ := h
  refine ⟨⟨hl, a, cap, hv, hc, hn, fun h0 => ?_⟩, fun b off cap' hv' j hj => ?_⟩
  · obtain ⟨b, off, ha, hne, hlt, hj⟩ := hcell h0
    refine ⟨b, off, ha, hne, Nat.lt_of_lt_of_le hlt hg.size, fun i u hu => ?_⟩
    rw [World.cell?_of_block (w := w) (a := ⟨b, off + i, none⟩) (hg.block b hlt fun e => by cases e; omega)]
    exact hj i u hu
  · have h1 := hf b off cap' hv' j hj
    rw [hv] at hv'
    injection hv' with hv1 hv2 hv3
    obtain ⟨b', off', ha, hne, hlt, _⟩ := hcell (by omega)
    rw [hv1] at ha
    cases ha
    rw [World.frozen?_of_block (w := w) (a := ⟨b, off + j, none⟩) (hg.block b hlt fun e => by cases e; omega)]
    exact h1
theorem mine_base {w : World} {base base' : Nat} {v : Value} {l : List ByteArray} (h : Mine base w v l) (hb : base' ≤ base) : Mine base' w v l := ⟨Ap.RdO.imp h.1 fun _ _ hb' => Nat.le_trans hb hb', h.2⟩
theorem thn_if {p q : Tr} (h : p.e = 1) : thn p q = ⟨p.a ++ q.a, q.e⟩ := by rw [thn, if_pos h]
theorem thn_not {p q : Tr} (h : ¬ p.e = 1) : thn p q = p := by rw [thn, if_neg h]
theorem belowx3 (w : World) (x y z : Obj) : Below w.heap.size w (((w.alloc x).alloc y).alloc z) := (((Below.refl _ _).alloc (Nat.le_refl _) x).alloc (by simp) y).alloc (by simp; omega) z
theorem belowx4 (w : World) (x y z u : Obj) : Below w.heap.size w ((((w.alloc x).alloc y).alloc z).alloc u) := (belowx3 w x y z).alloc (by simp; omega) u
/-- What lies in the boxes of Then. -/
def Bx3 (w w4 : World) (a b c d : Value) : Prop :=
  w4.cell? ⟨w.heap.size, 0, none⟩ = some a ∧ w4.cell? ⟨w.heap.size, 1, none⟩ = some b ∧ w4.cell? ⟨w.heap.size + 1, 0, none⟩ = some c ∧ w4.cell? ⟨w.heap.size + 1, 1, none⟩ = some d ∧ w4.cell? ⟨w.heap.size + 1 + 1, 0, none⟩ = some (.slice none 0 0) ∧ w4.cell? ⟨w.heap.size + 1 + 1, 1, none⟩ = some (.int .i64 0) ∧ w4.frozen? ⟨w.heap.size + 1 + 1, 0, none⟩ = false ∧ w4.frozen? ⟨w.heap.size + 1 + 1, 1, none⟩ = false
theorem bx3_start (w : World) (a b c d : Value) (t : TypeId) : Bx3 w ((((w.alloc (.cells #[a, b] t)).alloc (.cells #[c, d] t)).alloc (.cells #[.slice none 0 0, .int .i64 0] t))) a b c d := by
  refine ⟨?_, ?_, ?_, ?_, ?_, ?_, ?_, ?_⟩ <;> simp [go_sem]
theorem Bx3.below {w w3 w4 : World} {a b c d : Value} {B : Nat} (h : Bx3 w w3 a b c d) (hb : Below B w3 w4) (hB : w.heap.size + 3 ≤ B) : Bx3 w w4 a b c d := by
  obtain ⟨h1, h2, h3, h4, h5, h6, h7, h8⟩ := h
  refine ⟨?_, ?_, ?_, ?_, ?_, ?_, ?_, ?_⟩
  · rw [hb.cell (p := ⟨w.heap.size, 0, none⟩) (by show w.heap.size < B; omega)]; exact h1
  · rw [hb.cell (p := ⟨w.heap.size, 1, none⟩) (by show w.heap.size < B; omega)]; exact h2
  · rw [hb.cell (p := ⟨w.heap.size + 1, 0, none⟩) (by show w.heap.size + 1 < B; omega)]; exact h3
  · rw [hb.cell (p := ⟨w.heap.size + 1, 1, none⟩) (by show w.heap.size + 1 < B; omega)]; exact h4
  · rw [hb.cell (p := ⟨w.heap.size + 1 + 1, 0, none⟩) (by show w.heap.size + 1 + 1 < B; omega)]; exact h5
  · rw [hb.cell (p := ⟨w.heap.size + 1 + 1, 1, none⟩) (by show w.heap.size + 1 + 1 < B; omega)]; exact h6
  · rw [hb.frozen (p := ⟨w.heap.size + 1 + 1, 0, none⟩) (by show w.heap.size + 1 + 1 < B; omega)]; exact h7
  · rw [hb.frozen (p := ⟨w.heap.size + 1 + 1, 1, none⟩) (by show w.heap.size + 1 + 1 < B; omega)]; exact h8

theorem keep_set2 {w4 : World} {g b o o1 o2 : Nat} {x y u : Value} (h : w4.cell? ⟨b, o, none⟩ = some u) (hne : g ≠ b) : ((w4.setCell ⟨g, o1, none⟩ x).setCell ⟨g, o2, none⟩ y).cell? ⟨b, o, none⟩ = some u := by
  rw [World.cell?_of_block (w := w4) (a := ⟨b, o, none⟩) (by rw [heap_setCell, if_neg hne, heap_setCell, if_neg hne])]
  exact h

set_option maxHeartbeats 2000000 in
theorem then_not (a1 a2 : Option Addr) (c1 c2 : Nat) (p q : Tr) (w : World) (h1 : Strs w (.slice a1 p.a.length c1) p.a) (hp : ¬ p.e = 1) (hlen : p.a.length ≤ 1000000) :
    Calls Tryd.prog 25 #[.agg #[.slice a1 p.a.length c1, .int .i64 p.e], .agg #[.slice a2 q.a.length c2, .int .i64 q.e]] w (ThnPost p w) := by
  have H1 := Lib.hid h1
  have B3 := Lib.hid (belowx3 w)
  have CL := Lib.hid (fun x y z => cloneS_any (.slice a1 p.a.length c1) p.a.length (p.a.map .string) (((w.alloc x).alloc y).alloc z).drew (H1.out.below ((B3.out x y z).drew)) (strs_one _) hlen)
  have K0 := bx3_start w (.slice a1 p.a.length c1) (.int .i64 p.e) (.slice a2 q.a.length c2) (.int .i64 q.e) 30
  have K0' := Lib.hid K0
  obtain ⟨k1, k2, -⟩ := K0
  unfold ThnPost
  clear h1
  go_enter Tryd.func25, Tryd.ntmps25
  go_wp2_with fail
  go_region_held3 (fun w' => w'.cell? ⟨w.heap.size, 0, none⟩ = some (.slice a1 p.a.length c1) ∧ w'.cell? ⟨w.heap.size, 1, none⟩ = some (.int .i64 p.e)) (first | (simp [go_sem]; done) | exact ⟨j1, j2⟩ | exact ⟨keep_set2 j1 (by omega), keep_set2 j2 (by omega)⟩ | fail) (first
    | (go_at_call 41
       refine (CL.out _ _ _).mono ?_
       rintro e w4 ⟨v4, rfl, hown4, hb4⟩
       have K4 := K0'.out.below ((Below.refl _ _).drew.trans hb4) (by simp)
       obtain ⟨j1, j2, _, _, j5, j6, j7, j8⟩ := K4
       have O4 := Lib.hid hown4
       have B4 := Lib.hid hb4
       obtain ⟨_, a4, c4, rfl, _⟩ := Ap.Rd.owned hown4
       clear hown4 hb4)
    | fail)
  go_wp2_with fail
  refine bodyPost_ret (v := .agg #[.slice a4 p.a.length c4, .int .i64 p.e]) (by simp [results, Tryd.results25, go_sem, j5, j6]) rfl ⟨_, rfl, ?_, ?_⟩
  · refine mine_base (base := w.heap.size + 3) ?_ (by omega)
    exact mine_gb (mine_base (mine_of O4.out) (by simp)) (gb_trans (gb_setCell _ _ _ _) (gb_setCell _ _ _ _)) (by omega)
  · exact (((B3.out _ _ _).drew.trans (B4.out.mono (by simp; omega))).setCell (by show w.heap.size ≤ w.heap.size + 1 + 1; omega) _).setCell (by show w.heap.size ≤ w.heap.size + 1 + 1; omega) _

set_option maxHeartbeats 2000000 in
theorem then_yes (a1 a2 : Option Addr) (c1 c2 : Nat) (p q : Tr) (w : World) (h1 : Strs w (.slice a1 p.a.length c1) p.a) (h2 : Strs w (.slice a2 q.a.length c2) q.a) (hlen : p.a.length + q.a.length ≤ 1000000) :
    Calls Tryd.prog 25 #[.agg #[.slice a1 p.a.length c1, .int .i64 1], .agg #[.slice a2 q.a.length c2, .int .i64 q.e]] w (ThnPost ⟨p.a ++ q.a, q.e⟩ w) := by
  have H1 := Lib.hid h1
  have H2 := Lib.hid h2
  have B3 := Lib.hid (belowx3 w)
  have B4 := Lib.hid (belowx4 w)
  have CL := Lib.hid (fun x y z u e0 e1 => concatS_any (w.heap.size + 1 + 1 + 1) (.slice a1 p.a.length c1) (.slice a2 q.a.length c2) p.a.length q.a.length (p.a.map .string) (q.a.map .string) ((((w.alloc x).alloc y).alloc z).alloc u).drew e0 e1 (H1.out.below ((B4.out x y z u).drew)) (H2.out.below ((B4.out x y z u).drew)) (strs_one _) (strs_one _) hlen)
  have K0 := bx3_start w (.slice a1 p.a.length c1) (.int .i64 1) (.slice a2 q.a.length c2) (.int .i64 q.e) 30
  have K0' := Lib.hid K0
  unfold ThnPost
  clear h1 h2 K0
  go_enter Tryd.func25, Tryd.ntmps25
  go_wp2_with fail
  go_region_held3 (fun w' => w'.cell? ⟨w.heap.size, 0, none⟩ = some (.slice a1 p.a.length c1) ∧ w'.cell? ⟨w.heap.size + 1, 0, none⟩ = some (.slice a2 q.a.length c2) ∧ w'.cell? ⟨w.heap.size + 1, 1, none⟩ = some (.int .i64 q.e)) (first | (simp [go_sem]; done) | exact ⟨j1, j3, j4⟩ | exact ⟨keep_set2 j1 (by omega), keep_set2 j3 (by omega), keep_set2 j4 (by omega)⟩ | fail) (first
    | (go_at_call 46
       refine (CL.out _ _ _ _ (by simp [go_sem]) (by simp [go_sem])).mono ?_
       rintro e w4 ⟨v4, rfl, hown4, hb4⟩
       have K4 := K0'.out.below ((((Below.refl _ _).alloc (Nat.le_refl _) _).drew).trans (hb4.mono (by simp))) (by simp)
       obtain ⟨j1, _, j3, j4, j5, j6, j7, j8⟩ := K4
       have O4 := Lib.hid hown4
       have HB4 := Lib.hid hb4
       obtain ⟨_, a4, c4, rfl, _⟩ := Ap.Rd.owned hown4
       clear hown4 hb4)
    | fail)
  go_wp2_with fail
  refine bodyPost_ret (v := .agg #[.slice a4 (p.a.length + q.a.length) c4, .int .i64 q.e]) (by simp [results, Tryd.results25, go_sem, j5, j6]) rfl ⟨_, rfl, ?_, ?_⟩
  · refine mine_base (base := w.heap.size + 3) ?_ (by omega)
    have O5 := O4.out
    rw [← List.length_append, ← List.map_append] at O5
    have := mine_gb (mine_base (base' := w.heap.size + 3) (mine_of O5) (by simp)) (gb_trans (gb_setCell _ (w.heap.size + 1 + 1) 0 (.slice a4 (p.a ++ q.a).length c4)) (gb_setCell _ (w.heap.size + 1 + 1) 1 (.int .i64 q.e))) (by omega)
    rw [List.length_append] at this
    exact this
  · exact (((B4.out _ _ _ _).drew.trans (HB4.out.mono (by simp; omega))).setCell (by show w.heap.size ≤ w.heap.size + 1 + 1; omega) _).setCell (by show w.heap.size ≤ w.heap.size + 1 + 1; omega) _
theorem thenT_any (v1 v2 : Value) (p q : Tr) (w : World) (h1 : Strs w v1 p.a) (h2 : Strs w v2 q.a) (hlen : p.a.length + q.a.length ≤ 1000000) :
    Calls Tryd.prog 25 #[.agg #[v1, .int .i64 p.e], .agg #[v2, .int .i64 q.e]] w (ThnPost (thn p q) w) := by
  have h1' := h1
  have h2' := h2
  obtain ⟨_, a1, c1, rfl, -⟩ := h1'
  obtain ⟨_, a2, c2, rfl, -⟩ := h2'
  by_cases hp : p.e = 1
  · rw [thn_if hp, hp]
    exact then_yes a1 a2 c1 c2 p q w h1 h2 hlen
  · rw [thn_not hp]
    exact then_not a1 a2 c1 c2 p q w h1 hp (by omega)
end Go.Proofs.YtmhmfnjjdcdkcaaDoor.Tr

namespace Go.Proofs.YtmhmfnjjdcdkcaaDoor.Tr
open Go Go.RowKit
set_option maxRecDepth 20000

set_option maxHeartbeats 1000000 in
theorem has1_any (v1 v2 : Value) (p q : Tr) (b0 : Nat) (w : World) (h1 : Strs w v1 p.a) (h2 : Strs w v2 q.a) (e0 : w.cell? ⟨b0, 0, none⟩ = some v2) (e1 : w.cell? ⟨b0, 1, none⟩ = some (.int .i64 q.e)) (hl : p.a.length ≤ 1000000) (hm : q.a.length ≤ 1000000) :
    Calls Tryd.prog 45 #[.agg #[v1, .int .i64 p.e], .pointer (some ⟨b0, 0, none⟩)] w fun e w' => e = .returned (.bool (cmp p q == 0)) ∧ Below w.heap.size w w' := by
  have H1 := Lib.hid (fun x => h1.below ((Below.refl _ _).alloc (Nat.le_refl _) x))
  have H2 := Lib.hid (fun x => h2.below ((Below.refl _ _).alloc (Nat.le_refl _) x))
  have hb0 : b0 < w.heap.size := Ap.cell_lt e0
  obtain ⟨_, a1, c1, rfl, -⟩ := h1
  obtain ⟨_, a2, c2, rfl, -⟩ := h2
  have HB : Hid (∀ x n os, Below w.heap.size w (Go.Sort.grow ((w.alloc x).drewN n) os)) := Lib.hid fun x n os => ((Below.refl _ _).alloc (Nat.le_refl _) _).trans ((below_grow _ n os).mono (by simp))
  have A := Lib.hid (fun w ha hb => against_any (.slice a1 p.a.length c1) (.slice a2 q.a.length c2) p q w ha hb hl hm)
  cases hc : cmp p q == 0 with
  | true =>
    have hc' : cmp p q = 0 := by simpa using hc
    rw [hc'] at A
    clear hc hc'
    go_enter Tryd.func45, Tryd.ntmps45
    go_wp2_with (go_at_call 35; refine (A.out _ (H1.out _) (H2.out _)).mono ?_; rintro e w' ⟨rfl, n, os, rfl⟩)
    go_ret
    exact ⟨rfl, HB.out _ n os⟩
  | false =>
    have hc' : cmp p q ≠ 0 := by simpa using hc
    generalize cmp p q = c at A hc' ⊢
    clear hc
    go_enter Tryd.func45, Tryd.ntmps45
    go_wp2_with (go_at_call 35; refine (A.out _ (H1.out _) (H2.out _)).mono ?_; rintro e w' ⟨rfl, n, os, rfl⟩)
    go_ret
    exact ⟨by simp [hc'], HB.out _ n os⟩

/-- A trace of a world. -/
structure Es (w : World) where
  v : Value
  t : Tr
  hs : Strs w v t.a
  hl : t.a.length ≤ 1000000
instance (w : World) : Inhabited (Es w) := ⟨⟨.slice none 0 0, ⟨[], 0⟩, ⟨rfl, none, 0, rfl, Nat.le_refl _, fun _ => ⟨rfl, rfl⟩, fun h => absurd h (Nat.lt_irrefl _)⟩, by simp⟩⟩
def encE {w : World} (x : Es w) : List Value := [x.v, .int .i64 x.t.e]

set_option maxHeartbeats 400000 in
theorem idx_empty (a : Option Addr) (c : Nat) (fv : Value) (w : World) : Calls Tryd.prog 63 #[.slice a 0 c, fv] w fun e w' => e = .returned (.int .i64 (-1)) ∧ w' = w := by
  go_enter Tryd.func63, Tryd.ntmps63
  go_wp2_with fail
  refine Go.wp_loop_rounds 1 ?_
  rw [rounds_succ]
  go_wp2_with fail
  go_ret
  exact ⟨rfl, rfl⟩
set_option maxHeartbeats 400000 in
theorem contains_empty (a : Option Addr) (c : Nat) (fv : Value) (w : World) : Calls Tryd.prog 44 #[.slice a 0 c, fv] w fun e w' => e = .returned (.bool false) ∧ w' = w := by
  go_enter Tryd.func44, Tryd.ntmps44
  go_wp2_with (go_at_call 63; refine (idx_empty _ _ _ _).mono ?_; rintro e w' ⟨rfl, rfl⟩)
  go_ret
  exact ⟨rfl, rfl⟩

theorem es_of {w : World} : ∀ {cs : List Value} {l : List Tr}, TrCells w cs l → (∀ t ∈ l, t.a.length ≤ 1000000) → ∃ els : List (Es w), els.map (·.t) = l ∧ ∀ j (h : j < els.length), cs[j * 2]? = some els[j].v ∧ cs[j * 2 + 1]? = some (.int .i64 els[j].t.e)
  | [], [], _, _ => ⟨[], rfl, fun j h => by simp at h⟩
  | a :: e :: cs, t :: l, h, hl => by
    obtain ⟨els, h1, h2⟩ := es_of h.2.2 fun u hu => hl u (by simp [hu])
    refine ⟨⟨a, t, h.1, hl t (by simp)⟩ :: els, by simp [h1], fun j hj => ?_⟩
    cases j with
    | zero => exact ⟨rfl, by simp [h.2.1]⟩
    | succ j =>
      have := h2 j (by simpa using hj)
      rw [show (j + 1) * 2 = j * 2 + 1 + 1 by omega]
      simpa using this
  | [], _ :: _, h, _ => h.elim
  | [_], [], h, _ => h.elim
  | [_], _ :: _, h, _ => h.elim
  | _ :: _ :: _, [], h, _ => h.elim

/-- ContainsFunc with the program's test, at a row of traces. -/
theorem contains_any (x v : Value) (l : List Tr) (t : Tr) (b0 : Nat) (w : World) (hx : Trs w x l) (hv : Strs w v t.a) (e0 : w.cell? ⟨b0, 0, none⟩ = some v) (e1 : w.cell? ⟨b0, 1, none⟩ = some (.int .i64 t.e)) (hlen : l.length ≤ 1000000) (hl : ∀ t ∈ l, t.a.length ≤ 1000000) (ht : t.a.length ≤ 1000000) :
    Calls Tryd.prog 44 #[x, .func (.func 45) #[] #[.pointer (some ⟨b0, 0, none⟩)]] w fun e w' => e = .returned (.bool (l.any fun u => cmp u t == 0)) ∧ Below w.heap.size w w' := by
  obtain ⟨cs, ⟨hcl, a, c, rfl, hcap, hn, hcell⟩, htc⟩ := hx
  by_cases h0 : 0 < l.length
  · obtain ⟨b, off, rfl, hj⟩ := hcell h0
    obtain ⟨els, h1, h2⟩ := es_of htc hl
    have hel : els.length = l.length := by rw [← h1, List.length_map]
    have hb0 : b0 < w.heap.size := Ap.cell_lt e0
    have hbl : b < w.heap.size := Ap.cell_lt (hj 0 _ (h2 0 (by omega)).1)
    have eg : ∀ args w, (callFunc 45 args).run Tryd.prog w = .ok (.enter 45 args) w := enters_of Tryd.func45 (by kernel_rfl) rfl
    have hcon := AnyQ.slices_ContainsFunc Tryd.laysCoT 2 Tryd.isAgg30 Tryd.sizeOf30 (encE (w := w)) (fun _ => rfl) (fun x => cmp x.t t == 0) 45 #[.pointer (some ⟨b0, 0, none⟩)] eg b off l.length c els w
      (fun W x hW => (has1_any x.v v x.t t b0 W (x.hs.below hW) (hv.below hW) (by rw [hW.cell (p := ⟨b0, 0, none⟩) hb0]; exact e0) (by rw [hW.cell (p := ⟨b0, 1, none⟩) hb0]; exact e1) x.hl ht).mono fun e w' ⟨he, hb⟩ => ⟨he, hW.trans (hb.mono hW.size)⟩)
      (by omega) (by omega) hbl
      (fun j hj' i u hu => by
        have e : els[j]! = els[j] := getElem!_pos els j hj'
        rw [e] at hu
        have h3 := h2 j hj'
        match i, hu with
        | 0, hu =>
          simp [encE] at hu
          rw [← hu]
          exact hj _ _ h3.1
        | 1, hu =>
          simp [encE] at hu
          rw [← hu]
          exact hj _ _ h3.2
        | i + 2, hu => simp [encE] at hu)
    change Calls Tryd.prog 44 _ _ _ at hcon
    refine hcon.mono fun e w' ⟨he, hb⟩ => ⟨?_, hb⟩
    rw [he, ← hel, List.take_length, ← h1, List.any_map]
    rfl
  · obtain rfl : l = [] := List.eq_nil_of_length_eq_zero (by omega)
    exact (contains_empty a c _ w).mono fun e w' ⟨he, hw⟩ => ⟨he, hw ▸ Below.refl _ _⟩

set_option maxHeartbeats 1000000 in
theorem hasT_any (x v : Value) (l : List Tr) (t : Tr) (w : World) (hx : Trs w x l) (hv : Strs w v t.a) (hlen : l.length ≤ 1000000) (hl : ∀ t ∈ l, t.a.length ≤ 1000000) (ht : t.a.length ≤ 1000000) :
    Calls Tryd.prog 23 #[x, .agg #[v, .int .i64 t.e]] w fun e w' => e = .returned (.bool (l.any fun u => cmp u t == 0)) ∧ Below w.heap.size w w' := by
  have hb0 : ∀ o, Below w.heap.size w (w.alloc o) := fun o => (Below.refl _ _).alloc (Nat.le_refl _) o
  have HC := Lib.hid (fun ty => contains_any x v l t w.heap.size (w.alloc (.cells #[v, .int .i64 t.e] ty)) (hx.below (hb0 _)) (hv.below (hb0 _)) (cell_new0 _ _ _ _) (cell_new1 _ _ _ _) hlen hl ht)
  have HB := Lib.hid hb0
  obtain ⟨_, ⟨_, a, c, rfl, _⟩, _⟩ := hx
  obtain ⟨_, a', c', rfl, _⟩ := hv
  generalize (l.any fun u => cmp u t == 0) = r at HC ⊢
  clear hb0 hl
  go_enter Tryd.func23, Tryd.ntmps23
  go_wp2_with (go_at_call 44; refine (HC.out _).mono ?_; rintro e w' ⟨rfl, hb'⟩)
  go_ret
  exact ⟨rfl, (HB.out _).trans (hb'.mono (HB.out _).size)⟩

theorem join_txs (l : List ByteArray) (x : ByteArray) : Lib.join ((l ++ [x]).map (·.data.toList)) [32] = txs l ++ x.data.toList := by
  induction l with
  | nil => simp [Lib.join_one, txs]
  | cons y l ih =>
    obtain ⟨z, r, hz⟩ : ∃ z r, (l ++ [x]).map (·.data.toList) = z :: r := by
      cases l with
      | nil => exact ⟨_, _, rfl⟩
      | cons a l => exact ⟨_, _, rfl⟩
    rw [List.cons_append, List.map_cons, txs, List.append_assoc, List.cons_append, ← ih, hz]
    simp [Lib.join, List.intercalate]

theorem join_of {w : World} {base n : Nat} {v : Value} {xs : List ByteArray} {jt : List UInt8} (sep : ByteArray) (hn : xs.length = n) (hjt : Lib.join (xs.map (·.data.toList)) sep.data.toList = jt) (h : w.ownsRow base 9 1 v n (xs.map .string)) (h0 : 0 < n) (hN : n ≤ 1000000) (hlen : jt.length ≤ 140737488355328) :
    ∃ a c, v = .slice a n c ∧ Calls Tryd.prog 54 #[.slice a n c, .string sep] w fun e w' => e = .returned (.string ⟨jt.toArray⟩) ∧ Below w.heap.size w w' := by
  subst hn
  subst hjt
  have hr := Ap.Rd.owned h
  obtain ⟨_, a, c, rfl, hc, _, hcell⟩ := hr
  obtain ⟨b, off, rfl, hj⟩ := hcell h0
  have hbl : b < w.heap.size := Ap.cell_lt (hj 0 (.string xs[0]) (by simp [h0]))
  refine ⟨_, c, rfl, ?_⟩
  have hcon := Any.strings_Join Tryd.lays156 Tryd.Builder_Extra_156 b off c xs sep w (fun j x hx => hj j _ (by simp [hx])) hbl (by omega) hc hlen
  change Calls Tryd.prog 54 _ _ _ at hcon
  exact hcon

set_option maxHeartbeats 2000000 in
theorem textT_any (v : Value) (t : Tr) (w : World) (hT : Sg.Tab w) (hv : Strs w v t.a) (hlen : t.a.length ≤ 100000) (hsum : (txs t.a).length ≤ 1000000000) :
    Calls Tryd.prog 33 #[.agg #[v, .int .i64 t.e]] w fun e w' => e = .returned (.string (txt t)) ∧ Below w.heap.size w w' := by
  have HV := Lib.hid hv
  have HT := Lib.hid hT
  obtain ⟨_, a, c, rfl, -⟩ := hv
  have htx : txt t = ⟨(Lib.join ((t.a ++ [Sg.txt t.e]).map (·.data.toList)) [32]).toArray⟩ := by rw [txt, join_txs]
  have hlt : (Lib.join ((t.a ++ [Sg.txt t.e]).map (·.data.toList)) [32]).length ≤ 140737488355328 := by
    rw [join_txs, List.length_append]
    have := sgtxt_size t.e
    have e2 : (Sg.txt t.e).data.toList.length = (Sg.txt t.e).size := by simp
    omega
  rw [htx]
  have HLT := Lib.hid hlt
  have TX := Lib.hid (Sg.text_any t.e)
  obtain ⟨tx, hx⟩ : ∃ tx, Sg.txt t.e = tx := ⟨_, rfl⟩
  rw [hx] at HLT TX ⊢
  obtain ⟨jt, hjt⟩ : ∃ jt, Lib.join ((t.a ++ [tx]).map (·.data.toList)) [32] = jt := ⟨_, rfl⟩
  rw [hjt] at HLT ⊢
  have HJT := Lib.hid hjt
  clear hx htx hlt hT hjt
  have B1 : Hid (∀ x, Below w.heap.size w (w.alloc x).drew) := Lib.hid fun x => ((Below.refl _ _).alloc (Nat.le_refl _) x).drew
  have B3 : Hid (∀ x y z, Below w.heap.size w (((w.alloc x).alloc y).alloc z).drew) := Lib.hid fun x y z => (belowx3 w x y z).drew
  have CC : Hid (∀ x z ty, (((w.alloc x).alloc (.cells #[.string tx] ty)).alloc z).drew.cell? ⟨w.heap.size + 1 + 1, 0, none⟩ = some (.slice a t.a.length c) → (((w.alloc x).alloc (.cells #[.string tx] ty)).alloc z).drew.cell? ⟨w.heap.size + 1 + 1, 1, none⟩ = some (.slice (some ⟨w.heap.size + 1, 0, none⟩) 1 1) → _) := Lib.hid fun x z ty e0 e1 =>
    concatS_any (w.heap.size + 1 + 1) (.slice a t.a.length c) (.slice (some ⟨w.heap.size + 1, 0, none⟩) 1 1) t.a.length 1 (t.a.map .string) [.string tx] (((w.alloc x).alloc (.cells #[.string tx] ty)).alloc z).drew e0 e1 (HV.out.below (B3.out _ _ _))
      ⟨rfl, _, 1, rfl, Nat.le_refl _, fun h => (by cases h), fun _ => ⟨w.heap.size + 1, 0, rfl, fun j u hu => by
        match j, hu with
        | 0, hu =>
          simp at hu
          subst hu
          simp [go_sem]
        | j + 1, hu => simp at hu⟩⟩ (strs_one _) (fun u hu => by simp at hu; subst hu; rfl) (by omega)
  go_enter Tryd.func33, Tryd.ntmps33
  go_wp2_with fail
  have TAB : Hid (∀ w', Below w.heap.size w w' → Sg.Tab w') := Lib.hid fun w' hb => Tab.below HT.out hb
  go_region_held3 (fun w' => w'.cell? ⟨w.heap.size, 0, none⟩ = some (.slice a t.a.length c) ∧ w'.cell? ⟨w.heap.size, 1, none⟩ = some (.int .i64 t.e)) (first | (simp [go_sem]; done) | exact ⟨j1, j2⟩ | exact ⟨l1, l2⟩ | fail) (first
    | (go_at_call 55
       refine (TX.out _ (TAB.out _ (B1.out _))).mono ?_
       rintro e w' ⟨rfl, rfl⟩)
    | (go_at_call 46
       refine (CC.out _ _ _ (by simp [go_sem]) (by simp [go_sem])).mono ?_
       rintro e w4 ⟨v4, rfl, hown4, hb4⟩
       have hB4 := (B3.out _ _ _).trans (hb4.mono (B3.out _ _ _).size)
       have j1 : w4.cell? ⟨w.heap.size, 0, none⟩ = some (.slice a t.a.length c) := by rw [hb4.cell (p := ⟨w.heap.size, 0, none⟩) (by simp; omega)]; simp [go_sem]
       have j2 : w4.cell? ⟨w.heap.size, 1, none⟩ = some (.int .i64 t.e) := by rw [hb4.cell (p := ⟨w.heap.size, 1, none⟩) (by simp; omega)]; simp [go_sem]
       have hown5 : w4.ownsRow w.heap.size 9 1 v4 (t.a.length + 1) ((t.a ++ [tx]).map .string) := by
         rw [List.map_append]
         exact Ap.own_base hown4 (B3.out _ _ _).size
       obtain ⟨a4, c4, rfl, hjn⟩ := join_of ⟨#[32]⟩ (by simp) HJT.out hown5 (by omega) (by omega) HLT.out
       have JN := Lib.hid hjn
       have B4 := Lib.hid hB4
       have hl4 : w.heap.size < w4.heap.size := Ap.cell_lt j1
       clear hjn hown5 hown4 hb4 hB4)
    | (go_at_call 54
       refine JN.out.mono ?_
       rintro e w5 ⟨rfl, hb5⟩
       have l1 : w5.cell? ⟨w.heap.size, 0, none⟩ = some (.slice a t.a.length c) := by rw [hb5.cell (p := ⟨w.heap.size, 0, none⟩) hl4]; exact j1
       have l2 : w5.cell? ⟨w.heap.size, 1, none⟩ = some (.int .i64 t.e) := by rw [hb5.cell (p := ⟨w.heap.size, 1, none⟩) hl4]; exact j2
       have B5 := Lib.hid (B4.out.trans (hb5.mono B4.out.size))
       clear hb5)
    | fail)
  go_wp2_with fail
  go_ret
  exact ⟨rfl, B5.out⟩
end Go.Proofs.YtmhmfnjjdcdkcaaDoor.Tr
