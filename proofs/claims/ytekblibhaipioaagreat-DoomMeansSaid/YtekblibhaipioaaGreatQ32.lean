/- The statements' own first look at package doom: the walk. -/
import Derived.Test.YtekblibhaipioaaGreatQ31
import Derived.Test.YtekblibhaipioaaGreatQ27
import Derived.Test.YtekblibhaipioaaGreatQ02

namespace Go.Proofs.YtekblibhaipioaaGreat.Do
open Go Go.RowKit Rw So Se
set_option maxRecDepth 20000
theorem ints_new (w : World) (l : List Int) (ty : TypeId) : Ints (w.alloc (.cells (l.map (Value.int .i64)).toArray ty)) (.slice (some ⟨w.heap.size, 0, none⟩) l.length l.length) l := by
  refine ⟨by simp, some ⟨w.heap.size, 0, none⟩, l.length, rfl, Nat.le_refl _, fun h => (by cases h), fun _ => ⟨w.heap.size, 0, rfl, fun j u hu => ?_⟩⟩
  rw [Nat.zero_add, World.cell?_alloc_new]
  simpa using hu
def bA : ByteArray := ⟨#[97]⟩
def bB : ByteArray := ⟨#[98]⟩
abbrev tP : Tm := .pair (.act ⟨#[97]⟩) (.act ⟨#[98]⟩)
abbrev tE : Tm := .fin 2 .skip
abbrev tL : Tm := .block (.par tP tE)
abbrev tM : Tm := .block (.par tP tP)
abbrev tL1 : Tm := .par tP tE
abbrev tM1 : Tm := .par tP tP
theorem gL : Goes tL := ⟨by decide +kernel, by decide, by decide⟩
theorem gM : Goes tM := ⟨by decide +kernel, by decide, by decide⟩
theorem gL1 : Goes tL1 := ⟨by decide +kernel, by decide, by decide⟩
theorem gM1 : Goes tM1 := ⟨by decide +kernel, by decide, by decide⟩
theorem gY : Goes Tm.yield := ⟨by decide +kernel, by decide, by decide⟩
theorem nL1 : Nf tL1 := ⟨trivial, trivial, rfl, rfl⟩
theorem nM1 : Nf tM1 := ⟨trivial, trivial, rfl, rfl⟩
theorem nL : Nf tL := ⟨nL1, rfl⟩
theorem nM : Nf tM := ⟨nM1, rfl⟩
theorem avL : av (flat tL) = [2] := av_go gL nL
theorem avM : av (flat tM) = [2, 5] := av_go gM nM
theorem bsL : bs (flat tL) 2 = [flat tE] := (bs_go gL nL (k := 2) (by decide)).trans (by decide +kernel)
theorem dmL1 : dm (flat tL1) = true := dm_go gL1 nL1
theorem dmL : dm (flat tL) = false := dm_go gL nL
theorem dmM1 : dm (flat tM1) = false := dm_go gM1 nM1
theorem frL : fr (flat tL) 2 = true := (fr_go gL nL (k := 2) (by decide)).trans (by decide +kernel)
theorem frM : fr (flat tM) 2 = false := (fr_go gM nM (k := 2) (by decide)).trans (by decide +kernel)
theorem frL3 : fr (flat tL) 3 = false := fr_no (by rw [avL]; decide)
theorem frY : fr (flat Tm.yield) 0 = true := (fr_go (t := .yield) gY trivial (k := 0) (by decide)).trans (by decide +kernel)
theorem avS : av (flat Tm.skip) = [] := by
  refine av_no ?_
  cases h : setB (flat Tm.skip) with
  | false => rfl
  | true => exact ((set_go (t := .skip) goS).1 h).elim
theorem nmsT {t : Tm} (h : rg t = true) : Nms (flat t) := nms_goes h
theorem part0 {w : World} {b n c : Nat} {l : List Nd} (h : Nds w (.slice (some ⟨b, 0, none⟩) n c) l) (p : Nat) (hp : p < l.length) (hc : n ≤ c) : Nds w (.slice (some ⟨b, p * 3, none⟩) (n - p) (c - p)) (l.drop p) := by
  rcases h.form with ⟨h0, _⟩ | ⟨b', o', c', e, hc', hat⟩
  · rw [h0] at hp; simp at hp
  · injection e with e1 e2 e3
    subst e2; subst e3
    injection e1 with e1
    injection e1 with e4 e5
    subst e4; subst e5
    have := part_nds hat p (l.length - p) (c - p) (by omega) (by omega)
    rw [Nat.zero_add] at this
    rwa [List.take_of_length_le (by rw [List.length_drop]; omega)] at this
def RAl (bL bM b4 o4 c4 cx : Nat) (ax : Option Addr) (k : Nat) (v : Value) (w' : World) : Prop := match k with
  | 0 => v = .slice (some ⟨bL, 0, none⟩) 7 7
  | 1 => Ints w' v [2]
  | 2 => Ints w' v [2]
  | 3 => v = .bool true
  | 4 => v = .bool true
  | 5 => v = .slice (some ⟨bM, 0, none⟩) 8 8
  | 6 => Ints w' v [2, 5]
  | 7 => Ints w' v [2, 5]
  | 8 => v = .bool true
  | 9 => v = .bool true
  | 10 => v = .bool true
  | 11 => v = .slice (some ⟨bL, 0, none⟩) 7 7
  | 12 => v = .slice (some ⟨bL, 3, none⟩) 6 6
  | 13 => v = .bool true
  | 14 => v = .bool true
  | 15 => v = .bool true
  | 16 => v = .slice (some ⟨bL, 0, none⟩) 7 7
  | 17 => v = .bool false
  | 18 => v = .bool true
  | 19 => v = .bool true
  | 20 => v = .bool true
  | 21 => v = .slice (some ⟨bM, 0, none⟩) 8 8
  | 22 => v = .slice (some ⟨bM, 3, none⟩) 7 7
  | 23 => v = .bool false
  | 24 => v = .bool true
  | 25 => v = .bool true
  | 26 => v = .bool true
  | 27 => v = .slice (some ⟨b4, o4, none⟩) 1 c4
  | 28 => v = .int .i64 1
  | 29 => v = .bool true
  | 30 => v = .bool true
  | 31 => v = .bool true
  | 32 => v = .slice (some ⟨b4, o4, none⟩) 1 c4
  | 33 => v = .pointer (some ⟨b4, o4, none⟩)
  | 34 => v = .slice ax 2 cx
  | 35 => v = .slice (some ⟨bL, 0, none⟩) 7 7
  | 36 => v = .slice (some ⟨bL, 15, none⟩) 2 2
  | 37 => v = .bool true
  | 38 => v = .bool true
  | 39 => v = .bool true
  | 40 => v = .slice (some ⟨bL, 0, none⟩) 7 7
  | 41 => v = .bool true
  | 42 => v = .bool true
  | 43 => v = .bool true
  | 44 => v = .slice (some ⟨bM, 0, none⟩) 8 8
  | 45 => v = .bool false
  | 46 => v = .bool true
  | 47 => v = .bool true
  | 48 => v = .bool true
  | 49 => v = .slice (some ⟨bL, 0, none⟩) 7 7
  | 50 => v = .bool false
  | 51 => v = .bool true
  | 52 => v = .bool true
  | 53 => v = .bool true
  | 54 => v = .agg #[.int .i64 4, .string ⟨#[]⟩, .int .i64 0]
  | 55 => Nds w' v (flat Tm.yield)
  | 56 => v = .bool true
  | 57 => v = .bool true
  | 58 => v = .bool true
  | 59 => v = .agg #[.int .i64 2, .string ⟨#[]⟩, .int .i64 0]
  | 60 => Nds w' v (flat Tm.skip)
  | 61 => Ints w' v []
  | 62 => v = .int .i64 0
  | 63 => v = .bool true
  | 64 => v = .bool true
  | 65 => v = .bool true
  | _ => True
theorem RAl.below {bL bM b4 o4 c4 cx : Nat} {ax : Option Addr} {k : Nat} {v : Value} {w w' : World} (h : RAl bL bM b4 o4 c4 cx ax k v w) (hb : Below w.heap.size w w') : RAl bL bM b4 o4 c4 cx ax k v w' := by
  unfold RAl at h ⊢
  split at h
  case h_2 => exact Ints.below h hb
  case h_3 => exact Ints.below h hb
  case h_7 => exact Ints.below h hb
  case h_8 => exact Ints.below h hb
  case h_56 => exact Nds.below h hb
  case h_61 => exact Nds.below h hb
  case h_62 => exact Ints.below h hb
  all_goals exact h
theorem RAl.put {w4 : World} {bL bM b4 o4 c4 cx : Nat} {ax : Option Addr} {v : Value} {w w' : World} {f : Nat → Bool} {us : Nat → Value} {i : Nat} (g : Rg.Kept (fun w' => Below w4.heap.size w4 w') (RAl bL bM b4 o4 c4 cx ax) f us w) (hb : Below w.heap.size w w') (hv : RAl bL bM b4 o4 c4 cx ax i v w') :
    Rg.Kept (fun w' => Below w4.heap.size w4 w') (RAl bL bM b4 o4 c4 cx ax) (Rg.upd f i true) (Rg.upd us i v) w' :=
  Rg.Kept.put (Base := fun w' => Below w4.heap.size w4 w') (R := RAl bL bM b4 o4 c4 cx ax) (fun _ _ h hb => h.trans (hb.mono h.size)) (fun _ _ _ _ h hb => RAl.below h hb) g hb hv
set_option maxHeartbeats 8000000 in
theorem alive_of (C : Con) : Alive := by
  intro w
  have D := Lib.hid (Below.refl w.heap.size w)
  have HBL := Lib.hid (fun y w1 (h : Nds w1 y (flat tL)) => C.bes y (flat tL) 2 w1 h (by decide) (nmsT gL.1))
  rw [bsL] at HBL
  have HAL := Lib.hid (fun y w1 (h : Nds w1 y (flat tL)) => C.act y (flat tL) w1 h (by decide) (nmsT gL.1))
  rw [avL] at HAL
  have HAM := Lib.hid (fun y w1 (h : Nds w1 y (flat tM)) => C.act y (flat tM) w1 h (by decide) (nmsT gM.1))
  rw [avM] at HAM
  have HDL1 := Lib.hid (fun y w1 (h : Nds w1 y (flat tL1)) => C.doom y (flat tL1) w1 h (by decide) (nmsT gL1.1))
  rw [dmL1] at HDL1
  have HDL := Lib.hid (fun y w1 (h : Nds w1 y (flat tL)) => C.doom y (flat tL) w1 h (by decide) (nmsT gL.1))
  rw [dmL] at HDL
  have HDM1 := Lib.hid (fun y w1 (h : Nds w1 y (flat tM1)) => C.doom y (flat tM1) w1 h (by decide) (nmsT gM1.1))
  rw [dmM1] at HDM1
  have HFL := Lib.hid (fun y w1 (h : Nds w1 y (flat tL)) => C.free y (flat tL) 2 w1 h (by decide) (nmsT gL.1))
  rw [frL] at HFL
  have HFM := Lib.hid (fun y w1 (h : Nds w1 y (flat tM)) => C.free y (flat tM) 2 w1 h (by decide) (nmsT gM.1))
  rw [frM] at HFM
  have HFL3 := Lib.hid (fun y w1 (h : Nds w1 y (flat tL)) => C.free y (flat tL) 3 w1 h (by decide) (nmsT gL.1))
  rw [frL3] at HFL3
  have HFY := Lib.hid (fun y w1 (h : Nds w1 y (flat Tm.yield)) => C.free y (flat Tm.yield) 0 w1 h (by decide) (nmsT gY.1))
  rw [frY] at HFY
  have HAS := Lib.hid (fun y w1 (h : Nds w1 y (flat Tm.skip)) => C.act y (flat Tm.skip) w1 h (by decide) (nmsT goS.1))
  rw [avS] at HAS
  go_enter Tryz.func7, Tryz.ntmps7
  go_wp2_with fail
  have hs2 : ((w.alloc (.cells #[.int .i64 1, .string ⟨#[97]⟩, .int .i64 0] 42)).alloc (.cells #[.int .i64 1, .string ⟨#[98]⟩, .int .i64 0] 42)).heap.size = w.heap.size + 1 + 1 := by simp
  have B2 := (below1 w (.cells #[.int .i64 1, .string ⟨#[97]⟩, .int .i64 0] 42)).trans ((below1 _ (.cells #[.int .i64 1, .string ⟨#[98]⟩, .int .i64 0] 42)).mono (below1 w _).size)
  generalize (w.alloc (.cells #[.int .i64 1, .string ⟨#[97]⟩, .int .i64 0] 42)).alloc (.cells #[.int .i64 1, .string ⟨#[98]⟩, .int .i64 0] 42) = w2 at hs2 B2 ⊢
  have NL := Se.nds_new w2 (flat tL) 42
  rw [hs2] at NL
  have BL := below1 w2 (.cells (cls (flat tL)).toArray 42)
  change Nds (w2.alloc (.cells #[.int .i64 9, .string ⟨#[]⟩, .int .i64 0, .int .i64 7, .string ⟨#[]⟩, .int .i64 0, .int .i64 10, .string ⟨#[]⟩, .int .i64 0, .int .i64 1, .string ⟨#[97]⟩, .int .i64 0, .int .i64 1, .string ⟨#[98]⟩, .int .i64 0, .int .i64 14, .string ⟨#[]⟩, .int .i64 2, .int .i64 2, .string ⟨#[]⟩, .int .i64 0] 42)) (.slice (some ⟨w.heap.size + 1 + 1, 0, none⟩) 7 7) (flat tL) at NL
  change Below w2.heap.size w2 (w2.alloc (.cells #[.int .i64 9, .string ⟨#[]⟩, .int .i64 0, .int .i64 7, .string ⟨#[]⟩, .int .i64 0, .int .i64 10, .string ⟨#[]⟩, .int .i64 0, .int .i64 1, .string ⟨#[97]⟩, .int .i64 0, .int .i64 1, .string ⟨#[98]⟩, .int .i64 0, .int .i64 14, .string ⟨#[]⟩, .int .i64 2, .int .i64 2, .string ⟨#[]⟩, .int .i64 0] 42)) at BL
  have hs3 : (w2.alloc (.cells #[.int .i64 9, .string ⟨#[]⟩, .int .i64 0, .int .i64 7, .string ⟨#[]⟩, .int .i64 0, .int .i64 10, .string ⟨#[]⟩, .int .i64 0, .int .i64 1, .string ⟨#[97]⟩, .int .i64 0, .int .i64 1, .string ⟨#[98]⟩, .int .i64 0, .int .i64 14, .string ⟨#[]⟩, .int .i64 2, .int .i64 2, .string ⟨#[]⟩, .int .i64 0] 42)).heap.size = w.heap.size + 1 + 1 + 1 := by simp [hs2]
  generalize w2.alloc (.cells #[.int .i64 9, .string ⟨#[]⟩, .int .i64 0, .int .i64 7, .string ⟨#[]⟩, .int .i64 0, .int .i64 10, .string ⟨#[]⟩, .int .i64 0, .int .i64 1, .string ⟨#[97]⟩, .int .i64 0, .int .i64 1, .string ⟨#[98]⟩, .int .i64 0, .int .i64 14, .string ⟨#[]⟩, .int .i64 2, .int .i64 2, .string ⟨#[]⟩, .int .i64 0] 42) = w3 at NL BL hs3 ⊢
  have NM := Se.nds_new w3 (flat tM) 42
  rw [hs3] at NM
  have BM := below1 w3 (.cells (cls (flat tM)).toArray 42)
  change Nds (w3.alloc (.cells #[.int .i64 9, .string ⟨#[]⟩, .int .i64 0, .int .i64 7, .string ⟨#[]⟩, .int .i64 0, .int .i64 10, .string ⟨#[]⟩, .int .i64 0, .int .i64 1, .string ⟨#[97]⟩, .int .i64 0, .int .i64 1, .string ⟨#[98]⟩, .int .i64 0, .int .i64 10, .string ⟨#[]⟩, .int .i64 0, .int .i64 1, .string ⟨#[97]⟩, .int .i64 0, .int .i64 1, .string ⟨#[98]⟩, .int .i64 0] 42)) (.slice (some ⟨w.heap.size + 1 + 1 + 1, 0, none⟩) 8 8) (flat tM) at NM
  change Below w3.heap.size w3 (w3.alloc (.cells #[.int .i64 9, .string ⟨#[]⟩, .int .i64 0, .int .i64 7, .string ⟨#[]⟩, .int .i64 0, .int .i64 10, .string ⟨#[]⟩, .int .i64 0, .int .i64 1, .string ⟨#[97]⟩, .int .i64 0, .int .i64 1, .string ⟨#[98]⟩, .int .i64 0, .int .i64 10, .string ⟨#[]⟩, .int .i64 0, .int .i64 1, .string ⟨#[97]⟩, .int .i64 0, .int .i64 1, .string ⟨#[98]⟩, .int .i64 0] 42)) at BM
  generalize w3.alloc (.cells #[.int .i64 9, .string ⟨#[]⟩, .int .i64 0, .int .i64 7, .string ⟨#[]⟩, .int .i64 0, .int .i64 10, .string ⟨#[]⟩, .int .i64 0, .int .i64 1, .string ⟨#[97]⟩, .int .i64 0, .int .i64 1, .string ⟨#[98]⟩, .int .i64 0, .int .i64 10, .string ⟨#[]⟩, .int .i64 0, .int .i64 1, .string ⟨#[97]⟩, .int .i64 0, .int .i64 1, .string ⟨#[98]⟩, .int .i64 0] 42) = W at NM BM ⊢
  replace NL := NL.below BM
  have DW : Below w.heap.size w W := B2.trans ((BL.trans (BM.mono BL.size)).mono B2.size)
  generalize w.heap.size + 1 + 1 + 1 = bM at NM ⊢
  generalize w.heap.size + 1 + 1 = bL at NL ⊢
  clear hs2 B2 BL hs3 BM
  have NL1 := part0 NL 1 (by decide) (by decide)
  have NL5 := part0 NL 5 (by decide) (by decide)
  have NM1 := part0 NM 1 (by decide) (by decide)
  change Nds W (.slice (some ⟨bL, 3, none⟩) 6 6) (flat tL1) at NL1
  change Nds W (.slice (some ⟨bL, 15, none⟩) 2 2) (flat tE) at NL5
  change Nds W (.slice (some ⟨bM, 3, none⟩) 7 7) (flat tM1) at NM1
  replace D := Lib.hid DW
  have XL := Lib.hid (fun w' (hb : Below W.heap.size W w') => NL.below hb)
  have XM := Lib.hid (fun w' (hb : Below W.heap.size W w') => NM.below hb)
  have XL1 := Lib.hid (fun w' (hb : Below W.heap.size W w') => NL1.below hb)
  have XL5 := Lib.hid (fun w' (hb : Below W.heap.size W w') => NL5.below hb)
  have XM1 := Lib.hid (fun w' (hb : Below W.heap.size W w') => NM1.below hb)
  have F0 := Lib.hid (Below.refl W.heap.size W)
  clear DW NL NM NL1 NL5 NM1
  refine (HBL.out _ _ (XL.out _ F0.out)).mono ?_
  rintro e w4 ⟨y4, rfl, hr4, hb4⟩
  have F4 := Lib.hid hb4
  obtain ⟨b4, o4, c4, x0, rfl, q4, n4⟩ := one_row hr4
  have hb4l := Ap.cell_lt q4
  have R4 : Hid (∀ w', Below w4.heap.size w4 w' → w'.cell? ⟨b4, o4, none⟩ = some x0 ∧ Nds w' x0 (flat tE)) := Lib.hid fun w' hb => ⟨by rw [hb.cell (p := ⟨b4, o4, none⟩) hb4l]; exact q4, n4.below hb⟩
  obtain ⟨_, ax, cx, rfl, -⟩ := id n4
  clear hb4 hr4 n4 q4 hb4l
  go_wp2_with fail
  refine Rg.wp_region_kept (by kernel_rfl) [(0, some 27), (1, some 28), (2, some 29), (3, some 30), (4, some 31), (5, some 32), (6, some 33), (7, some 34), (8, some 35), (9, some 36), (10, some 37), (11, some 38), (12, some 39), (13, some 40), (14, some 41), (15, some 42), (16, some 43), (17, some 44), (18, some 45), (19, some 46), (20, some 47), (21, some 48), (22, some 49), (23, some 50), (24, some 51), (25, some 52), (26, some 53), (27, some 54), (28, some 55), (29, some 56), (30, some 57), (31, some 58), (32, some 59), (33, some 60), (34, some 61), (35, some 62), (36, some 63), (37, some 64), (38, some 65), (39, some 66), (40, some 67), (41, some 68), (42, some 69), (43, some 70), (44, some 71), (45, some 72), (46, some 73), (47, some 74), (48, some 75), (49, some 76), (50, some 77), (51, some 78), (52, some 79), (53, some 80), (54, some 81), (55, some 82), (56, some 83), (57, some 84), (58, some 85), (59, some 86), (60, some 87), (61, some 88), (62, some 89), (63, some 90), (64, some 91), (65, some 0)] (by rfl) (by kernel_rfl) (by kernel_rfl) (fun w' => Below w4.heap.size w4 w') (RAl bL bM b4 o4 c4 cx ax) (Below.refl _ _).drew ?_ ⟨⟨⟨⟨⟨⟨⟨⟨⟨⟨⟨⟨⟨⟨⟨⟨⟨⟨⟨⟨⟨⟨⟨⟨⟨⟨⟨⟨⟨⟨⟨⟨⟨⟨⟨⟨⟨⟨⟨⟨⟨⟨⟨⟨⟨⟨⟨⟨⟨⟨⟨⟨⟨⟨⟨⟨⟨⟨⟨⟨⟨⟨⟨⟨⟨⟨True.intro, ?_⟩, ?_⟩, ?_⟩, ?_⟩, ?_⟩, ?_⟩, ?_⟩, ?_⟩, ?_⟩, ?_⟩, ?_⟩, ?_⟩, ?_⟩, ?_⟩, ?_⟩, ?_⟩, ?_⟩, ?_⟩, ?_⟩, ?_⟩, ?_⟩, ?_⟩, ?_⟩, ?_⟩, ?_⟩, ?_⟩, ?_⟩, ?_⟩, ?_⟩, ?_⟩, ?_⟩, ?_⟩, ?_⟩, ?_⟩, ?_⟩, ?_⟩, ?_⟩, ?_⟩, ?_⟩, ?_⟩, ?_⟩, ?_⟩, ?_⟩, ?_⟩, ?_⟩, ?_⟩, ?_⟩, ?_⟩, ?_⟩, ?_⟩, ?_⟩, ?_⟩, ?_⟩, ?_⟩, ?_⟩, ?_⟩, ?_⟩, ?_⟩, ?_⟩, ?_⟩, ?_⟩, ?_⟩, ?_⟩, ?_⟩, ?_⟩, ?_⟩ ?_
  · intro k v w' hk
    unfold RAl
    split
    case h_67 => trivial
    all_goals exact absurd hk (by decide)
  · intro o ho f us wl al ha g hf hdep K hKf
    obtain rfl := Option.some.inj ho
    have hB := g.1
    have hK : ∀ v w', RAl bL bM b4 o4 c4 cx ax 0 v w' → Below wl.heap.size wl w' → K (al.put (some 27) v) w' := fun v w' hv hb => hKf v w' (RAl.put g hb hv)
    have e3 : al.tmps[3]?.getD undef = .slice (some ⟨bL, 0, none⟩) 7 7 := by rw [← Rg.eval_getD, ha]; exact (Rg.puts_eval_ne _ _ _ (by rfl)).trans rfl
    have HB := Lib.hid hB
    clear ha hdep g hf hKf hB
    refine Rg.wpOp_of rfl rfl ?_
    go_simp
    exact hK _ _ rfl (Below.refl _ _)
  · intro o ho f us wl al ha g hf hdep K hKf
    obtain rfl := Option.some.inj ho
    have hB := g.1
    have hK : ∀ v w', RAl bL bM b4 o4 c4 cx ax 1 v w' → Below wl.heap.size wl w' → K (al.put (some 28) v) w' := fun v w' hv hb => hKf v w' (RAl.put g hb hv)
    have d0 : RAl bL bM b4 o4 c4 cx ax 0 (us 0) wl := g.2 0 (hdep ⟨0, .data⟩ (by simp) rfl)
    have e27 : al.tmps[27]?.getD undef = us 0 := by rw [← Rg.eval_getD, ha]; exact Rg.puts_eval _ _ _ (by rfl) (by simp) (by simp)
    have f0 : us 0 = .slice (some ⟨bL, 0, none⟩) 7 7 := d0
    have HB := Lib.hid hB
    clear ha hdep g hf hKf d0 hB
    refine Rg.wpOp_of rfl rfl ?_
    go_simp
    refine (HAL.out _ _ (XL.out _ (F4.out.trans (HB.out.mono F4.out.size)))).mono ?_
    rintro e wn ⟨y, rfl, hy, hb⟩
    exact hK _ _ hy hb
  · intro o ho f us wl al ha g hf hdep K hKf
    obtain rfl := Option.some.inj ho
    have hB := g.1
    have hK : ∀ v w', RAl bL bM b4 o4 c4 cx ax 2 v w' → Below wl.heap.size wl w' → K (al.put (some 29) v) w' := fun v w' hv hb => hKf v w' (RAl.put g hb hv)
    have HB := Lib.hid hB
    clear ha hdep g hf hKf hB
    refine Rg.wpOp_of rfl rfl ?_
    go_simp
    exact hK _ _ (int_new _ 2 _) (below1 _ _)
  · intro o ho f us wl al ha g hf hdep K hKf
    obtain rfl := Option.some.inj ho
    have hB := g.1
    have hK : ∀ v w', RAl bL bM b4 o4 c4 cx ax 3 v w' → Below wl.heap.size wl w' → K (al.put (some 30) v) w' := fun v w' hv hb => hKf v w' (RAl.put g hb hv)
    have d1 : RAl bL bM b4 o4 c4 cx ax 1 (us 1) wl := g.2 1 (hdep ⟨1, .data⟩ (by simp) rfl)
    have e28 : al.tmps[28]?.getD undef = us 1 := by rw [← Rg.eval_getD, ha]; exact Rg.puts_eval _ _ _ (by rfl) (by simp) (by simp)
    have d2 : RAl bL bM b4 o4 c4 cx ax 2 (us 2) wl := g.2 2 (hdep ⟨2, .data⟩ (by simp) rfl)
    have e29 : al.tmps[29]?.getD undef = us 2 := by rw [← Rg.eval_getD, ha]; exact Rg.puts_eval _ _ _ (by rfl) (by simp) (by simp)
    have D1 : Hid (Ints wl (us 1) [2]) := d1
    have D2 : Hid (Ints wl (us 2) [2]) := d2
    have HB := Lib.hid hB
    clear ha hdep g hf hKf d1 d2 hB
    refine Rg.wpOp_of rfl rfl ?_
    go_simp
    refine (intsR_any _ _ [2] [2] _ D1.out D2.out (by decide)).mono ?_
    rw [show sameJ [2] [2] = true from rfl]
    rintro e wn ⟨rfl, hb⟩
    exact hK _ _ rfl hb
  · intro o ho f us wl al ha g hf hdep K hKf
    obtain rfl := Option.some.inj ho
    have hB := g.1
    have hK : ∀ v w', RAl bL bM b4 o4 c4 cx ax 4 v w' → Below wl.heap.size wl w' → K (al.put (some 31) v) w' := fun v w' hv hb => hKf v w' (RAl.put g hb hv)
    have d3 : RAl bL bM b4 o4 c4 cx ax 3 (us 3) wl := g.2 3 (hdep ⟨3, .data⟩ (by simp) rfl)
    have e30 : al.tmps[30]?.getD undef = us 3 := by rw [← Rg.eval_getD, ha]; exact Rg.puts_eval _ _ _ (by rfl) (by simp) (by simp)
    have f3 : us 3 = .bool true := d3
    have HB := Lib.hid hB
    clear ha hdep g hf hKf d3 hB
    refine Rg.wpOp_of rfl rfl ?_
    go_simp
    exact hK _ _ rfl (Below.refl _ _)
  · intro o ho f us wl al ha g hf hdep K hKf
    obtain rfl := Option.some.inj ho
    have hB := g.1
    have hK : ∀ v w', RAl bL bM b4 o4 c4 cx ax 5 v w' → Below wl.heap.size wl w' → K (al.put (some 32) v) w' := fun v w' hv hb => hKf v w' (RAl.put g hb hv)
    have e4 : al.tmps[4]?.getD undef = .slice (some ⟨bM, 0, none⟩) 8 8 := by rw [← Rg.eval_getD, ha]; exact (Rg.puts_eval_ne _ _ _ (by rfl)).trans rfl
    have dg : RAl bL bM b4 o4 c4 cx ax 4 (us 4) wl := g.2 4 (hdep ⟨4, .guard⟩ (by simp) rfl)
    have gg : al.eval (.tmp 31) = .bool true := by rw [ha]; exact (Rg.puts_eval _ _ _ (by rfl) (by simp) (by simp)).trans dg
    have HB := Lib.hid hB
    clear ha hdep g hf hKf hB
    refine Rg.wpOp_of rfl (Rg.wanted_of rfl (Rg.yielded_of (d := 31) (by rfl) gg)) ?_
    go_simp
    exact hK _ _ rfl (Below.refl _ _)
  · intro o ho f us wl al ha g hf hdep K hKf
    obtain rfl := Option.some.inj ho
    have hB := g.1
    have hK : ∀ v w', RAl bL bM b4 o4 c4 cx ax 6 v w' → Below wl.heap.size wl w' → K (al.put (some 33) v) w' := fun v w' hv hb => hKf v w' (RAl.put g hb hv)
    have d5 : RAl bL bM b4 o4 c4 cx ax 5 (us 5) wl := g.2 5 (hdep ⟨5, .data⟩ (by simp) rfl)
    have e32 : al.tmps[32]?.getD undef = us 5 := by rw [← Rg.eval_getD, ha]; exact Rg.puts_eval _ _ _ (by rfl) (by simp) (by simp)
    have dg : RAl bL bM b4 o4 c4 cx ax 4 (us 4) wl := g.2 4 (hdep ⟨4, .guard⟩ (by simp) rfl)
    have gg : al.eval (.tmp 31) = .bool true := by rw [ha]; exact (Rg.puts_eval _ _ _ (by rfl) (by simp) (by simp)).trans dg
    have f5 : us 5 = .slice (some ⟨bM, 0, none⟩) 8 8 := d5
    have HB := Lib.hid hB
    clear ha hdep g hf hKf d5 hB
    refine Rg.wpOp_of rfl (Rg.wanted_of rfl (Rg.yielded_of (d := 31) (by rfl) gg)) ?_
    go_simp
    refine (HAM.out _ _ (XM.out _ (F4.out.trans (HB.out.mono F4.out.size)))).mono ?_
    rintro e wn ⟨y, rfl, hy, hb⟩
    exact hK _ _ hy hb
  · intro o ho f us wl al ha g hf hdep K hKf
    obtain rfl := Option.some.inj ho
    have hB := g.1
    have hK : ∀ v w', RAl bL bM b4 o4 c4 cx ax 7 v w' → Below wl.heap.size wl w' → K (al.put (some 34) v) w' := fun v w' hv hb => hKf v w' (RAl.put g hb hv)
    have dg : RAl bL bM b4 o4 c4 cx ax 4 (us 4) wl := g.2 4 (hdep ⟨4, .guard⟩ (by simp) rfl)
    have gg : al.eval (.tmp 31) = .bool true := by rw [ha]; exact (Rg.puts_eval _ _ _ (by rfl) (by simp) (by simp)).trans dg
    have HB := Lib.hid hB
    clear ha hdep g hf hKf hB
    refine Rg.wpOp_of rfl (Rg.wanted_of rfl (Rg.yielded_of (d := 31) (by rfl) gg)) ?_
    go_simp
    exact hK _ _ (ints_new _ [2, 5] _) (below1 _ _)
  · intro o ho f us wl al ha g hf hdep K hKf
    obtain rfl := Option.some.inj ho
    have hB := g.1
    have hK : ∀ v w', RAl bL bM b4 o4 c4 cx ax 8 v w' → Below wl.heap.size wl w' → K (al.put (some 35) v) w' := fun v w' hv hb => hKf v w' (RAl.put g hb hv)
    have d6 : RAl bL bM b4 o4 c4 cx ax 6 (us 6) wl := g.2 6 (hdep ⟨6, .data⟩ (by simp) rfl)
    have e33 : al.tmps[33]?.getD undef = us 6 := by rw [← Rg.eval_getD, ha]; exact Rg.puts_eval _ _ _ (by rfl) (by simp) (by simp)
    have d7 : RAl bL bM b4 o4 c4 cx ax 7 (us 7) wl := g.2 7 (hdep ⟨7, .data⟩ (by simp) rfl)
    have e34 : al.tmps[34]?.getD undef = us 7 := by rw [← Rg.eval_getD, ha]; exact Rg.puts_eval _ _ _ (by rfl) (by simp) (by simp)
    have dg : RAl bL bM b4 o4 c4 cx ax 4 (us 4) wl := g.2 4 (hdep ⟨4, .guard⟩ (by simp) rfl)
    have gg : al.eval (.tmp 31) = .bool true := by rw [ha]; exact (Rg.puts_eval _ _ _ (by rfl) (by simp) (by simp)).trans dg
    have D6 : Hid (Ints wl (us 6) [2, 5]) := d6
    have D7 : Hid (Ints wl (us 7) [2, 5]) := d7
    have HB := Lib.hid hB
    clear ha hdep g hf hKf d6 d7 hB
    refine Rg.wpOp_of rfl (Rg.wanted_of rfl (Rg.yielded_of (d := 31) (by rfl) gg)) ?_
    go_simp
    refine (intsR_any _ _ [2, 5] [2, 5] _ D6.out D7.out (by decide)).mono ?_
    rw [show sameJ [2, 5] [2, 5] = true from rfl]
    rintro e wn ⟨rfl, hb⟩
    exact hK _ _ rfl hb
  · intro o ho f us wl al ha g hf hdep K hKf
    obtain rfl := Option.some.inj ho
    have hB := g.1
    have hK : ∀ v w', RAl bL bM b4 o4 c4 cx ax 9 v w' → Below wl.heap.size wl w' → K (al.put (some 36) v) w' := fun v w' hv hb => hKf v w' (RAl.put g hb hv)
    have d4 : RAl bL bM b4 o4 c4 cx ax 4 (us 4) wl := g.2 4 (hdep ⟨4, .data⟩ (by simp) rfl)
    have e31 : al.tmps[31]?.getD undef = us 4 := by rw [← Rg.eval_getD, ha]; exact Rg.puts_eval _ _ _ (by rfl) (by simp) (by simp)
    have d8 : RAl bL bM b4 o4 c4 cx ax 8 (us 8) wl := g.2 8 (hdep ⟨8, .data⟩ (by simp) rfl)
    have e35 : al.tmps[35]?.getD undef = us 8 := by rw [← Rg.eval_getD, ha]; exact Rg.puts_eval _ _ _ (by rfl) (by simp) (by simp)
    have f4 : us 4 = .bool true := d4
    have f8 : us 8 = .bool true := d8
    have HB := Lib.hid hB
    clear ha hdep g hf hKf d4 d8 hB
    refine Rg.wpOp_of rfl rfl ?_
    go_simp
    exact hK _ _ rfl (Below.refl _ _)
  · intro o ho f us wl al ha g hf hdep K hKf
    obtain rfl := Option.some.inj ho
    have hB := g.1
    have hK : ∀ v w', RAl bL bM b4 o4 c4 cx ax 10 v w' → Below wl.heap.size wl w' → K (al.put (some 37) v) w' := fun v w' hv hb => hKf v w' (RAl.put g hb hv)
    have d9 : RAl bL bM b4 o4 c4 cx ax 9 (us 9) wl := g.2 9 (hdep ⟨9, .data⟩ (by simp) rfl)
    have e36 : al.tmps[36]?.getD undef = us 9 := by rw [← Rg.eval_getD, ha]; exact Rg.puts_eval _ _ _ (by rfl) (by simp) (by simp)
    have f9 : us 9 = .bool true := d9
    have HB := Lib.hid hB
    clear ha hdep g hf hKf d9 hB
    refine Rg.wpOp_of rfl rfl ?_
    go_simp
    exact hK _ _ rfl (Below.refl _ _)
  · intro o ho f us wl al ha g hf hdep K hKf
    obtain rfl := Option.some.inj ho
    have hB := g.1
    have hK : ∀ v w', RAl bL bM b4 o4 c4 cx ax 11 v w' → Below wl.heap.size wl w' → K (al.put (some 38) v) w' := fun v w' hv hb => hKf v w' (RAl.put g hb hv)
    have e3 : al.tmps[3]?.getD undef = .slice (some ⟨bL, 0, none⟩) 7 7 := by rw [← Rg.eval_getD, ha]; exact (Rg.puts_eval_ne _ _ _ (by rfl)).trans rfl
    have dg : RAl bL bM b4 o4 c4 cx ax 10 (us 10) wl := g.2 10 (hdep ⟨10, .guard⟩ (by simp) rfl)
    have gg : al.eval (.tmp 37) = .bool true := by rw [ha]; exact (Rg.puts_eval _ _ _ (by rfl) (by simp) (by simp)).trans dg
    have HB := Lib.hid hB
    clear ha hdep g hf hKf hB
    refine Rg.wpOp_of rfl (Rg.wanted_of rfl (Rg.yielded_of (d := 37) (by rfl) gg)) ?_
    go_simp
    exact hK _ _ rfl (Below.refl _ _)
  · intro o ho f us wl al ha g hf hdep K hKf
    obtain rfl := Option.some.inj ho
    have hB := g.1
    have hK : ∀ v w', RAl bL bM b4 o4 c4 cx ax 12 v w' → Below wl.heap.size wl w' → K (al.put (some 39) v) w' := fun v w' hv hb => hKf v w' (RAl.put g hb hv)
    have d11 : RAl bL bM b4 o4 c4 cx ax 11 (us 11) wl := g.2 11 (hdep ⟨11, .data⟩ (by simp) rfl)
    have e38 : al.tmps[38]?.getD undef = us 11 := by rw [← Rg.eval_getD, ha]; exact Rg.puts_eval _ _ _ (by rfl) (by simp) (by simp)
    have dg : RAl bL bM b4 o4 c4 cx ax 10 (us 10) wl := g.2 10 (hdep ⟨10, .guard⟩ (by simp) rfl)
    have gg : al.eval (.tmp 37) = .bool true := by rw [ha]; exact (Rg.puts_eval _ _ _ (by rfl) (by simp) (by simp)).trans dg
    have f11 : us 11 = .slice (some ⟨bL, 0, none⟩) 7 7 := d11
    have HB := Lib.hid hB
    clear ha hdep g hf hKf d11 hB
    refine Rg.wpOp_of rfl (Rg.wanted_of rfl (Rg.yielded_of (d := 37) (by rfl) gg)) ?_
    go_simp
    exact hK _ _ rfl (Below.refl _ _)
  · intro o ho f us wl al ha g hf hdep K hKf
    obtain rfl := Option.some.inj ho
    have hB := g.1
    have hK : ∀ v w', RAl bL bM b4 o4 c4 cx ax 13 v w' → Below wl.heap.size wl w' → K (al.put (some 40) v) w' := fun v w' hv hb => hKf v w' (RAl.put g hb hv)
    have d12 : RAl bL bM b4 o4 c4 cx ax 12 (us 12) wl := g.2 12 (hdep ⟨12, .data⟩ (by simp) rfl)
    have e39 : al.tmps[39]?.getD undef = us 12 := by rw [← Rg.eval_getD, ha]; exact Rg.puts_eval _ _ _ (by rfl) (by simp) (by simp)
    have dg : RAl bL bM b4 o4 c4 cx ax 10 (us 10) wl := g.2 10 (hdep ⟨10, .guard⟩ (by simp) rfl)
    have gg : al.eval (.tmp 37) = .bool true := by rw [ha]; exact (Rg.puts_eval _ _ _ (by rfl) (by simp) (by simp)).trans dg
    have f12 : us 12 = .slice (some ⟨bL, 3, none⟩) 6 6 := d12
    have HB := Lib.hid hB
    clear ha hdep g hf hKf d12 hB
    refine Rg.wpOp_of rfl (Rg.wanted_of rfl (Rg.yielded_of (d := 37) (by rfl) gg)) ?_
    go_simp
    refine (HDL1.out _ _ (XL1.out _ (F4.out.trans (HB.out.mono F4.out.size)))).mono ?_
    rintro e wn ⟨rfl, hb⟩
    exact hK _ _ rfl hb
  · intro o ho f us wl al ha g hf hdep K hKf
    obtain rfl := Option.some.inj ho
    have hB := g.1
    have hK : ∀ v w', RAl bL bM b4 o4 c4 cx ax 14 v w' → Below wl.heap.size wl w' → K (al.put (some 41) v) w' := fun v w' hv hb => hKf v w' (RAl.put g hb hv)
    have d10 : RAl bL bM b4 o4 c4 cx ax 10 (us 10) wl := g.2 10 (hdep ⟨10, .data⟩ (by simp) rfl)
    have e37 : al.tmps[37]?.getD undef = us 10 := by rw [← Rg.eval_getD, ha]; exact Rg.puts_eval _ _ _ (by rfl) (by simp) (by simp)
    have d13 : RAl bL bM b4 o4 c4 cx ax 13 (us 13) wl := g.2 13 (hdep ⟨13, .data⟩ (by simp) rfl)
    have e40 : al.tmps[40]?.getD undef = us 13 := by rw [← Rg.eval_getD, ha]; exact Rg.puts_eval _ _ _ (by rfl) (by simp) (by simp)
    have f10 : us 10 = .bool true := d10
    have f13 : us 13 = .bool true := d13
    have HB := Lib.hid hB
    clear ha hdep g hf hKf d10 d13 hB
    refine Rg.wpOp_of rfl rfl ?_
    go_simp
    exact hK _ _ rfl (Below.refl _ _)
  · intro o ho f us wl al ha g hf hdep K hKf
    obtain rfl := Option.some.inj ho
    have hB := g.1
    have hK : ∀ v w', RAl bL bM b4 o4 c4 cx ax 15 v w' → Below wl.heap.size wl w' → K (al.put (some 42) v) w' := fun v w' hv hb => hKf v w' (RAl.put g hb hv)
    have d14 : RAl bL bM b4 o4 c4 cx ax 14 (us 14) wl := g.2 14 (hdep ⟨14, .data⟩ (by simp) rfl)
    have e41 : al.tmps[41]?.getD undef = us 14 := by rw [← Rg.eval_getD, ha]; exact Rg.puts_eval _ _ _ (by rfl) (by simp) (by simp)
    have f14 : us 14 = .bool true := d14
    have HB := Lib.hid hB
    clear ha hdep g hf hKf d14 hB
    refine Rg.wpOp_of rfl rfl ?_
    go_simp
    exact hK _ _ rfl (Below.refl _ _)
  · intro o ho f us wl al ha g hf hdep K hKf
    obtain rfl := Option.some.inj ho
    have hB := g.1
    have hK : ∀ v w', RAl bL bM b4 o4 c4 cx ax 16 v w' → Below wl.heap.size wl w' → K (al.put (some 43) v) w' := fun v w' hv hb => hKf v w' (RAl.put g hb hv)
    have e3 : al.tmps[3]?.getD undef = .slice (some ⟨bL, 0, none⟩) 7 7 := by rw [← Rg.eval_getD, ha]; exact (Rg.puts_eval_ne _ _ _ (by rfl)).trans rfl
    have dg : RAl bL bM b4 o4 c4 cx ax 15 (us 15) wl := g.2 15 (hdep ⟨15, .guard⟩ (by simp) rfl)
    have gg : al.eval (.tmp 42) = .bool true := by rw [ha]; exact (Rg.puts_eval _ _ _ (by rfl) (by simp) (by simp)).trans dg
    have HB := Lib.hid hB
    clear ha hdep g hf hKf hB
    refine Rg.wpOp_of rfl (Rg.wanted_of rfl (Rg.yielded_of (d := 42) (by rfl) gg)) ?_
    go_simp
    exact hK _ _ rfl (Below.refl _ _)
  · intro o ho f us wl al ha g hf hdep K hKf
    obtain rfl := Option.some.inj ho
    have hB := g.1
    have hK : ∀ v w', RAl bL bM b4 o4 c4 cx ax 17 v w' → Below wl.heap.size wl w' → K (al.put (some 44) v) w' := fun v w' hv hb => hKf v w' (RAl.put g hb hv)
    have d16 : RAl bL bM b4 o4 c4 cx ax 16 (us 16) wl := g.2 16 (hdep ⟨16, .data⟩ (by simp) rfl)
    have e43 : al.tmps[43]?.getD undef = us 16 := by rw [← Rg.eval_getD, ha]; exact Rg.puts_eval _ _ _ (by rfl) (by simp) (by simp)
    have dg : RAl bL bM b4 o4 c4 cx ax 15 (us 15) wl := g.2 15 (hdep ⟨15, .guard⟩ (by simp) rfl)
    have gg : al.eval (.tmp 42) = .bool true := by rw [ha]; exact (Rg.puts_eval _ _ _ (by rfl) (by simp) (by simp)).trans dg
    have f16 : us 16 = .slice (some ⟨bL, 0, none⟩) 7 7 := d16
    have HB := Lib.hid hB
    clear ha hdep g hf hKf d16 hB
    refine Rg.wpOp_of rfl (Rg.wanted_of rfl (Rg.yielded_of (d := 42) (by rfl) gg)) ?_
    go_simp
    refine (HDL.out _ _ (XL.out _ (F4.out.trans (HB.out.mono F4.out.size)))).mono ?_
    rintro e wn ⟨rfl, hb⟩
    exact hK _ _ rfl hb
  · intro o ho f us wl al ha g hf hdep K hKf
    obtain rfl := Option.some.inj ho
    have hB := g.1
    have hK : ∀ v w', RAl bL bM b4 o4 c4 cx ax 18 v w' → Below wl.heap.size wl w' → K (al.put (some 45) v) w' := fun v w' hv hb => hKf v w' (RAl.put g hb hv)
    have d17 : RAl bL bM b4 o4 c4 cx ax 17 (us 17) wl := g.2 17 (hdep ⟨17, .data⟩ (by simp) rfl)
    have e44 : al.tmps[44]?.getD undef = us 17 := by rw [← Rg.eval_getD, ha]; exact Rg.puts_eval _ _ _ (by rfl) (by simp) (by simp)
    have dg : RAl bL bM b4 o4 c4 cx ax 15 (us 15) wl := g.2 15 (hdep ⟨15, .guard⟩ (by simp) rfl)
    have gg : al.eval (.tmp 42) = .bool true := by rw [ha]; exact (Rg.puts_eval _ _ _ (by rfl) (by simp) (by simp)).trans dg
    have f17 : us 17 = .bool false := d17
    have HB := Lib.hid hB
    clear ha hdep g hf hKf d17 hB
    refine Rg.wpOp_of rfl (Rg.wanted_of rfl (Rg.yielded_of (d := 42) (by rfl) gg)) ?_
    go_simp
    exact hK _ _ rfl (Below.refl _ _)
  · intro o ho f us wl al ha g hf hdep K hKf
    obtain rfl := Option.some.inj ho
    have hB := g.1
    have hK : ∀ v w', RAl bL bM b4 o4 c4 cx ax 19 v w' → Below wl.heap.size wl w' → K (al.put (some 46) v) w' := fun v w' hv hb => hKf v w' (RAl.put g hb hv)
    have d15 : RAl bL bM b4 o4 c4 cx ax 15 (us 15) wl := g.2 15 (hdep ⟨15, .data⟩ (by simp) rfl)
    have e42 : al.tmps[42]?.getD undef = us 15 := by rw [← Rg.eval_getD, ha]; exact Rg.puts_eval _ _ _ (by rfl) (by simp) (by simp)
    have d18 : RAl bL bM b4 o4 c4 cx ax 18 (us 18) wl := g.2 18 (hdep ⟨18, .data⟩ (by simp) rfl)
    have e45 : al.tmps[45]?.getD undef = us 18 := by rw [← Rg.eval_getD, ha]; exact Rg.puts_eval _ _ _ (by rfl) (by simp) (by simp)
    have f15 : us 15 = .bool true := d15
    have f18 : us 18 = .bool true := d18
    have HB := Lib.hid hB
    clear ha hdep g hf hKf d15 d18 hB
    refine Rg.wpOp_of rfl rfl ?_
    go_simp
    exact hK _ _ rfl (Below.refl _ _)
  · intro o ho f us wl al ha g hf hdep K hKf
    obtain rfl := Option.some.inj ho
    have hB := g.1
    have hK : ∀ v w', RAl bL bM b4 o4 c4 cx ax 20 v w' → Below wl.heap.size wl w' → K (al.put (some 47) v) w' := fun v w' hv hb => hKf v w' (RAl.put g hb hv)
    have d19 : RAl bL bM b4 o4 c4 cx ax 19 (us 19) wl := g.2 19 (hdep ⟨19, .data⟩ (by simp) rfl)
    have e46 : al.tmps[46]?.getD undef = us 19 := by rw [← Rg.eval_getD, ha]; exact Rg.puts_eval _ _ _ (by rfl) (by simp) (by simp)
    have f19 : us 19 = .bool true := d19
    have HB := Lib.hid hB
    clear ha hdep g hf hKf d19 hB
    refine Rg.wpOp_of rfl rfl ?_
    go_simp
    exact hK _ _ rfl (Below.refl _ _)
  · intro o ho f us wl al ha g hf hdep K hKf
    obtain rfl := Option.some.inj ho
    have hB := g.1
    have hK : ∀ v w', RAl bL bM b4 o4 c4 cx ax 21 v w' → Below wl.heap.size wl w' → K (al.put (some 48) v) w' := fun v w' hv hb => hKf v w' (RAl.put g hb hv)
    have e4 : al.tmps[4]?.getD undef = .slice (some ⟨bM, 0, none⟩) 8 8 := by rw [← Rg.eval_getD, ha]; exact (Rg.puts_eval_ne _ _ _ (by rfl)).trans rfl
    have dg : RAl bL bM b4 o4 c4 cx ax 20 (us 20) wl := g.2 20 (hdep ⟨20, .guard⟩ (by simp) rfl)
    have gg : al.eval (.tmp 47) = .bool true := by rw [ha]; exact (Rg.puts_eval _ _ _ (by rfl) (by simp) (by simp)).trans dg
    have HB := Lib.hid hB
    clear ha hdep g hf hKf hB
    refine Rg.wpOp_of rfl (Rg.wanted_of rfl (Rg.yielded_of (d := 47) (by rfl) gg)) ?_
    go_simp
    exact hK _ _ rfl (Below.refl _ _)
  · intro o ho f us wl al ha g hf hdep K hKf
    obtain rfl := Option.some.inj ho
    have hB := g.1
    have hK : ∀ v w', RAl bL bM b4 o4 c4 cx ax 22 v w' → Below wl.heap.size wl w' → K (al.put (some 49) v) w' := fun v w' hv hb => hKf v w' (RAl.put g hb hv)
    have d21 : RAl bL bM b4 o4 c4 cx ax 21 (us 21) wl := g.2 21 (hdep ⟨21, .data⟩ (by simp) rfl)
    have e48 : al.tmps[48]?.getD undef = us 21 := by rw [← Rg.eval_getD, ha]; exact Rg.puts_eval _ _ _ (by rfl) (by simp) (by simp)
    have dg : RAl bL bM b4 o4 c4 cx ax 20 (us 20) wl := g.2 20 (hdep ⟨20, .guard⟩ (by simp) rfl)
    have gg : al.eval (.tmp 47) = .bool true := by rw [ha]; exact (Rg.puts_eval _ _ _ (by rfl) (by simp) (by simp)).trans dg
    have f21 : us 21 = .slice (some ⟨bM, 0, none⟩) 8 8 := d21
    have HB := Lib.hid hB
    clear ha hdep g hf hKf d21 hB
    refine Rg.wpOp_of rfl (Rg.wanted_of rfl (Rg.yielded_of (d := 47) (by rfl) gg)) ?_
    go_simp
    exact hK _ _ rfl (Below.refl _ _)
  · intro o ho f us wl al ha g hf hdep K hKf
    obtain rfl := Option.some.inj ho
    have hB := g.1
    have hK : ∀ v w', RAl bL bM b4 o4 c4 cx ax 23 v w' → Below wl.heap.size wl w' → K (al.put (some 50) v) w' := fun v w' hv hb => hKf v w' (RAl.put g hb hv)
    have d22 : RAl bL bM b4 o4 c4 cx ax 22 (us 22) wl := g.2 22 (hdep ⟨22, .data⟩ (by simp) rfl)
    have e49 : al.tmps[49]?.getD undef = us 22 := by rw [← Rg.eval_getD, ha]; exact Rg.puts_eval _ _ _ (by rfl) (by simp) (by simp)
    have dg : RAl bL bM b4 o4 c4 cx ax 20 (us 20) wl := g.2 20 (hdep ⟨20, .guard⟩ (by simp) rfl)
    have gg : al.eval (.tmp 47) = .bool true := by rw [ha]; exact (Rg.puts_eval _ _ _ (by rfl) (by simp) (by simp)).trans dg
    have f22 : us 22 = .slice (some ⟨bM, 3, none⟩) 7 7 := d22
    have HB := Lib.hid hB
    clear ha hdep g hf hKf d22 hB
    refine Rg.wpOp_of rfl (Rg.wanted_of rfl (Rg.yielded_of (d := 47) (by rfl) gg)) ?_
    go_simp
    refine (HDM1.out _ _ (XM1.out _ (F4.out.trans (HB.out.mono F4.out.size)))).mono ?_
    rintro e wn ⟨rfl, hb⟩
    exact hK _ _ rfl hb
  · intro o ho f us wl al ha g hf hdep K hKf
    obtain rfl := Option.some.inj ho
    have hB := g.1
    have hK : ∀ v w', RAl bL bM b4 o4 c4 cx ax 24 v w' → Below wl.heap.size wl w' → K (al.put (some 51) v) w' := fun v w' hv hb => hKf v w' (RAl.put g hb hv)
    have d23 : RAl bL bM b4 o4 c4 cx ax 23 (us 23) wl := g.2 23 (hdep ⟨23, .data⟩ (by simp) rfl)
    have e50 : al.tmps[50]?.getD undef = us 23 := by rw [← Rg.eval_getD, ha]; exact Rg.puts_eval _ _ _ (by rfl) (by simp) (by simp)
    have dg : RAl bL bM b4 o4 c4 cx ax 20 (us 20) wl := g.2 20 (hdep ⟨20, .guard⟩ (by simp) rfl)
    have gg : al.eval (.tmp 47) = .bool true := by rw [ha]; exact (Rg.puts_eval _ _ _ (by rfl) (by simp) (by simp)).trans dg
    have f23 : us 23 = .bool false := d23
    have HB := Lib.hid hB
    clear ha hdep g hf hKf d23 hB
    refine Rg.wpOp_of rfl (Rg.wanted_of rfl (Rg.yielded_of (d := 47) (by rfl) gg)) ?_
    go_simp
    exact hK _ _ rfl (Below.refl _ _)
  · intro o ho f us wl al ha g hf hdep K hKf
    obtain rfl := Option.some.inj ho
    have hB := g.1
    have hK : ∀ v w', RAl bL bM b4 o4 c4 cx ax 25 v w' → Below wl.heap.size wl w' → K (al.put (some 52) v) w' := fun v w' hv hb => hKf v w' (RAl.put g hb hv)
    have d20 : RAl bL bM b4 o4 c4 cx ax 20 (us 20) wl := g.2 20 (hdep ⟨20, .data⟩ (by simp) rfl)
    have e47 : al.tmps[47]?.getD undef = us 20 := by rw [← Rg.eval_getD, ha]; exact Rg.puts_eval _ _ _ (by rfl) (by simp) (by simp)
    have d24 : RAl bL bM b4 o4 c4 cx ax 24 (us 24) wl := g.2 24 (hdep ⟨24, .data⟩ (by simp) rfl)
    have e51 : al.tmps[51]?.getD undef = us 24 := by rw [← Rg.eval_getD, ha]; exact Rg.puts_eval _ _ _ (by rfl) (by simp) (by simp)
    have f20 : us 20 = .bool true := d20
    have f24 : us 24 = .bool true := d24
    have HB := Lib.hid hB
    clear ha hdep g hf hKf d20 d24 hB
    refine Rg.wpOp_of rfl rfl ?_
    go_simp
    exact hK _ _ rfl (Below.refl _ _)
  · intro o ho f us wl al ha g hf hdep K hKf
    obtain rfl := Option.some.inj ho
    have hB := g.1
    have hK : ∀ v w', RAl bL bM b4 o4 c4 cx ax 26 v w' → Below wl.heap.size wl w' → K (al.put (some 53) v) w' := fun v w' hv hb => hKf v w' (RAl.put g hb hv)
    have d25 : RAl bL bM b4 o4 c4 cx ax 25 (us 25) wl := g.2 25 (hdep ⟨25, .data⟩ (by simp) rfl)
    have e52 : al.tmps[52]?.getD undef = us 25 := by rw [← Rg.eval_getD, ha]; exact Rg.puts_eval _ _ _ (by rfl) (by simp) (by simp)
    have f25 : us 25 = .bool true := d25
    have HB := Lib.hid hB
    clear ha hdep g hf hKf d25 hB
    refine Rg.wpOp_of rfl rfl ?_
    go_simp
    exact hK _ _ rfl (Below.refl _ _)
  · intro o ho f us wl al ha g hf hdep K hKf
    obtain rfl := Option.some.inj ho
    have hB := g.1
    have hK : ∀ v w', RAl bL bM b4 o4 c4 cx ax 27 v w' → Below wl.heap.size wl w' → K (al.put (some 54) v) w' := fun v w' hv hb => hKf v w' (RAl.put g hb hv)
    have e5 : al.tmps[5]?.getD undef = .slice (some ⟨b4, o4, none⟩) 1 c4 := by rw [← Rg.eval_getD, ha]; exact (Rg.puts_eval_ne _ _ _ (by rfl)).trans rfl
    have dg : RAl bL bM b4 o4 c4 cx ax 26 (us 26) wl := g.2 26 (hdep ⟨26, .guard⟩ (by simp) rfl)
    have gg : al.eval (.tmp 53) = .bool true := by rw [ha]; exact (Rg.puts_eval _ _ _ (by rfl) (by simp) (by simp)).trans dg
    have HB := Lib.hid hB
    clear ha hdep g hf hKf hB
    refine Rg.wpOp_of rfl (Rg.wanted_of rfl (Rg.yielded_of (d := 53) (by rfl) gg)) ?_
    go_simp
    exact hK _ _ rfl (Below.refl _ _)
  · intro o ho f us wl al ha g hf hdep K hKf
    obtain rfl := Option.some.inj ho
    have hB := g.1
    have hK : ∀ v w', RAl bL bM b4 o4 c4 cx ax 28 v w' → Below wl.heap.size wl w' → K (al.put (some 55) v) w' := fun v w' hv hb => hKf v w' (RAl.put g hb hv)
    have d27 : RAl bL bM b4 o4 c4 cx ax 27 (us 27) wl := g.2 27 (hdep ⟨27, .data⟩ (by simp) rfl)
    have e54 : al.tmps[54]?.getD undef = us 27 := by rw [← Rg.eval_getD, ha]; exact Rg.puts_eval _ _ _ (by rfl) (by simp) (by simp)
    have dg : RAl bL bM b4 o4 c4 cx ax 26 (us 26) wl := g.2 26 (hdep ⟨26, .guard⟩ (by simp) rfl)
    have gg : al.eval (.tmp 53) = .bool true := by rw [ha]; exact (Rg.puts_eval _ _ _ (by rfl) (by simp) (by simp)).trans dg
    have f27 : us 27 = .slice (some ⟨b4, o4, none⟩) 1 c4 := d27
    have HB := Lib.hid hB
    clear ha hdep g hf hKf d27 hB
    refine Rg.wpOp_of rfl (Rg.wanted_of rfl (Rg.yielded_of (d := 53) (by rfl) gg)) ?_
    go_simp
    exact hK _ _ rfl (Below.refl _ _)
  · intro o ho f us wl al ha g hf hdep K hKf
    obtain rfl := Option.some.inj ho
    have hB := g.1
    have hK : ∀ v w', RAl bL bM b4 o4 c4 cx ax 29 v w' → Below wl.heap.size wl w' → K (al.put (some 56) v) w' := fun v w' hv hb => hKf v w' (RAl.put g hb hv)
    have d28 : RAl bL bM b4 o4 c4 cx ax 28 (us 28) wl := g.2 28 (hdep ⟨28, .data⟩ (by simp) rfl)
    have e55 : al.tmps[55]?.getD undef = us 28 := by rw [← Rg.eval_getD, ha]; exact Rg.puts_eval _ _ _ (by rfl) (by simp) (by simp)
    have dg : RAl bL bM b4 o4 c4 cx ax 26 (us 26) wl := g.2 26 (hdep ⟨26, .guard⟩ (by simp) rfl)
    have gg : al.eval (.tmp 53) = .bool true := by rw [ha]; exact (Rg.puts_eval _ _ _ (by rfl) (by simp) (by simp)).trans dg
    have f28 : us 28 = .int .i64 1 := d28
    have HB := Lib.hid hB
    clear ha hdep g hf hKf d28 hB
    refine Rg.wpOp_of rfl (Rg.wanted_of rfl (Rg.yielded_of (d := 53) (by rfl) gg)) ?_
    go_simp
    exact hK _ _ rfl (Below.refl _ _)
  · intro o ho f us wl al ha g hf hdep K hKf
    obtain rfl := Option.some.inj ho
    have hB := g.1
    have hK : ∀ v w', RAl bL bM b4 o4 c4 cx ax 30 v w' → Below wl.heap.size wl w' → K (al.put (some 57) v) w' := fun v w' hv hb => hKf v w' (RAl.put g hb hv)
    have d26 : RAl bL bM b4 o4 c4 cx ax 26 (us 26) wl := g.2 26 (hdep ⟨26, .data⟩ (by simp) rfl)
    have e53 : al.tmps[53]?.getD undef = us 26 := by rw [← Rg.eval_getD, ha]; exact Rg.puts_eval _ _ _ (by rfl) (by simp) (by simp)
    have d29 : RAl bL bM b4 o4 c4 cx ax 29 (us 29) wl := g.2 29 (hdep ⟨29, .data⟩ (by simp) rfl)
    have e56 : al.tmps[56]?.getD undef = us 29 := by rw [← Rg.eval_getD, ha]; exact Rg.puts_eval _ _ _ (by rfl) (by simp) (by simp)
    have f26 : us 26 = .bool true := d26
    have f29 : us 29 = .bool true := d29
    have HB := Lib.hid hB
    clear ha hdep g hf hKf d26 d29 hB
    refine Rg.wpOp_of rfl rfl ?_
    go_simp
    exact hK _ _ rfl (Below.refl _ _)
  · intro o ho f us wl al ha g hf hdep K hKf
    obtain rfl := Option.some.inj ho
    have hB := g.1
    have hK : ∀ v w', RAl bL bM b4 o4 c4 cx ax 31 v w' → Below wl.heap.size wl w' → K (al.put (some 58) v) w' := fun v w' hv hb => hKf v w' (RAl.put g hb hv)
    have d30 : RAl bL bM b4 o4 c4 cx ax 30 (us 30) wl := g.2 30 (hdep ⟨30, .data⟩ (by simp) rfl)
    have e57 : al.tmps[57]?.getD undef = us 30 := by rw [← Rg.eval_getD, ha]; exact Rg.puts_eval _ _ _ (by rfl) (by simp) (by simp)
    have f30 : us 30 = .bool true := d30
    have HB := Lib.hid hB
    clear ha hdep g hf hKf d30 hB
    refine Rg.wpOp_of rfl rfl ?_
    go_simp
    exact hK _ _ rfl (Below.refl _ _)
  · intro o ho f us wl al ha g hf hdep K hKf
    obtain rfl := Option.some.inj ho
    have hB := g.1
    have hK : ∀ v w', RAl bL bM b4 o4 c4 cx ax 32 v w' → Below wl.heap.size wl w' → K (al.put (some 59) v) w' := fun v w' hv hb => hKf v w' (RAl.put g hb hv)
    have e5 : al.tmps[5]?.getD undef = .slice (some ⟨b4, o4, none⟩) 1 c4 := by rw [← Rg.eval_getD, ha]; exact (Rg.puts_eval_ne _ _ _ (by rfl)).trans rfl
    have dg : RAl bL bM b4 o4 c4 cx ax 31 (us 31) wl := g.2 31 (hdep ⟨31, .guard⟩ (by simp) rfl)
    have gg : al.eval (.tmp 58) = .bool true := by rw [ha]; exact (Rg.puts_eval _ _ _ (by rfl) (by simp) (by simp)).trans dg
    have HB := Lib.hid hB
    clear ha hdep g hf hKf hB
    refine Rg.wpOp_of rfl (Rg.wanted_of rfl (Rg.yielded_of (d := 58) (by rfl) gg)) ?_
    go_simp
    exact hK _ _ rfl (Below.refl _ _)
  · intro o ho f us wl al ha g hf hdep K hKf
    obtain rfl := Option.some.inj ho
    have hB := g.1
    have hK : ∀ v w', RAl bL bM b4 o4 c4 cx ax 33 v w' → Below wl.heap.size wl w' → K (al.put (some 60) v) w' := fun v w' hv hb => hKf v w' (RAl.put g hb hv)
    have d32 : RAl bL bM b4 o4 c4 cx ax 32 (us 32) wl := g.2 32 (hdep ⟨32, .data⟩ (by simp) rfl)
    have e59 : al.tmps[59]?.getD undef = us 32 := by rw [← Rg.eval_getD, ha]; exact Rg.puts_eval _ _ _ (by rfl) (by simp) (by simp)
    have dg : RAl bL bM b4 o4 c4 cx ax 31 (us 31) wl := g.2 31 (hdep ⟨31, .guard⟩ (by simp) rfl)
    have gg : al.eval (.tmp 58) = .bool true := by rw [ha]; exact (Rg.puts_eval _ _ _ (by rfl) (by simp) (by simp)).trans dg
    have f32 : us 32 = .slice (some ⟨b4, o4, none⟩) 1 c4 := d32
    have HB := Lib.hid hB
    clear ha hdep g hf hKf d32 hB
    refine Rg.wpOp_of rfl (Rg.wanted_of rfl (Rg.yielded_of (d := 58) (by rfl) gg)) ?_
    go_simp
    exact hK _ _ rfl (Below.refl _ _)
  · intro o ho f us wl al ha g hf hdep K hKf
    obtain rfl := Option.some.inj ho
    have hB := g.1
    have hK : ∀ v w', RAl bL bM b4 o4 c4 cx ax 34 v w' → Below wl.heap.size wl w' → K (al.put (some 61) v) w' := fun v w' hv hb => hKf v w' (RAl.put g hb hv)
    have d33 : RAl bL bM b4 o4 c4 cx ax 33 (us 33) wl := g.2 33 (hdep ⟨33, .data⟩ (by simp) rfl)
    have e60 : al.tmps[60]?.getD undef = us 33 := by rw [← Rg.eval_getD, ha]; exact Rg.puts_eval _ _ _ (by rfl) (by simp) (by simp)
    have dg : RAl bL bM b4 o4 c4 cx ax 31 (us 31) wl := g.2 31 (hdep ⟨31, .guard⟩ (by simp) rfl)
    have gg : al.eval (.tmp 58) = .bool true := by rw [ha]; exact (Rg.puts_eval _ _ _ (by rfl) (by simp) (by simp)).trans dg
    have f33 : us 33 = .pointer (some ⟨b4, o4, none⟩) := d33
    have c0 := (R4.out _ hB).1
    have HB := Lib.hid hB
    clear ha hdep g hf hKf d33 hB
    refine Rg.wpOp_of rfl (Rg.wanted_of rfl (Rg.yielded_of (d := 58) (by rfl) gg)) ?_
    go_simp
    exact hK _ _ rfl (Below.refl _ _)
  · intro o ho f us wl al ha g hf hdep K hKf
    obtain rfl := Option.some.inj ho
    have hB := g.1
    have hK : ∀ v w', RAl bL bM b4 o4 c4 cx ax 35 v w' → Below wl.heap.size wl w' → K (al.put (some 62) v) w' := fun v w' hv hb => hKf v w' (RAl.put g hb hv)
    have e3 : al.tmps[3]?.getD undef = .slice (some ⟨bL, 0, none⟩) 7 7 := by rw [← Rg.eval_getD, ha]; exact (Rg.puts_eval_ne _ _ _ (by rfl)).trans rfl
    have dg : RAl bL bM b4 o4 c4 cx ax 31 (us 31) wl := g.2 31 (hdep ⟨31, .guard⟩ (by simp) rfl)
    have gg : al.eval (.tmp 58) = .bool true := by rw [ha]; exact (Rg.puts_eval _ _ _ (by rfl) (by simp) (by simp)).trans dg
    have HB := Lib.hid hB
    clear ha hdep g hf hKf hB
    refine Rg.wpOp_of rfl (Rg.wanted_of rfl (Rg.yielded_of (d := 58) (by rfl) gg)) ?_
    go_simp
    exact hK _ _ rfl (Below.refl _ _)
  · intro o ho f us wl al ha g hf hdep K hKf
    obtain rfl := Option.some.inj ho
    have hB := g.1
    have hK : ∀ v w', RAl bL bM b4 o4 c4 cx ax 36 v w' → Below wl.heap.size wl w' → K (al.put (some 63) v) w' := fun v w' hv hb => hKf v w' (RAl.put g hb hv)
    have d35 : RAl bL bM b4 o4 c4 cx ax 35 (us 35) wl := g.2 35 (hdep ⟨35, .data⟩ (by simp) rfl)
    have e62 : al.tmps[62]?.getD undef = us 35 := by rw [← Rg.eval_getD, ha]; exact Rg.puts_eval _ _ _ (by rfl) (by simp) (by simp)
    have dg : RAl bL bM b4 o4 c4 cx ax 31 (us 31) wl := g.2 31 (hdep ⟨31, .guard⟩ (by simp) rfl)
    have gg : al.eval (.tmp 58) = .bool true := by rw [ha]; exact (Rg.puts_eval _ _ _ (by rfl) (by simp) (by simp)).trans dg
    have f35 : us 35 = .slice (some ⟨bL, 0, none⟩) 7 7 := d35
    have HB := Lib.hid hB
    clear ha hdep g hf hKf d35 hB
    refine Rg.wpOp_of rfl (Rg.wanted_of rfl (Rg.yielded_of (d := 58) (by rfl) gg)) ?_
    go_simp
    exact hK _ _ rfl (Below.refl _ _)
  · intro o ho f us wl al ha g hf hdep K hKf
    obtain rfl := Option.some.inj ho
    have hB := g.1
    have hK : ∀ v w', RAl bL bM b4 o4 c4 cx ax 37 v w' → Below wl.heap.size wl w' → K (al.put (some 64) v) w' := fun v w' hv hb => hKf v w' (RAl.put g hb hv)
    have d34 : RAl bL bM b4 o4 c4 cx ax 34 (us 34) wl := g.2 34 (hdep ⟨34, .data⟩ (by simp) rfl)
    have e61 : al.tmps[61]?.getD undef = us 34 := by rw [← Rg.eval_getD, ha]; exact Rg.puts_eval _ _ _ (by rfl) (by simp) (by simp)
    have d36 : RAl bL bM b4 o4 c4 cx ax 36 (us 36) wl := g.2 36 (hdep ⟨36, .data⟩ (by simp) rfl)
    have e63 : al.tmps[63]?.getD undef = us 36 := by rw [← Rg.eval_getD, ha]; exact Rg.puts_eval _ _ _ (by rfl) (by simp) (by simp)
    have dg : RAl bL bM b4 o4 c4 cx ax 31 (us 31) wl := g.2 31 (hdep ⟨31, .guard⟩ (by simp) rfl)
    have gg : al.eval (.tmp 58) = .bool true := by rw [ha]; exact (Rg.puts_eval _ _ _ (by rfl) (by simp) (by simp)).trans dg
    have f34 : us 34 = .slice ax 2 cx := d34
    have f36 : us 36 = .slice (some ⟨bL, 15, none⟩) 2 2 := d36
    have HB := Lib.hid hB
    clear ha hdep g hf hKf d34 d36 hB
    refine Rg.wpOp_of rfl (Rg.wanted_of rfl (Rg.yielded_of (d := 58) (by rfl) gg)) ?_
    go_simp
    refine (sameR_any _ _ (flat tE) (flat tE) _ (R4.out _ HB.out).2 (XL5.out _ (F4.out.trans (HB.out.mono F4.out.size))) (by decide)).mono ?_
    rw [show sameN (flat tE) (flat tE) = true from decide_eq_true rfl]
    rintro e wn ⟨rfl, hb⟩
    exact hK _ _ rfl hb
  · intro o ho f us wl al ha g hf hdep K hKf
    obtain rfl := Option.some.inj ho
    have hB := g.1
    have hK : ∀ v w', RAl bL bM b4 o4 c4 cx ax 38 v w' → Below wl.heap.size wl w' → K (al.put (some 65) v) w' := fun v w' hv hb => hKf v w' (RAl.put g hb hv)
    have d31 : RAl bL bM b4 o4 c4 cx ax 31 (us 31) wl := g.2 31 (hdep ⟨31, .data⟩ (by simp) rfl)
    have e58 : al.tmps[58]?.getD undef = us 31 := by rw [← Rg.eval_getD, ha]; exact Rg.puts_eval _ _ _ (by rfl) (by simp) (by simp)
    have d37 : RAl bL bM b4 o4 c4 cx ax 37 (us 37) wl := g.2 37 (hdep ⟨37, .data⟩ (by simp) rfl)
    have e64 : al.tmps[64]?.getD undef = us 37 := by rw [← Rg.eval_getD, ha]; exact Rg.puts_eval _ _ _ (by rfl) (by simp) (by simp)
    have f31 : us 31 = .bool true := d31
    have f37 : us 37 = .bool true := d37
    have HB := Lib.hid hB
    clear ha hdep g hf hKf d31 d37 hB
    refine Rg.wpOp_of rfl rfl ?_
    go_simp
    exact hK _ _ rfl (Below.refl _ _)
  · intro o ho f us wl al ha g hf hdep K hKf
    obtain rfl := Option.some.inj ho
    have hB := g.1
    have hK : ∀ v w', RAl bL bM b4 o4 c4 cx ax 39 v w' → Below wl.heap.size wl w' → K (al.put (some 66) v) w' := fun v w' hv hb => hKf v w' (RAl.put g hb hv)
    have d38 : RAl bL bM b4 o4 c4 cx ax 38 (us 38) wl := g.2 38 (hdep ⟨38, .data⟩ (by simp) rfl)
    have e65 : al.tmps[65]?.getD undef = us 38 := by rw [← Rg.eval_getD, ha]; exact Rg.puts_eval _ _ _ (by rfl) (by simp) (by simp)
    have f38 : us 38 = .bool true := d38
    have HB := Lib.hid hB
    clear ha hdep g hf hKf d38 hB
    refine Rg.wpOp_of rfl rfl ?_
    go_simp
    exact hK _ _ rfl (Below.refl _ _)
  · intro o ho f us wl al ha g hf hdep K hKf
    obtain rfl := Option.some.inj ho
    have hB := g.1
    have hK : ∀ v w', RAl bL bM b4 o4 c4 cx ax 40 v w' → Below wl.heap.size wl w' → K (al.put (some 67) v) w' := fun v w' hv hb => hKf v w' (RAl.put g hb hv)
    have e3 : al.tmps[3]?.getD undef = .slice (some ⟨bL, 0, none⟩) 7 7 := by rw [← Rg.eval_getD, ha]; exact (Rg.puts_eval_ne _ _ _ (by rfl)).trans rfl
    have dg : RAl bL bM b4 o4 c4 cx ax 39 (us 39) wl := g.2 39 (hdep ⟨39, .guard⟩ (by simp) rfl)
    have gg : al.eval (.tmp 66) = .bool true := by rw [ha]; exact (Rg.puts_eval _ _ _ (by rfl) (by simp) (by simp)).trans dg
    have HB := Lib.hid hB
    clear ha hdep g hf hKf hB
    refine Rg.wpOp_of rfl (Rg.wanted_of rfl (Rg.yielded_of (d := 66) (by rfl) gg)) ?_
    go_simp
    exact hK _ _ rfl (Below.refl _ _)
  · intro o ho f us wl al ha g hf hdep K hKf
    obtain rfl := Option.some.inj ho
    have hB := g.1
    have hK : ∀ v w', RAl bL bM b4 o4 c4 cx ax 41 v w' → Below wl.heap.size wl w' → K (al.put (some 68) v) w' := fun v w' hv hb => hKf v w' (RAl.put g hb hv)
    have d40 : RAl bL bM b4 o4 c4 cx ax 40 (us 40) wl := g.2 40 (hdep ⟨40, .data⟩ (by simp) rfl)
    have e67 : al.tmps[67]?.getD undef = us 40 := by rw [← Rg.eval_getD, ha]; exact Rg.puts_eval _ _ _ (by rfl) (by simp) (by simp)
    have dg : RAl bL bM b4 o4 c4 cx ax 39 (us 39) wl := g.2 39 (hdep ⟨39, .guard⟩ (by simp) rfl)
    have gg : al.eval (.tmp 66) = .bool true := by rw [ha]; exact (Rg.puts_eval _ _ _ (by rfl) (by simp) (by simp)).trans dg
    have f40 : us 40 = .slice (some ⟨bL, 0, none⟩) 7 7 := d40
    have HB := Lib.hid hB
    clear ha hdep g hf hKf d40 hB
    refine Rg.wpOp_of rfl (Rg.wanted_of rfl (Rg.yielded_of (d := 66) (by rfl) gg)) ?_
    go_simp
    refine (HFL.out _ _ (XL.out _ (F4.out.trans (HB.out.mono F4.out.size)))).mono ?_
    rintro e wn ⟨rfl, hb⟩
    exact hK _ _ rfl hb
  · intro o ho f us wl al ha g hf hdep K hKf
    obtain rfl := Option.some.inj ho
    have hB := g.1
    have hK : ∀ v w', RAl bL bM b4 o4 c4 cx ax 42 v w' → Below wl.heap.size wl w' → K (al.put (some 69) v) w' := fun v w' hv hb => hKf v w' (RAl.put g hb hv)
    have d39 : RAl bL bM b4 o4 c4 cx ax 39 (us 39) wl := g.2 39 (hdep ⟨39, .data⟩ (by simp) rfl)
    have e66 : al.tmps[66]?.getD undef = us 39 := by rw [← Rg.eval_getD, ha]; exact Rg.puts_eval _ _ _ (by rfl) (by simp) (by simp)
    have d41 : RAl bL bM b4 o4 c4 cx ax 41 (us 41) wl := g.2 41 (hdep ⟨41, .data⟩ (by simp) rfl)
    have e68 : al.tmps[68]?.getD undef = us 41 := by rw [← Rg.eval_getD, ha]; exact Rg.puts_eval _ _ _ (by rfl) (by simp) (by simp)
    have f39 : us 39 = .bool true := d39
    have f41 : us 41 = .bool true := d41
    have HB := Lib.hid hB
    clear ha hdep g hf hKf d39 d41 hB
    refine Rg.wpOp_of rfl rfl ?_
    go_simp
    exact hK _ _ rfl (Below.refl _ _)
  · intro o ho f us wl al ha g hf hdep K hKf
    obtain rfl := Option.some.inj ho
    have hB := g.1
    have hK : ∀ v w', RAl bL bM b4 o4 c4 cx ax 43 v w' → Below wl.heap.size wl w' → K (al.put (some 70) v) w' := fun v w' hv hb => hKf v w' (RAl.put g hb hv)
    have d42 : RAl bL bM b4 o4 c4 cx ax 42 (us 42) wl := g.2 42 (hdep ⟨42, .data⟩ (by simp) rfl)
    have e69 : al.tmps[69]?.getD undef = us 42 := by rw [← Rg.eval_getD, ha]; exact Rg.puts_eval _ _ _ (by rfl) (by simp) (by simp)
    have f42 : us 42 = .bool true := d42
    have HB := Lib.hid hB
    clear ha hdep g hf hKf d42 hB
    refine Rg.wpOp_of rfl rfl ?_
    go_simp
    exact hK _ _ rfl (Below.refl _ _)
  · intro o ho f us wl al ha g hf hdep K hKf
    obtain rfl := Option.some.inj ho
    have hB := g.1
    have hK : ∀ v w', RAl bL bM b4 o4 c4 cx ax 44 v w' → Below wl.heap.size wl w' → K (al.put (some 71) v) w' := fun v w' hv hb => hKf v w' (RAl.put g hb hv)
    have e4 : al.tmps[4]?.getD undef = .slice (some ⟨bM, 0, none⟩) 8 8 := by rw [← Rg.eval_getD, ha]; exact (Rg.puts_eval_ne _ _ _ (by rfl)).trans rfl
    have dg : RAl bL bM b4 o4 c4 cx ax 43 (us 43) wl := g.2 43 (hdep ⟨43, .guard⟩ (by simp) rfl)
    have gg : al.eval (.tmp 70) = .bool true := by rw [ha]; exact (Rg.puts_eval _ _ _ (by rfl) (by simp) (by simp)).trans dg
    have HB := Lib.hid hB
    clear ha hdep g hf hKf hB
    refine Rg.wpOp_of rfl (Rg.wanted_of rfl (Rg.yielded_of (d := 70) (by rfl) gg)) ?_
    go_simp
    exact hK _ _ rfl (Below.refl _ _)
  · intro o ho f us wl al ha g hf hdep K hKf
    obtain rfl := Option.some.inj ho
    have hB := g.1
    have hK : ∀ v w', RAl bL bM b4 o4 c4 cx ax 45 v w' → Below wl.heap.size wl w' → K (al.put (some 72) v) w' := fun v w' hv hb => hKf v w' (RAl.put g hb hv)
    have d44 : RAl bL bM b4 o4 c4 cx ax 44 (us 44) wl := g.2 44 (hdep ⟨44, .data⟩ (by simp) rfl)
    have e71 : al.tmps[71]?.getD undef = us 44 := by rw [← Rg.eval_getD, ha]; exact Rg.puts_eval _ _ _ (by rfl) (by simp) (by simp)
    have dg : RAl bL bM b4 o4 c4 cx ax 43 (us 43) wl := g.2 43 (hdep ⟨43, .guard⟩ (by simp) rfl)
    have gg : al.eval (.tmp 70) = .bool true := by rw [ha]; exact (Rg.puts_eval _ _ _ (by rfl) (by simp) (by simp)).trans dg
    have f44 : us 44 = .slice (some ⟨bM, 0, none⟩) 8 8 := d44
    have HB := Lib.hid hB
    clear ha hdep g hf hKf d44 hB
    refine Rg.wpOp_of rfl (Rg.wanted_of rfl (Rg.yielded_of (d := 70) (by rfl) gg)) ?_
    go_simp
    refine (HFM.out _ _ (XM.out _ (F4.out.trans (HB.out.mono F4.out.size)))).mono ?_
    rintro e wn ⟨rfl, hb⟩
    exact hK _ _ rfl hb
  · intro o ho f us wl al ha g hf hdep K hKf
    obtain rfl := Option.some.inj ho
    have hB := g.1
    have hK : ∀ v w', RAl bL bM b4 o4 c4 cx ax 46 v w' → Below wl.heap.size wl w' → K (al.put (some 73) v) w' := fun v w' hv hb => hKf v w' (RAl.put g hb hv)
    have d45 : RAl bL bM b4 o4 c4 cx ax 45 (us 45) wl := g.2 45 (hdep ⟨45, .data⟩ (by simp) rfl)
    have e72 : al.tmps[72]?.getD undef = us 45 := by rw [← Rg.eval_getD, ha]; exact Rg.puts_eval _ _ _ (by rfl) (by simp) (by simp)
    have dg : RAl bL bM b4 o4 c4 cx ax 43 (us 43) wl := g.2 43 (hdep ⟨43, .guard⟩ (by simp) rfl)
    have gg : al.eval (.tmp 70) = .bool true := by rw [ha]; exact (Rg.puts_eval _ _ _ (by rfl) (by simp) (by simp)).trans dg
    have f45 : us 45 = .bool false := d45
    have HB := Lib.hid hB
    clear ha hdep g hf hKf d45 hB
    refine Rg.wpOp_of rfl (Rg.wanted_of rfl (Rg.yielded_of (d := 70) (by rfl) gg)) ?_
    go_simp
    exact hK _ _ rfl (Below.refl _ _)
  · intro o ho f us wl al ha g hf hdep K hKf
    obtain rfl := Option.some.inj ho
    have hB := g.1
    have hK : ∀ v w', RAl bL bM b4 o4 c4 cx ax 47 v w' → Below wl.heap.size wl w' → K (al.put (some 74) v) w' := fun v w' hv hb => hKf v w' (RAl.put g hb hv)
    have d43 : RAl bL bM b4 o4 c4 cx ax 43 (us 43) wl := g.2 43 (hdep ⟨43, .data⟩ (by simp) rfl)
    have e70 : al.tmps[70]?.getD undef = us 43 := by rw [← Rg.eval_getD, ha]; exact Rg.puts_eval _ _ _ (by rfl) (by simp) (by simp)
    have d46 : RAl bL bM b4 o4 c4 cx ax 46 (us 46) wl := g.2 46 (hdep ⟨46, .data⟩ (by simp) rfl)
    have e73 : al.tmps[73]?.getD undef = us 46 := by rw [← Rg.eval_getD, ha]; exact Rg.puts_eval _ _ _ (by rfl) (by simp) (by simp)
    have f43 : us 43 = .bool true := d43
    have f46 : us 46 = .bool true := d46
    have HB := Lib.hid hB
    clear ha hdep g hf hKf d43 d46 hB
    refine Rg.wpOp_of rfl rfl ?_
    go_simp
    exact hK _ _ rfl (Below.refl _ _)
  · intro o ho f us wl al ha g hf hdep K hKf
    obtain rfl := Option.some.inj ho
    have hB := g.1
    have hK : ∀ v w', RAl bL bM b4 o4 c4 cx ax 48 v w' → Below wl.heap.size wl w' → K (al.put (some 75) v) w' := fun v w' hv hb => hKf v w' (RAl.put g hb hv)
    have d47 : RAl bL bM b4 o4 c4 cx ax 47 (us 47) wl := g.2 47 (hdep ⟨47, .data⟩ (by simp) rfl)
    have e74 : al.tmps[74]?.getD undef = us 47 := by rw [← Rg.eval_getD, ha]; exact Rg.puts_eval _ _ _ (by rfl) (by simp) (by simp)
    have f47 : us 47 = .bool true := d47
    have HB := Lib.hid hB
    clear ha hdep g hf hKf d47 hB
    refine Rg.wpOp_of rfl rfl ?_
    go_simp
    exact hK _ _ rfl (Below.refl _ _)
  · intro o ho f us wl al ha g hf hdep K hKf
    obtain rfl := Option.some.inj ho
    have hB := g.1
    have hK : ∀ v w', RAl bL bM b4 o4 c4 cx ax 49 v w' → Below wl.heap.size wl w' → K (al.put (some 76) v) w' := fun v w' hv hb => hKf v w' (RAl.put g hb hv)
    have e3 : al.tmps[3]?.getD undef = .slice (some ⟨bL, 0, none⟩) 7 7 := by rw [← Rg.eval_getD, ha]; exact (Rg.puts_eval_ne _ _ _ (by rfl)).trans rfl
    have dg : RAl bL bM b4 o4 c4 cx ax 48 (us 48) wl := g.2 48 (hdep ⟨48, .guard⟩ (by simp) rfl)
    have gg : al.eval (.tmp 75) = .bool true := by rw [ha]; exact (Rg.puts_eval _ _ _ (by rfl) (by simp) (by simp)).trans dg
    have HB := Lib.hid hB
    clear ha hdep g hf hKf hB
    refine Rg.wpOp_of rfl (Rg.wanted_of rfl (Rg.yielded_of (d := 75) (by rfl) gg)) ?_
    go_simp
    exact hK _ _ rfl (Below.refl _ _)
  · intro o ho f us wl al ha g hf hdep K hKf
    obtain rfl := Option.some.inj ho
    have hB := g.1
    have hK : ∀ v w', RAl bL bM b4 o4 c4 cx ax 50 v w' → Below wl.heap.size wl w' → K (al.put (some 77) v) w' := fun v w' hv hb => hKf v w' (RAl.put g hb hv)
    have d49 : RAl bL bM b4 o4 c4 cx ax 49 (us 49) wl := g.2 49 (hdep ⟨49, .data⟩ (by simp) rfl)
    have e76 : al.tmps[76]?.getD undef = us 49 := by rw [← Rg.eval_getD, ha]; exact Rg.puts_eval _ _ _ (by rfl) (by simp) (by simp)
    have dg : RAl bL bM b4 o4 c4 cx ax 48 (us 48) wl := g.2 48 (hdep ⟨48, .guard⟩ (by simp) rfl)
    have gg : al.eval (.tmp 75) = .bool true := by rw [ha]; exact (Rg.puts_eval _ _ _ (by rfl) (by simp) (by simp)).trans dg
    have f49 : us 49 = .slice (some ⟨bL, 0, none⟩) 7 7 := d49
    have HB := Lib.hid hB
    clear ha hdep g hf hKf d49 hB
    refine Rg.wpOp_of rfl (Rg.wanted_of rfl (Rg.yielded_of (d := 75) (by rfl) gg)) ?_
    go_simp
    refine (HFL3.out _ _ (XL.out _ (F4.out.trans (HB.out.mono F4.out.size)))).mono ?_
    rintro e wn ⟨rfl, hb⟩
    exact hK _ _ rfl hb
  · intro o ho f us wl al ha g hf hdep K hKf
    obtain rfl := Option.some.inj ho
    have hB := g.1
    have hK : ∀ v w', RAl bL bM b4 o4 c4 cx ax 51 v w' → Below wl.heap.size wl w' → K (al.put (some 78) v) w' := fun v w' hv hb => hKf v w' (RAl.put g hb hv)
    have d50 : RAl bL bM b4 o4 c4 cx ax 50 (us 50) wl := g.2 50 (hdep ⟨50, .data⟩ (by simp) rfl)
    have e77 : al.tmps[77]?.getD undef = us 50 := by rw [← Rg.eval_getD, ha]; exact Rg.puts_eval _ _ _ (by rfl) (by simp) (by simp)
    have dg : RAl bL bM b4 o4 c4 cx ax 48 (us 48) wl := g.2 48 (hdep ⟨48, .guard⟩ (by simp) rfl)
    have gg : al.eval (.tmp 75) = .bool true := by rw [ha]; exact (Rg.puts_eval _ _ _ (by rfl) (by simp) (by simp)).trans dg
    have f50 : us 50 = .bool false := d50
    have HB := Lib.hid hB
    clear ha hdep g hf hKf d50 hB
    refine Rg.wpOp_of rfl (Rg.wanted_of rfl (Rg.yielded_of (d := 75) (by rfl) gg)) ?_
    go_simp
    exact hK _ _ rfl (Below.refl _ _)
  · intro o ho f us wl al ha g hf hdep K hKf
    obtain rfl := Option.some.inj ho
    have hB := g.1
    have hK : ∀ v w', RAl bL bM b4 o4 c4 cx ax 52 v w' → Below wl.heap.size wl w' → K (al.put (some 79) v) w' := fun v w' hv hb => hKf v w' (RAl.put g hb hv)
    have d48 : RAl bL bM b4 o4 c4 cx ax 48 (us 48) wl := g.2 48 (hdep ⟨48, .data⟩ (by simp) rfl)
    have e75 : al.tmps[75]?.getD undef = us 48 := by rw [← Rg.eval_getD, ha]; exact Rg.puts_eval _ _ _ (by rfl) (by simp) (by simp)
    have d51 : RAl bL bM b4 o4 c4 cx ax 51 (us 51) wl := g.2 51 (hdep ⟨51, .data⟩ (by simp) rfl)
    have e78 : al.tmps[78]?.getD undef = us 51 := by rw [← Rg.eval_getD, ha]; exact Rg.puts_eval _ _ _ (by rfl) (by simp) (by simp)
    have f48 : us 48 = .bool true := d48
    have f51 : us 51 = .bool true := d51
    have HB := Lib.hid hB
    clear ha hdep g hf hKf d48 d51 hB
    refine Rg.wpOp_of rfl rfl ?_
    go_simp
    exact hK _ _ rfl (Below.refl _ _)
  · intro o ho f us wl al ha g hf hdep K hKf
    obtain rfl := Option.some.inj ho
    have hB := g.1
    have hK : ∀ v w', RAl bL bM b4 o4 c4 cx ax 53 v w' → Below wl.heap.size wl w' → K (al.put (some 80) v) w' := fun v w' hv hb => hKf v w' (RAl.put g hb hv)
    have d52 : RAl bL bM b4 o4 c4 cx ax 52 (us 52) wl := g.2 52 (hdep ⟨52, .data⟩ (by simp) rfl)
    have e79 : al.tmps[79]?.getD undef = us 52 := by rw [← Rg.eval_getD, ha]; exact Rg.puts_eval _ _ _ (by rfl) (by simp) (by simp)
    have f52 : us 52 = .bool true := d52
    have HB := Lib.hid hB
    clear ha hdep g hf hKf d52 hB
    refine Rg.wpOp_of rfl rfl ?_
    go_simp
    exact hK _ _ rfl (Below.refl _ _)
  · intro o ho f us wl al ha g hf hdep K hKf
    obtain rfl := Option.some.inj ho
    have hB := g.1
    have hK : ∀ v w', RAl bL bM b4 o4 c4 cx ax 54 v w' → Below wl.heap.size wl w' → K (al.put (some 81) v) w' := fun v w' hv hb => hKf v w' (RAl.put g hb hv)
    have dg : RAl bL bM b4 o4 c4 cx ax 53 (us 53) wl := g.2 53 (hdep ⟨53, .guard⟩ (by simp) rfl)
    have gg : al.eval (.tmp 80) = .bool true := by rw [ha]; exact (Rg.puts_eval _ _ _ (by rfl) (by simp) (by simp)).trans dg
    have HB := Lib.hid hB
    clear ha hdep g hf hKf hB
    refine Rg.wpOp_of rfl (Rg.wanted_of rfl (Rg.yielded_of (d := 80) (by rfl) gg)) ?_
    go_simp
    exact hK _ _ rfl (Below.refl _ _)
  · intro o ho f us wl al ha g hf hdep K hKf
    obtain rfl := Option.some.inj ho
    have hB := g.1
    have hK : ∀ v w', RAl bL bM b4 o4 c4 cx ax 55 v w' → Below wl.heap.size wl w' → K (al.put (some 82) v) w' := fun v w' hv hb => hKf v w' (RAl.put g hb hv)
    have d54 : RAl bL bM b4 o4 c4 cx ax 54 (us 54) wl := g.2 54 (hdep ⟨54, .data⟩ (by simp) rfl)
    have e81 : al.tmps[81]?.getD undef = us 54 := by rw [← Rg.eval_getD, ha]; exact Rg.puts_eval _ _ _ (by rfl) (by simp) (by simp)
    have dg : RAl bL bM b4 o4 c4 cx ax 53 (us 53) wl := g.2 53 (hdep ⟨53, .guard⟩ (by simp) rfl)
    have gg : al.eval (.tmp 80) = .bool true := by rw [ha]; exact (Rg.puts_eval _ _ _ (by rfl) (by simp) (by simp)).trans dg
    have f54 : us 54 = .agg #[.int .i64 4, .string ⟨#[]⟩, .int .i64 0] := d54
    have HB := Lib.hid hB
    clear ha hdep g hf hKf d54 hB
    refine Rg.wpOp_of rfl (Rg.wanted_of rfl (Rg.yielded_of (d := 80) (by rfl) gg)) ?_
    go_simp
    exact hK _ _ (Se.nds_new _ (flat Tm.yield) _) (below1 _ _)
  · intro o ho f us wl al ha g hf hdep K hKf
    obtain rfl := Option.some.inj ho
    have hB := g.1
    have hK : ∀ v w', RAl bL bM b4 o4 c4 cx ax 56 v w' → Below wl.heap.size wl w' → K (al.put (some 83) v) w' := fun v w' hv hb => hKf v w' (RAl.put g hb hv)
    have d55 : RAl bL bM b4 o4 c4 cx ax 55 (us 55) wl := g.2 55 (hdep ⟨55, .data⟩ (by simp) rfl)
    have e82 : al.tmps[82]?.getD undef = us 55 := by rw [← Rg.eval_getD, ha]; exact Rg.puts_eval _ _ _ (by rfl) (by simp) (by simp)
    have dg : RAl bL bM b4 o4 c4 cx ax 53 (us 53) wl := g.2 53 (hdep ⟨53, .guard⟩ (by simp) rfl)
    have gg : al.eval (.tmp 80) = .bool true := by rw [ha]; exact (Rg.puts_eval _ _ _ (by rfl) (by simp) (by simp)).trans dg
    have D55 : Hid (Nds wl (us 55) (flat Tm.yield)) := d55
    have HB := Lib.hid hB
    clear ha hdep g hf hKf d55 hB
    refine Rg.wpOp_of rfl (Rg.wanted_of rfl (Rg.yielded_of (d := 80) (by rfl) gg)) ?_
    go_simp
    refine (HFY.out _ _ (D55.out)).mono ?_
    rintro e wn ⟨rfl, hb⟩
    exact hK _ _ rfl hb
  · intro o ho f us wl al ha g hf hdep K hKf
    obtain rfl := Option.some.inj ho
    have hB := g.1
    have hK : ∀ v w', RAl bL bM b4 o4 c4 cx ax 57 v w' → Below wl.heap.size wl w' → K (al.put (some 84) v) w' := fun v w' hv hb => hKf v w' (RAl.put g hb hv)
    have d53 : RAl bL bM b4 o4 c4 cx ax 53 (us 53) wl := g.2 53 (hdep ⟨53, .data⟩ (by simp) rfl)
    have e80 : al.tmps[80]?.getD undef = us 53 := by rw [← Rg.eval_getD, ha]; exact Rg.puts_eval _ _ _ (by rfl) (by simp) (by simp)
    have d56 : RAl bL bM b4 o4 c4 cx ax 56 (us 56) wl := g.2 56 (hdep ⟨56, .data⟩ (by simp) rfl)
    have e83 : al.tmps[83]?.getD undef = us 56 := by rw [← Rg.eval_getD, ha]; exact Rg.puts_eval _ _ _ (by rfl) (by simp) (by simp)
    have f53 : us 53 = .bool true := d53
    have f56 : us 56 = .bool true := d56
    have HB := Lib.hid hB
    clear ha hdep g hf hKf d53 d56 hB
    refine Rg.wpOp_of rfl rfl ?_
    go_simp
    exact hK _ _ rfl (Below.refl _ _)
  · intro o ho f us wl al ha g hf hdep K hKf
    obtain rfl := Option.some.inj ho
    have hB := g.1
    have hK : ∀ v w', RAl bL bM b4 o4 c4 cx ax 58 v w' → Below wl.heap.size wl w' → K (al.put (some 85) v) w' := fun v w' hv hb => hKf v w' (RAl.put g hb hv)
    have d57 : RAl bL bM b4 o4 c4 cx ax 57 (us 57) wl := g.2 57 (hdep ⟨57, .data⟩ (by simp) rfl)
    have e84 : al.tmps[84]?.getD undef = us 57 := by rw [← Rg.eval_getD, ha]; exact Rg.puts_eval _ _ _ (by rfl) (by simp) (by simp)
    have f57 : us 57 = .bool true := d57
    have HB := Lib.hid hB
    clear ha hdep g hf hKf d57 hB
    refine Rg.wpOp_of rfl rfl ?_
    go_simp
    exact hK _ _ rfl (Below.refl _ _)
  · intro o ho f us wl al ha g hf hdep K hKf
    obtain rfl := Option.some.inj ho
    have hB := g.1
    have hK : ∀ v w', RAl bL bM b4 o4 c4 cx ax 59 v w' → Below wl.heap.size wl w' → K (al.put (some 86) v) w' := fun v w' hv hb => hKf v w' (RAl.put g hb hv)
    have dg : RAl bL bM b4 o4 c4 cx ax 58 (us 58) wl := g.2 58 (hdep ⟨58, .guard⟩ (by simp) rfl)
    have gg : al.eval (.tmp 85) = .bool true := by rw [ha]; exact (Rg.puts_eval _ _ _ (by rfl) (by simp) (by simp)).trans dg
    have HB := Lib.hid hB
    clear ha hdep g hf hKf hB
    refine Rg.wpOp_of rfl (Rg.wanted_of rfl (Rg.yielded_of (d := 85) (by rfl) gg)) ?_
    go_simp
    exact hK _ _ rfl (Below.refl _ _)
  · intro o ho f us wl al ha g hf hdep K hKf
    obtain rfl := Option.some.inj ho
    have hB := g.1
    have hK : ∀ v w', RAl bL bM b4 o4 c4 cx ax 60 v w' → Below wl.heap.size wl w' → K (al.put (some 87) v) w' := fun v w' hv hb => hKf v w' (RAl.put g hb hv)
    have d59 : RAl bL bM b4 o4 c4 cx ax 59 (us 59) wl := g.2 59 (hdep ⟨59, .data⟩ (by simp) rfl)
    have e86 : al.tmps[86]?.getD undef = us 59 := by rw [← Rg.eval_getD, ha]; exact Rg.puts_eval _ _ _ (by rfl) (by simp) (by simp)
    have dg : RAl bL bM b4 o4 c4 cx ax 58 (us 58) wl := g.2 58 (hdep ⟨58, .guard⟩ (by simp) rfl)
    have gg : al.eval (.tmp 85) = .bool true := by rw [ha]; exact (Rg.puts_eval _ _ _ (by rfl) (by simp) (by simp)).trans dg
    have f59 : us 59 = .agg #[.int .i64 2, .string ⟨#[]⟩, .int .i64 0] := d59
    have HB := Lib.hid hB
    clear ha hdep g hf hKf d59 hB
    refine Rg.wpOp_of rfl (Rg.wanted_of rfl (Rg.yielded_of (d := 85) (by rfl) gg)) ?_
    go_simp
    exact hK _ _ (Se.nds_new _ (flat Tm.skip) _) (below1 _ _)
  · intro o ho f us wl al ha g hf hdep K hKf
    obtain rfl := Option.some.inj ho
    have hB := g.1
    have hK : ∀ v w', RAl bL bM b4 o4 c4 cx ax 61 v w' → Below wl.heap.size wl w' → K (al.put (some 88) v) w' := fun v w' hv hb => hKf v w' (RAl.put g hb hv)
    have d60 : RAl bL bM b4 o4 c4 cx ax 60 (us 60) wl := g.2 60 (hdep ⟨60, .data⟩ (by simp) rfl)
    have e87 : al.tmps[87]?.getD undef = us 60 := by rw [← Rg.eval_getD, ha]; exact Rg.puts_eval _ _ _ (by rfl) (by simp) (by simp)
    have dg : RAl bL bM b4 o4 c4 cx ax 58 (us 58) wl := g.2 58 (hdep ⟨58, .guard⟩ (by simp) rfl)
    have gg : al.eval (.tmp 85) = .bool true := by rw [ha]; exact (Rg.puts_eval _ _ _ (by rfl) (by simp) (by simp)).trans dg
    have D60 : Hid (Nds wl (us 60) (flat Tm.skip)) := d60
    have HB := Lib.hid hB
    clear ha hdep g hf hKf d60 hB
    refine Rg.wpOp_of rfl (Rg.wanted_of rfl (Rg.yielded_of (d := 85) (by rfl) gg)) ?_
    go_simp
    refine (HAS.out _ _ (D60.out)).mono ?_
    rintro e wn ⟨y, rfl, hy, hb⟩
    exact hK _ _ hy hb
  · intro o ho f us wl al ha g hf hdep K hKf
    obtain rfl := Option.some.inj ho
    have hB := g.1
    have hK : ∀ v w', RAl bL bM b4 o4 c4 cx ax 62 v w' → Below wl.heap.size wl w' → K (al.put (some 89) v) w' := fun v w' hv hb => hKf v w' (RAl.put g hb hv)
    have d61 : RAl bL bM b4 o4 c4 cx ax 61 (us 61) wl := g.2 61 (hdep ⟨61, .data⟩ (by simp) rfl)
    have e88 : al.tmps[88]?.getD undef = us 61 := by rw [← Rg.eval_getD, ha]; exact Rg.puts_eval _ _ _ (by rfl) (by simp) (by simp)
    have dg : RAl bL bM b4 o4 c4 cx ax 58 (us 58) wl := g.2 58 (hdep ⟨58, .guard⟩ (by simp) rfl)
    have gg : al.eval (.tmp 85) = .bool true := by rw [ha]; exact (Rg.puts_eval _ _ _ (by rfl) (by simp) (by simp)).trans dg
    have D61 : Hid (Ints wl (us 61) []) := d61
    obtain ⟨_, aq, cq, fq, -⟩ := id D61.out
    simp only [List.length_nil] at fq
    have HB := Lib.hid hB
    clear ha hdep g hf hKf d61 hB
    refine Rg.wpOp_of rfl (Rg.wanted_of rfl (Rg.yielded_of (d := 85) (by rfl) gg)) ?_
    go_simp
    exact hK _ _ rfl (Below.refl _ _)
  · intro o ho f us wl al ha g hf hdep K hKf
    obtain rfl := Option.some.inj ho
    have hB := g.1
    have hK : ∀ v w', RAl bL bM b4 o4 c4 cx ax 63 v w' → Below wl.heap.size wl w' → K (al.put (some 90) v) w' := fun v w' hv hb => hKf v w' (RAl.put g hb hv)
    have d62 : RAl bL bM b4 o4 c4 cx ax 62 (us 62) wl := g.2 62 (hdep ⟨62, .data⟩ (by simp) rfl)
    have e89 : al.tmps[89]?.getD undef = us 62 := by rw [← Rg.eval_getD, ha]; exact Rg.puts_eval _ _ _ (by rfl) (by simp) (by simp)
    have dg : RAl bL bM b4 o4 c4 cx ax 58 (us 58) wl := g.2 58 (hdep ⟨58, .guard⟩ (by simp) rfl)
    have gg : al.eval (.tmp 85) = .bool true := by rw [ha]; exact (Rg.puts_eval _ _ _ (by rfl) (by simp) (by simp)).trans dg
    have f62 : us 62 = .int .i64 0 := d62
    have HB := Lib.hid hB
    clear ha hdep g hf hKf d62 hB
    refine Rg.wpOp_of rfl (Rg.wanted_of rfl (Rg.yielded_of (d := 85) (by rfl) gg)) ?_
    go_simp
    exact hK _ _ rfl (Below.refl _ _)
  · intro o ho f us wl al ha g hf hdep K hKf
    obtain rfl := Option.some.inj ho
    have hB := g.1
    have hK : ∀ v w', RAl bL bM b4 o4 c4 cx ax 64 v w' → Below wl.heap.size wl w' → K (al.put (some 91) v) w' := fun v w' hv hb => hKf v w' (RAl.put g hb hv)
    have d58 : RAl bL bM b4 o4 c4 cx ax 58 (us 58) wl := g.2 58 (hdep ⟨58, .data⟩ (by simp) rfl)
    have e85 : al.tmps[85]?.getD undef = us 58 := by rw [← Rg.eval_getD, ha]; exact Rg.puts_eval _ _ _ (by rfl) (by simp) (by simp)
    have d63 : RAl bL bM b4 o4 c4 cx ax 63 (us 63) wl := g.2 63 (hdep ⟨63, .data⟩ (by simp) rfl)
    have e90 : al.tmps[90]?.getD undef = us 63 := by rw [← Rg.eval_getD, ha]; exact Rg.puts_eval _ _ _ (by rfl) (by simp) (by simp)
    have f58 : us 58 = .bool true := d58
    have f63 : us 63 = .bool true := d63
    have HB := Lib.hid hB
    clear ha hdep g hf hKf d58 d63 hB
    refine Rg.wpOp_of rfl rfl ?_
    go_simp
    exact hK _ _ rfl (Below.refl _ _)
  · intro o ho f us wl al ha g hf hdep K hKf
    obtain rfl := Option.some.inj ho
    have hB := g.1
    have hK : ∀ v w', RAl bL bM b4 o4 c4 cx ax 65 v w' → Below wl.heap.size wl w' → K (al.put (some 0) v) w' := fun v w' hv hb => hKf v w' (RAl.put g hb hv)
    have d64 : RAl bL bM b4 o4 c4 cx ax 64 (us 64) wl := g.2 64 (hdep ⟨64, .data⟩ (by simp) rfl)
    have e91 : al.tmps[91]?.getD undef = us 64 := by rw [← Rg.eval_getD, ha]; exact Rg.puts_eval _ _ _ (by rfl) (by simp) (by simp)
    have f64 : us 64 = .bool true := d64
    have HB := Lib.hid hB
    clear ha hdep g hf hKf d64 hB
    refine Rg.wpOp_of rfl rfl ?_
    go_simp
    exact hK _ _ rfl (Below.refl _ _)
  · intro us wz hB hR
    have fz : us 65 = .bool true := hR 65
    have DZ := Lib.hid (D.out.trans ((F4.out.trans (hB.mono F4.out.size)).mono D.out.size))
    clear hB hR
    simp only [Rg.puts, Act.put, List.setIfInBounds_toArray, List.set_cons_zero, List.set_cons_succ, fz]
    go_wp2_with fail
    go_ret
    exact ⟨rfl, DZ.out⟩
end Go.Proofs.YtekblibhaipioaaGreat.Do
