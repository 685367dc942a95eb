/- The program's comes: the walks. -/
import Derived.Test.YtaapnkoooofalaaQ16
import Derived.StillTailTactics

namespace Go.Proofs.Ytaapnkoooofalaa.Se
open Go Go.RowKit Rw So
set_option maxRecDepth 20000
set_option maxHeartbeats 1000000 in
theorem comes_seq (base : Nat) (a d : Tm) (bk ck : Nat) (y0 y1 : Value) (w : World) (q0 : w.cell? ⟨bk, 0, none⟩ = some y0) (q1 : w.cell? ⟨bk, 1, none⟩ = some y1) (h0 : NdO base w y0 a) (h1 : Nds w y1 (flat d)) (PB : Hid (PS d)) (hb : base ≤ w.heap.size) (hl : sz a + sz d ≤ 900) :
    Calls Try.prog 67 #[.agg #[.int .i64 5, .string ⟨#[]⟩, .int .i64 0], .slice (some ⟨bk, 0, none⟩) 2 ck] w (OutB base (sSeq S a d) w) := by
  have HL := Lib.hid hl
  have HB := Lib.hid hb
  have hlt : bk < w.heap.size := Ap.cell_lt q0
  have CK : Hid (∀ w1, Below w.heap.size w w1 → w1.cell? ⟨bk, 0, none⟩ = some y0 ∧ w1.cell? ⟨bk, 1, none⟩ = some y1) := Lib.hid fun w1 hb => by rw [hb.cell (p := ⟨bk, 0, none⟩) hlt, hb.cell (p := ⟨bk, 1, none⟩) hlt]; exact ⟨q0, q1⟩
  have A0 := Lib.hid (fun w1 (hb : Below w.heap.size w w1) => h0.below hb)
  have A1 := Lib.hid (fun w1 (hb : Below w.heap.size w w1) => h1.below hb)
  obtain ⟨_, a0, c0, rfl, -⟩ := id h0
  obtain ⟨_, a1, c1, rfl, -⟩ := id h1
  unfold OutB
  clear q0 q1 h0 h1 hl hb
  go_enter Try.func67, Try.ntmps67
  go_wp2_with fail
  have BW0 := below1 w (.cells #[.int .i64 5, .string ⟨#[]⟩, .int .i64 0] 28)
  have BC := box_cells w 5 0 ⟨#[]⟩ 28
  generalize w.alloc (.cells #[.int .i64 5, .string ⟨#[]⟩, .int .i64 0] 28) = W at BW0 BC ⊢
  have BW := Lib.hid BW0
  obtain ⟨x0, x1, x2⟩ := BC W (Below.refl _ _)
  obtain ⟨z0, z1⟩ := CK.out W BW0
  have BD := Lib.hid (BW.out.drew)
  clear BW0 BC
  go_still_tail 8, (by kernel_rfl)
  change wpList _ _ _ _ _ W.drew
  go_wp2_with fail
  refine (turn5P_any base a d _ _ _ (A0.out _ BD.out) (A1.out _ BD.out) PB.out (Nat.le_trans HB.out BD.out.size) HL.out).mono ?_
  rintro e w1 ⟨y, rfl, hn, hb⟩
  have N1 := Lib.hid hn
  have D1 := Lib.hid (BD.out.trans (hb.mono BD.out.size))
  clear hn hb
  go_wp2_with fail
  go_ret
  exact ⟨_, rfl, N1.out, D1.out⟩
set_option maxHeartbeats 1000000 in
theorem comes_hand (base : Nat) (a d : Tm) (bk ck : Nat) (y0 y1 : Value) (w : World) (q0 : w.cell? ⟨bk, 0, none⟩ = some y0) (q1 : w.cell? ⟨bk, 1, none⟩ = some y1) (h0 : NdO base w y0 a) (h1 : Nds w y1 (flat d)) (PB : Hid (PS d)) (g14 : Hid (kd a ≠ 14)) (hb : base ≤ w.heap.size) (hl : sz a + sz d ≤ 900) :
    Calls Try.prog 67 #[.agg #[.int .i64 8, .string ⟨#[]⟩, .int .i64 0], .slice (some ⟨bk, 0, none⟩) 2 ck] w (OutB base (sHand S a d) w) := by
  have HL := Lib.hid hl
  have HB := Lib.hid hb
  have hlt : bk < w.heap.size := Ap.cell_lt q0
  have CK : Hid (∀ w1, Below w.heap.size w w1 → w1.cell? ⟨bk, 0, none⟩ = some y0 ∧ w1.cell? ⟨bk, 1, none⟩ = some y1) := Lib.hid fun w1 hb => by rw [hb.cell (p := ⟨bk, 0, none⟩) hlt, hb.cell (p := ⟨bk, 1, none⟩) hlt]; exact ⟨q0, q1⟩
  have A0 := Lib.hid (fun w1 (hb : Below w.heap.size w w1) => h0.below hb)
  have A1 := Lib.hid (fun w1 (hb : Below w.heap.size w w1) => h1.below hb)
  obtain ⟨_, a0, c0, rfl, -⟩ := id h0
  obtain ⟨_, a1, c1, rfl, -⟩ := id h1
  unfold OutB
  clear q0 q1 h0 h1 hl hb
  go_enter Try.func67, Try.ntmps67
  go_wp2_with fail
  have BW0 := below1 w (.cells #[.int .i64 8, .string ⟨#[]⟩, .int .i64 0] 28)
  have BC := box_cells w 8 0 ⟨#[]⟩ 28
  generalize w.alloc (.cells #[.int .i64 8, .string ⟨#[]⟩, .int .i64 0] 28) = W at BW0 BC ⊢
  have BW := Lib.hid BW0
  obtain ⟨x0, x1, x2⟩ := BC W (Below.refl _ _)
  obtain ⟨z0, z1⟩ := CK.out W BW0
  have BD := Lib.hid (BW.out.drew)
  clear BW0 BC
  go_still_tail 8, (by kernel_rfl)
  change wpList _ _ _ _ _ W.drew
  go_wp2_with fail
  refine (turn8P_any base a d _ _ _ (A0.out _ BD.out) (A1.out _ BD.out) PB.out g14.out (Nat.le_trans HB.out BD.out.size) HL.out).mono ?_
  rintro e w1 ⟨y, rfl, hn, hb⟩
  have N1 := Lib.hid hn
  have D1 := Lib.hid (BD.out.trans (hb.mono BD.out.size))
  clear hn hb
  go_wp2_with fail
  go_ret
  exact ⟨_, rfl, N1.out, D1.out⟩
set_option maxHeartbeats 1000000 in
theorem comes_par (base : Nat) (a d : Tm) (bk ck : Nat) (y0 y1 : Value) (w : World) (q0 : w.cell? ⟨bk, 0, none⟩ = some y0) (q1 : w.cell? ⟨bk, 1, none⟩ = some y1) (h0 : NdO base w y0 a) (h1 : Nds w y1 (flat d)) (hb : base ≤ w.heap.size) (hl : sz a + sz d ≤ 900) :
    Calls Try.prog 67 #[.agg #[.int .i64 7, .string ⟨#[]⟩, .int .i64 0], .slice (some ⟨bk, 0, none⟩) 2 ck] w (OutB base (sPar a d) w) := by
  have HL := Lib.hid hl
  have HB := Lib.hid hb
  have hlt : bk < w.heap.size := Ap.cell_lt q0
  have CK : Hid (∀ w1, Below w.heap.size w w1 → w1.cell? ⟨bk, 0, none⟩ = some y0 ∧ w1.cell? ⟨bk, 1, none⟩ = some y1) := Lib.hid fun w1 hb => by rw [hb.cell (p := ⟨bk, 0, none⟩) hlt, hb.cell (p := ⟨bk, 1, none⟩) hlt]; exact ⟨q0, q1⟩
  have A0 := Lib.hid (fun w1 (hb : Below w.heap.size w w1) => h0.below hb)
  have A1 := Lib.hid (fun w1 (hb : Below w.heap.size w w1) => h1.below hb)
  obtain ⟨_, a0, c0, rfl, -⟩ := id h0
  obtain ⟨_, a1, c1, rfl, -⟩ := id h1
  unfold OutB
  clear q0 q1 h0 h1 hl hb
  go_enter Try.func67, Try.ntmps67
  go_wp2_with fail
  have BW0 := below1 w (.cells #[.int .i64 7, .string ⟨#[]⟩, .int .i64 0] 28)
  have BC := box_cells w 7 0 ⟨#[]⟩ 28
  generalize w.alloc (.cells #[.int .i64 7, .string ⟨#[]⟩, .int .i64 0] 28) = W at BW0 BC ⊢
  have BW := Lib.hid BW0
  obtain ⟨x0, x1, x2⟩ := BC W (Below.refl _ _)
  obtain ⟨z0, z1⟩ := CK.out W BW0
  have BD := Lib.hid (BW.out.drew)
  clear BW0 BC
  go_still_tail 7, (by kernel_rfl)
  change wpList _ _ _ _ _ W.drew
  go_wp2_with fail
  refine (besideP_any base a d _ _ _ (A0.out _ BD.out).nds (A1.out _ BD.out) (Nat.le_trans HB.out BD.out.size) HL.out).mono ?_
  rintro e w1 ⟨y, rfl, hn, hb⟩
  have N1 := Lib.hid hn
  have D1 := Lib.hid (BD.out.trans (hb.mono BD.out.size))
  clear hn hb
  go_wp2_with fail
  go_ret
  exact ⟨_, rfl, N1.out, D1.out⟩
set_option maxHeartbeats 1000000 in
theorem comes_going (base : Nat) (a d : Tm) (bk ck : Nat) (y0 y1 : Value) (w : World) (q0 : w.cell? ⟨bk, 0, none⟩ = some y0) (q1 : w.cell? ⟨bk, 1, none⟩ = some y1) (h0 : NdO base w y0 a) (h1 : Nds w y1 (flat d)) (hb : base ≤ w.heap.size) (hl : sz a + sz d ≤ 900) :
    Calls Try.prog 67 #[.agg #[.int .i64 12, .string ⟨#[]⟩, .int .i64 0], .slice (some ⟨bk, 0, none⟩) 2 ck] w (OutB base (sGoing a d) w) := by
  have HL := Lib.hid hl
  have HB := Lib.hid hb
  have hlt : bk < w.heap.size := Ap.cell_lt q0
  have CK : Hid (∀ w1, Below w.heap.size w w1 → w1.cell? ⟨bk, 0, none⟩ = some y0 ∧ w1.cell? ⟨bk, 1, none⟩ = some y1) := Lib.hid fun w1 hb => by rw [hb.cell (p := ⟨bk, 0, none⟩) hlt, hb.cell (p := ⟨bk, 1, none⟩) hlt]; exact ⟨q0, q1⟩
  have A0 := Lib.hid (fun w1 (hb : Below w.heap.size w w1) => h0.below hb)
  have A1 := Lib.hid (fun w1 (hb : Below w.heap.size w w1) => h1.below hb)
  obtain ⟨_, a0, c0, rfl, -⟩ := id h0
  obtain ⟨_, a1, c1, rfl, -⟩ := id h1
  unfold OutB
  clear q0 q1 h0 h1 hl hb
  go_enter Try.func67, Try.ntmps67
  go_wp2_with fail
  have BW0 := below1 w (.cells #[.int .i64 12, .string ⟨#[]⟩, .int .i64 0] 28)
  have BC := box_cells w 12 0 ⟨#[]⟩ 28
  generalize w.alloc (.cells #[.int .i64 12, .string ⟨#[]⟩, .int .i64 0] 28) = W at BW0 BC ⊢
  have BW := Lib.hid BW0
  obtain ⟨x0, x1, x2⟩ := BC W (Below.refl _ _)
  obtain ⟨z0, z1⟩ := CK.out W BW0
  have BD := Lib.hid (BW.out.drew)
  clear BW0 BC
  go_still_tail 7, (by kernel_rfl)
  change wpList _ _ _ _ _ W.drew
  go_wp2_with fail
  refine (goingP_any base a d _ _ _ (A0.out _ BD.out).nds (A1.out _ BD.out) (Nat.le_trans HB.out BD.out.size) HL.out).mono ?_
  rintro e w1 ⟨y, rfl, hn, hb⟩
  have N1 := Lib.hid hn
  have D1 := Lib.hid (BD.out.trans (hb.mono BD.out.size))
  clear hn hb
  go_wp2_with fail
  go_ret
  exact ⟨_, rfl, N1.out, D1.out⟩
set_option maxHeartbeats 1000000 in
theorem comes_stack (base : Nat) (a d : Tm) (bk ck : Nat) (y0 y1 : Value) (w : World) (q0 : w.cell? ⟨bk, 0, none⟩ = some y0) (q1 : w.cell? ⟨bk, 1, none⟩ = some y1) (h0 : NdO base w y0 a) (h1 : Nds w y1 (flat d)) (hb : base ≤ w.heap.size) (hl : sz a + sz d ≤ 900) :
    Calls Try.prog 67 #[.agg #[.int .i64 13, .string ⟨#[]⟩, .int .i64 0], .slice (some ⟨bk, 0, none⟩) 2 ck] w (OutB base (stk a d) w) := by
  have HL := Lib.hid hl
  have HB := Lib.hid hb
  have hlt : bk < w.heap.size := Ap.cell_lt q0
  have CK : Hid (∀ w1, Below w.heap.size w w1 → w1.cell? ⟨bk, 0, none⟩ = some y0 ∧ w1.cell? ⟨bk, 1, none⟩ = some y1) := Lib.hid fun w1 hb => by rw [hb.cell (p := ⟨bk, 0, none⟩) hlt, hb.cell (p := ⟨bk, 1, none⟩) hlt]; exact ⟨q0, q1⟩
  have A0 := Lib.hid (fun w1 (hb : Below w.heap.size w w1) => h0.below hb)
  have A1 := Lib.hid (fun w1 (hb : Below w.heap.size w w1) => h1.below hb)
  obtain ⟨_, a0, c0, rfl, -⟩ := id h0
  obtain ⟨_, a1, c1, rfl, -⟩ := id h1
  unfold OutB
  clear q0 q1 h0 h1 hl hb
  go_enter Try.func67, Try.ntmps67
  go_wp2_with fail
  have BW0 := below1 w (.cells #[.int .i64 13, .string ⟨#[]⟩, .int .i64 0] 28)
  have BC := box_cells w 13 0 ⟨#[]⟩ 28
  generalize w.alloc (.cells #[.int .i64 13, .string ⟨#[]⟩, .int .i64 0] 28) = W at BW0 BC ⊢
  have BW := Lib.hid BW0
  obtain ⟨x0, x1, x2⟩ := BC W (Below.refl _ _)
  obtain ⟨z0, z1⟩ := CK.out W BW0
  have BD := Lib.hid (BW.out.drew)
  clear BW0 BC
  go_still_tail 6, (by kernel_rfl)
  change wpList _ _ _ _ _ W.drew
  go_wp2_with fail
  refine (stackedP_any base a d _ _ _ (A0.out _ BD.out).nds (A1.out _ BD.out) (Nat.le_trans HB.out BD.out.size) HL.out).mono ?_
  rintro e w1 ⟨y, rfl, hn, hb⟩
  have N1 := Lib.hid hn
  have D1 := Lib.hid (BD.out.trans (hb.mono BD.out.size))
  clear hn hb
  go_wp2_with fail
  go_ret
  exact ⟨_, rfl, N1.out, D1.out⟩
set_option maxHeartbeats 1000000 in
theorem comes_block (base : Nat) (a : Tm) (bk ck : Nat) (y0 : Value) (w : World) (q0 : w.cell? ⟨bk, 0, none⟩ = some y0) (h0 : Nds w y0 (flat a)) (PB : Hid (∀ s c, a = .fin s c → PS c)) (hb : base ≤ w.heap.size) (hl : sz a ≤ 900) :
    Calls Try.prog 67 #[.agg #[.int .i64 9, .string ⟨#[]⟩, .int .i64 0], .slice (some ⟨bk, 0, none⟩) 1 ck] w (OutB base (sBlock S a) w) := by
  have HL := Lib.hid hl
  have HB := Lib.hid hb
  have hlt : bk < w.heap.size := Ap.cell_lt q0
  have CK : Hid (∀ w1, Below w.heap.size w w1 → w1.cell? ⟨bk, 0, none⟩ = some y0 ∧ True) := Lib.hid fun w1 hb => by rw [hb.cell (p := ⟨bk, 0, none⟩) hlt]; exact ⟨q0, trivial⟩
  have A0 := Lib.hid (fun w1 (hb : Below w.heap.size w w1) => h0.below hb)
  obtain ⟨_, a0, c0, rfl, -⟩ := id h0
  unfold OutB
  clear q0 h0 hl hb
  go_enter Try.func67, Try.ntmps67
  go_wp2_with fail
  have BW0 := below1 w (.cells #[.int .i64 9, .string ⟨#[]⟩, .int .i64 0] 28)
  have BC := box_cells w 9 0 ⟨#[]⟩ 28
  generalize w.alloc (.cells #[.int .i64 9, .string ⟨#[]⟩, .int .i64 0] 28) = W at BW0 BC ⊢
  have BW := Lib.hid BW0
  obtain ⟨x0, x1, x2⟩ := BC W (Below.refl _ _)
  obtain ⟨z0, -⟩ := CK.out W BW0
  have BD := Lib.hid (BW.out.drew)
  clear BW0 BC
  go_still_tail 4, (by kernel_rfl)
  change wpList _ _ _ _ _ W.drew
  go_wp2_with fail
  refine (inBlockP_any base a _ _ (A0.out _ BD.out) PB.out (Nat.le_trans HB.out BD.out.size) HL.out).mono ?_
  rintro e w1 ⟨y, rfl, hn, hb⟩
  have N1 := Lib.hid hn
  have D1 := Lib.hid (BD.out.trans (hb.mono BD.out.size))
  clear hn hb
  go_wp2_with fail
  go_ret
  exact ⟨_, rfl, N1.out, D1.out⟩
set_option maxHeartbeats 1000000 in
theorem comes_skip (base : Nat) (v : Value) (w : World) (hv : Rws w v []) (hb : base ≤ w.heap.size) :
    Calls Try.prog 67 #[.agg #[.int .i64 2, .string ⟨#[]⟩, .int .i64 0], v] w (OutB base (.over 1) w) := by
  have HB := Lib.hid hb
  obtain ⟨cs, hRd, -⟩ := hv
  obtain ⟨_, ak, ck, rfl, -⟩ := hRd
  unfold OutB
  clear hb
  go_enter Try.func67, Try.ntmps67
  go_wp2_with fail
  have B0 := Lib.hid (below1 w (.cells #[.int .i64 2, .string ⟨#[]⟩, .int .i64 0] 28))
  refine (overP_any 1 _).mono ?_
  rintro e w1 ⟨rfl, hb1⟩
  have D1 := Lib.hid (B0.out.trans (hb1.mono B0.out.size))
  clear hb1
  go_wp2_with fail
  refine (mkP0 base 11 1 (.over 1) rfl _ (Nat.le_trans HB.out D1.out.size)).mono ?_
  rintro e w2 ⟨y, rfl, hn, hb⟩
  have N2 := Lib.hid hn
  have D2 := Lib.hid (D1.out.trans (hb.mono D1.out.size))
  clear hn hb
  go_wp2_with fail
  go_ret
  exact ⟨_, rfl, N2.out, D2.out⟩
set_option maxHeartbeats 1000000 in
theorem comes_throw (base : Nat) (v : Value) (w : World) (hv : Rws w v []) (hb : base ≤ w.heap.size) :
    Calls Try.prog 67 #[.agg #[.int .i64 3, .string ⟨#[]⟩, .int .i64 0], v] w (OutB base (.over 2) w) := by
  have HB := Lib.hid hb
  obtain ⟨cs, hRd, -⟩ := hv
  obtain ⟨_, ak, ck, rfl, -⟩ := hRd
  unfold OutB
  clear hb
  go_enter Try.func67, Try.ntmps67
  go_wp2_with fail
  have B0 := Lib.hid (below1 w (.cells #[.int .i64 3, .string ⟨#[]⟩, .int .i64 0] 28))
  refine (overP_any 2 _).mono ?_
  rintro e w1 ⟨rfl, hb1⟩
  have D1 := Lib.hid (B0.out.trans (hb1.mono B0.out.size))
  clear hb1
  go_wp2_with fail
  refine (mkP0 base 11 2 (.over 2) rfl _ (Nat.le_trans HB.out D1.out.size)).mono ?_
  rintro e w2 ⟨y, rfl, hn, hb⟩
  have N2 := Lib.hid hn
  have D2 := Lib.hid (D1.out.trans (hb.mono D1.out.size))
  clear hn hb
  go_wp2_with fail
  go_ret
  exact ⟨_, rfl, N2.out, D2.out⟩
theorem mkP_any (base : Nat) (k s : Int) (nm : ByteArray) (ls : List (List Nd)) (t : Tm) (h : flat t = ⟨k, nm, s⟩ :: ls.flatten) (v : Value) (w : World) (hv : Rws w v ls) (hl : ls.length ≤ 2) (hs : sz t ≤ 1000) (hb : base ≤ w.heap.size) :
    Calls Try.prog 65 #[.agg #[.int .i64 k, .string nm, .int .i64 s], v] w (OutB base t w) := mkP base ⟨k, nm, s⟩ ls t h v w hv hl hs hb
set_option maxHeartbeats 1000000 in
theorem comes_any (base : Nat) (k s : Int) (nm : ByteArray) (ls : List (List Nd)) (t : Tm) (h : flat t = ⟨k, nm, s⟩ :: ls.flatten) (hk : k ≠ 2 ∧ k ≠ 3 ∧ k ≠ 5 ∧ k ≠ 7 ∧ k ≠ 8 ∧ k ≠ 9 ∧ k ≠ 12 ∧ k ≠ 13) (v : Value) (w : World) (hv : Rws w v ls) (hl : ls.length ≤ 2) (hs : sz t ≤ 1000) (hb : base ≤ w.heap.size) :
    Calls Try.prog 67 #[.agg #[.int .i64 k, .string nm, .int .i64 s], v] w (OutB base t w) := by
  have HB := Lib.hid hb
  have HT := Lib.hid (fun w1 (hb : Below w.heap.size w w1) => hv.below hb)
  have HM := Lib.hid (fun v w1 (h1 : Rws w1 v ls) (h2 : base ≤ w1.heap.size) => mkP_any base k s nm ls t h v w1 h1 hl hs h2)
  obtain ⟨cs, hRd, -⟩ := hv
  obtain ⟨_, ak, ck, rfl, -⟩ := hRd
  obtain ⟨q2, q3, q5, q7, q8, q9, q12, q13⟩ := hk
  have f2 : (k == 2) = false := by rw [beq_eq_false_iff_ne]; exact q2
  have f3 : (k == 3) = false := by rw [beq_eq_false_iff_ne]; exact q3
  have f5 : (k == 5) = false := by rw [beq_eq_false_iff_ne]; exact q5
  have f7 : (k == 7) = false := by rw [beq_eq_false_iff_ne]; exact q7
  have f8 : (k == 8) = false := by rw [beq_eq_false_iff_ne]; exact q8
  have f9 : (k == 9) = false := by rw [beq_eq_false_iff_ne]; exact q9
  have f12 : (k == 12) = false := by rw [beq_eq_false_iff_ne]; exact q12
  have f13 : (k == 13) = false := by rw [beq_eq_false_iff_ne]; exact q13
  unfold OutB
  clear hb h hl hs q2 q3 q5 q7 q8 q9 q12 q13
  go_enter Try.func67, Try.ntmps67
  go_wp2_with fail
  have B0 := Lib.hid (below1 w (.cells #[.int .i64 k, .string nm, .int .i64 s] 28))
  refine (HM.out _ _ (HT.out _ B0.out) (Nat.le_trans HB.out B0.out.size)).mono ?_
  rintro e w2 ⟨y, rfl, hn, hb⟩
  have N2 := Lib.hid hn
  have D2 := Lib.hid (B0.out.trans (hb.mono B0.out.size))
  clear hn hb
  go_wp2_with fail
  go_ret
  exact ⟨_, rfl, N2.out, D2.out⟩
end Go.Proofs.Ytaapnkoooofalaa.Se
