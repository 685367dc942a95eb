/- CrcBits: the walk. -/
import Derived.Test.YtgdhgicofobebaaCrs
namespace Go.Proofs.Ytgdhgicofobebaa.Cr
open Go Go.RowKit
set_option maxRecDepth 20000

theorem and7 (k : Int) : ∃ j : Nat, j < 8 ∧ bits BinOp.and IntKind.i64 k 7 = (j : Int) := by
  refine ⟨(BitVec.ofInt 64 k).toNat % 8, Nat.mod_lt _ (by decide), ?_⟩
  show IntKind.i64.wrap ((BitVec.ofInt 64 k &&& BitVec.ofInt 64 7).toNat : Int) = _
  rw [BitVec.toNat_and, show (BitVec.ofInt 64 7).toNat = 2 ^ 3 - 1 by decide, Nat.and_two_pow_sub_one_eq_mod, IntKind.wrap_i64]
  omega
/-- A bit of a byte turned. -/
def turned (a : BitVec 8) (q : Nat) : BitVec 8 := a ^^^ BitVec.ofNat 8 q
theorem turned_ne (a : BitVec 8) (q : Nat) (h0 : 0 < q) (h1 : q < 256) : a ≠ turned a q := by
  intro h
  have h2 := congrArg (a ^^^ ·) h
  simp only [turned, ← BitVec.xor_assoc, BitVec.xor_self, BitVec.zero_xor] at h2
  have := congrArg BitVec.toNat h2
  rw [BitVec.toNat_ofNat, BitVec.toNat_ofNat] at this
  omega
theorem turned_xor (a : BitVec 8) (q : Nat) (h1 : q < 256) : bits .xor .u8 (a.toNat : Int) (q : Int) = ((turned a q).toNat : Int) := by
  have ha := a.isLt
  unfold turned
  rw [BitVec.toNat_xor, BitVec.toNat_ofNat, Nat.mod_eq_of_lt h1]
  exact u8_xor_nat a.toNat q (by omega) (by omega)
theorem two_pow (j : Nat) (hj : j < 8) : ∃ q : Nat, 0 < q ∧ q < 256 ∧ IntKind.u8.wrap (2 ^ j) = (q : Int) := by
  match j, hj with
  | 0, _ => exact ⟨1, by omega, by omega, by rw [IntKind.wrap_u8']; rfl⟩
  | 1, _ => exact ⟨2, by omega, by omega, by rw [IntKind.wrap_u8']; rfl⟩
  | 2, _ => exact ⟨4, by omega, by omega, by rw [IntKind.wrap_u8']; rfl⟩
  | 3, _ => exact ⟨8, by omega, by omega, by rw [IntKind.wrap_u8']; rfl⟩
  | 4, _ => exact ⟨16, by omega, by omega, by rw [IntKind.wrap_u8']; rfl⟩
  | 5, _ => exact ⟨32, by omega, by omega, by rw [IntKind.wrap_u8']; rfl⟩
  | 6, _ => exact ⟨64, by omega, by omega, by rw [IntKind.wrap_u8']; rfl⟩
  | 7, _ => exact ⟨128, by omega, by omega, by rw [IntKind.wrap_u8']; rfl⟩
/-- Where the bit is: the remainder, its sign struck. -/
theorem rem_of (z : Int) (N : Nat) (h : 0 < N) : (∃ k : Nat, k < N ∧ z.tmod (N : Int) = (k : Int)) ∨ ∃ (r : Int) (k : Nat), k < N ∧ z.tmod (N : Int) = r ∧ r < 0 ∧ -r = (k : Int) := by
  have h1 := Int.tmod_lt_of_pos z (show (0 : Int) < (N : Int) by omega)
  have h2 := Int.lt_tmod_of_pos z (show (0 : Int) < (N : Int) by omega)
  by_cases h3 : 0 ≤ z.tmod (N : Int)
  · exact .inl ⟨(z.tmod (N : Int)).toNat, by omega, by omega⟩
  · exact .inr ⟨z.tmod (N : Int), (-(z.tmod (N : Int))).toNat, by omega, rfl, by omega, by omega⟩
/-- The frame with the byte turned is not opened. -/
theorem no_open {n : Nat} {d : By} {k q : Nat} (hk : k < (frame n d).length) (hn : n < 18446744073709551616) (hd : d.length ≤ 2048) (h0 : 0 < q) (h1 : q < 256) (hno : ¬ (8 ≤ k ∧ k < 12)) : oB ((frame n d).set k (turned (frame n d)[k] q)) = false := by
  unfold oB
  have hl : ((frame n d).take k).length = k := by rw [List.length_take]; omega
  rw [List.set_eq_take_append_cons_drop, if_pos hk]
  rw [open_bit (n := n) (data := d) (l := (frame n d).take k) (m := (frame n d).drop (k + 1)) (a := (frame n d)[k]) hn hd (by rw [← List.drop_eq_getElem_cons hk, List.take_append_drop]) (turned_ne _ q h0 h1) (by rw [hl]; exact hno)]
  rfl
set_option maxHeartbeats 1000000 in
theorem bits_long (n z0 z1 : Int) (v : Value) (d : By) (w : World) (hv : Bys w v d) (h : ¬ d.length ≤ 2100) :
    Calls Try.prog 8 #[.int .u64 n, v, .agg #[.int .i64 z0, .int .i64 z1]] w (Yes w) := by
  have hb0 := below1 w (.cells #[.int .i64 z0, .int .i64 z1] 41)
  have FB := Lib.hid (few_any v d _ (hv.below hb0))
  have HA := Lib.hid (alive_any (w.alloc (.cells #[.int .i64 z0, .int .i64 z1] 41)))
  obtain ⟨ab, nb, cb, rfl, hnb⟩ := id hv.split
  rw [decide_eq_false h] at FB
  have D0 := Lib.hid hb0
  clear hv hnb h hb0
  go_enter Try.func8, Try.ntmps8
  go_wp2_with fail
  refine FB.out.mono ?_
  rintro e w' ⟨rfl, rfl⟩
  go_wp2_with fail
  refine HA.out.mono ?_
  rintro e w' ⟨rfl, hb⟩
  have D := Lib.hid (D0.out.trans (hb.mono D0.out.size))
  clear hb
  go_wp2_with fail
  go_ret
  exact ⟨rfl, D.out⟩
set_option maxHeartbeats 2000000 in
theorem bits_none (n : Nat) (z0 z1 : Int) (v : Value) (d : By) (w : World) (hv : Bys w v d) (h : d.length ≤ 2100) (h3 : ¬ d.length ≤ 2048) :
    Calls Try.prog 8 #[.int .u64 (n : Int), v, .agg #[.int .i64 z0, .int .i64 z1]] w (Yes w) := by
  have hb0 := below1 w (.cells #[.int .i64 z0, .int .i64 z1] 41)
  have FB := Lib.hid (few_any v d _ (hv.below hb0))
  have HF := Lib.hid (frameP_long n v d _ (hv.below hb0) (by omega))
  have HA := Lib.hid (alive_any (w.alloc (.cells #[.int .i64 z0, .int .i64 z1] 41)))
  obtain ⟨ab, nb, cb, rfl, hnb⟩ := id hv.split
  rw [decide_eq_true h] at FB
  have D0 := Lib.hid hb0
  have hnb2 : (2048 : Int) < (nb : Int) := by omega
  clear hv hnb h h3 hb0
  go_enter Try.func8, Try.ntmps8
  go_wp2_with fail
  refine FB.out.mono ?_
  rintro e w' ⟨rfl, rfl⟩
  go_wp2_with fail
  refine HF.out.mono ?_
  rintro e w' ⟨rfl, rfl⟩
  go_wp2_with fail
  refine HA.out.mono ?_
  rintro e w' ⟨rfl, hb⟩
  have D := Lib.hid (D0.out.trans (hb.mono D0.out.size))
  clear hb
  go_wp2_with fail
  go_ret
  exact ⟨rfl, D.out⟩
set_option maxHeartbeats 4000000 in
theorem bits_main (n : Nat) (z0 z1 : Int) (v : Value) (d : By) (w : World) (hn : n < 18446744073709551616) (hv : Bys w v d) (h : d.length ≤ 2048) :
    Calls Try.prog 8 #[.int .u64 (n : Int), v, .agg #[.int .i64 z0, .int .i64 z1]] w (Yes w) := by
  have hb0 := below1 w (.cells #[.int .i64 z0, .int .i64 z1] 41)
  have FB := Lib.hid (few_any v d _ (hv.below hb0))
  have HF := Lib.hid (frameP_any n v d _ (hv.below hb0) h)
  obtain ⟨ab, nb, cb, rfl, hnb⟩ := id hv.split
  rw [decide_eq_true (by omega)] at FB
  have D0 := Lib.hid hb0
  have z0c : (w.alloc (.cells #[.int .i64 z0, .int .i64 z1] 41)).cell? ⟨w.heap.size, 0, none⟩ = some (.int .i64 z0) := by rw [World.cell?_alloc_new]; rfl
  have z1c : (w.alloc (.cells #[.int .i64 z0, .int .i64 z1] 41)).cell? ⟨w.heap.size, 1, none⟩ = some (.int .i64 z1) := by rw [World.cell?_alloc_new]; rfl
  have Z0 := Lib.hid z0c
  have Z1 := Lib.hid z1c
  obtain ⟨N, hN⟩ : ∃ N, 16 + d.length = N := ⟨_, rfl⟩
  have hN1 : 16 ≤ N := by omega
  have hN2 : N ≤ 2064 := by omega
  have HN := Lib.hid hN
  have HNO := Lib.hid hn
  have H3 := Lib.hid h
  clear hv hnb h hb0 z0c z1c hN hn
  go_enter Try.func8, Try.ntmps8
  go_wp2_with fail
  refine FB.out.mono ?_
  rintro e w' ⟨rfl, rfl⟩
  go_wp2_with fail
  refine HF.out.mono ?_
  rintro e w1 ⟨y, rfl, hy, hb1⟩
  obtain ⟨ay, my, cy, rfl, hmy⟩ := hy.bys.split
  obtain rfl : N = my := by rw [← hmy, frame_len]; exact HN.out.symm
  have hcy := hy.bys.cap
  have g0 : w.heap.size < (w.alloc (.cells #[.int .i64 z0, .int .i64 z1] 41)).heap.size := by simp
  have c0 : w1.cell? ⟨w.heap.size, 0, none⟩ = some (.int .i64 z0) := by rw [hb1.cell (p := ⟨w.heap.size, 0, none⟩) g0]; exact Z0.out
  have c1 : w1.cell? ⟨w.heap.size, 1, none⟩ = some (.int .i64 z1) := by rw [hb1.cell (p := ⟨w.heap.size, 1, none⟩) g0]; exact Z1.out
  have Y1 := Lib.hid hy
  have D1 := Lib.hid (D0.out.trans (hb1.mono D0.out.size))
  have hbase := hb1.size
  obtain ⟨g, Q, hag, hgb, -, hh⟩ := hy.parts (by rw [frame_len, HN.out]; omega)
  subst hag
  have hfl : (frame n d).length = N := by rw [frame_len]; exact HN.out
  obtain ⟨j, hj, hkj⟩ := and7 z1
  obtain ⟨q, hq0, hq1, hqw⟩ := two_pow j hj
  have GH := Lib.hid hh
  have HFL := Lib.hid hfl
  have hgw : w.heap.size ≤ g := Nat.le_trans D0.out.size hgb
  clear hy hb1 hmy Z0 Z1 g0 hh hfl hgb hbase
  have key : ∀ k : Nat, k < N → ¬ (8 ≤ k ∧ k < 12) → ∃ x c : Nat, c < 256 ∧ w1.cell? ⟨g, k, none⟩ = some (.int .u8 (x : Int)) ∧ w1.frozen? ⟨g, k, none⟩ = false ∧ bits .xor .u8 (x : Int) (q : Int) = (c : Int) ∧
      ∃ F : By, F.length = N ∧ Bys (w1.drew.setCell ⟨g, k, none⟩ (.int .u8 (c : Int))) (.slice (some ⟨g, 0, none⟩) N cy) F ∧ oB F = false := by
    intro k hk hno
    have hk' : k < (frame n d).length := by rw [HFL.out]; exact hk
    have hkb : k < (bc (frame n d)).length := by rw [bc_len]; exact hk'
    refine ⟨(frame n d)[k].toNat, (turned (frame n d)[k] q).toNat, (turned _ q).isLt, ?_, blk_soft GH.out k, turned_xor _ q hq1, (frame n d).set k (turned (frame n d)[k] q), by rw [List.length_set]; exact HFL.out, ?_, no_open hk' HNO.out H3.out hq0 hq1 hno⟩
    · rw [blk_cell GH.out, List.getElem?_append_left hkb]
      simp [bc, hk']
    · have h2 := blk_set (w := w1.drew) (o := k) (.int .u8 ((turned (frame n d)[k] q).toNat : Int)) GH.out
      rw [List.set_append_left _ _ hkb] at h2
      have e : (bc (frame n d)).set k (.int .u8 ((turned (frame n d)[k] q).toNat : Int)) = bc ((frame n d).set k (turned (frame n d)[k] q)) := by
        unfold bc
        rw [List.map_set]
      rw [e] at h2
      have h3 := bys_cells (b := g) (off := 0) (cap := cy) (l := (frame n d).set k (turned (frame n d)[k] q)) (by rw [List.length_set, HFL.out]; exact hcy) (fun i hi => by
        rw [blk_cell h2, Nat.zero_add, List.getElem?_append_left (by rw [bc_len]; exact hi)]
        simp only [bc, List.getElem?_map, List.getElem?_eq_getElem hi, Option.map_some])
      rw [List.length_set, HFL.out] at h3
      exact h3
  have KEY := Lib.hid key
  have HA1 := Lib.hid (alive_any w1)
  clear key hcy
  rcases rem_of z0 N (by omega) with ⟨k, hk, hr⟩ | ⟨r, k, hk, hr, hneg, hrk⟩
  · by_cases hno : 8 ≤ k ∧ k < 12
    · obtain ⟨i8, i12⟩ := hno
      go_wp2_with fail
      refine HA1.out.mono ?_
      rintro e w2 ⟨rfl, hb⟩
      have D := Lib.hid (D1.out.trans (hb.mono D1.out.size))
      clear hb
      go_wp2_with fail
      go_ret
      exact ⟨rfl, D.out⟩
    · obtain ⟨x, c, hc, e0, f0, hx, F, hF, hB, hO⟩ := KEY.out k hk hno
      have HO := Lib.hid (opP_one hB (by omega))
      rw [hO] at HO
      have D2 := Lib.hid (below_setCell (w0 := w) (B := w.heap.size) (D1.out.trans (Below.refl _ _).drew) g k (.int .u8 (c : Int)) hgw)
      have k2 : ((k : Int) < 8) ∨ ((12 : Int) ≤ (k : Int)) := by omega
      clear hB hO hF hno
      rcases k2 with k2 | k2
      all_goals
        go_wp2_with fail
        go_region
        go_wp2_with fail
        refine HO.out.mono ?_
        rintro e w3 ⟨y3, rfl, hy3, hb3⟩
        obtain ⟨a3, m3, c3, rfl, -⟩ := hy3.bys.split
        have D3 := Lib.hid (D2.out.trans (hb3.mono D2.out.size))
        have HA := Lib.hid (alive_any w3)
        clear hy3 hb3
        go_wp2_with fail
        refine HA.out.mono ?_
        rintro e w4 ⟨rfl, hb⟩
        have D4 := Lib.hid (D3.out.trans (hb.mono D3.out.size))
        clear hb
        go_wp2_with fail
        go_ret
        exact ⟨rfl, D4.out⟩
  · have hw : wrap64 (-r) = (k : Int) := by rw [hrk]; unfold wrap64; omega
    clear hrk
    by_cases hno : 8 ≤ k ∧ k < 12
    · obtain ⟨i8, i12⟩ := hno
      go_wp2_with fail
      refine HA1.out.mono ?_
      rintro e w2 ⟨rfl, hb⟩
      have D := Lib.hid (D1.out.trans (hb.mono D1.out.size))
      clear hb
      go_wp2_with fail
      go_ret
      exact ⟨rfl, D.out⟩
    · obtain ⟨x, c, hc, e0, f0, hx, F, hF, hB, hO⟩ := KEY.out k hk hno
      have HO := Lib.hid (opP_one hB (by omega))
      rw [hO] at HO
      have D2 := Lib.hid (below_setCell (w0 := w) (B := w.heap.size) (D1.out.trans (Below.refl _ _).drew) g k (.int .u8 (c : Int)) hgw)
      have k2 : ((k : Int) < 8) ∨ ((12 : Int) ≤ (k : Int)) := by omega
      clear hB hO hF hno
      rcases k2 with k2 | k2
      all_goals
        go_wp2_with fail
        go_region
        go_wp2_with fail
        refine HO.out.mono ?_
        rintro e w3 ⟨y3, rfl, hy3, hb3⟩
        obtain ⟨a3, m3, c3, rfl, -⟩ := hy3.bys.split
        have D3 := Lib.hid (D2.out.trans (hb3.mono D2.out.size))
        have HA := Lib.hid (alive_any w3)
        clear hy3 hb3
        go_wp2_with fail
        refine HA.out.mono ?_
        rintro e w4 ⟨rfl, hb⟩
        have D4 := Lib.hid (D3.out.trans (hb.mono D3.out.size))
        clear hb
        go_wp2_with fail
        go_ret
        exact ⟨rfl, D4.out⟩
theorem bits_law (n : Nat) (z0 z1 : Int) (v : Value) (d : By) (w : World) (hn : n < 18446744073709551616) (hv : Bys w v d) : Calls Try.prog 8 #[.int .u64 (n : Int), v, .agg #[.int .i64 z0, .int .i64 z1]] w (Yes w) := by
  by_cases h : d.length ≤ 2100
  · by_cases h3 : d.length ≤ 2048
    · exact bits_main n z0 z1 v d w hn hv h3
    · exact bits_none n z0 z1 v d w hv h h3
  · exact bits_long _ z0 z1 v d w hv h
end Go.Proofs.Ytgdhgicofobebaa.Cr
