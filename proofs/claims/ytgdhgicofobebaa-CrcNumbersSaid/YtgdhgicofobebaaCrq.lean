/- CrcNumbers: the walk. -/
import Derived.Test.YtgdhgicofobebaaCrp
namespace Go.Proofs.Ytgdhgicofobebaa.Cr
open Go Go.RowKit
set_option maxRecDepth 20000

theorem numbers_long (n k : Int) (vb : Value) (b : By) (w : World) (hb : Bys w vb b) (h : ¬ b.length ≤ 2100) :
    Calls Try.prog 4 #[.int .u64 n, .int .i64 k, vb] w (Yes w) := by
  have FB := Lib.hid (few_any vb b w hb)
  have HA := Lib.hid (alive_any w)
  obtain ⟨ab, nb, cb, rfl, hnb⟩ := id hb.split
  rw [decide_eq_false h] at FB
  clear hb hnb h
  go_enter Try.func4, Try.ntmps4
  go_wp2_with fail
  refine FB.out.mono ?_
  rintro e w' ⟨rfl, rfl⟩
  go_wp2_with fail
  refine HA.out.mono ?_
  rintro e w' ⟨rfl, hb⟩
  have D := Lib.hid hb
  clear hb
  go_wp2_with fail
  go_ret
  exact ⟨rfl, D.out⟩
/-- What is wanted of the bytes put. -/
theorem want_of (n : Nat) (k : Int) : ge ((pu (pm k) n).take 8) = n % 256 ^ pm k := by
  rw [List.take_of_length_le (by rw [pu_len]; exact pm_le k), ge_pu]
set_option maxHeartbeats 4000000 in
theorem numbers_short (n : Nat) (k : Int) (vb : Value) (b : By) (w : World) (hn : n < 18446744073709551616) (hb : Bys w vb b) (h2 : b.length ≤ 2100) :
    Calls Try.prog 4 #[.int .u64 (n : Int), .int .i64 k, vb] w (Yes w) := by
  have FB := Lib.hid (few_any vb b w hb)
  rw [decide_eq_true h2] at FB
  obtain ⟨ab, nb, cb, rfl, hnb⟩ := hb.split
  have HP := Lib.hid (putP_any n k w)
  have HW := Lib.hid (want_of n k)
  have HR := Lib.hid (fun X => putR_any n k X hn)
  have hm8 := pm_le k
  have HL := Lib.hid (pu_len (pm k) n)
  generalize pm k = m at HW hm8 HP HR HL
  have HG := Lib.hid (fun X (hX : Below w.heap.size w X) => getP_any _ b X (hb.below hX) (by omega))
  have HH := Lib.hid (fun X (hX : Below w.heap.size w X) => getR_any _ b X (hb.below hX) (by omega))
  generalize ge (b.take 8) = y at HG HH
  clear hb h2 hnb
  go_enter Try.func4, Try.ntmps4
  go_wp2_with fail
  refine FB.out.mono ?_
  rintro e w' ⟨rfl, rfl⟩
  go_wp2_with fail
  refine HP.out.mono ?_
  rintro e w1 ⟨y1, rfl, hy1, hb1⟩
  obtain ⟨a1, m1, c1, rfl, hm1⟩ := hy1.bys.split
  obtain rfl : m = m1 := by rw [← hm1]; exact HL.out.symm
  have D1 := Lib.hid hb1
  have Y1 := Lib.hid hy1.bys
  clear hy1 hb1 hm1
  by_cases h8 : m < 8
  · have i8 : (m : Int) < 8 := by omega
    obtain ⟨q, hq⟩ : ∃ q, 256 ^ m = q := ⟨_, rfl⟩
    have hq7 : q ≤ 72057594037927936 := by
      have : 256 ^ m ≤ 256 ^ 7 := Nat.pow_le_pow_right (by decide) (by omega)
      omega
    have hq0 : 0 < q := by rw [← hq]; exact Nat.pow_pos (by decide)
    have hqw : IntKind.u64.wrap (2 ^ (8 * m)) = (q : Int) := by
      have p : (2 : Int) ^ (8 * m) = ((256 ^ m : Nat) : Int) := by
        rw [Int.natCast_pow, show ((256 : Nat) : Int) = 2 ^ 8 from rfl, ← Int.pow_mul]
      rw [p, hq, IntKind.wrap_u64]
      omega
    obtain ⟨r, hr⟩ : ∃ r, n % q = r := ⟨_, rfl⟩
    have hr2 : (n : Int) % (q : Int) = (r : Int) := by rw [← hr]; rfl
    have hq1 : ¬ (q : Int) = 0 := by omega
    have HZ : Hid (ge ((pu m n).take 8) = r) := by have := HW.out; rw [hq, hr] at this; exact this
    have HA := Lib.hid (alive_any w1)
    clear h8 hq hr
    go_wp2_with fail
    refine (HA.out).mono ?_
    rintro e w2 ⟨rfl, hb2⟩
    have D2 := Lib.hid (D1.out.trans (hb2.mono D1.out.size))
    have Y2 := Lib.hid (Y1.out.below hb2)
    clear hb2
    go_wp2_with fail
    refine (HR.out w2).mono ?_
    rintro e w3 ⟨y3, rfl, hy3, hb3⟩
    obtain ⟨a3, m3, c3, rfl, hm3⟩ := hy3.bys.split
    have HS := Lib.hid (sameR_any _ _ (pu m n) (pu m n) w3 (Y2.out.below hb3) hy3.bys (by rw [HL.out]; omega) (by rw [HL.out]; omega))
    rw [decide_eq_true rfl] at HS
    have D3 := Lib.hid (D2.out.trans (hb3.mono D2.out.size))
    have Y3 := Lib.hid (Y2.out.below hb3)
    clear hy3 hb3 hm3
    go_wp2_with fail
    refine HS.out.mono ?_
    rintro e w4 ⟨rfl, hb4⟩
    have D4 := Lib.hid (D3.out.trans (hb4.mono D3.out.size))
    have Y4 := Lib.hid (Y3.out.below hb4)
    clear hb4
    go_wp2_with fail
    refine (HG.out _ D4.out).mono ?_
    rintro e w' ⟨rfl, rfl⟩
    go_wp2_with fail
    refine (HH.out _ D4.out).mono ?_
    rintro e w' ⟨rfl, rfl⟩
    have HQ := Lib.hid (getP_any _ _ w4 Y4.out (by rw [HL.out]; omega))
    rw [HZ.out] at HQ
    go_wp2_with fail
    refine HQ.out.mono ?_
    rintro e w' ⟨rfl, rfl⟩
    go_wp2_with fail
    go_ret
    exact ⟨rfl, D4.out⟩
  · have i8 : ¬ (m : Int) < 8 := by omega
    have HZ : Hid (ge ((pu m n).take 8) = n) := by
      have h := HW.out
      rw [show m = 8 by omega] at h ⊢
      rw [Nat.mod_eq_of_lt (by omega)] at h
      exact h
    have HA := Lib.hid (alive_any w1)
    clear h8
    go_wp2_with fail
    refine (HA.out).mono ?_
    rintro e w2 ⟨rfl, hb2⟩
    have D2 := Lib.hid (D1.out.trans (hb2.mono D1.out.size))
    have Y2 := Lib.hid (Y1.out.below hb2)
    clear hb2
    go_wp2_with fail
    refine (HR.out w2).mono ?_
    rintro e w3 ⟨y3, rfl, hy3, hb3⟩
    obtain ⟨a3, m3, c3, rfl, hm3⟩ := hy3.bys.split
    have HS := Lib.hid (sameR_any _ _ (pu m n) (pu m n) w3 (Y2.out.below hb3) hy3.bys (by rw [HL.out]; omega) (by rw [HL.out]; omega))
    rw [decide_eq_true rfl] at HS
    have D3 := Lib.hid (D2.out.trans (hb3.mono D2.out.size))
    have Y3 := Lib.hid (Y2.out.below hb3)
    clear hy3 hb3 hm3
    go_wp2_with fail
    refine HS.out.mono ?_
    rintro e w4 ⟨rfl, hb4⟩
    have D4 := Lib.hid (D3.out.trans (hb4.mono D3.out.size))
    have Y4 := Lib.hid (Y3.out.below hb4)
    clear hb4
    go_wp2_with fail
    refine (HG.out _ D4.out).mono ?_
    rintro e w' ⟨rfl, rfl⟩
    go_wp2_with fail
    refine (HH.out _ D4.out).mono ?_
    rintro e w' ⟨rfl, rfl⟩
    have HQ := Lib.hid (getP_any _ _ w4 Y4.out (by rw [HL.out]; omega))
    rw [HZ.out] at HQ
    go_wp2_with fail
    refine HQ.out.mono ?_
    rintro e w' ⟨rfl, rfl⟩
    go_wp2_with fail
    go_ret
    exact ⟨rfl, D4.out⟩
theorem numbers_law (n : Nat) (k : Int) (vb : Value) (b : By) (w : World) (hn : n < 18446744073709551616) (hb : Bys w vb b) :
    Calls Try.prog 4 #[.int .u64 (n : Int), .int .i64 k, vb] w (Yes w) := by
  by_cases h : b.length ≤ 2100
  · exact numbers_short n k vb b w hn hb h
  · exact numbers_long _ k vb b w hb h
end Go.Proofs.Ytgdhgicofobebaa.Cr
