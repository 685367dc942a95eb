/- CrcBack: the walk. -/
import Derived.Test.YtgdhgicofobebaaCrs
namespace Go.Proofs.Ytgdhgicofobebaa.Cr
open Go Go.RowKit
set_option maxRecDepth 20000

theorem back_long (n : Int) (va vb : Value) (a b : By) (w : World) (ha : Bys w va a) (hb : Bys w vb b) (h : ¬ (a.length ≤ 2100 ∧ b.length ≤ 2100)) :
    Calls Try.prog 7 #[.int .u64 n, va, vb] w (Yes w) := by
  have FA := Lib.hid (few_any va a w ha)
  have FB := Lib.hid (few_any vb b w hb)
  have HA := Lib.hid (alive_any w)
  obtain ⟨aa, na, ca, rfl, hna⟩ := id ha.split
  obtain ⟨ab, nb, cb, rfl, hnb⟩ := id hb.split
  clear ha hb hna hnb
  by_cases h1 : a.length ≤ 2100
  · rw [decide_eq_true h1] at FA
    rw [decide_eq_false (fun h2 => h ⟨h1, h2⟩)] at FB
    clear h h1
    go_enter Try.func7, Try.ntmps7
    go_wp2_with fail
    refine FA.out.mono ?_
    rintro e w' ⟨rfl, rfl⟩
    go_wp2_with fail
    refine FB.out.mono ?_
    rintro e w' ⟨rfl, rfl⟩
    go_wp2_with fail
    refine HA.out.mono ?_
    rintro e w' ⟨rfl, hb⟩
    have D := Lib.hid hb
    clear hb
    go_wp2_with fail
    go_ret
    exact ⟨rfl, D.out⟩
  · rw [decide_eq_false h1] at FA
    clear h h1
    go_enter Try.func7, Try.ntmps7
    go_wp2_with fail
    refine FA.out.mono ?_
    rintro e w' ⟨rfl, rfl⟩
    go_wp2_with fail
    refine HA.out.mono ?_
    rintro e w' ⟨rfl, hb⟩
    have D := Lib.hid hb
    clear hb
    go_wp2_with fail
    go_ret
    exact ⟨rfl, D.out⟩
set_option maxHeartbeats 2000000 in
theorem back_none (n : Nat) (va vb : Value) (a b : By) (w : World) (ha : Bys w va a) (hb : Bys w vb b) (h1 : a.length ≤ 2100) (h2 : b.length ≤ 2100) (h3 : ¬ a.length ≤ 2048) :
    Calls Try.prog 7 #[.int .u64 (n : Int), va, vb] w (Yes w) := by
  have FA := Lib.hid (few_any va a w ha)
  have FB := Lib.hid (few_any vb b w hb)
  rw [decide_eq_true h1] at FA
  rw [decide_eq_true h2] at FB
  have HF := Lib.hid (frameP_long n va a w ha (by omega))
  have HA := Lib.hid (alive_any w)
  obtain ⟨aa, na, ca, rfl, hna⟩ := id ha.split
  obtain ⟨ab, nb, cb, rfl, hnb⟩ := id hb.split
  clear ha hb hna hnb h1 h2 h3
  go_enter Try.func7, Try.ntmps7
  go_wp2_with fail
  refine FA.out.mono ?_
  rintro e w' ⟨rfl, rfl⟩
  go_wp2_with fail
  refine FB.out.mono ?_
  rintro e w' ⟨rfl, rfl⟩
  go_wp2_with fail
  refine HF.out.mono ?_
  rintro e w' ⟨rfl, rfl⟩
  go_wp2_with fail
  refine HA.out.mono ?_
  rintro e w' ⟨rfl, hb⟩
  have D := Lib.hid hb
  clear hb
  go_wp2_with fail
  go_ret
  exact ⟨rfl, D.out⟩
theorem cut_at (w : World) (N : Nat) (h : 1 ≤ N) (hN : N ≤ 3000) : ∀ i, i < 6 → ∃ K : Nat, K ≤ 3000 ∧ (w.alloc (.cells #[.int .i64 0, .int .i64 1, .int .i64 8, .int .i64 15, .int .i64 16, .int .i64 ((N : Int) - 1)] 3)).cell? ⟨w.heap.size, i, none⟩ = some (.int .i64 (K : Int)) := by
  intro i hi
  have e : ((N : Int) - 1) = ((N - 1 : Nat) : Int) := by omega
  rw [e]
  rw [World.cell?_alloc_new]
  match i, hi with
  | 0, _ => exact ⟨0, by omega, rfl⟩
  | 1, _ => exact ⟨1, by omega, rfl⟩
  | 2, _ => exact ⟨8, by omega, rfl⟩
  | 3, _ => exact ⟨15, by omega, rfl⟩
  | 4, _ => exact ⟨16, by omega, rfl⟩
  | 5, _ => exact ⟨N - 1, by omega, rfl⟩
theorem op_frame {n : Nat} {d : By} (b : By) (hn : n < 18446744073709551616) (hd : d.length ≤ 2048) : oN (frame n d ++ b) = n ∧ oD (frame n d ++ b) = d ∧ oB (frame n d ++ b) = true := by
  unfold oN oD oB
  rw [open_frame b hn hd]
  exact ⟨rfl, rfl, rfl⟩
theorem op_part {n : Nat} {d : By} {k : Nat} (hd : d.length ≤ 2048) (hk : k < 16 + d.length) : oB ((frame n d).take k) = false := by
  unfold oB
  rw [open_part hd hk]
  rfl
set_option maxHeartbeats 4000000 in
theorem back_main (n : Nat) (va vb : Value) (a b : By) (w : World) (hn : n < 18446744073709551616) (ha : Bys w va a) (hb : Bys w vb b) (h2 : b.length ≤ 2100) (h3 : a.length ≤ 2048) :
    Calls Try.prog 7 #[.int .u64 (n : Int), va, vb] w (Yes w) := by
  have FA := Lib.hid (few_any va a w ha)
  have FB := Lib.hid (few_any vb b w hb)
  rw [decide_eq_true (by omega)] at FA
  rw [decide_eq_true h2] at FB
  have HF := Lib.hid (frameP_any n va a w ha h3)
  have HV := Lib.hid (fun X (hX : Below w.heap.size w X) => ha.below hX)
  have HW := Lib.hid (fun X (hX : Below w.heap.size w X) => hb.below hX)
  have H3 := Lib.hid h3
  have H2 := Lib.hid h2
  obtain ⟨aa, na, ca, rfl, hna⟩ := id ha.split
  obtain ⟨ab, nb, cb, rfl, hnb⟩ := id hb.split
  obtain ⟨N, hN⟩ : ∃ N, 16 + a.length = N := ⟨_, rfl⟩
  have hN1 : 16 ≤ N := by omega
  have hN2 : N ≤ 2064 := by omega
  have HN := Lib.hid hN
  have HNO := Lib.hid hn
  clear ha hb hna hnb h2 h3 hN hn
  go_enter Try.func7, Try.ntmps7
  go_wp2_with fail
  refine FA.out.mono ?_
  rintro e w' ⟨rfl, rfl⟩
  go_wp2_with fail
  refine FB.out.mono ?_
  rintro e w' ⟨rfl, rfl⟩
  go_wp2_with fail
  refine HF.out.mono ?_
  rintro e w1 ⟨y, rfl, hy, hb1⟩
  obtain ⟨ay, my, cy, rfl, hmy⟩ := hy.bys.split
  obtain rfl : N = my := by rw [← hmy, frame_len]; exact HN.out.symm
  have hcy := hy.bys.cap
  have Y1 := Lib.hid hy.bys
  have D1 := Lib.hid hb1
  obtain ⟨v2, w2, r2, h2, b2⟩ := append_full hy.bys.full (HW.out _ hb1) (by rw [frame_len, HN.out]; have := H2.out; omega)
  obtain ⟨a2, m2, c2, rfl, hm2⟩ := h2.split
  have R2 := Lib.hid r2
  have D2 := Lib.hid (hb1.trans (b2.mono hb1.size))
  have HO := Lib.hid (opP_one h2 (by rw [List.length_append, frame_len, HN.out]; have := H2.out; omega))
  rw [(op_frame b HNO.out H3.out).1, (op_frame b HNO.out H3.out).2.1, (op_frame b HNO.out H3.out).2.2] at HO
  have Y2 := Lib.hid (hy.bys.below b2)
  clear hy hb1 hmy r2 h2 b2 hm2 Y1
  go_wp2_with (at_builtin; refine Ap.wpList_append_run (by rfl) (.tmp 41) (.tmp 42) _ _ rfl _ _ rfl rfl _ w2 R2.out ?_)
  refine HO.out.mono ?_
  rintro e w3 ⟨y3, rfl, hy3, hb3⟩
  obtain ⟨a3, m3, c3, rfl, hm3⟩ := hy3.bys.split
  have D3 := Lib.hid (D2.out.trans (hb3.mono D2.out.size))
  have Y3 := Lib.hid (Y2.out.below hb3)
  have Z3 := Lib.hid hy3.bys
  have hs3 := hb3.size
  clear hy3 hb3 hm3 Y2 D2
  have HC := Lib.hid (cut_at w3 N (by omega) (by omega))
  have B4 := Lib.hid (below1 w3 (.cells #[.int .i64 0, .int .i64 1, .int .i64 8, .int .i64 15, .int .i64 16, .int .i64 ((N : Int) - 1)] 3))
  go_wp2_with fail
  obtain ⟨g, hg⟩ : ∃ g, w3.heap.size = g := ⟨_, rfl⟩
  obtain ⟨w4, hw4⟩ : ∃ w4, w3.alloc (.cells #[.int .i64 0, .int .i64 1, .int .i64 8, .int .i64 15, .int .i64 16, .int .i64 ((N : Int) - 1)] 3) = w4 := ⟨_, rfl⟩
  have hg4 : g < w4.heap.size := by rw [← hw4, ← hg]; simp
  have D4 : Below w.heap.size w w4 := by rw [← hw4]; exact D3.out.trans (B4.out.mono D3.out.size)
  have Y4 : Bys w4 (.slice ay N cy) (frame n a) := by rw [← hw4]; exact Y3.out.below B4.out
  have Z4 : Bys w4 (.slice a3 m3 c3) a := by rw [← hw4]; exact Z3.out.below B4.out
  rw [hg, hw4] at HC
  rw [hg, hw4]
  have D4 := Lib.hid D4
  have Y4 := Lib.hid Y4
  have Z4 := Lib.hid Z4
  clear hg hw4 B4 D3 Y3 Z3 hs3
  go_loopw [13, 14, 15, 16, 53] (fun _ _ _ _ iv wr => ∃ k : Nat, k ≤ 6 ∧ iv = .int .i64 k ∧ Hid (Below w4.heap.size w4 wr)) (fun _ _ _ _ iv _ => 6 - (intOf iv).toNat)
  case atStart => exact ⟨0, Nat.zero_le _, rfl, Lib.hid (Below.refl _ _)⟩
  case round =>
    obtain ⟨k, hk, rfl, HB⟩ := hrel
    by_cases hlt : k < 6
    · obtain ⟨K, hK, c0⟩ := HC.out k hlt
      have c1 : wr.cell? ⟨g, k, none⟩ = some (.int .i64 (K : Int)) := by rw [HB.out.cell (p := ⟨g, k, none⟩) hg4]; exact c0
      clear c0
      by_cases hKN : K < N
      · have g1 : decide ((K : Int) < (N : Int)) = true := decide_eq_true (by omega)
        have g2 : decide ((K : Int) ≥ 0) = true := decide_eq_true (by omega)
        have hKc : K ≤ cy := by omega
        have HO := Lib.hid (opP_one ((Y4.out.below HB.out).take (k := K) (by omega)) (by rw [List.length_take]; omega))
        rw [op_part H3.out (by rw [HN.out]; exact hKN)] at HO
        go_wp2_with fail
        refine HO.out.mono ?_
        rintro e w5 ⟨y5, rfl, hy5, hb5⟩
        have B5 := Lib.hid (HB.out.trans (hb5.mono HB.out.size))
        obtain ⟨a5, m5, c5, rfl, -⟩ := hy5.bys.split
        clear hy5 hb5
        go_wp2_with fail
        go_roundw
        case rel => exact ⟨k + 1, by omega, by go_num, B5⟩
        case measure => first | (simp [intOf]; done) | (simp [intOf]; omega)
      · have g1 : decide ((K : Int) < (N : Int)) = false := decide_eq_false (by omega)
        go_wp2_with fail
        go_roundw
        case rel => exact ⟨k + 1, by omega, by go_num, HB⟩
        case measure => first | (simp [intOf]; done) | (simp [intOf]; omega)
    · have HA := Lib.hid (alive_any wr)
      have Dr := Lib.hid (D4.out.trans (HB.out.mono D4.out.size))
      have Zr := Lib.hid (Z4.out.below HB.out)
      clear HB HC
      go_wp2_with fail
      refine HA.out.mono ?_
      rintro e w5 ⟨rfl, hb5⟩
      have D5 := Lib.hid (Dr.out.trans (hb5.mono Dr.out.size))
      have HS := Lib.hid (sameR_any _ _ a a w5 (Zr.out.below hb5) (HV.out _ D5.out) (by have := H3.out; omega) (by have := H3.out; omega))
      rw [decide_eq_true rfl] at HS
      clear hb5
      go_wp2_with fail
      refine HS.out.mono ?_
      rintro e w6 ⟨rfl, hb6⟩
      have D6 := Lib.hid (D5.out.trans (hb6.mono D5.out.size))
      clear hb6
      go_wp2_with fail
      go_ret
      exact ⟨rfl, D6.out⟩
theorem back_law (n : Nat) (va vb : Value) (a b : By) (w : World) (hn : n < 18446744073709551616) (ha : Bys w va a) (hb : Bys w vb b) : Calls Try.prog 7 #[.int .u64 (n : Int), va, vb] w (Yes w) := by
  by_cases h : a.length ≤ 2100 ∧ b.length ≤ 2100
  · by_cases h3 : a.length ≤ 2048
    · exact back_main n va vb a b w hn ha hb h.2 h3
    · exact back_none n va vb a b w ha hb h.1 h.2 h3
  · exact back_long _ va vb a b w ha hb h
end Go.Proofs.Ytgdhgicofobebaa.Cr
