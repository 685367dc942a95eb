/- The document's par, block, Tree, Settle: the walks. -/
import Derived.Test.YtpingbiibbmcaaaGreatQ13
import Derived.Test.YtpingbiibbmcaaaGreatQ05
import Derived.StillTailTactics

namespace Go.Proofs.YtpingbiibbmcaaaGreat.Se
open Go Go.RowKit Go.Proofs.YtpingbiibbmcaaaGreat.Rw Go.Proofs.YtpingbiibbmcaaaGreat.So
set_option maxRecDepth 20000

set_option maxHeartbeats 1000000 in
theorem par_over (s t : Int) (va vd : Value) (w : World) (hA : Nds w va (flat (.over s))) (hB : Nds w vd (flat (.over t))) (hl : sz (.over s) + sz (.over t) ≤ 900) :
    Calls Tryz.prog 31 #[va, vd] w (OutN (.over (Sg.both s t)) w) := by
  have HL : Hid (sz (.over s) + sz (.over t) ≤ 900) := Lib.hid hl
  obtain ⟨X, hX⟩ : ∃ X, Sg.both s t = X := ⟨_, rfl⟩
  rw [hX]
  have AA := Lib.hid (fun w1 (hb : Below w.heap.size w w1) => hA.below hb)
  obtain ⟨bA, oA, cA, rfl, hcA, hltA, hwA, hatA⟩ := form hA
  have hpA := sz_pos (.over s)
  obtain ⟨nA, hnA⟩ : ∃ n, sz (.over s) = n + 1 := ⟨sz (.over s) - 1, by omega⟩
  rw [hnA] at hcA AA hpA ⊢
  have g3A : (1 : Int) ≤ (nA : Int) + 1 := by omega
  clear hnA
  rw [show kd (.over s) = 11 from rfl, show sg (.over s) = s from rfl] at hwA
  have SA := Lib.hid hwA
  obtain ⟨e0A, e2A⟩ := hwA w (Below.refl _ _)
  clear hatA hA hwA
  have AB := Lib.hid (fun w1 (hb : Below w.heap.size w w1) => hB.below hb)
  obtain ⟨bB, oB, cB, rfl, hcB, hltB, hwB, hatB⟩ := form hB
  have hpB := sz_pos (.over t)
  obtain ⟨nB, hnB⟩ : ∃ n, sz (.over t) = n + 1 := ⟨sz (.over t) - 1, by omega⟩
  rw [hnB] at hcB AB hpB ⊢
  have g3B : (1 : Int) ≤ (nB : Int) + 1 := by omega
  clear hnB
  rw [show kd (.over t) = 11 from rfl, show sg (.over t) = t from rfl] at hwB
  have SB := Lib.hid hwB
  obtain ⟨e0B, e2B⟩ := hwB w (Below.refl _ _)
  clear hatB hB hwB
  have HX := Lib.hid hX
  unfold OutN
  clear hX hl
  go_enter Tryz.func31, Tryz.ntmps31
  go_wp2_with fail
  go_still_tail 8, (by kernel_rfl)
  change wpList _ _ _ _ _ w.drew
  go_wp2_with fail
  refine (Sg.bothR_any _ _ _).mono ?_
  rw [HX.out]
  rintro e w1 ⟨rfl, rfl⟩
  go_wp2_with fail
  refine (overR_any _ _).mono ?_
  rintro e w1 ⟨y, rfl, hn, hb⟩
  have N1 := Lib.hid hn
  have D1 := Lib.hid ((Below.refl w.heap.size w).drew.trans hb)
  clear hn hb
  go_wp2_with fail
  go_ret
  exact ⟨_, rfl, N1.out, D1.out⟩
set_option maxHeartbeats 1000000 in
theorem par_fin (s t : Int) (c d : Tm) (va vd : Value) (w : World) (hA : Nds w va (flat (.fin s c))) (hB : Nds w vd (flat (.fin t d))) (hl : sz (.fin s c) + sz (.fin t d) ≤ 900) :
    Calls Tryz.prog 31 #[va, vd] w (OutN (.fin (Sg.both s t) (.par c d)) w) := by
  have HL : Hid (sz (.fin s c) + sz (.fin t d) ≤ 900) := Lib.hid hl
  obtain ⟨X, hX⟩ : ∃ X, Sg.both s t = X := ⟨_, rfl⟩
  rw [hX]
  have AA := Lib.hid (fun w1 (hb : Below w.heap.size w w1) => hA.below hb)
  obtain ⟨bA, oA, cA, rfl, hcA, hltA, hwA, hatA⟩ := form hA
  have hpA := sz_pos (.fin s c)
  have TA := Lib.hid (fun w1 (hb : Below w.heap.size w w1) => (tail_fin hatA hcA).below hb)
  have hzA : sz (.fin s c) = sz c + 1 := rfl
  rw [hzA] at hcA AA hpA ⊢
  obtain ⟨nA, hnA⟩ : ∃ n, sz c = n := ⟨_, rfl⟩
  have hqA := sz_pos c
  rw [hnA] at hcA TA AA hpA hqA ⊢
  have g2A : ¬ cA = 1 := by omega
  have g3A : (1 : Int) ≤ (nA : Int) + 1 := by omega
  rw [show kd (.fin s c) = 14 from rfl, show sg (.fin s c) = s from rfl] at hwA
  clear hnA hzA
  have SA := Lib.hid hwA
  obtain ⟨e0A, e2A⟩ := hwA w (Below.refl _ _)
  clear hatA hA hwA
  have AB := Lib.hid (fun w1 (hb : Below w.heap.size w w1) => hB.below hb)
  obtain ⟨bB, oB, cB, rfl, hcB, hltB, hwB, hatB⟩ := form hB
  have hpB := sz_pos (.fin t d)
  have TB := Lib.hid (fun w1 (hb : Below w.heap.size w w1) => (tail_fin hatB hcB).below hb)
  have hzB : sz (.fin t d) = sz d + 1 := rfl
  rw [hzB] at hcB AB hpB ⊢
  obtain ⟨nB, hnB⟩ : ∃ n, sz d = n := ⟨_, rfl⟩
  have hqB := sz_pos d
  rw [hnB] at hcB TB AB hpB hqB ⊢
  have g2B : ¬ cB = 1 := by omega
  have g3B : (1 : Int) ≤ (nB : Int) + 1 := by omega
  rw [show kd (.fin t d) = 14 from rfl, show sg (.fin t d) = t from rfl] at hwB
  clear hnB hzB
  have SB := Lib.hid hwB
  obtain ⟨e0B, e2B⟩ := hwB w (Below.refl _ _)
  clear hatB hB hwB
  have HX := Lib.hid hX
  unfold OutN
  clear hX hl
  go_enter Tryz.func31, Tryz.ntmps31
  go_wp2_with fail
  go_still_tail 8, (by kernel_rfl)
  change wpList _ _ _ _ _ w.drew
  go_wp2_with fail
  refine (Sg.bothR_any _ _ _).mono ?_
  rw [HX.out]
  rintro e w1 ⟨rfl, rfl⟩
  go_wp2_with fail
  go_region_held3 (fun w' => w'.cell? ⟨bA, oA, none⟩ = some (.int .i64 14)) (first | exact e0A | exact (SA.out _ (Below.refl _ _).drew).1 | exact (SA.out _ D1.out).1 | exact (SA.out _ D2.out).1 | exact (SA.out _ D3.out).1 | fail) (first
    | (go_at_call 51
       (with_reducible refine (nodeR_any 7 0 _).mono ?_)
       rintro e w1 ⟨rfl, hb1⟩
       have D1 := Lib.hid ((Below.refl w.heap.size w).drew.drew.trans hb1)
       clear hb1)
    | (go_at_call 53
       (with_reducible refine (mk2R 7 .par (fun _ _ => rfl) _ _ c d _ (TA.out _ D1.out) (TB.out _ D1.out) (by have := HL.out; simp only [sz] at this; omega)).mono ?_)
       rintro e w2 ⟨y2, rfl, hn2, hb2⟩
       have D2 := Lib.hid (D1.out.trans (hb2.mono D1.out.size))
       have N2 := Lib.hid hn2
       clear hb2 hn2)
    | (go_at_call 52
       (with_reducible refine (endR_any X y2 (.par c d) _ N2.out (by have := HL.out; simp only [sz] at this ⊢; omega)).mono ?_)
       rintro e w3 ⟨y3, rfl, hn3, hb3⟩
       have D3 := Lib.hid (D2.out.trans (hb3.mono D2.out.size))
       have N3 := Lib.hid hn3
       clear hb3 hn3)
    | fail)
  go_wp2_with fail
  go_ret
  exact ⟨_, rfl, N3.out, D3.out⟩
set_option maxHeartbeats 1000000 in
theorem par_other (a d : Tm) (va vd : Value) (w : World) (hA : Nds w va (flat a)) (hB : Nds w vd (flat d)) (qA11 : kd a ≠ 11) (qA14 : kd a ≠ 14) (hl : sz a + sz d ≤ 900) :
    Calls Tryz.prog 31 #[va, vd] w (OutN (.par a d) w) := by
  have HL : Hid (sz a + sz d ≤ 900) := Lib.hid hl
  obtain ⟨X, hX⟩ : ∃ X, Sg.both (sg a) (sg d) = X := ⟨_, rfl⟩
  skip
  have AA := Lib.hid (fun w1 (hb : Below w.heap.size w w1) => hA.below hb)
  obtain ⟨bA, oA, cA, rfl, hcA, hltA, hwA, hatA⟩ := form hA
  have hpA := sz_pos a
  obtain ⟨nA, hnA⟩ : ∃ n, sz a = n + 1 := ⟨sz a - 1, by omega⟩
  rw [hnA] at hcA AA hpA ⊢
  have g3A : (1 : Int) ≤ (nA : Int) + 1 := by omega
  clear hnA
  have fA11 : (kd a == 11) = false := by rw [beq_eq_false_iff_ne]; exact qA11
  have fA14 : (kd a == 14) = false := by rw [beq_eq_false_iff_ne]; exact qA14
  obtain ⟨kA, hkA⟩ : ∃ k, kd a = k := ⟨_, rfl⟩
  obtain ⟨sA, hsA⟩ : ∃ s, sg a = s := ⟨_, rfl⟩
  rw [hsA] at hwA hX
  rw [hkA] at hwA fA11 fA14
  clear hkA hsA qA11 qA14
  have SA := Lib.hid hwA
  obtain ⟨e0A, e2A⟩ := hwA w (Below.refl _ _)
  clear hatA hA hwA
  have AB := Lib.hid (fun w1 (hb : Below w.heap.size w w1) => hB.below hb)
  obtain ⟨bB, oB, cB, rfl, hcB, hltB, hwB, hatB⟩ := form hB
  have hpB := sz_pos d
  obtain ⟨nB, hnB⟩ : ∃ n, sz d = n + 1 := ⟨sz d - 1, by omega⟩
  rw [hnB] at hcB AB hpB ⊢
  have g3B : (1 : Int) ≤ (nB : Int) + 1 := by omega
  clear hnB
  obtain ⟨kB, hkB⟩ : ∃ k, kd d = k := ⟨_, rfl⟩
  obtain ⟨sB, hsB⟩ : ∃ s, sg d = s := ⟨_, rfl⟩
  rw [hsB] at hwB hX
  rw [hkB] at hwB
  clear hkB hsB
  have SB := Lib.hid hwB
  obtain ⟨e0B, e2B⟩ := hwB w (Below.refl _ _)
  clear hatB hB hwB
  have HX := Lib.hid hX
  unfold OutN
  clear hX hl
  go_enter Tryz.func31, Tryz.ntmps31
  go_wp2_with fail
  go_still_tail 8, (by kernel_rfl)
  change wpList _ _ _ _ _ w.drew
  go_wp2_with fail
  refine (Sg.bothR_any _ _ _).mono ?_
  rw [HX.out]
  rintro e w1 ⟨rfl, rfl⟩
  go_wp2_with fail
  refine (nodeR_any 7 0 _).mono ?_
  rintro e w1 ⟨rfl, hb1⟩
  have D1 := Lib.hid ((Below.refl w.heap.size w).drew.trans hb1)
  clear hb1
  go_wp2_with fail
  refine (mk2R 7 .par (fun _ _ => rfl) _ _ a d _ (AA.out _ D1.out) (AB.out _ D1.out) (by have := HL.out; omega)).mono ?_
  rintro e w2 ⟨y, rfl, hn, hb⟩
  have N2 := Lib.hid hn
  have D2 := Lib.hid (D1.out.trans (hb.mono D1.out.size))
  clear hn hb
  go_wp2_with fail
  go_ret
  exact ⟨_, rfl, N2.out, D2.out⟩
set_option maxHeartbeats 1000000 in
theorem par_other11 (s : Int) (d : Tm) (va vd : Value) (w : World) (hA : Nds w va (flat (.over s))) (hB : Nds w vd (flat d)) (qB11 : kd d ≠ 11) (hl : sz (.over s) + sz d ≤ 900) :
    Calls Tryz.prog 31 #[va, vd] w (OutN (.par (.over s) d) w) := by
  have HL : Hid (sz (.over s) + sz d ≤ 900) := Lib.hid hl
  obtain ⟨X, hX⟩ : ∃ X, Sg.both s (sg d) = X := ⟨_, rfl⟩
  skip
  have AA := Lib.hid (fun w1 (hb : Below w.heap.size w w1) => hA.below hb)
  obtain ⟨bA, oA, cA, rfl, hcA, hltA, hwA, hatA⟩ := form hA
  have hpA := sz_pos (.over s)
  obtain ⟨nA, hnA⟩ : ∃ n, sz (.over s) = n + 1 := ⟨sz (.over s) - 1, by omega⟩
  rw [hnA] at hcA AA hpA ⊢
  have g3A : (1 : Int) ≤ (nA : Int) + 1 := by omega
  clear hnA
  rw [show kd (.over s) = 11 from rfl, show sg (.over s) = s from rfl] at hwA
  have SA := Lib.hid hwA
  obtain ⟨e0A, e2A⟩ := hwA w (Below.refl _ _)
  clear hatA hA hwA
  have AB := Lib.hid (fun w1 (hb : Below w.heap.size w w1) => hB.below hb)
  obtain ⟨bB, oB, cB, rfl, hcB, hltB, hwB, hatB⟩ := form hB
  have hpB := sz_pos d
  obtain ⟨nB, hnB⟩ : ∃ n, sz d = n + 1 := ⟨sz d - 1, by omega⟩
  rw [hnB] at hcB AB hpB ⊢
  have g3B : (1 : Int) ≤ (nB : Int) + 1 := by omega
  clear hnB
  have fB11 : (kd d == 11) = false := by rw [beq_eq_false_iff_ne]; exact qB11
  obtain ⟨kB, hkB⟩ : ∃ k, kd d = k := ⟨_, rfl⟩
  obtain ⟨sB, hsB⟩ : ∃ s, sg d = s := ⟨_, rfl⟩
  rw [hsB] at hwB hX
  rw [hkB] at hwB fB11
  clear hkB hsB qB11
  have SB := Lib.hid hwB
  obtain ⟨e0B, e2B⟩ := hwB w (Below.refl _ _)
  clear hatB hB hwB
  have HX := Lib.hid hX
  unfold OutN
  clear hX hl
  go_enter Tryz.func31, Tryz.ntmps31
  go_wp2_with fail
  go_still_tail 8, (by kernel_rfl)
  change wpList _ _ _ _ _ w.drew
  go_wp2_with fail
  refine (Sg.bothR_any _ _ _).mono ?_
  rw [HX.out]
  rintro e w1 ⟨rfl, rfl⟩
  go_wp2_with fail
  refine (nodeR_any 7 0 _).mono ?_
  rintro e w1 ⟨rfl, hb1⟩
  have D1 := Lib.hid ((Below.refl w.heap.size w).drew.trans hb1)
  clear hb1
  go_wp2_with fail
  refine (mk2R 7 .par (fun _ _ => rfl) _ _ (.over s) d _ (AA.out _ D1.out) (AB.out _ D1.out) (by have := HL.out; omega)).mono ?_
  rintro e w2 ⟨y, rfl, hn, hb⟩
  have N2 := Lib.hid hn
  have D2 := Lib.hid (D1.out.trans (hb.mono D1.out.size))
  clear hn hb
  go_wp2_with fail
  go_ret
  exact ⟨_, rfl, N2.out, D2.out⟩
set_option maxHeartbeats 1000000 in
theorem par_other14 (s : Int) (c d : Tm) (va vd : Value) (w : World) (hA : Nds w va (flat (.fin s c))) (hB : Nds w vd (flat d)) (qB14 : kd d ≠ 14) (hl : sz (.fin s c) + sz d ≤ 900) :
    Calls Tryz.prog 31 #[va, vd] w (OutN (.par (.fin s c) d) w) := by
  have HL : Hid (sz (.fin s c) + sz d ≤ 900) := Lib.hid hl
  obtain ⟨X, hX⟩ : ∃ X, Sg.both s (sg d) = X := ⟨_, rfl⟩
  skip
  have AA := Lib.hid (fun w1 (hb : Below w.heap.size w w1) => hA.below hb)
  obtain ⟨bA, oA, cA, rfl, hcA, hltA, hwA, hatA⟩ := form hA
  have hpA := sz_pos (.fin s c)
  have TA := Lib.hid (fun w1 (hb : Below w.heap.size w w1) => (tail_fin hatA hcA).below hb)
  have hzA : sz (.fin s c) = sz c + 1 := rfl
  rw [hzA] at hcA AA hpA ⊢
  obtain ⟨nA, hnA⟩ : ∃ n, sz c = n := ⟨_, rfl⟩
  have hqA := sz_pos c
  rw [hnA] at hcA TA AA hpA hqA ⊢
  have g2A : ¬ cA = 1 := by omega
  have g3A : (1 : Int) ≤ (nA : Int) + 1 := by omega
  rw [show kd (.fin s c) = 14 from rfl, show sg (.fin s c) = s from rfl] at hwA
  clear hnA hzA
  have SA := Lib.hid hwA
  obtain ⟨e0A, e2A⟩ := hwA w (Below.refl _ _)
  clear hatA hA hwA
  have AB := Lib.hid (fun w1 (hb : Below w.heap.size w w1) => hB.below hb)
  obtain ⟨bB, oB, cB, rfl, hcB, hltB, hwB, hatB⟩ := form hB
  have hpB := sz_pos d
  obtain ⟨nB, hnB⟩ : ∃ n, sz d = n + 1 := ⟨sz d - 1, by omega⟩
  rw [hnB] at hcB AB hpB ⊢
  have g3B : (1 : Int) ≤ (nB : Int) + 1 := by omega
  clear hnB
  have fB14 : (kd d == 14) = false := by rw [beq_eq_false_iff_ne]; exact qB14
  obtain ⟨kB, hkB⟩ : ∃ k, kd d = k := ⟨_, rfl⟩
  obtain ⟨sB, hsB⟩ : ∃ s, sg d = s := ⟨_, rfl⟩
  rw [hsB] at hwB hX
  rw [hkB] at hwB fB14
  clear hkB hsB qB14
  have SB := Lib.hid hwB
  obtain ⟨e0B, e2B⟩ := hwB w (Below.refl _ _)
  clear hatB hB hwB
  have HX := Lib.hid hX
  unfold OutN
  clear hX hl
  go_enter Tryz.func31, Tryz.ntmps31
  go_wp2_with fail
  go_still_tail 8, (by kernel_rfl)
  change wpList _ _ _ _ _ w.drew
  go_wp2_with fail
  refine (Sg.bothR_any _ _ _).mono ?_
  rw [HX.out]
  rintro e w1 ⟨rfl, rfl⟩
  go_wp2_with fail
  refine (nodeR_any 7 0 _).mono ?_
  rintro e w1 ⟨rfl, hb1⟩
  have D1 := Lib.hid ((Below.refl w.heap.size w).drew.trans hb1)
  clear hb1
  go_wp2_with fail
  refine (mk2R 7 .par (fun _ _ => rfl) _ _ (.fin s c) d _ (AA.out _ D1.out) (AB.out _ D1.out) (by have := HL.out; omega)).mono ?_
  rintro e w2 ⟨y, rfl, hn, hb⟩
  have N2 := Lib.hid hn
  have D2 := Lib.hid (D1.out.trans (hb.mono D1.out.size))
  clear hn hb
  go_wp2_with fail
  go_ret
  exact ⟨_, rfl, N2.out, D2.out⟩
theorem sPar_11 {s : Int} {d : Tm} (h : kd d ≠ 11) : sPar (.over s) d = .par (.over s) d := by cases d <;> first | rfl | exact absurd rfl h
theorem sPar_14 {s : Int} {c d : Tm} (h : kd d ≠ 14) : sPar (.fin s c) d = .par (.fin s c) d := by cases d <;> first | rfl | exact absurd rfl h
theorem sPar_no {a d : Tm} (h1 : kd a ≠ 11) (h2 : kd a ≠ 14) : sPar a d = .par a d := by cases a <;> first | rfl | exact absurd rfl h1 | exact absurd rfl h2
theorem parR_any (a d : Tm) (va vd : Value) (w : World) (ha : Nds w va (flat a)) (hd : Nds w vd (flat d)) (hl : sz a + sz d ≤ 900) :
    Calls Tryz.prog 31 #[va, vd] w (OutN (sPar a d) w) := by
  by_cases a11 : kd a = 11
  · obtain ⟨s, rfl⟩ := kd11 a11
    by_cases d11 : kd d = 11
    · obtain ⟨t, rfl⟩ := kd11 d11
      exact par_over s t va vd w ha hd hl
    · rw [sPar_11 d11]
      exact par_other11 s d va vd w ha hd d11 hl
  · by_cases a14 : kd a = 14
    · obtain ⟨s, c, rfl⟩ := kd14 a14
      by_cases d14 : kd d = 14
      · obtain ⟨t, d', rfl⟩ := kd14 d14
        exact par_fin s t c d' va vd w ha hd hl
      · rw [sPar_14 d14]
        exact par_other14 s c d va vd w ha hd d14 hl
    · rw [sPar_no a11 a14]
      exact par_other a d va vd w ha hd a11 a14 hl
set_option maxHeartbeats 1000000 in
theorem block_1 (c : Tm) (va : Value) (w : World) (hA : Nds w va (flat (.fin 1 c))) (hl : sz (.fin 1 c) ≤ 900) :
    Calls Tryz.prog 32 #[va] w (OutN (.over 1) w) := by
  have HL : Hid (sz (.fin 1 c) ≤ 900) := Lib.hid hl
  have AA := Lib.hid (fun w1 (hb : Below w.heap.size w w1) => hA.below hb)
  obtain ⟨bA, oA, cA, rfl, hcA, hltA, hwA, hatA⟩ := form hA
  have hpA := sz_pos (.fin 1 c)
  have TA := Lib.hid (fun w1 (hb : Below w.heap.size w w1) => (tail_fin hatA hcA).below hb)
  have hzA : sz (.fin 1 c) = sz c + 1 := rfl
  rw [hzA] at hcA AA hpA ⊢
  obtain ⟨nA, hnA⟩ : ∃ n, sz c = n := ⟨_, rfl⟩
  have hqA := sz_pos c
  rw [hnA] at hcA TA AA hpA hqA ⊢
  have g2A : ¬ cA = 1 := by omega
  have g3A : (1 : Int) ≤ (nA : Int) + 1 := by omega
  rw [show kd (.fin 1 c) = 14 from rfl, show sg (.fin 1 c) = 1 from rfl] at hwA
  clear hnA hzA
  have SA := Lib.hid hwA
  obtain ⟨e0A, e2A⟩ := hwA w (Below.refl _ _)
  clear hatA hA hwA
  unfold OutN
  clear hl
  go_enter Tryz.func32, Tryz.ntmps32
  go_wp2_with fail
  refine (overR_any _ _).mono ?_
  rintro e w1 ⟨y1, rfl, hn, hb⟩
  have N1 := Lib.hid hn
  have D1 := Lib.hid (hb)
  clear hn hb
  go_wp2_with fail
  go_ret
  exact ⟨_, rfl, N1.out, D1.out⟩
set_option maxHeartbeats 1000000 in
theorem block_2 (c : Tm) (va : Value) (w : World) (hA : Nds w va (flat (.fin 2 c))) (RB : Hid (RS c)) (hl : sz (.fin 2 c) ≤ 900) :
    Calls Tryz.prog 32 #[va] w (OutN (S c) w) := by
  have HL : Hid (sz (.fin 2 c) ≤ 900) := Lib.hid hl
  have AA := Lib.hid (fun w1 (hb : Below w.heap.size w w1) => hA.below hb)
  obtain ⟨bA, oA, cA, rfl, hcA, hltA, hwA, hatA⟩ := form hA
  have hpA := sz_pos (.fin 2 c)
  have TA := Lib.hid (fun w1 (hb : Below w.heap.size w w1) => (tail_fin hatA hcA).below hb)
  have hzA : sz (.fin 2 c) = sz c + 1 := rfl
  rw [hzA] at hcA AA hpA ⊢
  obtain ⟨nA, hnA⟩ : ∃ n, sz c = n := ⟨_, rfl⟩
  have hqA := sz_pos c
  rw [hnA] at hcA TA AA hpA hqA ⊢
  have g2A : ¬ cA = 1 := by omega
  have g3A : (1 : Int) ≤ (nA : Int) + 1 := by omega
  rw [show kd (.fin 2 c) = 14 from rfl, show sg (.fin 2 c) = 2 from rfl] at hwA
  clear hnA hzA
  have SA := Lib.hid hwA
  obtain ⟨e0A, e2A⟩ := hwA w (Below.refl _ _)
  clear hatA hA hwA
  unfold OutN
  clear hl
  go_enter Tryz.func32, Tryz.ntmps32
  go_wp2_with fail
  refine (RB.out _ _ (TA.out _ (Below.refl _ _))).mono ?_
  rintro e w1 ⟨y1, rfl, hn, hb⟩
  have N1 := Lib.hid hn
  have D1 := Lib.hid (hb)
  clear hn hb
  go_wp2_with fail
  go_ret
  exact ⟨_, rfl, N1.out, D1.out⟩
set_option maxHeartbeats 1000000 in
theorem block_n (s : Int) (c : Tm) (va : Value) (w : World) (hA : Nds w va (flat (.fin s c))) (h1 : s ≠ 1) (h2 : s ≠ 2) (hl : sz (.fin s c) ≤ 900) :
    Calls Tryz.prog 32 #[va] w (OutN (.block (.fin s c)) w) := by
  have HL : Hid (sz (.fin s c) ≤ 900) := Lib.hid hl
  have AA := Lib.hid (fun w1 (hb : Below w.heap.size w w1) => hA.below hb)
  obtain ⟨bA, oA, cA, rfl, hcA, hltA, hwA, hatA⟩ := form hA
  have hpA := sz_pos (.fin s c)
  have TA := Lib.hid (fun w1 (hb : Below w.heap.size w w1) => (tail_fin hatA hcA).below hb)
  have hzA : sz (.fin s c) = sz c + 1 := rfl
  rw [hzA] at hcA AA hpA ⊢
  obtain ⟨nA, hnA⟩ : ∃ n, sz c = n := ⟨_, rfl⟩
  have hqA := sz_pos c
  rw [hnA] at hcA TA AA hpA hqA ⊢
  have g2A : ¬ cA = 1 := by omega
  have g3A : (1 : Int) ≤ (nA : Int) + 1 := by omega
  rw [show kd (.fin s c) = 14 from rfl, show sg (.fin s c) = s from rfl] at hwA
  clear hnA hzA
  have SA := Lib.hid hwA
  obtain ⟨e0A, e2A⟩ := hwA w (Below.refl _ _)
  clear hatA hA hwA
  have f1 : (s == 1) = false := by rw [beq_eq_false_iff_ne]; exact h1
  have f2 : (s == 2) = false := by rw [beq_eq_false_iff_ne]; exact h2
  clear h1 h2
  unfold OutN
  clear hl
  go_enter Tryz.func32, Tryz.ntmps32
  go_wp2_with fail
  refine (nodeR_any 9 0 _).mono ?_
  rintro e w1 ⟨rfl, hb⟩
  have D1 := Lib.hid hb
  clear hb
  go_wp2_with fail
  refine (mk1R _ (.fin s c) _ (AA.out _ D1.out) (by have := HL.out; omega)).mono ?_
  rintro e w2 ⟨y2, rfl, hn, hb⟩
  have N2 := Lib.hid hn
  have D2 := Lib.hid (D1.out.trans (hb.mono D1.out.size))
  clear hn hb
  go_wp2_with fail
  go_ret
  exact ⟨_, rfl, N2.out, D2.out⟩
set_option maxHeartbeats 1000000 in
theorem block_other (a : Tm) (va : Value) (w : World) (hA : Nds w va (flat a)) (qA14 : kd a ≠ 14) (hl : sz a ≤ 900) :
    Calls Tryz.prog 32 #[va] w (OutN (.block a) w) := by
  have HL : Hid (sz a ≤ 900) := Lib.hid hl
  have AA := Lib.hid (fun w1 (hb : Below w.heap.size w w1) => hA.below hb)
  obtain ⟨bA, oA, cA, rfl, hcA, hltA, hwA, hatA⟩ := form hA
  have hpA := sz_pos a
  obtain ⟨nA, hnA⟩ : ∃ n, sz a = n + 1 := ⟨sz a - 1, by omega⟩
  rw [hnA] at hcA AA hpA ⊢
  have g3A : (1 : Int) ≤ (nA : Int) + 1 := by omega
  clear hnA
  have fA14 : (kd a == 14) = false := by rw [beq_eq_false_iff_ne]; exact qA14
  obtain ⟨kA, hkA⟩ : ∃ k, kd a = k := ⟨_, rfl⟩
  obtain ⟨sA, hsA⟩ : ∃ s, sg a = s := ⟨_, rfl⟩
  rw [hsA] at hwA
  rw [hkA] at hwA fA14
  clear hkA hsA qA14
  have SA := Lib.hid hwA
  obtain ⟨e0A, e2A⟩ := hwA w (Below.refl _ _)
  clear hatA hA hwA
  unfold OutN
  clear hl
  go_enter Tryz.func32, Tryz.ntmps32
  go_wp2_with fail
  refine (nodeR_any 9 0 _).mono ?_
  rintro e w1 ⟨rfl, hb⟩
  have D1 := Lib.hid hb
  clear hb
  go_wp2_with fail
  refine (mk1R _ a _ (AA.out _ D1.out) (by have := HL.out; omega)).mono ?_
  rintro e w2 ⟨y2, rfl, hn, hb⟩
  have N2 := Lib.hid hn
  have D2 := Lib.hid (D1.out.trans (hb.mono D1.out.size))
  clear hn hb
  go_wp2_with fail
  go_ret
  exact ⟨_, rfl, N2.out, D2.out⟩
theorem blockR_any (a : Tm) (va : Value) (w : World) (ha : Nds w va (flat a)) (RB : ∀ s c, a = .fin s c → RS c) (hl : sz a ≤ 900) :
    Calls Tryz.prog 32 #[va] w (OutN (sBlock S a) w) := by
  by_cases a14 : kd a = 14
  · obtain ⟨s, c, rfl⟩ := kd14 a14
    by_cases h1 : s = 1
    · subst h1
      exact block_1 c va w ha hl
    · by_cases h2 : s = 2
      · subst h2
        exact block_2 c va w ha (Lib.hid (RB 2 c rfl)) hl
      · have e : sBlock S (.fin s c) = .block (.fin s c) := by simp [sBlock, h1, h2]
        rw [e]
        exact block_n s c va w ha h1 h2 hl
  · have e : sBlock S a = .block a := by cases a <;> first | rfl | exact absurd rfl a14
    rw [e]
    exact block_other a va w ha a14 hl
set_option maxHeartbeats 1000000 in
theorem tree_act (s : ByteArray) (va : Value) (w : World) (hA : Nds w va (flat (.act s))) (hl : sz (.act s) ≤ 400) :
    Calls Tryz.prog 13 #[va] w (OutN (.act s) w) := by
  have KK := Rw.kidsR_any va (flat (.act s)) w hA (by rw [flat_len]; omega)
  rw [show kids (flat (.act s)) = [] from rfl] at KK
  have HL : Hid (sz (.act s) ≤ 400) := Lib.hid hl
  have AA := Lib.hid (fun w1 (hb : Below w.heap.size w w1) => hA.below hb)
  obtain ⟨bA, oA, cA, rfl, hcA, hltA, hwA, hatA⟩ := form hA
  have hpA := sz_pos (.act s)
  obtain ⟨nA, hnA⟩ : ∃ n, sz (.act s) = n + 1 := ⟨sz (.act s) - 1, by omega⟩
  rw [hnA] at hcA AA hpA KK ⊢
  have g3A : (1 : Int) ≤ (nA : Int) + 1 := by omega
  rw [show kd (.act s) = 1 from rfl] at hwA
  have SA := Lib.hid hwA
  have HK := Lib.hid KK
  unfold OutN
  clear hnA hatA hA hwA KK hl
  go_enter Tryz.func13, Tryz.ntmps13
  go_wp2_with fail
  refine HK.out.mono ?_
  rintro e wc ⟨y, rfl, hks, hb0⟩
  obtain ⟨cs, hRd, -⟩ := hks
  obtain ⟨_, ak, ck, rfl, -⟩ := hRd
  have B0 := Lib.hid hb0
  have e0 := (SA.out _ hb0).1
  have SC : Hid (∀ w1, Below wc.heap.size wc w1 → w1.cell? ⟨bA, oA, none⟩ = some (.int .i64 1)) := Lib.hid fun w1 hb => (SA.out w1 (B0.out.trans (hb.mono B0.out.size))).1
  clear hb0
  go_wp2_with fail
  go_ret
  exact ⟨_, rfl, AA.out _ B0.out, B0.out⟩
set_option maxHeartbeats 1000000 in
theorem tree_yield  (va : Value) (w : World) (hA : Nds w va (flat .yield)) (hl : sz .yield ≤ 400) :
    Calls Tryz.prog 13 #[va] w (OutN (.yield) w) := by
  have KK := Rw.kidsR_any va (flat .yield) w hA (by rw [flat_len]; omega)
  rw [show kids (flat .yield) = [] from rfl] at KK
  have HL : Hid (sz .yield ≤ 400) := Lib.hid hl
  have AA := Lib.hid (fun w1 (hb : Below w.heap.size w w1) => hA.below hb)
  obtain ⟨bA, oA, cA, rfl, hcA, hltA, hwA, hatA⟩ := form hA
  have hpA := sz_pos .yield
  obtain ⟨nA, hnA⟩ : ∃ n, sz .yield = n + 1 := ⟨sz .yield - 1, by omega⟩
  rw [hnA] at hcA AA hpA KK ⊢
  have g3A : (1 : Int) ≤ (nA : Int) + 1 := by omega
  rw [show kd .yield = 4 from rfl] at hwA
  have SA := Lib.hid hwA
  have HK := Lib.hid KK
  unfold OutN
  clear hnA hatA hA hwA KK hl
  go_enter Tryz.func13, Tryz.ntmps13
  go_wp2_with fail
  refine HK.out.mono ?_
  rintro e wc ⟨y, rfl, hks, hb0⟩
  obtain ⟨cs, hRd, -⟩ := hks
  obtain ⟨_, ak, ck, rfl, -⟩ := hRd
  have B0 := Lib.hid hb0
  have e0 := (SA.out _ hb0).1
  have SC : Hid (∀ w1, Below wc.heap.size wc w1 → w1.cell? ⟨bA, oA, none⟩ = some (.int .i64 4)) := Lib.hid fun w1 hb => (SA.out w1 (B0.out.trans (hb.mono B0.out.size))).1
  clear hb0
  go_wp2_with fail
  go_ret
  exact ⟨_, rfl, AA.out _ B0.out, B0.out⟩
set_option maxHeartbeats 1000000 in
theorem tree_over (s : Int) (va : Value) (w : World) (hA : Nds w va (flat (.over s))) (hl : sz (.over s) ≤ 400) :
    Calls Tryz.prog 13 #[va] w (OutN (.over s) w) := by
  have KK := Rw.kidsR_any va (flat (.over s)) w hA (by rw [flat_len]; omega)
  rw [show kids (flat (.over s)) = [] from rfl] at KK
  have HL : Hid (sz (.over s) ≤ 400) := Lib.hid hl
  have AA := Lib.hid (fun w1 (hb : Below w.heap.size w w1) => hA.below hb)
  obtain ⟨bA, oA, cA, rfl, hcA, hltA, hwA, hatA⟩ := form hA
  have hpA := sz_pos (.over s)
  obtain ⟨nA, hnA⟩ : ∃ n, sz (.over s) = n + 1 := ⟨sz (.over s) - 1, by omega⟩
  rw [hnA] at hcA AA hpA KK ⊢
  have g3A : (1 : Int) ≤ (nA : Int) + 1 := by omega
  rw [show kd (.over s) = 11 from rfl] at hwA
  have SA := Lib.hid hwA
  have HK := Lib.hid KK
  unfold OutN
  clear hnA hatA hA hwA KK hl
  go_enter Tryz.func13, Tryz.ntmps13
  go_wp2_with fail
  refine HK.out.mono ?_
  rintro e wc ⟨y, rfl, hks, hb0⟩
  obtain ⟨cs, hRd, -⟩ := hks
  obtain ⟨_, ak, ck, rfl, -⟩ := hRd
  have B0 := Lib.hid hb0
  have e0 := (SA.out _ hb0).1
  have SC : Hid (∀ w1, Below wc.heap.size wc w1 → w1.cell? ⟨bA, oA, none⟩ = some (.int .i64 11)) := Lib.hid fun w1 hb => (SA.out w1 (B0.out.trans (hb.mono B0.out.size))).1
  clear hb0
  go_wp2_with fail
  go_ret
  exact ⟨_, rfl, AA.out _ B0.out, B0.out⟩
set_option maxHeartbeats 1000000 in
theorem tree_skip  (va : Value) (w : World) (hA : Nds w va (flat .skip)) (hl : sz .skip ≤ 400) :
    Calls Tryz.prog 13 #[va] w (OutN (.over 1) w) := by
  have KK := Rw.kidsR_any va (flat .skip) w hA (by rw [flat_len]; omega)
  rw [show kids (flat .skip) = [] from rfl] at KK
  have HL : Hid (sz .skip ≤ 400) := Lib.hid hl
  have AA := Lib.hid (fun w1 (hb : Below w.heap.size w w1) => hA.below hb)
  obtain ⟨bA, oA, cA, rfl, hcA, hltA, hwA, hatA⟩ := form hA
  have hpA := sz_pos .skip
  obtain ⟨nA, hnA⟩ : ∃ n, sz .skip = n + 1 := ⟨sz .skip - 1, by omega⟩
  rw [hnA] at hcA AA hpA KK ⊢
  have g3A : (1 : Int) ≤ (nA : Int) + 1 := by omega
  rw [show kd .skip = 2 from rfl] at hwA
  have SA := Lib.hid hwA
  have HK := Lib.hid KK
  unfold OutN
  clear hnA hatA hA hwA KK hl
  go_enter Tryz.func13, Tryz.ntmps13
  go_wp2_with fail
  refine HK.out.mono ?_
  rintro e wc ⟨y, rfl, hks, hb0⟩
  obtain ⟨cs, hRd, -⟩ := hks
  obtain ⟨_, ak, ck, rfl, -⟩ := hRd
  have B0 := Lib.hid hb0
  have e0 := (SA.out _ hb0).1
  have SC : Hid (∀ w1, Below wc.heap.size wc w1 → w1.cell? ⟨bA, oA, none⟩ = some (.int .i64 2)) := Lib.hid fun w1 hb => (SA.out w1 (B0.out.trans (hb.mono B0.out.size))).1
  clear hb0
  go_wp2_with fail
  refine (overR_any 1 _).mono ?_
  rintro e w1 ⟨y, rfl, hn, hb⟩
  have N1 := Lib.hid hn
  have D1 := Lib.hid (B0.out.trans (hb.mono B0.out.size))
  clear hn hb
  go_wp2_with fail
  go_ret
  exact ⟨_, rfl, N1.out, D1.out⟩
set_option maxHeartbeats 1000000 in
theorem tree_throw  (va : Value) (w : World) (hA : Nds w va (flat .throw)) (hl : sz .throw ≤ 400) :
    Calls Tryz.prog 13 #[va] w (OutN (.over 2) w) := by
  have KK := Rw.kidsR_any va (flat .throw) w hA (by rw [flat_len]; omega)
  rw [show kids (flat .throw) = [] from rfl] at KK
  have HL : Hid (sz .throw ≤ 400) := Lib.hid hl
  have AA := Lib.hid (fun w1 (hb : Below w.heap.size w w1) => hA.below hb)
  obtain ⟨bA, oA, cA, rfl, hcA, hltA, hwA, hatA⟩ := form hA
  have hpA := sz_pos .throw
  obtain ⟨nA, hnA⟩ : ∃ n, sz .throw = n + 1 := ⟨sz .throw - 1, by omega⟩
  rw [hnA] at hcA AA hpA KK ⊢
  have g3A : (1 : Int) ≤ (nA : Int) + 1 := by omega
  rw [show kd .throw = 3 from rfl] at hwA
  have SA := Lib.hid hwA
  have HK := Lib.hid KK
  unfold OutN
  clear hnA hatA hA hwA KK hl
  go_enter Tryz.func13, Tryz.ntmps13
  go_wp2_with fail
  refine HK.out.mono ?_
  rintro e wc ⟨y, rfl, hks, hb0⟩
  obtain ⟨cs, hRd, -⟩ := hks
  obtain ⟨_, ak, ck, rfl, -⟩ := hRd
  have B0 := Lib.hid hb0
  have e0 := (SA.out _ hb0).1
  have SC : Hid (∀ w1, Below wc.heap.size wc w1 → w1.cell? ⟨bA, oA, none⟩ = some (.int .i64 3)) := Lib.hid fun w1 hb => (SA.out w1 (B0.out.trans (hb.mono B0.out.size))).1
  clear hb0
  go_wp2_with fail
  refine (overR_any 2 _).mono ?_
  rintro e w1 ⟨y, rfl, hn, hb⟩
  have N1 := Lib.hid hn
  have D1 := Lib.hid (B0.out.trans (hb.mono B0.out.size))
  clear hn hb
  go_wp2_with fail
  go_ret
  exact ⟨_, rfl, N1.out, D1.out⟩
set_option maxHeartbeats 1000000 in
theorem tree_fin (s : Int) (c : Tm) (va : Value) (w : World) (hA : Nds w va (flat (.fin s c))) (hl : sz (.fin s c) ≤ 400) :
    Calls Tryz.prog 13 #[va] w (OutN (.fin s c) w) := by
  have KK := Rw.kidsR_any va (flat (.fin s c)) w hA (by rw [flat_len]; omega)
  rw [show kids (flat (.fin s c)) = [flat c] from kids_fin s c] at KK
  have HL : Hid (sz (.fin s c) ≤ 400) := Lib.hid hl
  have AA := Lib.hid (fun w1 (hb : Below w.heap.size w w1) => hA.below hb)
  obtain ⟨bA, oA, cA, rfl, hcA, hltA, hwA, hatA⟩ := form hA
  have hpA := sz_pos (.fin s c)
  obtain ⟨nA, hnA⟩ : ∃ n, sz (.fin s c) = n + 1 := ⟨sz (.fin s c) - 1, by omega⟩
  rw [hnA] at hcA AA hpA KK ⊢
  have g3A : (1 : Int) ≤ (nA : Int) + 1 := by omega
  rw [show kd (.fin s c) = 14 from rfl] at hwA
  have SA := Lib.hid hwA
  have HK := Lib.hid KK
  unfold OutN
  clear hnA hatA hA hwA KK hl
  go_enter Tryz.func13, Tryz.ntmps13
  go_wp2_with fail
  refine HK.out.mono ?_
  rintro e wc ⟨y, rfl, hks, hb0⟩
  obtain ⟨bk, ok, ck, y0, rfl, q0, n0⟩ := one_row hks
  have N0 := Lib.hid (fun w1 (hb : Below wc.heap.size wc w1) => n0.below hb)
  clear n0
  have B0 := Lib.hid hb0
  have e0 := (SA.out _ hb0).1
  have SC : Hid (∀ w1, Below wc.heap.size wc w1 → w1.cell? ⟨bA, oA, none⟩ = some (.int .i64 14)) := Lib.hid fun w1 hb => (SA.out w1 (B0.out.trans (hb.mono B0.out.size))).1
  clear hks hb0
  go_wp2_with fail
  go_ret
  exact ⟨_, rfl, AA.out _ B0.out, B0.out⟩
set_option maxHeartbeats 1000000 in
theorem tree_alt (a b : Tm) (va : Value) (w : World) (hA : Nds w va (flat (.alt a b))) (hl : sz (.alt a b) ≤ 400) :
    Calls Tryz.prog 13 #[va] w (OutN (.alt a b) w) := by
  have KK := Rw.kidsR_any va (flat (.alt a b)) w hA (by rw [flat_len]; omega)
  rw [show kids (flat (.alt a b)) = [flat a, flat b] from kids_alt a b] at KK
  have HL : Hid (sz (.alt a b) ≤ 400) := Lib.hid hl
  have AA := Lib.hid (fun w1 (hb : Below w.heap.size w w1) => hA.below hb)
  obtain ⟨bA, oA, cA, rfl, hcA, hltA, hwA, hatA⟩ := form hA
  have hpA := sz_pos (.alt a b)
  obtain ⟨nA, hnA⟩ : ∃ n, sz (.alt a b) = n + 1 := ⟨sz (.alt a b) - 1, by omega⟩
  rw [hnA] at hcA AA hpA KK ⊢
  have g3A : (1 : Int) ≤ (nA : Int) + 1 := by omega
  rw [show kd (.alt a b) = 6 from rfl] at hwA
  have SA := Lib.hid hwA
  have HK := Lib.hid KK
  unfold OutN
  clear hnA hatA hA hwA KK hl
  go_enter Tryz.func13, Tryz.ntmps13
  go_wp2_with fail
  refine HK.out.mono ?_
  rintro e wc ⟨y, rfl, hks, hb0⟩
  obtain ⟨bk, ok, ck, y0, y1, rfl, q0, q1, n0, n1⟩ := two_rows hks
  have hkl : bk < wc.heap.size := Ap.cell_lt q0
  have KS : Hid (∀ w1, Below wc.heap.size wc w1 → w1.cell? ⟨bk, ok, none⟩ = some y0 ∧ w1.cell? ⟨bk, ok + 1, none⟩ = some y1) := Lib.hid fun w1 hb => ⟨by rw [hb.cell (p := ⟨bk, ok, none⟩) hkl]; exact q0, by rw [hb.cell (p := ⟨bk, ok + 1, none⟩) hkl]; exact q1⟩
  have N0 := Lib.hid (fun w1 (hb : Below wc.heap.size wc w1) => n0.below hb)
  have N1 := Lib.hid (fun w1 (hb : Below wc.heap.size wc w1) => n1.below hb)
  clear n0 n1
  have B0 := Lib.hid hb0
  have e0 := (SA.out _ hb0).1
  have SC : Hid (∀ w1, Below wc.heap.size wc w1 → w1.cell? ⟨bA, oA, none⟩ = some (.int .i64 6)) := Lib.hid fun w1 hb => (SA.out w1 (B0.out.trans (hb.mono B0.out.size))).1
  clear hks hb0
  go_wp2_with fail
  go_ret
  exact ⟨_, rfl, AA.out _ B0.out, B0.out⟩
set_option maxHeartbeats 1000000 in
theorem tree_pair (a b : Tm) (va : Value) (w : World) (hA : Nds w va (flat (.pair a b))) (hl : sz (.pair a b) ≤ 400) :
    Calls Tryz.prog 13 #[va] w (OutN (.pair a b) w) := by
  have KK := Rw.kidsR_any va (flat (.pair a b)) w hA (by rw [flat_len]; omega)
  rw [show kids (flat (.pair a b)) = [flat a, flat b] from kids_pair a b] at KK
  have HL : Hid (sz (.pair a b) ≤ 400) := Lib.hid hl
  have AA := Lib.hid (fun w1 (hb : Below w.heap.size w w1) => hA.below hb)
  obtain ⟨bA, oA, cA, rfl, hcA, hltA, hwA, hatA⟩ := form hA
  have hpA := sz_pos (.pair a b)
  obtain ⟨nA, hnA⟩ : ∃ n, sz (.pair a b) = n + 1 := ⟨sz (.pair a b) - 1, by omega⟩
  rw [hnA] at hcA AA hpA KK ⊢
  have g3A : (1 : Int) ≤ (nA : Int) + 1 := by omega
  rw [show kd (.pair a b) = 10 from rfl] at hwA
  have SA := Lib.hid hwA
  have HK := Lib.hid KK
  unfold OutN
  clear hnA hatA hA hwA KK hl
  go_enter Tryz.func13, Tryz.ntmps13
  go_wp2_with fail
  refine HK.out.mono ?_
  rintro e wc ⟨y, rfl, hks, hb0⟩
  obtain ⟨bk, ok, ck, y0, y1, rfl, q0, q1, n0, n1⟩ := two_rows hks
  have hkl : bk < wc.heap.size := Ap.cell_lt q0
  have KS : Hid (∀ w1, Below wc.heap.size wc w1 → w1.cell? ⟨bk, ok, none⟩ = some y0 ∧ w1.cell? ⟨bk, ok + 1, none⟩ = some y1) := Lib.hid fun w1 hb => ⟨by rw [hb.cell (p := ⟨bk, ok, none⟩) hkl]; exact q0, by rw [hb.cell (p := ⟨bk, ok + 1, none⟩) hkl]; exact q1⟩
  have N0 := Lib.hid (fun w1 (hb : Below wc.heap.size wc w1) => n0.below hb)
  have N1 := Lib.hid (fun w1 (hb : Below wc.heap.size wc w1) => n1.below hb)
  clear n0 n1
  have B0 := Lib.hid hb0
  have e0 := (SA.out _ hb0).1
  have SC : Hid (∀ w1, Below wc.heap.size wc w1 → w1.cell? ⟨bA, oA, none⟩ = some (.int .i64 10)) := Lib.hid fun w1 hb => (SA.out w1 (B0.out.trans (hb.mono B0.out.size))).1
  clear hks hb0
  go_wp2_with fail
  go_ret
  exact ⟨_, rfl, AA.out _ B0.out, B0.out⟩
set_option maxHeartbeats 1000000 in
theorem tree_seq (a b : Tm) (va : Value) (w : World) (hA : Nds w va (flat (.seq a b))) (RA : Hid (RS a)) (RB : Hid (RS b)) (hx : Hid (kd (S a) = 14 → kd (S b) ≠ 11)) (hl : sz (.seq a b) ≤ 400) :
    Calls Tryz.prog 13 #[va] w (OutN (sSeq S (S a) b) w) := by
  have KK := Rw.kidsR_any va (flat (.seq a b)) w hA (by rw [flat_len]; omega)
  rw [show kids (flat (.seq a b)) = [flat a, flat b] from kids_seq a b] at KK
  have HL : Hid (sz (.seq a b) ≤ 400) := Lib.hid hl
  have AA := Lib.hid (fun w1 (hb : Below w.heap.size w w1) => hA.below hb)
  obtain ⟨bA, oA, cA, rfl, hcA, hltA, hwA, hatA⟩ := form hA
  have hpA := sz_pos (.seq a b)
  obtain ⟨nA, hnA⟩ : ∃ n, sz (.seq a b) = n + 1 := ⟨sz (.seq a b) - 1, by omega⟩
  rw [hnA] at hcA AA hpA KK ⊢
  have g3A : (1 : Int) ≤ (nA : Int) + 1 := by omega
  rw [show kd (.seq a b) = 5 from rfl] at hwA
  have SA := Lib.hid hwA
  have HK := Lib.hid KK
  unfold OutN
  clear hnA hatA hA hwA KK hl
  go_enter Tryz.func13, Tryz.ntmps13
  go_wp2_with fail
  refine HK.out.mono ?_
  rintro e wc ⟨y, rfl, hks, hb0⟩
  obtain ⟨bk, ok, ck, y0, y1, rfl, q0, q1, n0, n1⟩ := two_rows hks
  have hkl : bk < wc.heap.size := Ap.cell_lt q0
  have KS : Hid (∀ w1, Below wc.heap.size wc w1 → w1.cell? ⟨bk, ok, none⟩ = some y0 ∧ w1.cell? ⟨bk, ok + 1, none⟩ = some y1) := Lib.hid fun w1 hb => ⟨by rw [hb.cell (p := ⟨bk, ok, none⟩) hkl]; exact q0, by rw [hb.cell (p := ⟨bk, ok + 1, none⟩) hkl]; exact q1⟩
  have N0 := Lib.hid (fun w1 (hb : Below wc.heap.size wc w1) => n0.below hb)
  have N1 := Lib.hid (fun w1 (hb : Below wc.heap.size wc w1) => n1.below hb)
  clear n0 n1
  have B0 := Lib.hid hb0
  have e0 := (SA.out _ hb0).1
  have SC : Hid (∀ w1, Below wc.heap.size wc w1 → w1.cell? ⟨bA, oA, none⟩ = some (.int .i64 5)) := Lib.hid fun w1 hb => (SA.out w1 (B0.out.trans (hb.mono B0.out.size))).1
  clear hks hb0
  go_wp2_with fail
  go_region_held3 (fun w' => w'.cell? ⟨bA, oA, none⟩ = some (.int .i64 5) ∧ w'.cell? ⟨bk, ok, none⟩ = some y0 ∧ w'.cell? ⟨bk, ok + 1, none⟩ = some y1) (first | exact ⟨e0, q0, q1⟩ | exact ⟨SC.out _ (Below.refl _ _).drew, KS.out _ (Below.refl _ _).drew⟩ | exact ⟨SC.out _ D1.out, KS.out _ D1.out⟩ | exact ⟨SC.out _ D2.out, KS.out _ D2.out⟩ | fail) (first
    | (go_at_call 13
       (with_reducible refine (RA.out y0 _ (N0.out _ (Below.refl _ _).drew)).mono ?_)
       rintro e w1 ⟨z1, rfl, hn1, hb1⟩
       have D1 := Lib.hid ((Below.refl wc.heap.size wc).drew.trans hb1)
       have M1 := Lib.hid hn1
       clear hb1 hn1)
    | (go_at_call 30
       (with_reducible refine (first5_any (S a) b _ _ _ M1.out (N1.out _ D1.out) RB.out hx.out (by have := HL.out; have := S_sz a; simp only [sz] at *; omega)).mono ?_)
       rintro e w2 ⟨z2, rfl, hn2, hb2⟩
       have D2 := Lib.hid (D1.out.trans (hb2.mono D1.out.size))
       have M2 := Lib.hid hn2
       clear hb2 hn2)
    | fail)
  go_wp2_with fail
  go_ret
  exact ⟨_, rfl, M2.out, B0.out.trans (D2.out.mono B0.out.size)⟩
set_option maxHeartbeats 1000000 in
theorem tree_hand (a b : Tm) (va : Value) (w : World) (hA : Nds w va (flat (.hand a b))) (RA : Hid (RS a)) (RB : Hid (RS b)) (hx : Hid (kd (S a) ≠ 14)) (hl : sz (.hand a b) ≤ 400) :
    Calls Tryz.prog 13 #[va] w (OutN (sHand S (S a) b) w) := by
  have KK := Rw.kidsR_any va (flat (.hand a b)) w hA (by rw [flat_len]; omega)
  rw [show kids (flat (.hand a b)) = [flat a, flat b] from kids_hand a b] at KK
  have HL : Hid (sz (.hand a b) ≤ 400) := Lib.hid hl
  have AA := Lib.hid (fun w1 (hb : Below w.heap.size w w1) => hA.below hb)
  obtain ⟨bA, oA, cA, rfl, hcA, hltA, hwA, hatA⟩ := form hA
  have hpA := sz_pos (.hand a b)
  obtain ⟨nA, hnA⟩ : ∃ n, sz (.hand a b) = n + 1 := ⟨sz (.hand a b) - 1, by omega⟩
  rw [hnA] at hcA AA hpA KK ⊢
  have g3A : (1 : Int) ≤ (nA : Int) + 1 := by omega
  rw [show kd (.hand a b) = 8 from rfl] at hwA
  have SA := Lib.hid hwA
  have HK := Lib.hid KK
  unfold OutN
  clear hnA hatA hA hwA KK hl
  go_enter Tryz.func13, Tryz.ntmps13
  go_wp2_with fail
  refine HK.out.mono ?_
  rintro e wc ⟨y, rfl, hks, hb0⟩
  obtain ⟨bk, ok, ck, y0, y1, rfl, q0, q1, n0, n1⟩ := two_rows hks
  have hkl : bk < wc.heap.size := Ap.cell_lt q0
  have KS : Hid (∀ w1, Below wc.heap.size wc w1 → w1.cell? ⟨bk, ok, none⟩ = some y0 ∧ w1.cell? ⟨bk, ok + 1, none⟩ = some y1) := Lib.hid fun w1 hb => ⟨by rw [hb.cell (p := ⟨bk, ok, none⟩) hkl]; exact q0, by rw [hb.cell (p := ⟨bk, ok + 1, none⟩) hkl]; exact q1⟩
  have N0 := Lib.hid (fun w1 (hb : Below wc.heap.size wc w1) => n0.below hb)
  have N1 := Lib.hid (fun w1 (hb : Below wc.heap.size wc w1) => n1.below hb)
  clear n0 n1
  have B0 := Lib.hid hb0
  have e0 := (SA.out _ hb0).1
  have SC : Hid (∀ w1, Below wc.heap.size wc w1 → w1.cell? ⟨bA, oA, none⟩ = some (.int .i64 8)) := Lib.hid fun w1 hb => (SA.out w1 (B0.out.trans (hb.mono B0.out.size))).1
  clear hks hb0
  go_wp2_with fail
  go_region_held3 (fun w' => w'.cell? ⟨bA, oA, none⟩ = some (.int .i64 8) ∧ w'.cell? ⟨bk, ok, none⟩ = some y0 ∧ w'.cell? ⟨bk, ok + 1, none⟩ = some y1) (first | exact ⟨e0, q0, q1⟩ | exact ⟨SC.out _ (Below.refl _ _).drew, KS.out _ (Below.refl _ _).drew⟩ | exact ⟨SC.out _ D1.out, KS.out _ D1.out⟩ | exact ⟨SC.out _ D2.out, KS.out _ D2.out⟩ | fail) (first
    | (go_at_call 13
       (with_reducible refine (RA.out y0 _ (N0.out _ (Below.refl _ _).drew)).mono ?_)
       rintro e w1 ⟨z1, rfl, hn1, hb1⟩
       have D1 := Lib.hid ((Below.refl wc.heap.size wc).drew.trans hb1)
       have M1 := Lib.hid hn1
       clear hb1 hn1)
    | (go_at_call 30
       (with_reducible refine (first8_any (S a) b _ _ _ M1.out (N1.out _ D1.out) RB.out hx.out (by have := HL.out; have := S_sz a; simp only [sz] at *; omega)).mono ?_)
       rintro e w2 ⟨z2, rfl, hn2, hb2⟩
       have D2 := Lib.hid (D1.out.trans (hb2.mono D1.out.size))
       have M2 := Lib.hid hn2
       clear hb2 hn2)
    | fail)
  go_wp2_with fail
  go_ret
  exact ⟨_, rfl, M2.out, B0.out.trans (D2.out.mono B0.out.size)⟩
set_option maxHeartbeats 1000000 in
theorem tree_going (a b : Tm) (va : Value) (w : World) (hA : Nds w va (flat (.going a b))) (RA : Hid (RS a)) (hx : Hid (kd (S a) ≠ 14)) (hl : sz (.going a b) ≤ 400) :
    Calls Tryz.prog 13 #[va] w (OutN (sGoing (S a) b) w) := by
  have KK := Rw.kidsR_any va (flat (.going a b)) w hA (by rw [flat_len]; omega)
  rw [show kids (flat (.going a b)) = [flat a, flat b] from kids_going a b] at KK
  have HL : Hid (sz (.going a b) ≤ 400) := Lib.hid hl
  have AA := Lib.hid (fun w1 (hb : Below w.heap.size w w1) => hA.below hb)
  obtain ⟨bA, oA, cA, rfl, hcA, hltA, hwA, hatA⟩ := form hA
  have hpA := sz_pos (.going a b)
  obtain ⟨nA, hnA⟩ : ∃ n, sz (.going a b) = n + 1 := ⟨sz (.going a b) - 1, by omega⟩
  rw [hnA] at hcA AA hpA KK ⊢
  have g3A : (1 : Int) ≤ (nA : Int) + 1 := by omega
  rw [show kd (.going a b) = 12 from rfl] at hwA
  have SA := Lib.hid hwA
  have HK := Lib.hid KK
  unfold OutN
  clear hnA hatA hA hwA KK hl
  go_enter Tryz.func13, Tryz.ntmps13
  go_wp2_with fail
  refine HK.out.mono ?_
  rintro e wc ⟨y, rfl, hks, hb0⟩
  obtain ⟨bk, ok, ck, y0, y1, rfl, q0, q1, n0, n1⟩ := two_rows hks
  have hkl : bk < wc.heap.size := Ap.cell_lt q0
  have KS : Hid (∀ w1, Below wc.heap.size wc w1 → w1.cell? ⟨bk, ok, none⟩ = some y0 ∧ w1.cell? ⟨bk, ok + 1, none⟩ = some y1) := Lib.hid fun w1 hb => ⟨by rw [hb.cell (p := ⟨bk, ok, none⟩) hkl]; exact q0, by rw [hb.cell (p := ⟨bk, ok + 1, none⟩) hkl]; exact q1⟩
  have N0 := Lib.hid (fun w1 (hb : Below wc.heap.size wc w1) => n0.below hb)
  have N1 := Lib.hid (fun w1 (hb : Below wc.heap.size wc w1) => n1.below hb)
  clear n0 n1
  have B0 := Lib.hid hb0
  have e0 := (SA.out _ hb0).1
  have SC : Hid (∀ w1, Below wc.heap.size wc w1 → w1.cell? ⟨bA, oA, none⟩ = some (.int .i64 12)) := Lib.hid fun w1 hb => (SA.out w1 (B0.out.trans (hb.mono B0.out.size))).1
  clear hks hb0
  go_wp2_with fail
  go_region_held3 (fun w' => w'.cell? ⟨bA, oA, none⟩ = some (.int .i64 12) ∧ w'.cell? ⟨bk, ok, none⟩ = some y0 ∧ w'.cell? ⟨bk, ok + 1, none⟩ = some y1) (first | exact ⟨e0, q0, q1⟩ | exact ⟨SC.out _ (Below.refl _ _).drew, KS.out _ (Below.refl _ _).drew⟩ | exact ⟨SC.out _ D1.out, KS.out _ D1.out⟩ | exact ⟨SC.out _ D2.out, KS.out _ D2.out⟩ | fail) (first
    | (go_at_call 13
       (with_reducible refine (RA.out y0 _ (N0.out _ (Below.refl _ _).drew)).mono ?_)
       rintro e w1 ⟨z1, rfl, hn1, hb1⟩
       have D1 := Lib.hid ((Below.refl wc.heap.size wc).drew.trans hb1)
       have M1 := Lib.hid hn1
       clear hb1 hn1)
    | (go_at_call 30
       (with_reducible refine (first12_any (S a) b _ _ _ M1.out (N1.out _ D1.out) hx.out (by have := HL.out; have := S_sz a; simp only [sz] at *; omega)).mono ?_)
       rintro e w2 ⟨z2, rfl, hn2, hb2⟩
       have D2 := Lib.hid (D1.out.trans (hb2.mono D1.out.size))
       have M2 := Lib.hid hn2
       clear hb2 hn2)
    | fail)
  go_wp2_with fail
  go_ret
  exact ⟨_, rfl, M2.out, B0.out.trans (D2.out.mono B0.out.size)⟩
set_option maxHeartbeats 1000000 in
theorem tree_stack (a b : Tm) (va : Value) (w : World) (hA : Nds w va (flat (.stack a b))) (RA : Hid (RS a)) (hx : Hid (kd (S a) ≠ 11)) (hl : sz (.stack a b) ≤ 400) :
    Calls Tryz.prog 13 #[va] w (OutN (stk (S a) b) w) := by
  have KK := Rw.kidsR_any va (flat (.stack a b)) w hA (by rw [flat_len]; omega)
  rw [show kids (flat (.stack a b)) = [flat a, flat b] from kids_stack a b] at KK
  have HL : Hid (sz (.stack a b) ≤ 400) := Lib.hid hl
  have AA := Lib.hid (fun w1 (hb : Below w.heap.size w w1) => hA.below hb)
  obtain ⟨bA, oA, cA, rfl, hcA, hltA, hwA, hatA⟩ := form hA
  have hpA := sz_pos (.stack a b)
  obtain ⟨nA, hnA⟩ : ∃ n, sz (.stack a b) = n + 1 := ⟨sz (.stack a b) - 1, by omega⟩
  rw [hnA] at hcA AA hpA KK ⊢
  have g3A : (1 : Int) ≤ (nA : Int) + 1 := by omega
  rw [show kd (.stack a b) = 13 from rfl] at hwA
  have SA := Lib.hid hwA
  have HK := Lib.hid KK
  unfold OutN
  clear hnA hatA hA hwA KK hl
  go_enter Tryz.func13, Tryz.ntmps13
  go_wp2_with fail
  refine HK.out.mono ?_
  rintro e wc ⟨y, rfl, hks, hb0⟩
  obtain ⟨bk, ok, ck, y0, y1, rfl, q0, q1, n0, n1⟩ := two_rows hks
  have hkl : bk < wc.heap.size := Ap.cell_lt q0
  have KS : Hid (∀ w1, Below wc.heap.size wc w1 → w1.cell? ⟨bk, ok, none⟩ = some y0 ∧ w1.cell? ⟨bk, ok + 1, none⟩ = some y1) := Lib.hid fun w1 hb => ⟨by rw [hb.cell (p := ⟨bk, ok, none⟩) hkl]; exact q0, by rw [hb.cell (p := ⟨bk, ok + 1, none⟩) hkl]; exact q1⟩
  have N0 := Lib.hid (fun w1 (hb : Below wc.heap.size wc w1) => n0.below hb)
  have N1 := Lib.hid (fun w1 (hb : Below wc.heap.size wc w1) => n1.below hb)
  clear n0 n1
  have B0 := Lib.hid hb0
  have e0 := (SA.out _ hb0).1
  have SC : Hid (∀ w1, Below wc.heap.size wc w1 → w1.cell? ⟨bA, oA, none⟩ = some (.int .i64 13)) := Lib.hid fun w1 hb => (SA.out w1 (B0.out.trans (hb.mono B0.out.size))).1
  clear hks hb0
  go_wp2_with fail
  go_region_held3 (fun w' => w'.cell? ⟨bA, oA, none⟩ = some (.int .i64 13) ∧ w'.cell? ⟨bk, ok, none⟩ = some y0 ∧ w'.cell? ⟨bk, ok + 1, none⟩ = some y1) (first | exact ⟨e0, q0, q1⟩ | exact ⟨SC.out _ (Below.refl _ _).drew, KS.out _ (Below.refl _ _).drew⟩ | exact ⟨SC.out _ D1.out, KS.out _ D1.out⟩ | exact ⟨SC.out _ D2.out, KS.out _ D2.out⟩ | fail) (first
    | (go_at_call 13
       (with_reducible refine (RA.out y0 _ (N0.out _ (Below.refl _ _).drew)).mono ?_)
       rintro e w1 ⟨z1, rfl, hn1, hb1⟩
       have D1 := Lib.hid ((Below.refl wc.heap.size wc).drew.trans hb1)
       have M1 := Lib.hid hn1
       clear hb1 hn1)
    | (go_at_call 30
       (with_reducible refine (first13_any (S a) b _ _ _ M1.out (N1.out _ D1.out) hx.out (by have := HL.out; have := S_sz a; simp only [sz] at *; omega)).mono ?_)
       rintro e w2 ⟨z2, rfl, hn2, hb2⟩
       have D2 := Lib.hid (D1.out.trans (hb2.mono D1.out.size))
       have M2 := Lib.hid hn2
       clear hb2 hn2)
    | fail)
  go_wp2_with fail
  go_ret
  exact ⟨_, rfl, M2.out, B0.out.trans (D2.out.mono B0.out.size)⟩
set_option maxHeartbeats 1000000 in
theorem tree_par (a b : Tm) (va : Value) (w : World) (hA : Nds w va (flat (.par a b))) (RA : Hid (RS a)) (RB : Hid (RS b)) (hl : sz (.par a b) ≤ 400) :
    Calls Tryz.prog 13 #[va] w (OutN (sPar (S a) (S b)) w) := by
  have KK := Rw.kidsR_any va (flat (.par a b)) w hA (by rw [flat_len]; omega)
  rw [show kids (flat (.par a b)) = [flat a, flat b] from kids_par a b] at KK
  have HL : Hid (sz (.par a b) ≤ 400) := Lib.hid hl
  have AA := Lib.hid (fun w1 (hb : Below w.heap.size w w1) => hA.below hb)
  obtain ⟨bA, oA, cA, rfl, hcA, hltA, hwA, hatA⟩ := form hA
  have hpA := sz_pos (.par a b)
  obtain ⟨nA, hnA⟩ : ∃ n, sz (.par a b) = n + 1 := ⟨sz (.par a b) - 1, by omega⟩
  rw [hnA] at hcA AA hpA KK ⊢
  have g3A : (1 : Int) ≤ (nA : Int) + 1 := by omega
  rw [show kd (.par a b) = 7 from rfl] at hwA
  have SA := Lib.hid hwA
  have HK := Lib.hid KK
  unfold OutN
  clear hnA hatA hA hwA KK hl
  go_enter Tryz.func13, Tryz.ntmps13
  go_wp2_with fail
  refine HK.out.mono ?_
  rintro e wc ⟨y, rfl, hks, hb0⟩
  obtain ⟨bk, ok, ck, y0, y1, rfl, q0, q1, n0, n1⟩ := two_rows hks
  have hkl : bk < wc.heap.size := Ap.cell_lt q0
  have KS : Hid (∀ w1, Below wc.heap.size wc w1 → w1.cell? ⟨bk, ok, none⟩ = some y0 ∧ w1.cell? ⟨bk, ok + 1, none⟩ = some y1) := Lib.hid fun w1 hb => ⟨by rw [hb.cell (p := ⟨bk, ok, none⟩) hkl]; exact q0, by rw [hb.cell (p := ⟨bk, ok + 1, none⟩) hkl]; exact q1⟩
  have N0 := Lib.hid (fun w1 (hb : Below wc.heap.size wc w1) => n0.below hb)
  have N1 := Lib.hid (fun w1 (hb : Below wc.heap.size wc w1) => n1.below hb)
  clear n0 n1
  have B0 := Lib.hid hb0
  have e0 := (SA.out _ hb0).1
  have SC : Hid (∀ w1, Below wc.heap.size wc w1 → w1.cell? ⟨bA, oA, none⟩ = some (.int .i64 7)) := Lib.hid fun w1 hb => (SA.out w1 (B0.out.trans (hb.mono B0.out.size))).1
  clear hks hb0
  go_wp2_with fail
  go_region_held3 (fun w' => w'.cell? ⟨bk, ok, none⟩ = some y0 ∧ w'.cell? ⟨bk, ok + 1, none⟩ = some y1) (first | exact ⟨q0, q1⟩ | exact KS.out _ (Below.refl _ _).drew | exact KS.out _ D1.out | exact KS.out _ D2.out | exact KS.out _ D3.out | fail) (first
    | (go_at_call 13
       (with_reducible refine (RA.out y0 _ (N0.out _ (Below.refl _ _).drew)).mono ?_)
       rintro e w1 ⟨z1, rfl, hn1, hb1⟩
       have D1 := Lib.hid ((Below.refl wc.heap.size wc).drew.trans hb1)
       have M1 := Lib.hid hn1
       clear hb1 hn1)
    | (go_at_call 13
       (with_reducible refine (RB.out y1 _ (N1.out _ D1.out)).mono ?_)
       rintro e w2 ⟨z2, rfl, hn2, hb2⟩
       have D2 := Lib.hid (D1.out.trans (hb2.mono D1.out.size))
       have M1' := Lib.hid (M1.out.below hb2)
       have M2 := Lib.hid hn2
       clear hb2 hn2)
    | (go_at_call 31
       (with_reducible refine (parR_any (S a) (S b) _ _ _ M1'.out M2.out (by have := HL.out; have := S_sz a; have := S_sz b; simp only [sz] at *; omega)).mono ?_)
       rintro e w3 ⟨z3, rfl, hn3, hb3⟩
       have D3 := Lib.hid (D2.out.trans (hb3.mono D2.out.size))
       have M3 := Lib.hid hn3
       clear hb3 hn3)
    | fail)
  go_wp2_with fail
  go_ret
  exact ⟨_, rfl, M3.out, B0.out.trans (D3.out.mono B0.out.size)⟩
set_option maxHeartbeats 1000000 in
theorem tree_block (a : Tm) (va : Value) (w : World) (hA : Nds w va (flat (.block a))) (RA : Hid (RS a)) (hx : Hid (∀ s c, S a = .fin s c → RS c)) (hl : sz (.block a) ≤ 400) :
    Calls Tryz.prog 13 #[va] w (OutN (sBlock S (S a)) w) := by
  have KK := Rw.kidsR_any va (flat (.block a)) w hA (by rw [flat_len]; omega)
  rw [show kids (flat (.block a)) = [flat a] from kids_block a] at KK
  have HL : Hid (sz (.block a) ≤ 400) := Lib.hid hl
  have AA := Lib.hid (fun w1 (hb : Below w.heap.size w w1) => hA.below hb)
  obtain ⟨bA, oA, cA, rfl, hcA, hltA, hwA, hatA⟩ := form hA
  have hpA := sz_pos (.block a)
  obtain ⟨nA, hnA⟩ : ∃ n, sz (.block a) = n + 1 := ⟨sz (.block a) - 1, by omega⟩
  rw [hnA] at hcA AA hpA KK ⊢
  have g3A : (1 : Int) ≤ (nA : Int) + 1 := by omega
  rw [show kd (.block a) = 9 from rfl] at hwA
  have SA := Lib.hid hwA
  have HK := Lib.hid KK
  unfold OutN
  clear hnA hatA hA hwA KK hl
  go_enter Tryz.func13, Tryz.ntmps13
  go_wp2_with fail
  refine HK.out.mono ?_
  rintro e wc ⟨y, rfl, hks, hb0⟩
  obtain ⟨bk, ok, ck, y0, rfl, q0, n0⟩ := one_row hks
  have N0 := Lib.hid (fun w1 (hb : Below wc.heap.size wc w1) => n0.below hb)
  clear n0
  have B0 := Lib.hid hb0
  have e0 := (SA.out _ hb0).1
  have SC : Hid (∀ w1, Below wc.heap.size wc w1 → w1.cell? ⟨bA, oA, none⟩ = some (.int .i64 9)) := Lib.hid fun w1 hb => (SA.out w1 (B0.out.trans (hb.mono B0.out.size))).1
  clear hks hb0
  go_wp2_with fail
  refine (RA.out y0 _ (N0.out _ (Below.refl _ _))).mono ?_
  rintro e w1 ⟨z1, rfl, hn1, hb1⟩
  have D1 := Lib.hid hb1
  have M1 := Lib.hid hn1
  clear hb1 hn1
  go_wp2_with fail
  refine (blockR_any (S a) _ _ M1.out hx.out (by have := HL.out; have := S_sz a; simp only [sz] at *; omega)).mono ?_
  rintro e w2 ⟨z2, rfl, hn2, hb2⟩
  have D2 := Lib.hid (D1.out.trans (hb2.mono D1.out.size))
  have M2 := Lib.hid hn2
  clear hb2 hn2
  go_wp2_with fail
  go_ret
  exact ⟨_, rfl, M2.out, B0.out.trans (D2.out.mono B0.out.size)⟩
theorem not14 {a : Tm} (h : is a 3 = true) : kd a ≠ 14 := fun e => by
  obtain ⟨s, c, rfl⟩ := kd14 e
  simp [is] at h
theorem not11 {a : Tm} (h : is a 4 = true) : kd a ≠ 11 := fun e => by
  obtain ⟨s, rfl⟩ := kd11 e
  simp [is] at h
/-- The document's Tree. -/
theorem treeR_any : ∀ t : Tm, sz t ≤ 400 → (is t 3 = true ∨ is t 4 = true) → RS t := by
  apply S_ind
  intro t ih hl hi v w hv
  cases t with
  | act s => exact tree_act s v w hv hl
  | skip => exact tree_skip v w hv hl
  | throw => exact tree_throw v w hv hl
  | yield => exact tree_yield v w hv hl
  | over s => exact tree_over s v w hv hl
  | fin s c => exact tree_fin s c v w hv hl
  | alt a b => exact tree_alt a b v w hv hl
  | pair a b => exact tree_pair a b v w hv hl
  | seq a b =>
    have hz : sz (.seq a b) = sz a + sz b + 1 := rfl
    have ia : is a 3 = true ∨ is a 4 = true := by simp [is] at hi; exact hi.imp (·.1) (·.1)
    have ib : is b 3 = true ∨ is b 4 = true := by simp [is] at hi; exact hi.imp (fun h => (is13 b).1 h.2) (fun h => (is13 b).2 h.2)
    rw [S_seq]
    refine tree_seq a b v w hv (Lib.hid (ih a (by omega) (by omega) ia)) (Lib.hid (ih b (by omega) (by omega) ib)) (Lib.hid fun h14 => ?_) hl
    rcases hi with hi | hi
    · simp [is] at hi
      exact absurd h14 (not14 ((S_is a).1 hi.1))
    · simp [is] at hi
      exact not11 ((S_is b).2 ((is13 b).2 hi.2))
  | hand a b =>
    have hz : sz (.hand a b) = sz a + sz b + 1 := rfl
    have h3 : is a 3 = true ∧ is b 1 = true := by simpa [is] using hi
    rw [S_hand]
    exact tree_hand a b v w hv (Lib.hid (ih a (by omega) (by omega) (.inl h3.1))) (Lib.hid (ih b (by omega) (by omega) (.inl ((is13 b).1 h3.2)))) (Lib.hid (not14 ((S_is a).1 h3.1))) hl
  | going a b =>
    have hz : sz (.going a b) = sz a + sz b + 1 := rfl
    have h3 : is a 3 = true ∧ is b 1 = true := by simpa [is] using hi
    rw [S_going]
    exact tree_going a b v w hv (Lib.hid (ih a (by omega) (by omega) (.inl h3.1))) (Lib.hid (not14 ((S_is a).1 h3.1))) hl
  | stack a b =>
    have hz : sz (.stack a b) = sz a + sz b + 1 := rfl
    have h3 : is a 4 = true ∧ is b 1 = true := by simpa [is] using hi
    rw [S_stack]
    exact tree_stack a b v w hv (Lib.hid (ih a (by omega) (by omega) (.inr h3.1))) (Lib.hid (not11 ((S_is a).2 h3.1))) hl
  | par a b =>
    have hz : sz (.par a b) = sz a + sz b + 1 := rfl
    have ia : is a 3 = true ∨ is a 4 = true := by simp [is] at hi; exact hi.imp (·.1) (·.1)
    have ib : is b 3 = true ∨ is b 4 = true := by simp [is] at hi; exact hi.imp (·.2) (·.2)
    rw [S_par]
    exact tree_par a b v w hv (Lib.hid (ih a (by omega) (by omega) ia)) (Lib.hid (ih b (by omega) (by omega) ib)) hl
  | block a =>
    have hz : sz (.block a) = sz a + 1 := rfl
    have h4 : is a 4 = true := by simpa [is] using hi
    rw [S_block]
    refine tree_block a v w hv (Lib.hid (ih a (by omega) (by omega) (.inr h4))) (Lib.hid fun s c e => ?_) hl
    have h5 := (S_is a).2 h4
    have h6 := S_sz a
    rw [e] at h5 h6
    simp [is] at h5
    simp only [sz] at h6
    exact ih c (by omega) (by omega) (.inl ((is13 c).1 h5))
end Go.Proofs.YtpingbiibbmcaaaGreat.Se
