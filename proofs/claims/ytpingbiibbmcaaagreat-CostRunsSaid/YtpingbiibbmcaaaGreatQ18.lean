/- The program's beside: the walks. The program's walk through a tree (nodes): its own rows, and what it promises. What trees mean: plain. The kids of a tree in a row of the call's own, and a box beside it: what a store keeps. -/
import Derived.Test.YtpingbiibbmcaaaGreatQ16
import Derived.Deep.RegionHeld3
import Derived.StillTailTactics
import Derived.Test.YtpingbiibbmcaaaGreatQ11
import Derived.Test.YtpingbiibbmcaaaGreatQ02
import Derived.Test.YtpingbiibbmcaaaGreatQ04
import Derived.RangeFuncBound
import Derived.RangeFuncCalls
import Derived.TacticsIn
import Derived.TacticsInMore
import Derived.OwnWalkIn
import Derived.Test.YtpingbiibbmcaaaGreatQ17

namespace Go.Proofs.YtpingbiibbmcaaaGreat.Se
open Go Go.RowKit Go.Proofs.YtpingbiibbmcaaaGreat.Rw Go.Proofs.YtpingbiibbmcaaaGreat.So
set_option maxRecDepth 20000

set_option maxHeartbeats 1000000 in
theorem beside_over (base : Nat) (s t : Int) (vA : Value) (vB : Value) (w : World) (hA : Nds w vA (flat (.over s))) (hB : Nds w vB (flat (.over t))) (hbs : base ≤ w.heap.size) (hl : sz (.over s) + sz (.over t) ≤ 900) :
    Calls Tryz.prog 119 #[.agg #[.int .i64 7, .string ⟨#[]⟩, .int .i64 0], vA, vB] w (OutB base (.over (Sg.both s t)) w) := by
  have HL : Hid (sz (.over s) + sz (.over t) ≤ 900) := Lib.hid hl
  have HB := Lib.hid hbs
  have AA := Lib.hid (fun w1 (hb : Below w.heap.size w w1) => hA.below hb)
  obtain ⟨bA, oA, cA, rfl, hcA, hltA, hwA, hatA⟩ := form3 hA
  obtain ⟨nA, hnA⟩ : ∃ n, sz (.over s) = n + 1 := ⟨sz (.over s) - 1, by have := sz_pos (.over s); omega⟩
  rw [hnA] at hcA AA ⊢
  clear hnA
  have g3A : (1 : Int) ≤ (nA : Int) + 1 := by omega
  rw [show kd (.over s) = 11 from rfl, show sg (.over s) = s from rfl, show nmT (.over s) = ⟨#[]⟩ from rfl] at hwA
  have AB := Lib.hid (fun w1 (hb : Below w.heap.size w w1) => hB.below hb)
  obtain ⟨bB, oB, cB, rfl, hcB, hltB, hwB, hatB⟩ := form3 hB
  obtain ⟨nB, hnB⟩ : ∃ n, sz (.over t) = n + 1 := ⟨sz (.over t) - 1, by have := sz_pos (.over t); omega⟩
  rw [hnB] at hcB AB ⊢
  clear hnB
  have g3B : (1 : Int) ≤ (nB : Int) + 1 := by omega
  rw [show kd (.over t) = 11 from rfl, show sg (.over t) = t from rfl, show nmT (.over t) = ⟨#[]⟩ from rfl] at hwB
  obtain ⟨X, hX⟩ : ∃ X, Sg.both s t = X := ⟨_, rfl⟩
  rw [hX]
  have HX := Lib.hid hX
  clear hX
  unfold OutB
  clear hl hbs hatA hA hatB hB
  go_enter Tryz.func119, Tryz.ntmps119
  go_wp2_with fail
  have BW0 := below1 w (.cells #[.int .i64 7, .string ⟨#[]⟩, .int .i64 0] 39)
  have BC := box_cells w 7 0 ⟨#[]⟩ 39
  generalize w.alloc (.cells #[.int .i64 7, .string ⟨#[]⟩, .int .i64 0] 39) = W at BW0 BC ⊢
  have BW := Lib.hid BW0
  have SW : Hid (∀ w', Below W.heap.size W w' → w'.cell? ⟨bA, oA, none⟩ = some (.int .i64 11) ∧ w'.cell? ⟨bA, oA + 1, none⟩ = some (.string ⟨#[]⟩) ∧ w'.cell? ⟨bA, oA + 2, none⟩ = some (.int .i64 s) ∧ w'.cell? ⟨bB, oB, none⟩ = some (.int .i64 11) ∧ w'.cell? ⟨bB, oB + 1, none⟩ = some (.string ⟨#[]⟩) ∧ w'.cell? ⟨bB, oB + 2, none⟩ = some (.int .i64 t) ∧ w'.cell? ⟨w.heap.size, 0, none⟩ = some (.int .i64 7) ∧ w'.cell? ⟨w.heap.size, 1, none⟩ = some (.string ⟨#[]⟩) ∧ w'.cell? ⟨w.heap.size, 2, none⟩ = some (.int .i64 0)) := Lib.hid fun w1 hb => by
    obtain ⟨x0, x1, x2⟩ := hwA w1 (BW.out.trans (hb.mono BW.out.size))
    obtain ⟨x3, x4, x5⟩ := hwB w1 (BW.out.trans (hb.mono BW.out.size))
    obtain ⟨x6, x7, x8⟩ := BC w1 hb
    exact ⟨x0, x1, x2, x3, x4, x5, x6, x7, x8⟩
  clear BW0 BC hwA hwB
  have e := SW.out _ (Below.refl _ _)
  obtain ⟨e0, e1, e2, e3, e4, e5, e6, e7, e8⟩ := e
  go_still_tail 8, (by kernel_rfl)
  change wpList _ _ _ _ _ W.drew
  go_wp2_with fail
  refine (Sg.both_any _ _ _).mono ?_
  rw [HX.out]
  rintro e w1 ⟨rfl, rfl⟩
  have D1 : Hid (Below W.heap.size W W.drew) := Lib.hid (Below.refl _ _).drew
  go_wp2_with fail
  refine (overP_any X _).mono ?_
  rintro e w2 ⟨rfl, hb2⟩
  have D2 := Lib.hid ((D1.out).trans (hb2.mono (D1.out).size))
  clear hb2
  go_wp2_with fail
  refine (mkP0 base 11 X (.over X) rfl _ (Nat.le_trans HB.out (Nat.le_trans BW.out.size D2.out.size))).mono ?_
  rintro e w3 ⟨y3, rfl, hn3, hb3⟩
  obtain ⟨_, ay3, cy3, rfl, -⟩ := id hn3
  have D3 := Lib.hid ((D2.out).trans (hb3.mono (D2.out).size))
  have N3 := Lib.hid hn3
  clear hn3 hb3
  go_wp2_with fail
  go_ret
  exact ⟨_, rfl, N3.out, BW.out.trans ((D3.out).mono BW.out.size)⟩
set_option maxHeartbeats 1000000 in
theorem beside_other (base : Nat) (a d : Tm) (vA : Value) (vB : Value) (w : World) (hA : Nds w vA (flat a)) (hB : Nds w vB (flat d)) (qA11 : kd a ≠ 11) (qA14 : kd a ≠ 14) (hbs : base ≤ w.heap.size) (hl : sz a + sz d ≤ 900) :
    Calls Tryz.prog 119 #[.agg #[.int .i64 7, .string ⟨#[]⟩, .int .i64 0], vA, vB] w (OutB base (.par a d) w) := by
  have HL : Hid (sz a + sz d ≤ 900) := Lib.hid hl
  have HB := Lib.hid hbs
  have AA := Lib.hid (fun w1 (hb : Below w.heap.size w w1) => hA.below hb)
  obtain ⟨bA, oA, cA, rfl, hcA, hltA, hwA, hatA⟩ := form3 hA
  obtain ⟨nA, hnA⟩ : ∃ n, sz a = n + 1 := ⟨sz a - 1, by have := sz_pos a; omega⟩
  rw [hnA] at hcA AA ⊢
  clear hnA
  have g3A : (1 : Int) ≤ (nA : Int) + 1 := by omega
  have fA11 : (kd a == 11) = false := by rw [beq_eq_false_iff_ne]; exact qA11
  have fA14 : (kd a == 14) = false := by rw [beq_eq_false_iff_ne]; exact qA14
  obtain ⟨kA, hkA⟩ : ∃ k, kd a = k := ⟨_, rfl⟩
  obtain ⟨sA, hsA⟩ : ∃ s, sg a = s := ⟨_, rfl⟩
  obtain ⟨mA, hmA⟩ : ∃ m, nmT a = m := ⟨_, rfl⟩
  rw [hkA] at hwA fA11 qA11 fA14 qA14
  rw [hsA, hmA] at hwA
  clear hkA hsA hmA
  have AB := Lib.hid (fun w1 (hb : Below w.heap.size w w1) => hB.below hb)
  obtain ⟨bB, oB, cB, rfl, hcB, hltB, hwB, hatB⟩ := form3 hB
  obtain ⟨nB, hnB⟩ : ∃ n, sz d = n + 1 := ⟨sz d - 1, by have := sz_pos d; omega⟩
  rw [hnB] at hcB AB ⊢
  clear hnB
  have g3B : (1 : Int) ≤ (nB : Int) + 1 := by omega
  obtain ⟨kB, hkB⟩ : ∃ k, kd d = k := ⟨_, rfl⟩
  obtain ⟨sB, hsB⟩ : ∃ s, sg d = s := ⟨_, rfl⟩
  obtain ⟨mB, hmB⟩ : ∃ m, nmT d = m := ⟨_, rfl⟩
  rw [hkB] at hwB
  rw [hsB, hmB] at hwB
  clear hkB hsB hmB
  obtain ⟨X, hX⟩ : ∃ X, Sg.both sA sB = X := ⟨_, rfl⟩
  skip
  have HX := Lib.hid hX
  clear hX
  unfold OutB
  clear hl hbs qA11 qA14 hatA hA hatB hB
  go_enter Tryz.func119, Tryz.ntmps119
  go_wp2_with fail
  have BW0 := below1 w (.cells #[.int .i64 7, .string ⟨#[]⟩, .int .i64 0] 39)
  have BC := box_cells w 7 0 ⟨#[]⟩ 39
  generalize w.alloc (.cells #[.int .i64 7, .string ⟨#[]⟩, .int .i64 0] 39) = W at BW0 BC ⊢
  have BW := Lib.hid BW0
  have SW : Hid (∀ w', Below W.heap.size W w' → w'.cell? ⟨bA, oA, none⟩ = some (.int .i64 kA) ∧ w'.cell? ⟨bA, oA + 1, none⟩ = some (.string mA) ∧ w'.cell? ⟨bA, oA + 2, none⟩ = some (.int .i64 sA) ∧ w'.cell? ⟨bB, oB, none⟩ = some (.int .i64 kB) ∧ w'.cell? ⟨bB, oB + 1, none⟩ = some (.string mB) ∧ w'.cell? ⟨bB, oB + 2, none⟩ = some (.int .i64 sB) ∧ w'.cell? ⟨w.heap.size, 0, none⟩ = some (.int .i64 7) ∧ w'.cell? ⟨w.heap.size, 1, none⟩ = some (.string ⟨#[]⟩) ∧ w'.cell? ⟨w.heap.size, 2, none⟩ = some (.int .i64 0)) := Lib.hid fun w1 hb => by
    obtain ⟨x0, x1, x2⟩ := hwA w1 (BW.out.trans (hb.mono BW.out.size))
    obtain ⟨x3, x4, x5⟩ := hwB w1 (BW.out.trans (hb.mono BW.out.size))
    obtain ⟨x6, x7, x8⟩ := BC w1 hb
    exact ⟨x0, x1, x2, x3, x4, x5, x6, x7, x8⟩
  clear BW0 BC hwA hwB
  have e := SW.out _ (Below.refl _ _)
  obtain ⟨e0, e1, e2, e3, e4, e5, e6, e7, e8⟩ := e
  go_still_tail 8, (by kernel_rfl)
  change wpList _ _ _ _ _ W.drew
  go_wp2_with fail
  refine (Sg.both_any _ _ _).mono ?_
  rw [HX.out]
  rintro e w1 ⟨rfl, rfl⟩
  have D1 : Hid (Below W.heap.size W W.drew) := Lib.hid (Below.refl _ _).drew
  go_wp2_with fail
  refine (mkP2 base 7 0 (.par a d) a d rfl _ _ _ _ (AA.out _ (BW.out.trans ((D1.out).mono BW.out.size))) (AB.out _ (BW.out.trans ((D1.out).mono BW.out.size))) (by have := HL.out; simp only [sz] at *; omega) (Nat.le_trans HB.out (Nat.le_trans BW.out.size D1.out.size))).mono ?_
  rintro e w2 ⟨y2, rfl, hn2, hb2⟩
  obtain ⟨_, ay2, cy2, rfl, -⟩ := id hn2
  have D2 := Lib.hid ((D1.out).trans (hb2.mono (D1.out).size))
  have N2 := Lib.hid hn2
  clear hn2 hb2
  go_wp2_with fail
  go_ret
  exact ⟨_, rfl, N2.out, BW.out.trans ((D2.out).mono BW.out.size)⟩
set_option maxHeartbeats 1000000 in
theorem beside_11 (base : Nat) (s : Int) (d : Tm) (vA : Value) (vB : Value) (w : World) (hA : Nds w vA (flat (.over s))) (hB : Nds w vB (flat d)) (qB11 : kd d ≠ 11) (hbs : base ≤ w.heap.size) (hl : sz (.over s) + sz d ≤ 900) :
    Calls Tryz.prog 119 #[.agg #[.int .i64 7, .string ⟨#[]⟩, .int .i64 0], vA, vB] w (OutB base (.par (.over s) d) w) := by
  have HL : Hid (sz (.over s) + sz d ≤ 900) := Lib.hid hl
  have HB := Lib.hid hbs
  have AA := Lib.hid (fun w1 (hb : Below w.heap.size w w1) => hA.below hb)
  obtain ⟨bA, oA, cA, rfl, hcA, hltA, hwA, hatA⟩ := form3 hA
  obtain ⟨nA, hnA⟩ : ∃ n, sz (.over s) = n + 1 := ⟨sz (.over s) - 1, by have := sz_pos (.over s); omega⟩
  rw [hnA] at hcA AA ⊢
  clear hnA
  have g3A : (1 : Int) ≤ (nA : Int) + 1 := by omega
  rw [show kd (.over s) = 11 from rfl, show sg (.over s) = s from rfl, show nmT (.over s) = ⟨#[]⟩ from rfl] at hwA
  have AB := Lib.hid (fun w1 (hb : Below w.heap.size w w1) => hB.below hb)
  obtain ⟨bB, oB, cB, rfl, hcB, hltB, hwB, hatB⟩ := form3 hB
  obtain ⟨nB, hnB⟩ : ∃ n, sz d = n + 1 := ⟨sz d - 1, by have := sz_pos d; omega⟩
  rw [hnB] at hcB AB ⊢
  clear hnB
  have g3B : (1 : Int) ≤ (nB : Int) + 1 := by omega
  have fB11 : (kd d == 11) = false := by rw [beq_eq_false_iff_ne]; exact qB11
  obtain ⟨kB, hkB⟩ : ∃ k, kd d = k := ⟨_, rfl⟩
  obtain ⟨sB, hsB⟩ : ∃ s, sg d = s := ⟨_, rfl⟩
  obtain ⟨mB, hmB⟩ : ∃ m, nmT d = m := ⟨_, rfl⟩
  rw [hkB] at hwB fB11 qB11
  rw [hsB, hmB] at hwB
  clear hkB hsB hmB
  obtain ⟨X, hX⟩ : ∃ X, Sg.both s sB = X := ⟨_, rfl⟩
  skip
  have HX := Lib.hid hX
  clear hX
  unfold OutB
  clear hl hbs hatA hA qB11 hatB hB
  go_enter Tryz.func119, Tryz.ntmps119
  go_wp2_with fail
  have BW0 := below1 w (.cells #[.int .i64 7, .string ⟨#[]⟩, .int .i64 0] 39)
  have BC := box_cells w 7 0 ⟨#[]⟩ 39
  generalize w.alloc (.cells #[.int .i64 7, .string ⟨#[]⟩, .int .i64 0] 39) = W at BW0 BC ⊢
  have BW := Lib.hid BW0
  have SW : Hid (∀ w', Below W.heap.size W w' → w'.cell? ⟨bA, oA, none⟩ = some (.int .i64 11) ∧ w'.cell? ⟨bA, oA + 1, none⟩ = some (.string ⟨#[]⟩) ∧ w'.cell? ⟨bA, oA + 2, none⟩ = some (.int .i64 s) ∧ w'.cell? ⟨bB, oB, none⟩ = some (.int .i64 kB) ∧ w'.cell? ⟨bB, oB + 1, none⟩ = some (.string mB) ∧ w'.cell? ⟨bB, oB + 2, none⟩ = some (.int .i64 sB) ∧ w'.cell? ⟨w.heap.size, 0, none⟩ = some (.int .i64 7) ∧ w'.cell? ⟨w.heap.size, 1, none⟩ = some (.string ⟨#[]⟩) ∧ w'.cell? ⟨w.heap.size, 2, none⟩ = some (.int .i64 0)) := Lib.hid fun w1 hb => by
    obtain ⟨x0, x1, x2⟩ := hwA w1 (BW.out.trans (hb.mono BW.out.size))
    obtain ⟨x3, x4, x5⟩ := hwB w1 (BW.out.trans (hb.mono BW.out.size))
    obtain ⟨x6, x7, x8⟩ := BC w1 hb
    exact ⟨x0, x1, x2, x3, x4, x5, x6, x7, x8⟩
  clear BW0 BC hwA hwB
  have e := SW.out _ (Below.refl _ _)
  obtain ⟨e0, e1, e2, e3, e4, e5, e6, e7, e8⟩ := e
  go_still_tail 8, (by kernel_rfl)
  change wpList _ _ _ _ _ W.drew
  go_wp2_with fail
  refine (Sg.both_any _ _ _).mono ?_
  rw [HX.out]
  rintro e w1 ⟨rfl, rfl⟩
  have D1 : Hid (Below W.heap.size W W.drew) := Lib.hid (Below.refl _ _).drew
  go_wp2_with fail
  refine (mkP2 base 7 0 (.par (.over s) d) (.over s) d rfl _ _ _ _ (AA.out _ (BW.out.trans ((D1.out).mono BW.out.size))) (AB.out _ (BW.out.trans ((D1.out).mono BW.out.size))) (by have := HL.out; simp only [sz] at *; omega) (Nat.le_trans HB.out (Nat.le_trans BW.out.size D1.out.size))).mono ?_
  rintro e w2 ⟨y2, rfl, hn2, hb2⟩
  obtain ⟨_, ay2, cy2, rfl, -⟩ := id hn2
  have D2 := Lib.hid ((D1.out).trans (hb2.mono (D1.out).size))
  have N2 := Lib.hid hn2
  clear hn2 hb2
  go_wp2_with fail
  go_ret
  exact ⟨_, rfl, N2.out, BW.out.trans ((D2.out).mono BW.out.size)⟩
set_option maxHeartbeats 1000000 in
theorem beside_14 (base : Nat) (s : Int) (c d : Tm) (vA : Value) (vB : Value) (w : World) (hA : Nds w vA (flat (.fin s c))) (hB : Nds w vB (flat d)) (qB14 : kd d ≠ 14) (hbs : base ≤ w.heap.size) (hl : sz (.fin s c) + sz d ≤ 900) :
    Calls Tryz.prog 119 #[.agg #[.int .i64 7, .string ⟨#[]⟩, .int .i64 0], vA, vB] w (OutB base (.par (.fin s c) d) w) := by
  have HL : Hid (sz (.fin s c) + sz d ≤ 900) := Lib.hid hl
  have HB := Lib.hid hbs
  have AA := Lib.hid (fun w1 (hb : Below w.heap.size w w1) => hA.below hb)
  obtain ⟨bA, oA, cA, rfl, hcA, hltA, hwA, hatA⟩ := form3 hA
  have TA := Lib.hid (fun w1 (hb : Below w.heap.size w w1) => (tail_fin hatA hcA).below hb)
  have hzA : sz (.fin s c) = sz c + 1 := rfl
  rw [hzA] at hcA AA ⊢
  obtain ⟨nA, hnA⟩ : ∃ n, sz c = n := ⟨_, rfl⟩
  have hqA := sz_pos c
  rw [hnA] at hcA TA AA hqA ⊢
  have g2A : ¬ cA = 1 := by omega
  clear hnA hzA
  have g3A : (1 : Int) ≤ (nA : Int) + 1 := by omega
  rw [show kd (.fin s c) = 14 from rfl, show sg (.fin s c) = s from rfl, show nmT (.fin s c) = ⟨#[]⟩ from rfl] at hwA
  have AB := Lib.hid (fun w1 (hb : Below w.heap.size w w1) => hB.below hb)
  obtain ⟨bB, oB, cB, rfl, hcB, hltB, hwB, hatB⟩ := form3 hB
  obtain ⟨nB, hnB⟩ : ∃ n, sz d = n + 1 := ⟨sz d - 1, by have := sz_pos d; omega⟩
  rw [hnB] at hcB AB ⊢
  clear hnB
  have g3B : (1 : Int) ≤ (nB : Int) + 1 := by omega
  have fB14 : (kd d == 14) = false := by rw [beq_eq_false_iff_ne]; exact qB14
  obtain ⟨kB, hkB⟩ : ∃ k, kd d = k := ⟨_, rfl⟩
  obtain ⟨sB, hsB⟩ : ∃ s, sg d = s := ⟨_, rfl⟩
  obtain ⟨mB, hmB⟩ : ∃ m, nmT d = m := ⟨_, rfl⟩
  rw [hkB] at hwB fB14 qB14
  rw [hsB, hmB] at hwB
  clear hkB hsB hmB
  obtain ⟨X, hX⟩ : ∃ X, Sg.both s sB = X := ⟨_, rfl⟩
  skip
  have HX := Lib.hid hX
  clear hX
  unfold OutB
  clear hl hbs hatA hA qB14 hatB hB
  go_enter Tryz.func119, Tryz.ntmps119
  go_wp2_with fail
  have BW0 := below1 w (.cells #[.int .i64 7, .string ⟨#[]⟩, .int .i64 0] 39)
  have BC := box_cells w 7 0 ⟨#[]⟩ 39
  generalize w.alloc (.cells #[.int .i64 7, .string ⟨#[]⟩, .int .i64 0] 39) = W at BW0 BC ⊢
  have BW := Lib.hid BW0
  have SW : Hid (∀ w', Below W.heap.size W w' → w'.cell? ⟨bA, oA, none⟩ = some (.int .i64 14) ∧ w'.cell? ⟨bA, oA + 1, none⟩ = some (.string ⟨#[]⟩) ∧ w'.cell? ⟨bA, oA + 2, none⟩ = some (.int .i64 s) ∧ w'.cell? ⟨bB, oB, none⟩ = some (.int .i64 kB) ∧ w'.cell? ⟨bB, oB + 1, none⟩ = some (.string mB) ∧ w'.cell? ⟨bB, oB + 2, none⟩ = some (.int .i64 sB) ∧ w'.cell? ⟨w.heap.size, 0, none⟩ = some (.int .i64 7) ∧ w'.cell? ⟨w.heap.size, 1, none⟩ = some (.string ⟨#[]⟩) ∧ w'.cell? ⟨w.heap.size, 2, none⟩ = some (.int .i64 0)) := Lib.hid fun w1 hb => by
    obtain ⟨x0, x1, x2⟩ := hwA w1 (BW.out.trans (hb.mono BW.out.size))
    obtain ⟨x3, x4, x5⟩ := hwB w1 (BW.out.trans (hb.mono BW.out.size))
    obtain ⟨x6, x7, x8⟩ := BC w1 hb
    exact ⟨x0, x1, x2, x3, x4, x5, x6, x7, x8⟩
  clear BW0 BC hwA hwB
  have e := SW.out _ (Below.refl _ _)
  obtain ⟨e0, e1, e2, e3, e4, e5, e6, e7, e8⟩ := e
  go_still_tail 8, (by kernel_rfl)
  change wpList _ _ _ _ _ W.drew
  go_wp2_with fail
  refine (Sg.both_any _ _ _).mono ?_
  rw [HX.out]
  rintro e w1 ⟨rfl, rfl⟩
  have D1 : Hid (Below W.heap.size W W.drew) := Lib.hid (Below.refl _ _).drew
  go_wp2_with fail
  refine (mkP2 base 7 0 (.par (.fin s c) d) (.fin s c) d rfl _ _ _ _ (AA.out _ (BW.out.trans ((D1.out).mono BW.out.size))) (AB.out _ (BW.out.trans ((D1.out).mono BW.out.size))) (by have := HL.out; simp only [sz] at *; omega) (Nat.le_trans HB.out (Nat.le_trans BW.out.size D1.out.size))).mono ?_
  rintro e w2 ⟨y2, rfl, hn2, hb2⟩
  obtain ⟨_, ay2, cy2, rfl, -⟩ := id hn2
  have D2 := Lib.hid ((D1.out).trans (hb2.mono (D1.out).size))
  have N2 := Lib.hid hn2
  clear hn2 hb2
  go_wp2_with fail
  go_ret
  exact ⟨_, rfl, N2.out, BW.out.trans ((D2.out).mono BW.out.size)⟩
set_option maxHeartbeats 1000000 in
theorem beside_fin (base : Nat) (s t : Int) (c d : Tm) (vA : Value) (vB : Value) (w : World) (hA : Nds w vA (flat (.fin s c))) (hB : Nds w vB (flat (.fin t d))) (hbs : base ≤ w.heap.size) (hl : sz (.fin s c) + sz (.fin t d) ≤ 900) :
    Calls Tryz.prog 119 #[.agg #[.int .i64 7, .string ⟨#[]⟩, .int .i64 0], vA, vB] w (OutB base (.fin (Sg.both s t) (.par c d)) w) := by
  have HL : Hid (sz (.fin s c) + sz (.fin t d) ≤ 900) := Lib.hid hl
  have HB := Lib.hid hbs
  have AA := Lib.hid (fun w1 (hb : Below w.heap.size w w1) => hA.below hb)
  obtain ⟨bA, oA, cA, rfl, hcA, hltA, hwA, hatA⟩ := form3 hA
  have TA := Lib.hid (fun w1 (hb : Below w.heap.size w w1) => (tail_fin hatA hcA).below hb)
  have hzA : sz (.fin s c) = sz c + 1 := rfl
  rw [hzA] at hcA AA ⊢
  obtain ⟨nA, hnA⟩ : ∃ n, sz c = n := ⟨_, rfl⟩
  have hqA := sz_pos c
  rw [hnA] at hcA TA AA hqA ⊢
  have g2A : ¬ cA = 1 := by omega
  clear hnA hzA
  have g3A : (1 : Int) ≤ (nA : Int) + 1 := by omega
  rw [show kd (.fin s c) = 14 from rfl, show sg (.fin s c) = s from rfl, show nmT (.fin s c) = ⟨#[]⟩ from rfl] at hwA
  have AB := Lib.hid (fun w1 (hb : Below w.heap.size w w1) => hB.below hb)
  obtain ⟨bB, oB, cB, rfl, hcB, hltB, hwB, hatB⟩ := form3 hB
  have TB := Lib.hid (fun w1 (hb : Below w.heap.size w w1) => (tail_fin hatB hcB).below hb)
  have hzB : sz (.fin t d) = sz d + 1 := rfl
  rw [hzB] at hcB AB ⊢
  obtain ⟨nB, hnB⟩ : ∃ n, sz d = n := ⟨_, rfl⟩
  have hqB := sz_pos d
  rw [hnB] at hcB TB AB hqB ⊢
  have g2B : ¬ cB = 1 := by omega
  clear hnB hzB
  have g3B : (1 : Int) ≤ (nB : Int) + 1 := by omega
  rw [show kd (.fin t d) = 14 from rfl, show sg (.fin t d) = t from rfl, show nmT (.fin t d) = ⟨#[]⟩ from rfl] at hwB
  obtain ⟨X, hX⟩ : ∃ X, Sg.both s t = X := ⟨_, rfl⟩
  rw [hX]
  have HX := Lib.hid hX
  clear hX
  unfold OutB
  clear hl hbs hatA hA hatB hB
  go_enter Tryz.func119, Tryz.ntmps119
  go_wp2_with fail
  have BW0 := below1 w (.cells #[.int .i64 7, .string ⟨#[]⟩, .int .i64 0] 39)
  have BC := box_cells w 7 0 ⟨#[]⟩ 39
  generalize w.alloc (.cells #[.int .i64 7, .string ⟨#[]⟩, .int .i64 0] 39) = W at BW0 BC ⊢
  have BW := Lib.hid BW0
  have SW : Hid (∀ w', Below W.heap.size W w' → w'.cell? ⟨bA, oA, none⟩ = some (.int .i64 14) ∧ w'.cell? ⟨bA, oA + 1, none⟩ = some (.string ⟨#[]⟩) ∧ w'.cell? ⟨bA, oA + 2, none⟩ = some (.int .i64 s) ∧ w'.cell? ⟨bB, oB, none⟩ = some (.int .i64 14) ∧ w'.cell? ⟨bB, oB + 1, none⟩ = some (.string ⟨#[]⟩) ∧ w'.cell? ⟨bB, oB + 2, none⟩ = some (.int .i64 t) ∧ w'.cell? ⟨w.heap.size, 0, none⟩ = some (.int .i64 7) ∧ w'.cell? ⟨w.heap.size, 1, none⟩ = some (.string ⟨#[]⟩) ∧ w'.cell? ⟨w.heap.size, 2, none⟩ = some (.int .i64 0)) := Lib.hid fun w1 hb => by
    obtain ⟨x0, x1, x2⟩ := hwA w1 (BW.out.trans (hb.mono BW.out.size))
    obtain ⟨x3, x4, x5⟩ := hwB w1 (BW.out.trans (hb.mono BW.out.size))
    obtain ⟨x6, x7, x8⟩ := BC w1 hb
    exact ⟨x0, x1, x2, x3, x4, x5, x6, x7, x8⟩
  clear BW0 BC hwA hwB
  have e := SW.out _ (Below.refl _ _)
  obtain ⟨e0, e1, e2, e3, e4, e5, e6, e7, e8⟩ := e
  go_still_tail 8, (by kernel_rfl)
  change wpList _ _ _ _ _ W.drew
  go_wp2_with fail
  refine (Sg.both_any _ _ _).mono ?_
  rw [HX.out]
  rintro e w1 ⟨rfl, rfl⟩
  have D1 : Hid (Below W.heap.size W W.drew) := Lib.hid (Below.refl _ _).drew
  go_wp2_with fail
  generalize W.drew = V at D1 ⊢
  have CS : Hid (∀ w1, Below V.heap.size V w1 → Nds w1 (.slice (some ⟨bA, oA + 3, none⟩) nA (cA - 1)) (flat c) ∧ Nds w1 (.slice (some ⟨bB, oB + 3, none⟩) nB (cB - 1)) (flat d)) := Lib.hid fun w1 hb => by
    have hb' := D1.out.trans (hb.mono D1.out.size)
    exact ⟨TA.out _ (BW.out.trans (hb'.mono BW.out.size)), TB.out _ (BW.out.trans (hb'.mono BW.out.size))⟩
  have HBV := Lib.hid (Nat.le_trans HB.out (Nat.le_trans BW.out.size D1.out.size))
  have SV : Hid (∀ w1, Below V.heap.size V w1 → w1.cell? ⟨w.heap.size, 0, none⟩ = some (.int .i64 7) ∧ w1.cell? ⟨w.heap.size, 1, none⟩ = some (.string ⟨#[]⟩) ∧ w1.cell? ⟨w.heap.size, 2, none⟩ = some (.int .i64 0)) := Lib.hid fun w1 hb => by
    obtain ⟨_, _, _, _, _, _, x⟩ := SW.out w1 (D1.out.trans (hb.mono D1.out.size))
    exact x
  obtain ⟨x6, x7, x8⟩ := SV.out V (Below.refl _ _)
  clear e0 e1 e2 e3 e4 e5 e6 e7 e8 SW
  go_region_held3 (fun w' => w'.cell? ⟨w.heap.size, 0, none⟩ = some (.int .i64 7) ∧ w'.cell? ⟨w.heap.size, 1, none⟩ = some (.string ⟨#[]⟩) ∧ w'.cell? ⟨w.heap.size, 2, none⟩ = some (.int .i64 0)) (first | exact SV.out _ (Below.refl _ _).drew | exact SV.out _ (below1 V _).drew | exact SV.out _ D2.out | exact SV.out _ (Below.alloc D2.out D2.out.size _) | exact SV.out _ D3.out | exact SV.out _ (Below.alloc D3.out D3.out.size _) | exact SV.out _ D4.out | fail) (first
    | (go_at_call 126
       (with_reducible refine (endP_any X V.drew).mono ?_)
       rintro e w1 ⟨rfl, hb1⟩
       have D2 := Lib.hid ((Below.refl V.heap.size V).drew.trans hb1)
       obtain ⟨y6, y7, y8⟩ := SV.out _ D2.out
       clear hb1)
    | (go_at_call 126
       (with_reducible refine (endP_any X (V.alloc _).drew).mono ?_)
       rintro e w1 ⟨rfl, hb1⟩
       have D2 := Lib.hid ((below1 V _).drew.trans (hb1.mono (below1 V _).drew.size))
       have RW := Lib.hid ((rws_two (CS.out _ (Below.refl _ _)).1 (CS.out _ (Below.refl _ _)).2 _).below ((Below.refl _ _).drew.trans hb1))
       obtain ⟨y6, y7, y8⟩ := SV.out _ D2.out
       clear hb1)
    | (go_at_call 95
       (with_reducible refine (mkPr base 7 0 (.par c d) c d rfl _ _ RW.out (by have := HL.out; simp only [sz] at *; omega) (Nat.le_trans HBV.out D2.out.size)).mono ?_)
       rintro e w2 ⟨y2, rfl, hn2, hb2⟩
       obtain ⟨_, ay2, cy2, rfl, -⟩ := id hn2
       have D3 := Lib.hid (D2.out.trans (hb2.mono D2.out.size))
       have N2 := Lib.hid hn2
       clear hn2 hb2)
    | (go_at_call 95
       (with_reducible refine (mkP2 base 7 0 (.par c d) c d rfl _ _ _ _ (CS.out _ D2.out).1 (CS.out _ D2.out).2 (by have := HL.out; simp only [sz] at *; omega) (Nat.le_trans HBV.out D2.out.size)).mono ?_)
       rintro e w2 ⟨y2, rfl, hn2, hb2⟩
       obtain ⟨_, ay2, cy2, rfl, -⟩ := id hn2
       have D3 := Lib.hid (D2.out.trans (hb2.mono D2.out.size))
       have N2 := Lib.hid hn2
       clear hn2 hb2)
    | (go_at_call 95
       (with_reducible refine (mkP1 base 14 X (.fin X (.par c d)) (.par c d) rfl _ _ _ N2.out.nds (by have := HL.out; simp only [sz] at *; omega) (Nat.le_trans HBV.out D3.out.size)).mono ?_)
       rintro e w3 ⟨y3, rfl, hn3, hb3⟩
       have D4 := Lib.hid (D3.out.trans (hb3.mono D3.out.size))
       have N3 := Lib.hid hn3
       clear hn3 hb3)
    | fail)
  all_goals go_wp2_with fail
  all_goals go_ret
  all_goals exact ⟨_, rfl, N3.out, BW.out.trans ((D1.out.trans (D4.out.mono D1.out.size)).mono BW.out.size)⟩
theorem besideP_any (base : Nat) (a d : Tm) (va vd : Value) (w : World) (ha : Nds w va (flat a)) (hd : Nds w vd (flat d)) (hb : base ≤ w.heap.size) (hl : sz a + sz d ≤ 900) :
    Calls Tryz.prog 119 #[.agg #[.int .i64 7, .string ⟨#[]⟩, .int .i64 0], va, vd] w (OutB base (sPar a d) w) := by
  by_cases a11 : kd a = 11
  · obtain ⟨s, rfl⟩ := kd11 a11
    by_cases d11 : kd d = 11
    · obtain ⟨t, rfl⟩ := kd11 d11
      exact beside_over base s t va vd w ha hd hb hl
    · rw [sPar_11 d11]
      exact beside_11 base s d va vd w ha hd d11 hb hl
  · by_cases a14 : kd a = 14
    · obtain ⟨s, c, rfl⟩ := kd14 a14
      by_cases d14 : kd d = 14
      · obtain ⟨t, d', rfl⟩ := kd14 d14
        exact beside_fin base s t c d' va vd w ha hd hb hl
      · rw [sPar_14 d14]
        exact beside_14 base s c d va vd w ha hd d14 hb hl
    · rw [sPar_no a11 a14]
      exact beside_other base a d va vd w ha hd a11 a14 hb hl
end Go.Proofs.YtpingbiibbmcaaaGreat.Se

namespace Go.Proofs.YtpingbiibbmcaaaGreat.Pl
open Go Go.RowKit Go.Proofs.YtpingbiibbmcaaaGreat.Rw Go.Proofs.YtpingbiibbmcaaaGreat.So Go.Proofs.YtpingbiibbmcaaaGreat.Ro
set_option maxRecDepth 20000

/-- A row of numbers of the call's own. -/
def Ow (w : World) (v : Value) (L : List Nat) : Prop := w.ownsRow 0 3 1 v L.length (Rx.ic L)
theorem Ow.slice {w : World} {v : Value} {L : List Nat} (h : Ow w v L) : ∃ a c, v = .slice a L.length c := by
  obtain ⟨_, ⟨rfl, h0⟩ | ⟨g, cap, cur, rfl, _⟩⟩ := h
  · exact ⟨none, 0, by rw [h0]⟩
  · exact ⟨_, _, rfl⟩
theorem Ow.lt {w : World} {v : Value} {L : List Nat} (h : Ow w v L) : ∀ g, v.ownBlock = some g → g < w.heap.size := Ap.own_lt h
theorem Ow.turn {M : Nat → Prop} {w w' : World} {v : Value} {L : List Nat} (h : Ow w v L) (ht : Turn M w w') (hn : ∀ g, v.ownBlock = some g → ¬ M g) : Ow w' v L := by
  obtain ⟨hl, h | ⟨g, cap, cur, rfl, hg, hh, h1, h2, h3, h4⟩⟩ := h
  · exact ⟨hl, .inl h⟩
  · refine ⟨hl, .inr ⟨g, cap, cur, rfl, hg, ?_, h1, h2, h3, h4⟩⟩
    rw [ht.block g (Nat.lt_of_not_le fun hle => by rw [Array.getElem?_eq_none hle] at hh; cases hh) (hn g rfl)]
    exact hh
theorem Ow.keep {M : Nat → Prop} {w w' : World} {v : Value} {L : List Nat} (h : Ow w v L) (ht : Keep M w w') (hn : ∀ g, v.ownBlock = some g → M g) : Ow w' v L := by
  obtain ⟨hl, h | ⟨g, cap, cur, rfl, hg, hh, h1, h2, h3, h4⟩⟩ := h
  · exact ⟨hl, .inl h⟩
  · refine ⟨hl, .inr ⟨g, cap, cur, rfl, hg, ?_, h1, h2, h3, h4⟩⟩
    rw [ht.block g (hn g rfl)]
    exact hh
theorem Ow.plc {w : World} {v : Value} {L : List Nat} (h : Ow w v L) : Rf.Plc w v L := Ap.Rd.owned h
theorem Ow.push {w : World} {v x : Value} {L : List Nat} {k : Nat} (h : Ow w v L) (hx : Ap.Rd w 1 x 1 [.int .i64 (k : Int)]) (hl : L.length ≤ 8796093022208) :
    ∃ v' w', (Builtin.append_ #[23, 23] 23 #[v, x]).run Tryz.prog w = .ok v' w' ∧ Ow w' v' (L ++ [k]) ∧ w.grownBy w' v.ownBlock ∧ Ap.Fresh w v v' := by
  obtain ⟨i0, hi, hz, hs1, hb8⟩ := info_parts Rx.infoI
  obtain ⟨v', w', h1, h2, h3, _, h5⟩ := Ap.run_append_rd (P := Tryz.prog) (ty := 23) Tryz.underlying23 hi hz hs1 hb8 (by rfl) (by omega) h (Nat.zero_le _) hx
    (by intro u hu; simp at hu; subst hu; rfl) (by unfold maxLen; omega) (by omega)
  refine ⟨v', w', h1, ?_, h3, h5⟩
  unfold Ow
  have e : Rx.ic (L ++ [k]) = Rx.ic L ++ [.int .i64 (k : Int)] := by simp [Rx.ic]
  rw [e, show (L ++ [k]).length = L.length + 1 by simp]
  exact h2
theorem stk_cut {w : World} {g cap : Nat} {st : List Nat} (h : Rx.Stk 0 w g cap st) (m : Nat) (hm : m ≤ st.length) : Rx.Stk 0 w g cap (st.take m) := by
  obtain ⟨cur, hg, hb, hmx, hs, hn, ht⟩ := h.parts
  refine Rx.Stk.of hg hb hmx hs (by rw [List.length_take]; omega) ?_
  have e : (st.take m).length = m := by rw [List.length_take]; omega
  rw [e]
  have := congrArg (List.take m) ht
  rw [List.take_take, Nat.min_eq_left hm] at this
  rw [this]
  simp [Rx.ic, List.map_take]
theorem Ow.some {w : World} {v : Value} {L : List Nat} (h : Ow w v L) (h0 : 0 < L.length) : ∃ g c, v = .slice (some ⟨g, 0, none⟩) L.length c ∧ Rx.Stk 0 w g c L := by
  have h' := h
  obtain ⟨_, ⟨_, hz⟩ | ⟨g, cap, cur, rfl, _⟩⟩ := h
  · omega
  · exact ⟨g, cap, rfl, h'⟩
/-- What a round is told: the place, and those above. -/
def Told (l : List Nd) (k : Nat) (args : Array Value) (w : World) : Prop := ∃ v, args = #[.int .i64 (k : Int), v] ∧ Rf.Plc w v (ov l k)
/-- How many rounds there are. -/
def rounds (l : List Nd) : Nat := if one l = true then l.length else 0
/-- The two rows. -/
structure Two (T : Nat → Prop) (w : World) (va vo : Value) (ab st : List Nat) : Prop where
  a : Ow w va ab
  o : Ow w vo st
  ta : ∀ g, va.ownBlock = some g → T g
  tq : ∀ g, vo.ownBlock = some g → T g
  ne : ∀ g, va.ownBlock = some g → vo.ownBlock ≠ some g

set_option maxHeartbeats 1000000 in
theorem nodes1_no (B l0 : Nat) (v : Value) (l : List Nd) (w : World) (hc : w.cell? ⟨B, 0, none⟩ = some v) (hv : Nds w v l) (hl : l.length ≤ 4398046511104) (h0 : one l = false) :
    Calls Tryz.prog 128 #[.func (.yield l0) #[] #[], .pointer (some ⟨B, 0, none⟩)] w fun e w' => (∃ y, e = .returned y) ∧ Below w.heap.size w w' := by
  have HN := Lib.hid hv
  obtain ⟨_, a, cap, rfl, -⟩ := hv
  have H0 := Lib.hid h0
  clear h0
  go_enter Tryz.func128, Tryz.ntmps128
  go_wp2_with fail
  refine (isTreeP_any _ l _ HN.out hl).mono ?_
  rw [H0.out]
  rintro e w' ⟨rfl, hb⟩
  have HB := Lib.hid hb
  clear hb
  go_wp2_with fail
  refine bodyPost_ret (results_none rfl _ _ _) rfl ?_
  exact ⟨⟨_, rfl⟩, HB.out⟩
end Go.Proofs.YtpingbiibbmcaaaGreat.Pl

namespace Go.Proofs.YtpingbiibbmcaaaGreat.Mn
open Go Tr Rw So

def nm (l : List Nd) : ByteArray := match l with | [] => ⟨#[]⟩ | n :: _ => n.n
def sg (l : List Nd) : Int := match l with | [] => 0 | n :: _ => n.s
/-- The traces of a tree, by those of its kids. -/
def stepT (t : List Nd → List Tr) (p : List Nd → List Pr) (l : List Nd) : List Tr :=
  if hd l = 1 then [⟨[nm l], 1⟩] else if hd l = 2 then [tick] else if hd l = 3 then [bang] else if hd l = 4 then [tick, ⟨[], 3⟩] else if hd l = 11 then [⟨[], sg l⟩]
  else if hd l = 9 then norm (blk (p (k0 l))) else norm (two (hd l) (t (k0 l)) (t (k1 l)))
/-- The pairs of a tree, by what its kids are. -/
def stepP (t : List Nd → List Tr) (p : List Nd → List Pr) (l : List Nd) : List Pr :=
  if hd l = 10 then pnorm (going (t (k0 l)) (t (k1 l)) ++ [way]) else if hd l = 12 then pnorm (going (t (k0 l)) (t (k1 l))) else if hd l = 13 then pnorm (stack (p (k0 l)) (t (k1 l)))
  else if hd l = 14 then pnorm (fin (sg l) (t (k0 l))) else pnorm (twoP (hd l) (p (k0 l)) (p (k1 l)))
def mF : Nat → (List Nd → List Tr) × (List Nd → List Pr)
  | 0 => (fun _ => [], fun _ => [])
  | f + 1 => (stepT (mF f).1 (mF f).2, stepP (mF f).1 (mF f).2)
theorem stepT_congr {t t' : List Nd → List Tr} {p p' : List Nd → List Pr} (l : List Nd) (h : ∀ i, t ((kids l).getD i []) = t' ((kids l).getD i [])) (g : ∀ i, p ((kids l).getD i []) = p' ((kids l).getD i [])) : stepT t p l = stepT t' p' l := by
  unfold stepT k0 k1
  simp only [h, g]
theorem stepP_congr {t t' : List Nd → List Tr} {p p' : List Nd → List Pr} (l : List Nd) (h : ∀ i, t ((kids l).getD i []) = t' ((kids l).getD i [])) (g : ∀ i, p ((kids l).getD i []) = p' ((kids l).getD i [])) : stepP t p l = stepP t' p' l := by
  unfold stepP k0 k1
  simp only [h, g]
/-- The traces, and the pairs, of a tree. -/
def Mt (l : List Nd) : List Tr := (mF l.length).1 l
def Mp (l : List Nd) : List Pr := (mF l.length).2 l
/-- How many Acts of which f asks for the name. -/
def acF (f : ByteArray → Bool) (l : List Nd) : Nat := l.countP fun x => decide (x.k = 1) && f x.n
abbrev acs (l : List Nd) : Nat := acF all l
theorem acF_append (f : ByteArray → Bool) (l m : List Nd) : acF f (l ++ m) = acF f l + acF f m := List.countP_append
theorem acF_cons (f : ByteArray → Bool) (x : Nd) (l : List Nd) (h : x.k ≠ 1) : acF f (x :: l) = acF f l := by
  unfold acF
  rw [List.countP_cons]
  simp [h]
theorem cut0 {l : List Nd} (h : Tre l) (h0 : ar (hd l) = 0) : ∃ x, l = [x] ∧ hd l = x.k := by
  obtain ⟨x, hx, he⟩ := h.flat
  have hk : kids l = [] := List.eq_nil_of_length_eq_zero (by rw [h.kids.1, h0]; rfl)
  rw [hk] at he
  exact ⟨x, he, hx⟩

theorem stepP_10 {t : List Nd → List Tr} {p : List Nd → List Pr} {l : List Nd} (h : hd l = 10) : stepP t p l = pnorm (going (t (k0 l)) (t (k1 l)) ++ [way]) := by unfold stepP; rw [h]; rfl
theorem stepP_12 {t : List Nd → List Tr} {p : List Nd → List Pr} {l : List Nd} (h : hd l = 12) : stepP t p l = pnorm (going (t (k0 l)) (t (k1 l))) := by unfold stepP; rw [h]; rfl
theorem stepP_13 {t : List Nd → List Tr} {p : List Nd → List Pr} {l : List Nd} (h : hd l = 13) : stepP t p l = pnorm (stack (p (k0 l)) (t (k1 l))) := by unfold stepP; rw [h]; rfl
theorem stepP_14 {t : List Nd → List Tr} {p : List Nd → List Pr} {l : List Nd} (h : hd l = 14) : stepP t p l = pnorm (fin (sg l) (t (k0 l))) := by unfold stepP; rw [h]; rfl
theorem stepP_2 {t : List Nd → List Tr} {p : List Nd → List Pr} {l : List Nd} (h : hd l = 5 ∨ hd l = 6 ∨ hd l = 7) : stepP t p l = pnorm (twoP (hd l) (p (k0 l)) (p (k1 l))) := by
  unfold stepP
  rcases h with h | h | h <;> rw [h] <;> rfl

/-- What is known of the traces, and the pairs, of a tree. -/
structure GT (l : List Nd) : Prop where
  len : (Mt l).length ≤ K l.length (acs l)
  cnt : ∀ f, CT f (acF f l) (Mt l)
  up : Up (Mt l)
  sg : l.all rgt = true → ST (Mt l)
structure GP (l : List Nd) : Prop where
  len : (Mp l).length ≤ K l.length (acs l)
  cnt : ∀ f, CP f (acF f l) (Mp l)
  up : PUp (Mp l)
  sg : l.all rgt = true → SP (Mp l)
theorem two_up (p q : Tr) (h : cmp p q < 0) : Up [p, q] := List.pairwise_cons.2 ⟨fun t ht => by rw [List.mem_singleton] at ht; rw [ht]; exact h, List.pairwise_singleton _ _⟩
end Go.Proofs.YtpingbiibbmcaaaGreat.Mn

namespace Go.Proofs.YtpingbiibbmcaaaGreat.Se
open Go Go.RowKit Go.Proofs.YtpingbiibbmcaaaGreat.Rw Go.Proofs.YtpingbiibbmcaaaGreat.So
set_option maxRecDepth 20000

theorem cell_set_ne (w : World) (g o : Nat) (x : Value) (p : Addr) (h : p.block ≠ g) : (w.setCell ⟨g, o, none⟩ x).cell? p = w.cell? p :=
  World.cell?_of_block (Below.heap_setCell _ _ _ _ h)
theorem rdo_set {ok : Nat → Prop} {w : World} {v x : Value} {n size g o : Nat} {cs : List Value} (h : Ap.RdO ok w size v n cs) (hg : ∀ k, ok k → k ≠ g) : Ap.RdO ok (w.setCell ⟨g, o, none⟩ x) size v n cs := by
  obtain ⟨hl, a, cap, hv, hc, hn, hcell⟩ := h
  refine ⟨hl, a, cap, hv, hc, hn, fun h0 => ?_⟩
  obtain ⟨b, off, ha, ho, hlt, hj⟩ := hcell h0
  refine ⟨b, off, ha, ho, by simp [World.setCell]; exact hlt, fun j u hu => ?_⟩
  rw [cell_set_ne _ _ _ _ _ (hg b ho)]
  exact hj j u hu
/-- A node in a box of the call's own. -/
def BoxN (w : World) (B : Nat) (k s : Int) (nm : ByteArray) : Prop := w.cell? ⟨B, 0, none⟩ = some (.int .i64 k) ∧ w.cell? ⟨B, 1, none⟩ = some (.string nm) ∧ w.cell? ⟨B, 2, none⟩ = some (.int .i64 s)
theorem BoxN.lt {w : World} {B : Nat} {k s : Int} {nm : ByteArray} (h : BoxN w B k s nm) : B < w.heap.size := Ap.cell_lt h.1
theorem BoxN.below {w w' : World} {B : Nat} {k s : Int} {nm : ByteArray} (h : BoxN w B k s nm) (hb : Below w.heap.size w w') : BoxN w' B k s nm := by
  have hl := h.lt
  unfold BoxN
  rw [hb.cell (p := ⟨B, 0, none⟩) hl, hb.cell (p := ⟨B, 1, none⟩) hl, hb.cell (p := ⟨B, 2, none⟩) hl]
  exact h
theorem BoxN.set {w : World} {B g o : Nat} {k s : Int} {nm : ByteArray} {x : Value} (h : BoxN w B k s nm) (hg : B ≠ g) : BoxN (w.setCell ⟨g, o, none⟩ x) B k s nm := by
  unfold BoxN
  rw [cell_set_ne _ _ _ _ ⟨B, 0, none⟩ hg, cell_set_ne _ _ _ _ ⟨B, 1, none⟩ hg, cell_set_ne _ _ _ _ ⟨B, 2, none⟩ hg]
  exact h
theorem box_set {w : World} {B : Nat} {u0 u1 u2 : Value} {k z : Int} {nm : ByteArray} (h0 : w.cell? ⟨B, 0, none⟩ = some u0) (h1 : w.cell? ⟨B, 1, none⟩ = some u1) (h2 : w.cell? ⟨B, 2, none⟩ = some u2) :
    BoxN (((w.setCell ⟨B, 0, none⟩ (.int .i64 k)).setCell ⟨B, 1, none⟩ (.string nm)).setCell ⟨B, 2, none⟩ (.int .i64 z)) B k z nm := by
  refine ⟨?_, ?_, ?_⟩ <;> simp [go_sem, h0, h1, h2]
/-- Rows of rows in blocks that are as a predicate says. -/
def RwsO (ok : Nat → Prop) (w : World) (v : Value) (ls : List (List Nd)) : Prop := ∃ cs, Ap.RdO ok w 1 v ls.length cs ∧ (∀ i (h : i < ls.length), ∃ a, cs[i]? = some a ∧ Ap.RdO ok w 3 a ls[i].length (cls ls[i]))
theorem rwC_of {w : World} : ∀ {cs : List Value} {ls : List (List Nd)}, cs.length = ls.length → (∀ i (h : i < ls.length), ∃ a, cs[i]? = some a ∧ Nds w a ls[i]) → RwC w cs ls
  | [], [], _, _ => trivial
  | a :: cs, l :: ls, hl, h => by
    refine ⟨?_, rwC_of (by simpa using hl) fun i hi => ?_⟩
    · obtain ⟨a', h1, h2⟩ := h 0 (by simp)
      simp at h1
      subst h1
      exact h2
    · obtain ⟨a', h1, h2⟩ := h (i + 1) (by simp; omega)
      exact ⟨a', by simpa using h1, by simpa using h2⟩
  | [], _ :: _, h, _ => by simp at h
  | _ :: _, [], h, _ => by simp at h
theorem RwsO.rws {ok : Nat → Prop} {w : World} {v : Value} {ls : List (List Nd)} (h : RwsO ok w v ls) : Rws w v ls := by
  obtain ⟨cs, h1, h2⟩ := h
  refine ⟨cs, h1.rd, rwC_of (by have := h1.1; omega) fun i hi => ?_⟩
  obtain ⟨a, ha, hr⟩ := h2 i hi
  exact ⟨a, ha, hr.rd⟩
theorem RwsO.below {ok : Nat → Prop} {w w' : World} {v : Value} {ls : List (List Nd)} (h : RwsO ok w v ls) (hb : Below w.heap.size w w') : RwsO ok w' v ls := by
  obtain ⟨cs, h1, h2⟩ := h
  refine ⟨cs, h1.below hb, fun i hi => ?_⟩
  obtain ⟨a, ha, hr⟩ := h2 i hi
  exact ⟨a, ha, hr.below hb⟩
theorem RwsO.set {ok : Nat → Prop} {w : World} {v x : Value} {g o : Nat} {ls : List (List Nd)} (h : RwsO ok w v ls) (hg : ∀ k, ok k → k ≠ g) : RwsO ok (w.setCell ⟨g, o, none⟩ x) v ls := by
  obtain ⟨cs, h1, h2⟩ := h
  refine ⟨cs, rdo_set h1 hg, fun i hi => ?_⟩
  obtain ⟨a, ha, hr⟩ := h2 i hi
  exact ⟨a, ha, rdo_set hr hg⟩
/-- The kids of a node, in a row of the call's own in which the first ones may be written; in no block of this number. -/
def Kd (base B : Nat) (w : World) (v : Value) (ls : List (List Nd)) : Prop :=
  RwsO (fun k => base ≤ k ∧ k ≠ B) w v ls ∧ (0 < ls.length → ∃ g c, v = .slice (some ⟨g, 0, none⟩) ls.length c ∧ base ≤ g ∧ g ≠ B ∧ g < w.heap.size ∧ (∀ j, w.frozen? ⟨g, j, none⟩ = false) ∧
    ∀ i (h : i < ls.length), ∃ a, w.cell? ⟨g, i, none⟩ = some a ∧ Ap.RdO (fun k => base ≤ k ∧ k ≠ B ∧ k ≠ g) w 3 a ls[i].length (cls ls[i]))
theorem frozen_set (w : World) (g o : Nat) (x : Value) (p : Addr) : (w.setCell ⟨g, o, none⟩ x).frozen? p = w.frozen? p := by simp [go_sem]
theorem Kd.below {base B : Nat} {w w' : World} {v : Value} {ls : List (List Nd)} (h : Kd base B w v ls) (hb : Below w.heap.size w w') : Kd base B w' v ls := by
  obtain ⟨h1, h2⟩ := h
  refine ⟨h1.below hb, fun h0 => ?_⟩
  obtain ⟨g, c, hv, hg, hB, hl, hf, hc⟩ := h2 h0
  refine ⟨g, c, hv, hg, hB, Nat.lt_of_lt_of_le hl hb.size, fun j => by rw [hb.frozen (p := ⟨g, j, none⟩) hl]; exact hf j, fun i hi => ?_⟩
  obtain ⟨a, ha, hr⟩ := hc i hi
  exact ⟨a, by rw [hb.cell (p := ⟨g, i, none⟩) hl]; exact ha, hr.below hb⟩
theorem Kd.setB {base B o : Nat} {w : World} {v x : Value} {ls : List (List Nd)} (h : Kd base B w v ls) : Kd base B (w.setCell ⟨B, o, none⟩ x) v ls := by
  obtain ⟨h1, h2⟩ := h
  refine ⟨h1.set fun k hk => hk.2, fun h0 => ?_⟩
  obtain ⟨g, c, hv, hg, hB, hl, hf, hc⟩ := h2 h0
  refine ⟨g, c, hv, hg, hB, by simp [World.setCell]; exact hl, fun j => by rw [frozen_set]; exact hf j, fun i hi => ?_⟩
  obtain ⟨a, ha, hr⟩ := hc i hi
  exact ⟨a, by rw [cell_set_ne _ _ _ _ ⟨g, i, none⟩ hB]; exact ha, rdo_set hr fun k hk => hk.2.1⟩
theorem Kd.base {base base' B B' : Nat} {w : World} {v : Value} {ls : List (List Nd)} (h : Kd base B w v ls) (hb : base' ≤ base) (hB : ∀ k, base ≤ k → k < w.heap.size → k ≠ B') : Kd base' B' w v ls := by
  obtain ⟨⟨cs, h1, h1'⟩, h2⟩ := h
  refine ⟨⟨cs, Ap.RdO.imp h1 fun k hl hk => ⟨Nat.le_trans hb hk.1, hB k hk.1 hl⟩, fun i hi => ?_⟩, fun h0 => ?_⟩
  · obtain ⟨a, ha, hr⟩ := h1' i hi
    exact ⟨a, ha, Ap.RdO.imp hr fun k hl hk => ⟨Nat.le_trans hb hk.1, hB k hk.1 hl⟩⟩
  · obtain ⟨g, c, hv, hg, _, hl, hf, hc⟩ := h2 h0
    refine ⟨g, c, hv, Nat.le_trans hb hg, hB g hg hl, hl, hf, fun i hi => ?_⟩
    obtain ⟨a, ha, hr⟩ := hc i hi
    exact ⟨a, ha, Ap.RdO.imp hr fun k hl hk => ⟨Nat.le_trans hb hk.1, hB k hk.1 hl, hk.2.2⟩⟩
theorem ownK_at {base : Nat} {out : Option Nat} {w : World} : ∀ {cs : List Value} {ls : List (List Nd)}, Rx.OwnK base out w cs ls → ∀ i (h : i < ls.length), ∃ a, cs[i]? = some a ∧ w.ownsRow base 39 3 a ls[i].length (cls ls[i]) ∧ ∀ g, a.ownBlock = some g → some g ≠ out
  | [], [], _, i, h => by simp at h
  | a :: _, _ :: _, hr, 0, _ => ⟨a, rfl, hr.1⟩
  | _ :: cs, _ :: ls, hr, i + 1, h => by
    obtain ⟨a, h1, h2⟩ := ownK_at hr.2 i (by simpa using h)
    exact ⟨a, by simpa using h1, by simpa using h2⟩
  | [], _ :: _, h, _, _ => h.elim
  | _ :: _, [], h, _, _ => h.elim
/-- What Kids tells: in blocks made since; any block that is older, or newer, is none of them. -/
theorem kd_of {ls : List (List Nd)} {w w' : World} {v : Value} {cs : List Value} {B : Nat} (hown : w'.ownsRow w.heap.size 22 1 v ls.length cs) (hk : Rx.OwnK w.heap.size v.ownBlock w' cs ls) (hB : B < w.heap.size ∨ w'.heap.size ≤ B) : Kd w.heap.size B w' v ls := by
  have hne : ∀ k, w.heap.size ≤ k → k < w'.heap.size → k ≠ B := fun k h1 h2 e => by omega
  refine ⟨⟨cs, Ap.RdO.imp (Ap.RdO.fresh hown) fun k hl hk => ⟨hk, hne k hk hl⟩, fun i hi => ?_⟩, fun h0 => ?_⟩
  · obtain ⟨a, ha, ho, _⟩ := ownK_at hk i hi
    exact ⟨a, ha, Ap.RdO.imp (Ap.RdO.fresh ho) fun k hl hk => ⟨hk, hne k hk hl⟩⟩
  · obtain ⟨hlen, ⟨rfl, h00⟩ | ⟨g, cap, cur, rfl, hg, hh, hnc, hcm, hcs, htk⟩⟩ := id hown
    · omega
    · have hgl : g < w'.heap.size := (Array.getElem?_eq_some_iff.1 hh).1
      refine ⟨g, cap, rfl, hg, hne g hg hgl, hgl, fun j => by simp [World.frozen?, hh, go_sem], fun i hi => ?_⟩
      obtain ⟨a, ha, ho, hno⟩ := ownK_at hk i hi
      refine ⟨a, ?_, ?_⟩
      · rw [← htk, Nat.mul_one, List.getElem?_take_of_lt hi] at ha
        simp only [World.cell?, hh]
        rw [← ha]
        simp [go_sem]
      · exact Ap.RdO.imp (Rx.own_rdO ho hno).1 fun k hl hk => ⟨hk.1, hne k hk.1 hl, fun e => hk.2 (by rw [e]; rfl)⟩
theorem Kd.two {base B : Nat} {w : World} {v : Value} {l m : List Nd} (h : Kd base B w v [l, m]) : ∃ g c y0 y1, v = .slice (some ⟨g, 0, none⟩) 2 c ∧ base ≤ g ∧ g ≠ B ∧ g < w.heap.size ∧ (∀ j, w.frozen? ⟨g, j, none⟩ = false) ∧ w.cell? ⟨g, 0, none⟩ = some y0 ∧ w.cell? ⟨g, 1, none⟩ = some y1 ∧
    Ap.RdO (fun k => base ≤ k ∧ k ≠ B ∧ k ≠ g) w 3 y0 l.length (cls l) ∧ Ap.RdO (fun k => base ≤ k ∧ k ≠ B ∧ k ≠ g) w 3 y1 m.length (cls m) := by
  obtain ⟨g, c, hv, hg, hB, hl, hf, hc⟩ := h.2 (by simp)
  obtain ⟨y0, q0, r0⟩ := hc 0 (by simp)
  obtain ⟨y1, q1, r1⟩ := hc 1 (by simp)
  exact ⟨g, c, y0, y1, hv, hg, hB, hl, hf, q0, q1, r0, r1⟩
theorem Kd.one {base B : Nat} {w : World} {v : Value} {l : List Nd} (h : Kd base B w v [l]) : ∃ g c y0, v = .slice (some ⟨g, 0, none⟩) 1 c ∧ base ≤ g ∧ g ≠ B ∧ g < w.heap.size ∧ (∀ j, w.frozen? ⟨g, j, none⟩ = false) ∧ w.cell? ⟨g, 0, none⟩ = some y0 ∧
    Ap.RdO (fun k => base ≤ k ∧ k ≠ B ∧ k ≠ g) w 3 y0 l.length (cls l) := by
  obtain ⟨g, c, hv, hg, hB, hl, hf, hc⟩ := h.2 (by simp)
  obtain ⟨y0, q0, r0⟩ := hc 0 (by simp)
  exact ⟨g, c, y0, hv, hg, hB, hl, hf, q0, r0⟩
theorem cell_set_eq {w : World} {g o : Nat} {x u : Value} (h : w.cell? ⟨g, o, none⟩ = some u) : (w.setCell ⟨g, o, none⟩ x).cell? ⟨g, o, none⟩ = some x := by simp [go_sem, h]
theorem cell_set_o {w : World} {g o o' : Nat} {x : Value} (h : o ≠ o') : (w.setCell ⟨g, o, none⟩ x).cell? ⟨g, o', none⟩ = w.cell? ⟨g, o', none⟩ := by
  simp only [World.cell?, World.setCell, Array.getElem?_modify, if_true]
  cases hx : w.heap[g]? with
  | none => rfl
  | some x => cases x <;> simp [h]
end Go.Proofs.YtpingbiibbmcaaaGreat.Se
