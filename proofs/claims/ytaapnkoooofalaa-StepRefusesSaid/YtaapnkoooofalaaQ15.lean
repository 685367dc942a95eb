/- The program's beside: the walks. The program's walk through a tree (nodes): its own rows, and what it promises. -/
import Derived.Test.YtaapnkoooofalaaQ13
import Derived.Deep.RegionHeld3
import Derived.StillTailTactics
import Derived.Test.YtaapnkoooofalaaQ09
import Derived.Test.YtaapnkoooofalaaQ02
import Derived.Test.YtaapnkoooofalaaQ04
import Derived.RangeFuncBound
import Derived.RangeFuncCalls
import Derived.TacticsIn
import Derived.TacticsInMore
import Derived.OwnWalkIn

namespace Go.Proofs.Ytaapnkoooofalaa.Se
open Go Go.RowKit Rw So
set_option maxRecDepth 20000
set_option maxHeartbeats 1000000 in
theorem beside_over (base : Nat) (s t : Int) (vA : Value) (vB : Value) (w : World) (hA : Nds w vA (flat (.over s))) (hB : Nds w vB (flat (.over t))) (hbs : base ≤ w.heap.size) (hl : sz (.over s) + sz (.over t) ≤ 900) :
    Calls Try.prog 80 #[.agg #[.int .i64 7, .string ⟨#[]⟩, .int .i64 0], vA, vB] w (OutB base (.over (Sg.both s t)) w) := by
  have HL : Hid (sz (.over s) + sz (.over t) ≤ 900) := Lib.hid hl
  have HB := Lib.hid hbs
  have AA := Lib.hid (fun w1 (hb : Below w.heap.size w w1) => hA.below hb)
  obtain ⟨bA, oA, cA, rfl, hcA, hltA, hwA, hatA⟩ := form3 hA
  obtain ⟨nA, hnA⟩ : ∃ n, sz (.over s) = n + 1 := ⟨sz (.over s) - 1, by have := sz_pos (.over s); omega⟩
  rw [hnA] at hcA AA ⊢
  clear hnA
  have g3A : (1 : Int) ≤ (nA : Int) + 1 := by omega
  rw [show kd (.over s) = 11 from rfl, show sg (.over s) = s from rfl, show nmT (.over s) = ⟨#[]⟩ from rfl] at hwA
  have AB := Lib.hid (fun w1 (hb : Below w.heap.size w w1) => hB.below hb)
  obtain ⟨bB, oB, cB, rfl, hcB, hltB, hwB, hatB⟩ := form3 hB
  obtain ⟨nB, hnB⟩ : ∃ n, sz (.over t) = n + 1 := ⟨sz (.over t) - 1, by have := sz_pos (.over t); omega⟩
  rw [hnB] at hcB AB ⊢
  clear hnB
  have g3B : (1 : Int) ≤ (nB : Int) + 1 := by omega
  rw [show kd (.over t) = 11 from rfl, show sg (.over t) = t from rfl, show nmT (.over t) = ⟨#[]⟩ from rfl] at hwB
  obtain ⟨X, hX⟩ : ∃ X, Sg.both s t = X := ⟨_, rfl⟩
  rw [hX]
  have HX := Lib.hid hX
  clear hX
  unfold OutB
  clear hl hbs hatA hA hatB hB
  go_enter Try.func80, Try.ntmps80
  go_wp2_with fail
  have BW0 := below1 w (.cells #[.int .i64 7, .string ⟨#[]⟩, .int .i64 0] 28)
  have BC := box_cells w 7 0 ⟨#[]⟩ 28
  generalize w.alloc (.cells #[.int .i64 7, .string ⟨#[]⟩, .int .i64 0] 28) = W at BW0 BC ⊢
  have BW := Lib.hid BW0
  have SW : Hid (∀ w', Below W.heap.size W w' → w'.cell? ⟨bA, oA, none⟩ = some (.int .i64 11) ∧ w'.cell? ⟨bA, oA + 1, none⟩ = some (.string ⟨#[]⟩) ∧ w'.cell? ⟨bA, oA + 2, none⟩ = some (.int .i64 s) ∧ w'.cell? ⟨bB, oB, none⟩ = some (.int .i64 11) ∧ w'.cell? ⟨bB, oB + 1, none⟩ = some (.string ⟨#[]⟩) ∧ w'.cell? ⟨bB, oB + 2, none⟩ = some (.int .i64 t) ∧ w'.cell? ⟨w.heap.size, 0, none⟩ = some (.int .i64 7) ∧ w'.cell? ⟨w.heap.size, 1, none⟩ = some (.string ⟨#[]⟩) ∧ w'.cell? ⟨w.heap.size, 2, none⟩ = some (.int .i64 0)) := Lib.hid fun w1 hb => by
    obtain ⟨x0, x1, x2⟩ := hwA w1 (BW.out.trans (hb.mono BW.out.size))
    obtain ⟨x3, x4, x5⟩ := hwB w1 (BW.out.trans (hb.mono BW.out.size))
    obtain ⟨x6, x7, x8⟩ := BC w1 hb
    exact ⟨x0, x1, x2, x3, x4, x5, x6, x7, x8⟩
  clear BW0 BC hwA hwB
  have e := SW.out _ (Below.refl _ _)
  obtain ⟨e0, e1, e2, e3, e4, e5, e6, e7, e8⟩ := e
  go_still_tail 8, (by kernel_rfl)
  change wpList _ _ _ _ _ W.drew
  go_wp2_with fail
  refine (Sg.both_any _ _ _).mono ?_
  rw [HX.out]
  rintro e w1 ⟨rfl, rfl⟩
  have D1 : Hid (Below W.heap.size W W.drew) := Lib.hid (Below.refl _ _).drew
  go_wp2_with fail
  refine (overP_any X _).mono ?_
  rintro e w2 ⟨rfl, hb2⟩
  have D2 := Lib.hid ((D1.out).trans (hb2.mono (D1.out).size))
  clear hb2
  go_wp2_with fail
  refine (mkP0 base 11 X (.over X) rfl _ (Nat.le_trans HB.out (Nat.le_trans BW.out.size D2.out.size))).mono ?_
  rintro e w3 ⟨y3, rfl, hn3, hb3⟩
  obtain ⟨_, ay3, cy3, rfl, -⟩ := id hn3
  have D3 := Lib.hid ((D2.out).trans (hb3.mono (D2.out).size))
  have N3 := Lib.hid hn3
  clear hn3 hb3
  go_wp2_with fail
  go_ret
  exact ⟨_, rfl, N3.out, BW.out.trans ((D3.out).mono BW.out.size)⟩
set_option maxHeartbeats 1000000 in
theorem beside_other (base : Nat) (a d : Tm) (vA : Value) (vB : Value) (w : World) (hA : Nds w vA (flat a)) (hB : Nds w vB (flat d)) (qA11 : kd a ≠ 11) (qA14 : kd a ≠ 14) (hbs : base ≤ w.heap.size) (hl : sz a + sz d ≤ 900) :
    Calls Try.prog 80 #[.agg #[.int .i64 7, .string ⟨#[]⟩, .int .i64 0], vA, vB] w (OutB base (.par a d) w) := by
  have HL : Hid (sz a + sz d ≤ 900) := Lib.hid hl
  have HB := Lib.hid hbs
  have AA := Lib.hid (fun w1 (hb : Below w.heap.size w w1) => hA.below hb)
  obtain ⟨bA, oA, cA, rfl, hcA, hltA, hwA, hatA⟩ := form3 hA
  obtain ⟨nA, hnA⟩ : ∃ n, sz a = n + 1 := ⟨sz a - 1, by have := sz_pos a; omega⟩
  rw [hnA] at hcA AA ⊢
  clear hnA
  have g3A : (1 : Int) ≤ (nA : Int) + 1 := by omega
  have fA11 : (kd a == 11) = false := by rw [beq_eq_false_iff_ne]; exact qA11
  have fA14 : (kd a == 14) = false := by rw [beq_eq_false_iff_ne]; exact qA14
  obtain ⟨kA, hkA⟩ : ∃ k, kd a = k := ⟨_, rfl⟩
  obtain ⟨sA, hsA⟩ : ∃ s, sg a = s := ⟨_, rfl⟩
  obtain ⟨mA, hmA⟩ : ∃ m, nmT a = m := ⟨_, rfl⟩
  rw [hkA] at hwA fA11 qA11 fA14 qA14
  rw [hsA, hmA] at hwA
  clear hkA hsA hmA
  have AB := Lib.hid (fun w1 (hb : Below w.heap.size w w1) => hB.below hb)
  obtain ⟨bB, oB, cB, rfl, hcB, hltB, hwB, hatB⟩ := form3 hB
  obtain ⟨nB, hnB⟩ : ∃ n, sz d = n + 1 := ⟨sz d - 1, by have := sz_pos d; omega⟩
  rw [hnB] at hcB AB ⊢
  clear hnB
  have g3B : (1 : Int) ≤ (nB : Int) + 1 := by omega
  obtain ⟨kB, hkB⟩ : ∃ k, kd d = k := ⟨_, rfl⟩
  obtain ⟨sB, hsB⟩ : ∃ s, sg d = s := ⟨_, rfl⟩
  obtain ⟨mB, hmB⟩ : ∃ m, nmT d = m := ⟨_, rfl⟩
  rw [hkB] at hwB
  rw [hsB, hmB] at hwB
  clear hkB hsB hmB
  obtain ⟨X, hX⟩ : ∃ X, Sg.both sA sB = X := ⟨_, rfl⟩
  skip
  have HX := Lib.hid hX
  clear hX
  unfold OutB
  clear hl hbs qA11 qA14 hatA hA hatB hB
  go_enter Try.func80, Try.ntmps80
  go_wp2_with fail
  have BW0 := below1 w (.cells #[.int .i64 7, .string ⟨#[]⟩, .int .i64 0] 28)
  have BC := box_cells w 7 0 ⟨#[]⟩ 28
  generalize w.alloc (.cells #[.int .i64 7, .string ⟨#[]⟩, .int .i64 0] 28) = W at BW0 BC ⊢
  have BW := Lib.hid BW0
  have SW : Hid (∀ w', Below W.heap.size W w' → w'.cell? ⟨bA, oA, none⟩ = some (.int .i64 kA) ∧ w'.cell? ⟨bA, oA + 1, none⟩ = some (.string mA) ∧ w'.cell? ⟨bA, oA + 2, none⟩ = some (.int .i64 sA) ∧ w'.cell? ⟨bB, oB, none⟩ = some (.int .i64 kB) ∧ w'.cell? ⟨bB, oB + 1, none⟩ = some (.string mB) ∧ w'.cell? ⟨bB, oB + 2, none⟩ = some (.int .i64 sB) ∧ w'.cell? ⟨w.heap.size, 0, none⟩ = some (.int .i64 7) ∧ w'.cell? ⟨w.heap.size, 1, none⟩ = some (.string ⟨#[]⟩) ∧ w'.cell? ⟨w.heap.size, 2, none⟩ = some (.int .i64 0)) := Lib.hid fun w1 hb => by
    obtain ⟨x0, x1, x2⟩ := hwA w1 (BW.out.trans (hb.mono BW.out.size))
    obtain ⟨x3, x4, x5⟩ := hwB w1 (BW.out.trans (hb.mono BW.out.size))
    obtain ⟨x6, x7, x8⟩ := BC w1 hb
    exact ⟨x0, x1, x2, x3, x4, x5, x6, x7, x8⟩
  clear BW0 BC hwA hwB
  have e := SW.out _ (Below.refl _ _)
  obtain ⟨e0, e1, e2, e3, e4, e5, e6, e7, e8⟩ := e
  go_still_tail 8, (by kernel_rfl)
  change wpList _ _ _ _ _ W.drew
  go_wp2_with fail
  refine (Sg.both_any _ _ _).mono ?_
  rw [HX.out]
  rintro e w1 ⟨rfl, rfl⟩
  have D1 : Hid (Below W.heap.size W W.drew) := Lib.hid (Below.refl _ _).drew
  go_wp2_with fail
  refine (mkP2 base 7 0 (.par a d) a d rfl _ _ _ _ (AA.out _ (BW.out.trans ((D1.out).mono BW.out.size))) (AB.out _ (BW.out.trans ((D1.out).mono BW.out.size))) (by have := HL.out; simp only [sz] at *; omega) (Nat.le_trans HB.out (Nat.le_trans BW.out.size D1.out.size))).mono ?_
  rintro e w2 ⟨y2, rfl, hn2, hb2⟩
  obtain ⟨_, ay2, cy2, rfl, -⟩ := id hn2
  have D2 := Lib.hid ((D1.out).trans (hb2.mono (D1.out).size))
  have N2 := Lib.hid hn2
  clear hn2 hb2
  go_wp2_with fail
  go_ret
  exact ⟨_, rfl, N2.out, BW.out.trans ((D2.out).mono BW.out.size)⟩
set_option maxHeartbeats 1000000 in
theorem beside_11 (base : Nat) (s : Int) (d : Tm) (vA : Value) (vB : Value) (w : World) (hA : Nds w vA (flat (.over s))) (hB : Nds w vB (flat d)) (qB11 : kd d ≠ 11) (hbs : base ≤ w.heap.size) (hl : sz (.over s) + sz d ≤ 900) :
    Calls Try.prog 80 #[.agg #[.int .i64 7, .string ⟨#[]⟩, .int .i64 0], vA, vB] w (OutB base (.par (.over s) d) w) := by
  have HL : Hid (sz (.over s) + sz d ≤ 900) := Lib.hid hl
  have HB := Lib.hid hbs
  have AA := Lib.hid (fun w1 (hb : Below w.heap.size w w1) => hA.below hb)
  obtain ⟨bA, oA, cA, rfl, hcA, hltA, hwA, hatA⟩ := form3 hA
  obtain ⟨nA, hnA⟩ : ∃ n, sz (.over s) = n + 1 := ⟨sz (.over s) - 1, by have := sz_pos (.over s); omega⟩
  rw [hnA] at hcA AA ⊢
  clear hnA
  have g3A : (1 : Int) ≤ (nA : Int) + 1 := by omega
  rw [show kd (.over s) = 11 from rfl, show sg (.over s) = s from rfl, show nmT (.over s) = ⟨#[]⟩ from rfl] at hwA
  have AB := Lib.hid (fun w1 (hb : Below w.heap.size w w1) => hB.below hb)
  obtain ⟨bB, oB, cB, rfl, hcB, hltB, hwB, hatB⟩ := form3 hB
  obtain ⟨nB, hnB⟩ : ∃ n, sz d = n + 1 := ⟨sz d - 1, by have := sz_pos d; omega⟩
  rw [hnB] at hcB AB ⊢
  clear hnB
  have g3B : (1 : Int) ≤ (nB : Int) + 1 := by omega
  have fB11 : (kd d == 11) = false := by rw [beq_eq_false_iff_ne]; exact qB11
  obtain ⟨kB, hkB⟩ : ∃ k, kd d = k := ⟨_, rfl⟩
  obtain ⟨sB, hsB⟩ : ∃ s, sg d = s := ⟨_, rfl⟩
  obtain ⟨mB, hmB⟩ : ∃ m, nmT d = m := ⟨_, rfl⟩
  rw [hkB] at hwB fB11 qB11
  rw [hsB, hmB] at hwB
  clear hkB hsB hmB
  obtain ⟨X, hX⟩ : ∃ X, Sg.both s sB = X := ⟨_, rfl⟩
  skip
  have HX := Lib.hid hX
  clear hX
  unfold OutB
  clear hl hbs hatA hA qB11 hatB hB
  go_enter Try.func80, Try.ntmps80
  go_wp2_with fail
  have BW0 := below1 w (.cells #[.int .i64 7, .string ⟨#[]⟩, .int .i64 0] 28)
  have BC := box_cells w 7 0 ⟨#[]⟩ 28
  generalize w.alloc (.cells #[.int .i64 7, .string ⟨#[]⟩, .int .i64 0] 28) = W at BW0 BC ⊢
  have BW := Lib.hid BW0
  have SW : Hid (∀ w', Below W.heap.size W w' → w'.cell? ⟨bA, oA, none⟩ = some (.int .i64 11) ∧ w'.cell? ⟨bA, oA + 1, none⟩ = some (.string ⟨#[]⟩) ∧ w'.cell? ⟨bA, oA + 2, none⟩ = some (.int .i64 s) ∧ w'.cell? ⟨bB, oB, none⟩ = some (.int .i64 kB) ∧ w'.cell? ⟨bB, oB + 1, none⟩ = some (.string mB) ∧ w'.cell? ⟨bB, oB + 2, none⟩ = some (.int .i64 sB) ∧ w'.cell? ⟨w.heap.size, 0, none⟩ = some (.int .i64 7) ∧ w'.cell? ⟨w.heap.size, 1, none⟩ = some (.string ⟨#[]⟩) ∧ w'.cell? ⟨w.heap.size, 2, none⟩ = some (.int .i64 0)) := Lib.hid fun w1 hb => by
    obtain ⟨x0, x1, x2⟩ := hwA w1 (BW.out.trans (hb.mono BW.out.size))
    obtain ⟨x3, x4, x5⟩ := hwB w1 (BW.out.trans (hb.mono BW.out.size))
    obtain ⟨x6, x7, x8⟩ := BC w1 hb
    exact ⟨x0, x1, x2, x3, x4, x5, x6, x7, x8⟩
  clear BW0 BC hwA hwB
  have e := SW.out _ (Below.refl _ _)
  obtain ⟨e0, e1, e2, e3, e4, e5, e6, e7, e8⟩ := e
  go_still_tail 8, (by kernel_rfl)
  change wpList _ _ _ _ _ W.drew
  go_wp2_with fail
  refine (Sg.both_any _ _ _).mono ?_
  rw [HX.out]
  rintro e w1 ⟨rfl, rfl⟩
  have D1 : Hid (Below W.heap.size W W.drew) := Lib.hid (Below.refl _ _).drew
  go_wp2_with fail
  refine (mkP2 base 7 0 (.par (.over s) d) (.over s) d rfl _ _ _ _ (AA.out _ (BW.out.trans ((D1.out).mono BW.out.size))) (AB.out _ (BW.out.trans ((D1.out).mono BW.out.size))) (by have := HL.out; simp only [sz] at *; omega) (Nat.le_trans HB.out (Nat.le_trans BW.out.size D1.out.size))).mono ?_
  rintro e w2 ⟨y2, rfl, hn2, hb2⟩
  obtain ⟨_, ay2, cy2, rfl, -⟩ := id hn2
  have D2 := Lib.hid ((D1.out).trans (hb2.mono (D1.out).size))
  have N2 := Lib.hid hn2
  clear hn2 hb2
  go_wp2_with fail
  go_ret
  exact ⟨_, rfl, N2.out, BW.out.trans ((D2.out).mono BW.out.size)⟩
set_option maxHeartbeats 1000000 in
theorem beside_14 (base : Nat) (s : Int) (c d : Tm) (vA : Value) (vB : Value) (w : World) (hA : Nds w vA (flat (.fin s c))) (hB : Nds w vB (flat d)) (qB14 : kd d ≠ 14) (hbs : base ≤ w.heap.size) (hl : sz (.fin s c) + sz d ≤ 900) :
    Calls Try.prog 80 #[.agg #[.int .i64 7, .string ⟨#[]⟩, .int .i64 0], vA, vB] w (OutB base (.par (.fin s c) d) w) := by
  have HL : Hid (sz (.fin s c) + sz d ≤ 900) := Lib.hid hl
  have HB := Lib.hid hbs
  have AA := Lib.hid (fun w1 (hb : Below w.heap.size w w1) => hA.below hb)
  obtain ⟨bA, oA, cA, rfl, hcA, hltA, hwA, hatA⟩ := form3 hA
  have TA := Lib.hid (fun w1 (hb : Below w.heap.size w w1) => (tail_fin hatA hcA).below hb)
  have hzA : sz (.fin s c) = sz c + 1 := rfl
  rw [hzA] at hcA AA ⊢
  obtain ⟨nA, hnA⟩ : ∃ n, sz c = n := ⟨_, rfl⟩
  have hqA := sz_pos c
  rw [hnA] at hcA TA AA hqA ⊢
  have g2A : ¬ cA = 1 := by omega
  clear hnA hzA
  have g3A : (1 : Int) ≤ (nA : Int) + 1 := by omega
  rw [show kd (.fin s c) = 14 from rfl, show sg (.fin s c) = s from rfl, show nmT (.fin s c) = ⟨#[]⟩ from rfl] at hwA
  have AB := Lib.hid (fun w1 (hb : Below w.heap.size w w1) => hB.below hb)
  obtain ⟨bB, oB, cB, rfl, hcB, hltB, hwB, hatB⟩ := form3 hB
  obtain ⟨nB, hnB⟩ : ∃ n, sz d = n + 1 := ⟨sz d - 1, by have := sz_pos d; omega⟩
  rw [hnB] at hcB AB ⊢
  clear hnB
  have g3B : (1 : Int) ≤ (nB : Int) + 1 := by omega
  have fB14 : (kd d == 14) = false := by rw [beq_eq_false_iff_ne]; exact qB14
  obtain ⟨kB, hkB⟩ : ∃ k, kd d = k := ⟨_, rfl⟩
  obtain ⟨sB, hsB⟩ : ∃ s, sg d = s := ⟨_, rfl⟩
  obtain ⟨mB, hmB⟩ : ∃ m, nmT d = m := ⟨_, rfl⟩
  rw [hkB] at hwB fB14 qB14
  rw [hsB, hmB] at hwB
  clear hkB hsB hmB
  obtain ⟨X, hX⟩ : ∃ X, Sg.both s sB = X := ⟨_, rfl⟩
  skip
  have HX := Lib.hid hX
  clear hX
  unfold OutB
  clear hl hbs hatA hA qB14 hatB hB
  go_enter Try.func80, Try.ntmps80
  go_wp2_with fail
  have BW0 := below1 w (.cells #[.int .i64 7, .string ⟨#[]⟩, .int .i64 0] 28)
  have BC := box_cells w 7 0 ⟨#[]⟩ 28
  generalize w.alloc (.cells #[.int .i64 7, .string ⟨#[]⟩, .int .i64 0] 28) = W at BW0 BC ⊢
  have BW := Lib.hid BW0
  have SW : Hid (∀ w', Below W.heap.size W w' → w'.cell? ⟨bA, oA, none⟩ = some (.int .i64 14) ∧ w'.cell? ⟨bA, oA + 1, none⟩ = some (.string ⟨#[]⟩) ∧ w'.cell? ⟨bA, oA + 2, none⟩ = some (.int .i64 s) ∧ w'.cell? ⟨bB, oB, none⟩ = some (.int .i64 kB) ∧ w'.cell? ⟨bB, oB + 1, none⟩ = some (.string mB) ∧ w'.cell? ⟨bB, oB + 2, none⟩ = some (.int .i64 sB) ∧ w'.cell? ⟨w.heap.size, 0, none⟩ = some (.int .i64 7) ∧ w'.cell? ⟨w.heap.size, 1, none⟩ = some (.string ⟨#[]⟩) ∧ w'.cell? ⟨w.heap.size, 2, none⟩ = some (.int .i64 0)) := Lib.hid fun w1 hb => by
    obtain ⟨x0, x1, x2⟩ := hwA w1 (BW.out.trans (hb.mono BW.out.size))
    obtain ⟨x3, x4, x5⟩ := hwB w1 (BW.out.trans (hb.mono BW.out.size))
    obtain ⟨x6, x7, x8⟩ := BC w1 hb
    exact ⟨x0, x1, x2, x3, x4, x5, x6, x7, x8⟩
  clear BW0 BC hwA hwB
  have e := SW.out _ (Below.refl _ _)
  obtain ⟨e0, e1, e2, e3, e4, e5, e6, e7, e8⟩ := e
  go_still_tail 8, (by kernel_rfl)
  change wpList _ _ _ _ _ W.drew
  go_wp2_with fail
  refine (Sg.both_any _ _ _).mono ?_
  rw [HX.out]
  rintro e w1 ⟨rfl, rfl⟩
  have D1 : Hid (Below W.heap.size W W.drew) := Lib.hid (Below.refl _ _).drew
  go_wp2_with fail
  refine (mkP2 base 7 0 (.par (.fin s c) d) (.fin s c) d rfl _ _ _ _ (AA.out _ (BW.out.trans ((D1.out).mono BW.out.size))) (AB.out _ (BW.out.trans ((D1.out).mono BW.out.size))) (by have := HL.out; simp only [sz] at *; omega) (Nat.le_trans HB.out (Nat.le_trans BW.out.size D1.out.size))).mono ?_
  rintro e w2 ⟨y2, rfl, hn2, hb2⟩
  obtain ⟨_, ay2, cy2, rfl, -⟩ := id hn2
  have D2 := Lib.hid ((D1.out).trans (hb2.mono (D1.out).size))
  have N2 := Lib.hid hn2
  clear hn2 hb2
  go_wp2_with fail
  go_ret
  exact ⟨_, rfl, N2.out, BW.out.trans ((D2.out).mono BW.out.size)⟩
set_option maxHeartbeats 1000000 in
theorem beside_fin (base : Nat) (s t : Int) (c d : Tm) (vA : Value) (vB : Value) (w : World) (hA : Nds w vA (flat (.fin s c))) (hB : Nds w vB (flat (.fin t d))) (hbs : base ≤ w.heap.size) (hl : sz (.fin s c) + sz (.fin t d) ≤ 900) :
    Calls Try.prog 80 #[.agg #[.int .i64 7, .string ⟨#[]⟩, .int .i64 0], vA, vB] w (OutB base (.fin (Sg.both s t) (.par c d)) w) := by
  have HL : Hid (sz (.fin s c) + sz (.fin t d) ≤ 900) := Lib.hid hl
  have HB := Lib.hid hbs
  have AA := Lib.hid (fun w1 (hb : Below w.heap.size w w1) => hA.below hb)
  obtain ⟨bA, oA, cA, rfl, hcA, hltA, hwA, hatA⟩ := form3 hA
  have TA := Lib.hid (fun w1 (hb : Below w.heap.size w w1) => (tail_fin hatA hcA).below hb)
  have hzA : sz (.fin s c) = sz c + 1 := rfl
  rw [hzA] at hcA AA ⊢
  obtain ⟨nA, hnA⟩ : ∃ n, sz c = n := ⟨_, rfl⟩
  have hqA := sz_pos c
  rw [hnA] at hcA TA AA hqA ⊢
  have g2A : ¬ cA = 1 := by omega
  clear hnA hzA
  have g3A : (1 : Int) ≤ (nA : Int) + 1 := by omega
  rw [show kd (.fin s c) = 14 from rfl, show sg (.fin s c) = s from rfl, show nmT (.fin s c) = ⟨#[]⟩ from rfl] at hwA
  have AB := Lib.hid (fun w1 (hb : Below w.heap.size w w1) => hB.below hb)
  obtain ⟨bB, oB, cB, rfl, hcB, hltB, hwB, hatB⟩ := form3 hB
  have TB := Lib.hid (fun w1 (hb : Below w.heap.size w w1) => (tail_fin hatB hcB).below hb)
  have hzB : sz (.fin t d) = sz d + 1 := rfl
  rw [hzB] at hcB AB ⊢
  obtain ⟨nB, hnB⟩ : ∃ n, sz d = n := ⟨_, rfl⟩
  have hqB := sz_pos d
  rw [hnB] at hcB TB AB hqB ⊢
  have g2B : ¬ cB = 1 := by omega
  clear hnB hzB
  have g3B : (1 : Int) ≤ (nB : Int) + 1 := by omega
  rw [show kd (.fin t d) = 14 from rfl, show sg (.fin t d) = t from rfl, show nmT (.fin t d) = ⟨#[]⟩ from rfl] at hwB
  obtain ⟨X, hX⟩ : ∃ X, Sg.both s t = X := ⟨_, rfl⟩
  rw [hX]
  have HX := Lib.hid hX
  clear hX
  unfold OutB
  clear hl hbs hatA hA hatB hB
  go_enter Try.func80, Try.ntmps80
  go_wp2_with fail
  have BW0 := below1 w (.cells #[.int .i64 7, .string ⟨#[]⟩, .int .i64 0] 28)
  have BC := box_cells w 7 0 ⟨#[]⟩ 28
  generalize w.alloc (.cells #[.int .i64 7, .string ⟨#[]⟩, .int .i64 0] 28) = W at BW0 BC ⊢
  have BW := Lib.hid BW0
  have SW : Hid (∀ w', Below W.heap.size W w' → w'.cell? ⟨bA, oA, none⟩ = some (.int .i64 14) ∧ w'.cell? ⟨bA, oA + 1, none⟩ = some (.string ⟨#[]⟩) ∧ w'.cell? ⟨bA, oA + 2, none⟩ = some (.int .i64 s) ∧ w'.cell? ⟨bB, oB, none⟩ = some (.int .i64 14) ∧ w'.cell? ⟨bB, oB + 1, none⟩ = some (.string ⟨#[]⟩) ∧ w'.cell? ⟨bB, oB + 2, none⟩ = some (.int .i64 t) ∧ w'.cell? ⟨w.heap.size, 0, none⟩ = some (.int .i64 7) ∧ w'.cell? ⟨w.heap.size, 1, none⟩ = some (.string ⟨#[]⟩) ∧ w'.cell? ⟨w.heap.size, 2, none⟩ = some (.int .i64 0)) := Lib.hid fun w1 hb => by
    obtain ⟨x0, x1, x2⟩ := hwA w1 (BW.out.trans (hb.mono BW.out.size))
    obtain ⟨x3, x4, x5⟩ := hwB w1 (BW.out.trans (hb.mono BW.out.size))
    obtain ⟨x6, x7, x8⟩ := BC w1 hb
    exact ⟨x0, x1, x2, x3, x4, x5, x6, x7, x8⟩
  clear BW0 BC hwA hwB
  have e := SW.out _ (Below.refl _ _)
  obtain ⟨e0, e1, e2, e3, e4, e5, e6, e7, e8⟩ := e
  go_still_tail 8, (by kernel_rfl)
  change wpList _ _ _ _ _ W.drew
  go_wp2_with fail
  refine (Sg.both_any _ _ _).mono ?_
  rw [HX.out]
  rintro e w1 ⟨rfl, rfl⟩
  have D1 : Hid (Below W.heap.size W W.drew) := Lib.hid (Below.refl _ _).drew
  go_wp2_with fail
  generalize W.drew = V at D1 ⊢
  have CS : Hid (∀ w1, Below V.heap.size V w1 → Nds w1 (.slice (some ⟨bA, oA + 3, none⟩) nA (cA - 1)) (flat c) ∧ Nds w1 (.slice (some ⟨bB, oB + 3, none⟩) nB (cB - 1)) (flat d)) := Lib.hid fun w1 hb => by
    have hb' := D1.out.trans (hb.mono D1.out.size)
    exact ⟨TA.out _ (BW.out.trans (hb'.mono BW.out.size)), TB.out _ (BW.out.trans (hb'.mono BW.out.size))⟩
  have HBV := Lib.hid (Nat.le_trans HB.out (Nat.le_trans BW.out.size D1.out.size))
  have SV : Hid (∀ w1, Below V.heap.size V w1 → w1.cell? ⟨w.heap.size, 0, none⟩ = some (.int .i64 7) ∧ w1.cell? ⟨w.heap.size, 1, none⟩ = some (.string ⟨#[]⟩) ∧ w1.cell? ⟨w.heap.size, 2, none⟩ = some (.int .i64 0)) := Lib.hid fun w1 hb => by
    obtain ⟨_, _, _, _, _, _, x⟩ := SW.out w1 (D1.out.trans (hb.mono D1.out.size))
    exact x
  obtain ⟨x6, x7, x8⟩ := SV.out V (Below.refl _ _)
  clear e0 e1 e2 e3 e4 e5 e6 e7 e8 SW
  go_region_held3 (fun w' => w'.cell? ⟨w.heap.size, 0, none⟩ = some (.int .i64 7) ∧ w'.cell? ⟨w.heap.size, 1, none⟩ = some (.string ⟨#[]⟩) ∧ w'.cell? ⟨w.heap.size, 2, none⟩ = some (.int .i64 0)) (first | exact SV.out _ (Below.refl _ _).drew | exact SV.out _ (below1 V _).drew | exact SV.out _ D2.out | exact SV.out _ (Below.alloc D2.out D2.out.size _) | exact SV.out _ D3.out | exact SV.out _ (Below.alloc D3.out D3.out.size _) | exact SV.out _ D4.out | fail) (first
    | (go_at_call 93
       (with_reducible refine (endP_any X V.drew).mono ?_)
       rintro e w1 ⟨rfl, hb1⟩
       have D2 := Lib.hid ((Below.refl V.heap.size V).drew.trans hb1)
       obtain ⟨y6, y7, y8⟩ := SV.out _ D2.out
       clear hb1)
    | (go_at_call 93
       (with_reducible refine (endP_any X (V.alloc _).drew).mono ?_)
       rintro e w1 ⟨rfl, hb1⟩
       have D2 := Lib.hid ((below1 V _).drew.trans (hb1.mono (below1 V _).drew.size))
       have RW := Lib.hid ((rws_two (CS.out _ (Below.refl _ _)).1 (CS.out _ (Below.refl _ _)).2 _).below ((Below.refl _ _).drew.trans hb1))
       obtain ⟨y6, y7, y8⟩ := SV.out _ D2.out
       clear hb1)
    | (go_at_call 65
       (with_reducible refine (mkPr base 7 0 (.par c d) c d rfl _ _ RW.out (by have := HL.out; simp only [sz] at *; omega) (Nat.le_trans HBV.out D2.out.size)).mono ?_)
       rintro e w2 ⟨y2, rfl, hn2, hb2⟩
       obtain ⟨_, ay2, cy2, rfl, -⟩ := id hn2
       have D3 := Lib.hid (D2.out.trans (hb2.mono D2.out.size))
       have N2 := Lib.hid hn2
       clear hn2 hb2)
    | (go_at_call 65
       (with_reducible refine (mkP2 base 7 0 (.par c d) c d rfl _ _ _ _ (CS.out _ D2.out).1 (CS.out _ D2.out).2 (by have := HL.out; simp only [sz] at *; omega) (Nat.le_trans HBV.out D2.out.size)).mono ?_)
       rintro e w2 ⟨y2, rfl, hn2, hb2⟩
       obtain ⟨_, ay2, cy2, rfl, -⟩ := id hn2
       have D3 := Lib.hid (D2.out.trans (hb2.mono D2.out.size))
       have N2 := Lib.hid hn2
       clear hn2 hb2)
    | (go_at_call 65
       (with_reducible refine (mkP1 base 14 X (.fin X (.par c d)) (.par c d) rfl _ _ _ N2.out.nds (by have := HL.out; simp only [sz] at *; omega) (Nat.le_trans HBV.out D3.out.size)).mono ?_)
       rintro e w3 ⟨y3, rfl, hn3, hb3⟩
       have D4 := Lib.hid (D3.out.trans (hb3.mono D3.out.size))
       have N3 := Lib.hid hn3
       clear hn3 hb3)
    | fail)
  all_goals go_wp2_with fail
  all_goals go_ret
  all_goals exact ⟨_, rfl, N3.out, BW.out.trans ((D1.out.trans (D4.out.mono D1.out.size)).mono BW.out.size)⟩
theorem besideP_any (base : Nat) (a d : Tm) (va vd : Value) (w : World) (ha : Nds w va (flat a)) (hd : Nds w vd (flat d)) (hb : base ≤ w.heap.size) (hl : sz a + sz d ≤ 900) :
    Calls Try.prog 80 #[.agg #[.int .i64 7, .string ⟨#[]⟩, .int .i64 0], va, vd] w (OutB base (sPar a d) w) := by
  by_cases a11 : kd a = 11
  · obtain ⟨s, rfl⟩ := kd11 a11
    by_cases d11 : kd d = 11
    · obtain ⟨t, rfl⟩ := kd11 d11
      exact beside_over base s t va vd w ha hd hb hl
    · rw [sPar_11 d11]
      exact beside_11 base s d va vd w ha hd d11 hb hl
  · by_cases a14 : kd a = 14
    · obtain ⟨s, c, rfl⟩ := kd14 a14
      by_cases d14 : kd d = 14
      · obtain ⟨t, d', rfl⟩ := kd14 d14
        exact beside_fin base s t c d' va vd w ha hd hb hl
      · rw [sPar_14 d14]
        exact beside_14 base s c d va vd w ha hd d14 hb hl
    · rw [sPar_no a11 a14]
      exact beside_other base a d va vd w ha hd a11 a14 hb hl
end Go.Proofs.Ytaapnkoooofalaa.Se

namespace Go.Proofs.Ytaapnkoooofalaa.Pl
open Go Go.RowKit Rw So Ro
set_option maxRecDepth 20000
def Ow (w : World) (v : Value) (L : List Nat) : Prop := w.ownsRow 0 3 1 v L.length (Rx.ic L)
theorem Ow.slice {w : World} {v : Value} {L : List Nat} (h : Ow w v L) : ∃ a c, v = .slice a L.length c := by
  obtain ⟨_, ⟨rfl, h0⟩ | ⟨g, cap, cur, rfl, _⟩⟩ := h
  · exact ⟨none, 0, by rw [h0]⟩
  · exact ⟨_, _, rfl⟩
theorem Ow.lt {w : World} {v : Value} {L : List Nat} (h : Ow w v L) : ∀ g, v.ownBlock = some g → g < w.heap.size := Ap.own_lt h
theorem Ow.turn {M : Nat → Prop} {w w' : World} {v : Value} {L : List Nat} (h : Ow w v L) (ht : Turn M w w') (hn : ∀ g, v.ownBlock = some g → ¬ M g) : Ow w' v L := by
  obtain ⟨hl, h | ⟨g, cap, cur, rfl, hg, hh, h1, h2, h3, h4⟩⟩ := h
  · exact ⟨hl, .inl h⟩
  · refine ⟨hl, .inr ⟨g, cap, cur, rfl, hg, ?_, h1, h2, h3, h4⟩⟩
    rw [ht.block g (Nat.lt_of_not_le fun hle => by rw [Array.getElem?_eq_none hle] at hh; cases hh) (hn g rfl)]
    exact hh
theorem Ow.keep {M : Nat → Prop} {w w' : World} {v : Value} {L : List Nat} (h : Ow w v L) (ht : Keep M w w') (hn : ∀ g, v.ownBlock = some g → M g) : Ow w' v L := by
  obtain ⟨hl, h | ⟨g, cap, cur, rfl, hg, hh, h1, h2, h3, h4⟩⟩ := h
  · exact ⟨hl, .inl h⟩
  · refine ⟨hl, .inr ⟨g, cap, cur, rfl, hg, ?_, h1, h2, h3, h4⟩⟩
    rw [ht.block g (hn g rfl)]
    exact hh
theorem Ow.plc {w : World} {v : Value} {L : List Nat} (h : Ow w v L) : Rf.Plc w v L := Ap.Rd.owned h
theorem Ow.push {w : World} {v x : Value} {L : List Nat} {k : Nat} (h : Ow w v L) (hx : Ap.Rd w 1 x 1 [.int .i64 (k : Int)]) (hl : L.length ≤ 8796093022208) :
    ∃ v' w', (Builtin.append_ #[51, 51] 51 #[v, x]).run Try.prog w = .ok v' w' ∧ Ow w' v' (L ++ [k]) ∧ w.grownBy w' v.ownBlock ∧ Ap.Fresh w v v' := by
  obtain ⟨i0, hi, hz, hs1, hb8⟩ := info_parts Rx.infoI
  obtain ⟨v', w', h1, h2, h3, _, h5⟩ := Ap.run_append_rd (P := Try.prog) (ty := 51) Try.underlying51 hi hz hs1 hb8 (by rfl) (by omega) h (Nat.zero_le _) hx
    (by intro u hu; simp at hu; subst hu; rfl) (by unfold maxLen; omega) (by omega)
  refine ⟨v', w', h1, ?_, h3, h5⟩
  unfold Ow
  have e : Rx.ic (L ++ [k]) = Rx.ic L ++ [.int .i64 (k : Int)] := by simp [Rx.ic]
  rw [e, show (L ++ [k]).length = L.length + 1 by simp]
  exact h2
theorem stk_cut {w : World} {g cap : Nat} {st : List Nat} (h : Rx.Stk 0 w g cap st) (m : Nat) (hm : m ≤ st.length) : Rx.Stk 0 w g cap (st.take m) := by
  obtain ⟨cur, hg, hb, hmx, hs, hn, ht⟩ := h.parts
  refine Rx.Stk.of hg hb hmx hs (by rw [List.length_take]; omega) ?_
  have e : (st.take m).length = m := by rw [List.length_take]; omega
  rw [e]
  have := congrArg (List.take m) ht
  rw [List.take_take, Nat.min_eq_left hm] at this
  rw [this]
  simp [Rx.ic, List.map_take]
theorem Ow.some {w : World} {v : Value} {L : List Nat} (h : Ow w v L) (h0 : 0 < L.length) : ∃ g c, v = .slice (some ⟨g, 0, none⟩) L.length c ∧ Rx.Stk 0 w g c L := by
  have h' := h
  obtain ⟨_, ⟨_, hz⟩ | ⟨g, cap, cur, rfl, _⟩⟩ := h
  · omega
  · exact ⟨g, cap, rfl, h'⟩
def Told (l : List Nd) (k : Nat) (args : Array Value) (w : World) : Prop := ∃ v, args = #[.int .i64 (k : Int), v] ∧ Rf.Plc w v (ov l k)
def rounds (l : List Nd) : Nat := if one l = true then l.length else 0
structure Two (T : Nat → Prop) (w : World) (va vo : Value) (ab st : List Nat) : Prop where
  a : Ow w va ab
  o : Ow w vo st
  ta : ∀ g, va.ownBlock = some g → T g
  to : ∀ g, vo.ownBlock = some g → T g
  ne : ∀ g, va.ownBlock = some g → vo.ownBlock ≠ some g
set_option maxHeartbeats 1000000 in
theorem nodes1_no (B l0 : Nat) (v : Value) (l : List Nd) (w : World) (hc : w.cell? ⟨B, 0, none⟩ = some v) (hv : Nds w v l) (hl : l.length ≤ 4398046511104) (h0 : one l = false) :
    Calls Try.prog 99 #[.func (.yield l0) #[] #[], .pointer (some ⟨B, 0, none⟩)] w fun e w' => (∃ y, e = .returned y) ∧ Below w.heap.size w w' := by
  have HN := Lib.hid hv
  obtain ⟨_, a, cap, rfl, -⟩ := hv
  have H0 := Lib.hid h0
  clear h0
  go_enter Try.func99, Try.ntmps99
  go_wp2_with fail
  refine (isTreeP_any _ l _ HN.out hl).mono ?_
  rw [H0.out]
  rintro e w' ⟨rfl, hb⟩
  have HB := Lib.hid hb
  clear hb
  go_wp2_with fail
  refine bodyPost_ret (results_none rfl _ _ _) rfl ?_
  exact ⟨⟨_, rfl⟩, HB.out⟩
end Go.Proofs.Ytaapnkoooofalaa.Pl
