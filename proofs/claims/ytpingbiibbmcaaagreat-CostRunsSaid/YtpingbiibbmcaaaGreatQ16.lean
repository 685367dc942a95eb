/- The program's stacked, inBlock, going: the walks. The statements' own act and few: the walks. Points in memory; the program's point, Turn, leaf and isTree; the document's Turn. What is put together of three hangs not on how; what does nothing changes nothing; a block of a pair: plain. -/
import Derived.Test.YtpingbiibbmcaaaGreatQ15
import Derived.Deep.RegionHeld3
import Derived.StillTailTactics
import Derived.Test.YtpingbiibbmcaaaGreatQ10
import Derived.Test.YtpingbiibbmcaaaGreatQ01
import Derived.Test.YtpingbiibbmcaaaGreatQ09

namespace Go.Proofs.YtpingbiibbmcaaaGreat.Se
open Go Go.RowKit Go.Proofs.YtpingbiibbmcaaaGreat.Rw Go.Proofs.YtpingbiibbmcaaaGreat.So
set_option maxRecDepth 20000

set_option maxHeartbeats 1000000 in
theorem stacked_fin (base : Nat) (s : Int) (c d : Tm) (vA : Value) (vB : Value) (w : World) (hA : Nds w vA (flat (.fin s c))) (hB : Nds w vB (flat d)) (hbs : base ≤ w.heap.size) (hl : sz (.fin s c) + sz d ≤ 900) :
    Calls Tryz.prog 122 #[vA, vB] w (OutB base (.fin s (.seq c d)) w) := by
  have HL : Hid (sz (.fin s c) + sz d ≤ 900) := Lib.hid hl
  have HB := Lib.hid hbs
  have AA := Lib.hid (fun w1 (hb : Below w.heap.size w w1) => hA.below hb)
  obtain ⟨bA, oA, cA, rfl, hcA, hltA, hwA, hatA⟩ := form3 hA
  have TA := Lib.hid (fun w1 (hb : Below w.heap.size w w1) => (tail_fin hatA hcA).below hb)
  have hzA : sz (.fin s c) = sz c + 1 := rfl
  rw [hzA] at hcA AA ⊢
  obtain ⟨nA, hnA⟩ : ∃ n, sz c = n := ⟨_, rfl⟩
  have hqA := sz_pos c
  rw [hnA] at hcA TA AA hqA ⊢
  have g2A : ¬ cA = 1 := by omega
  clear hnA hzA
  have g3A : (1 : Int) ≤ (nA : Int) + 1 := by omega
  rw [show kd (.fin s c) = 14 from rfl, show sg (.fin s c) = s from rfl, show nmT (.fin s c) = ⟨#[]⟩ from rfl] at hwA
  have AB := Lib.hid (fun w1 (hb : Below w.heap.size w w1) => hB.below hb)
  obtain ⟨_, adB, cdB, rfl, -⟩ := id hB
  unfold OutB
  clear hl hbs hatA hA hB
  obtain ⟨W, hW⟩ : ∃ W, w = W := ⟨_, rfl⟩
  have BW : Hid (Below w.heap.size w W) := Lib.hid (hW ▸ Below.refl _ _)
  have SW : Hid (∀ w', Below W.heap.size W w' → w'.cell? ⟨bA, oA, none⟩ = some (.int .i64 14) ∧ w'.cell? ⟨bA, oA + 1, none⟩ = some (.string ⟨#[]⟩) ∧ w'.cell? ⟨bA, oA + 2, none⟩ = some (.int .i64 s)) := Lib.hid fun w1 hb => by
    obtain ⟨x0, x1, x2⟩ := hwA w1 (BW.out.trans (hb.mono BW.out.size))
    exact ⟨x0, x1, x2⟩
  obtain rfl := hW
  clear hwA
  have e := SW.out _ (Below.refl _ _)
  obtain ⟨e0, e1, e2⟩ := e
  go_enter Tryz.func122, Tryz.ntmps122
  go_wp2_with fail
  go_region_held3 (fun w' => w'.cell? ⟨bA, oA, none⟩ = some (.int .i64 14) ∧ w'.cell? ⟨bA, oA + 1, none⟩ = some (.string ⟨#[]⟩) ∧ w'.cell? ⟨bA, oA + 2, none⟩ = some (.int .i64 s)) (first | exact SW.out _ ((Below.refl w.heap.size w)).drew | exact SW.out _ (D1.out).drew | exact SW.out _ (D2.out).drew | exact SW.out _ (Below.refl w.heap.size w) | exact SW.out _ D1.out | exact SW.out _ D2.out | exact SW.out _ (Below.alloc (Below.refl w.heap.size w) ((Below.refl w.heap.size w)).size _) | exact SW.out _ (Below.alloc D1.out (D1.out).size _) | exact SW.out _ (Below.alloc D2.out (D2.out).size _) | exact SW.out _ (Below.alloc (Below.refl w.heap.size w) ((Below.refl w.heap.size w)).size _).drew | exact SW.out _ (Below.alloc D1.out (D1.out).size _).drew | exact SW.out _ (Below.alloc D2.out (D2.out).size _).drew | fail) (first
    | (go_at_call 95
       (with_reducible refine (mkP2d base 5 0 (.seq c d) c d rfl _ _ w _ (TA.out _ (BW.out.trans (((Below.refl w.heap.size w)).mono BW.out.size))) (AB.out _ (BW.out.trans (((Below.refl w.heap.size w)).mono BW.out.size))) (by have := HL.out; simp only [sz] at *; omega) HB.out).mono ?_)
       rintro e w1 ⟨y1, rfl, hn1, hb1⟩
       obtain ⟨_, ay1, cy1, rfl, -⟩ := id hn1
       have D1 := Lib.hid (((Below.refl w.heap.size w)).trans (hb1.mono ((Below.refl w.heap.size w)).size))
       have N1 := Lib.hid hn1
       clear hn1 hb1)
    | (go_at_call 95
       (with_reducible refine (mkP1 base 14 s (.fin s (.seq c d)) (.seq c d) rfl _ _ _ N1.out.nds (by have := HL.out; simp only [sz] at *; omega) (Nat.le_trans HB.out (Nat.le_trans BW.out.size D1.out.size))).mono ?_)
       rintro e w2 ⟨y2, rfl, hn2, hb2⟩
       obtain ⟨_, ay2, cy2, rfl, -⟩ := id hn2
       have D2 := Lib.hid ((D1.out).trans (hb2.mono (D1.out).size))
       have N2 := Lib.hid hn2
       clear hn2 hb2)
    | fail)
  go_wp2_with fail
  go_ret
  exact ⟨_, rfl, N2.out, BW.out.trans ((D2.out).mono BW.out.size)⟩
set_option maxHeartbeats 1000000 in
theorem stacked_other (base : Nat) (a d : Tm) (vA : Value) (vB : Value) (w : World) (hA : Nds w vA (flat a)) (hB : Nds w vB (flat d)) (qA14 : kd a ≠ 14) (hbs : base ≤ w.heap.size) (hl : sz a + sz d ≤ 900) :
    Calls Tryz.prog 122 #[vA, vB] w (OutB base (.stack a d) w) := by
  have HL : Hid (sz a + sz d ≤ 900) := Lib.hid hl
  have HB := Lib.hid hbs
  have AA := Lib.hid (fun w1 (hb : Below w.heap.size w w1) => hA.below hb)
  obtain ⟨bA, oA, cA, rfl, hcA, hltA, hwA, hatA⟩ := form3 hA
  obtain ⟨nA, hnA⟩ : ∃ n, sz a = n + 1 := ⟨sz a - 1, by have := sz_pos a; omega⟩
  rw [hnA] at hcA AA ⊢
  clear hnA
  have g3A : (1 : Int) ≤ (nA : Int) + 1 := by omega
  have fA14 : (kd a == 14) = false := by rw [beq_eq_false_iff_ne]; exact qA14
  obtain ⟨kA, hkA⟩ : ∃ k, kd a = k := ⟨_, rfl⟩
  obtain ⟨sA, hsA⟩ : ∃ s, sg a = s := ⟨_, rfl⟩
  obtain ⟨mA, hmA⟩ : ∃ m, nmT a = m := ⟨_, rfl⟩
  rw [hkA] at hwA fA14 qA14
  rw [hsA, hmA] at hwA
  clear hkA hsA hmA
  have AB := Lib.hid (fun w1 (hb : Below w.heap.size w w1) => hB.below hb)
  obtain ⟨_, adB, cdB, rfl, -⟩ := id hB
  obtain ⟨adA, hadA⟩ : ∃ x, (some ⟨bA, oA, none⟩ : Option Addr) = x := ⟨_, rfl⟩
  clear adA hadA
  unfold OutB
  clear hl hbs qA14 hatA hA hB
  obtain ⟨W, hW⟩ : ∃ W, w = W := ⟨_, rfl⟩
  have BW : Hid (Below w.heap.size w W) := Lib.hid (hW ▸ Below.refl _ _)
  have SW : Hid (∀ w', Below W.heap.size W w' → w'.cell? ⟨bA, oA, none⟩ = some (.int .i64 kA) ∧ w'.cell? ⟨bA, oA + 1, none⟩ = some (.string mA) ∧ w'.cell? ⟨bA, oA + 2, none⟩ = some (.int .i64 sA)) := Lib.hid fun w1 hb => by
    obtain ⟨x0, x1, x2⟩ := hwA w1 (BW.out.trans (hb.mono BW.out.size))
    exact ⟨x0, x1, x2⟩
  obtain rfl := hW
  clear hwA
  have e := SW.out _ (Below.refl _ _)
  obtain ⟨e0, e1, e2⟩ := e
  go_enter Tryz.func122, Tryz.ntmps122
  go_wp2_with fail
  refine (mkP2 base 13 0 (.stack a d) a d rfl _ _ _ _ (AA.out _ (BW.out.trans (((Below.refl w.heap.size w)).mono BW.out.size))) (AB.out _ (BW.out.trans (((Below.refl w.heap.size w)).mono BW.out.size))) (by have := HL.out; simp only [sz] at *; omega) HB.out).mono ?_
  rintro e w1 ⟨y1, rfl, hn1, hb1⟩
  obtain ⟨_, ay1, cy1, rfl, -⟩ := id hn1
  have D1 := Lib.hid (((Below.refl w.heap.size w)).trans (hb1.mono ((Below.refl w.heap.size w)).size))
  have N1 := Lib.hid hn1
  clear hn1 hb1
  go_wp2_with fail
  go_ret
  exact ⟨_, rfl, N1.out, BW.out.trans ((D1.out).mono BW.out.size)⟩
theorem stackedP_any (base : Nat) (a d : Tm) (va vd : Value) (w : World) (ha : Nds w va (flat a)) (hd : Nds w vd (flat d)) (hb : base ≤ w.heap.size) (hl : sz a + sz d ≤ 900) :
    Calls Tryz.prog 122 #[va, vd] w (OutB base (stk a d) w) := by
  by_cases h14 : kd a = 14
  · obtain ⟨s, c, rfl⟩ := kd14 h14
    exact stacked_fin base s c d va vd w ha hd hb hl
  · rw [stk_other h14]
    exact stacked_other base a d va vd w ha hd h14 hb hl
set_option maxHeartbeats 1000000 in
theorem inBlock_1 (base : Nat) (c : Tm) (vA : Value) (w : World) (hA : Nds w vA (flat (.fin 1 c))) (hbs : base ≤ w.heap.size) (hl : sz (.fin 1 c) ≤ 900) :
    Calls Tryz.prog 120 #[.agg #[.int .i64 9, .string ⟨#[]⟩, .int .i64 0], vA] w (OutB base (.over 1) w) := by
  have HL : Hid (sz (.fin 1 c) ≤ 900) := Lib.hid hl
  have HB := Lib.hid hbs
  have AA := Lib.hid (fun w1 (hb : Below w.heap.size w w1) => hA.below hb)
  obtain ⟨bA, oA, cA, rfl, hcA, hltA, hwA, hatA⟩ := form3 hA
  have TA := Lib.hid (fun w1 (hb : Below w.heap.size w w1) => (tail_fin hatA hcA).below hb)
  have hzA : sz (.fin 1 c) = sz c + 1 := rfl
  rw [hzA] at hcA AA ⊢
  obtain ⟨nA, hnA⟩ : ∃ n, sz c = n := ⟨_, rfl⟩
  have hqA := sz_pos c
  rw [hnA] at hcA TA AA hqA ⊢
  have g2A : ¬ cA = 1 := by omega
  clear hnA hzA
  have g3A : (1 : Int) ≤ (nA : Int) + 1 := by omega
  rw [show kd (.fin 1 c) = 14 from rfl, show sg (.fin 1 c) = 1 from rfl, show nmT (.fin 1 c) = ⟨#[]⟩ from rfl] at hwA
  have qe0 : ∀ w, (binOp .eql 39 (.agg #[.int .i64 14, .string ⟨#[]⟩, .int .i64 1]) (.agg #[.int .i64 14, .string ⟨#[]⟩, .int .i64 1])).run Tryz.prog w = .ok (.bool true) w := fun w => by rw [eq_bare]; exact congrArg (fun x => Result.ok (Value.bool x) w) (decide_eq_true rfl)
  unfold OutB
  clear hl hbs hatA hA
  go_enter Tryz.func120, Tryz.ntmps120
  go_wp2_with fail
  have BW0 := below1 w (.cells #[.int .i64 9, .string ⟨#[]⟩, .int .i64 0] 39)
  have BC := box_cells w 9 0 ⟨#[]⟩ 39
  generalize w.alloc (.cells #[.int .i64 9, .string ⟨#[]⟩, .int .i64 0] 39) = W at BW0 BC ⊢
  have BW := Lib.hid BW0
  have SW : Hid (∀ w', Below W.heap.size W w' → w'.cell? ⟨bA, oA, none⟩ = some (.int .i64 14) ∧ w'.cell? ⟨bA, oA + 1, none⟩ = some (.string ⟨#[]⟩) ∧ w'.cell? ⟨bA, oA + 2, none⟩ = some (.int .i64 1) ∧ w'.cell? ⟨w.heap.size, 0, none⟩ = some (.int .i64 9) ∧ w'.cell? ⟨w.heap.size, 1, none⟩ = some (.string ⟨#[]⟩) ∧ w'.cell? ⟨w.heap.size, 2, none⟩ = some (.int .i64 0)) := Lib.hid fun w1 hb => by
    obtain ⟨x0, x1, x2⟩ := hwA w1 (BW.out.trans (hb.mono BW.out.size))
    obtain ⟨x3, x4, x5⟩ := BC w1 hb
    exact ⟨x0, x1, x2, x3, x4, x5⟩
  clear BW0 BC hwA
  go_region_held3 (fun w' => w'.cell? ⟨bA, oA, none⟩ = some (.int .i64 14) ∧ w'.cell? ⟨bA, oA + 1, none⟩ = some (.string ⟨#[]⟩) ∧ w'.cell? ⟨bA, oA + 2, none⟩ = some (.int .i64 1) ∧ w'.cell? ⟨w.heap.size, 0, none⟩ = some (.int .i64 9) ∧ w'.cell? ⟨w.heap.size, 1, none⟩ = some (.string ⟨#[]⟩) ∧ w'.cell? ⟨w.heap.size, 2, none⟩ = some (.int .i64 0)) (first | exact SW.out _ ((Below.refl W.heap.size W)).drew | exact SW.out _ (D1.out).drew | exact SW.out _ (Below.refl W.heap.size W) | exact SW.out _ D1.out | exact SW.out _ (Below.alloc (Below.refl W.heap.size W) ((Below.refl W.heap.size W)).size _) | exact SW.out _ (Below.alloc D1.out (D1.out).size _) | exact SW.out _ (Below.alloc (Below.refl W.heap.size W) ((Below.refl W.heap.size W)).size _).drew | exact SW.out _ (Below.alloc D1.out (D1.out).size _).drew | fail) (first
    | (go_at_call 126
       (with_reducible refine (endP_any 1 _).mono ?_)
       rintro e w1 ⟨rfl, hb1⟩
       have D1 := Lib.hid ((((Below.refl W.heap.size W)).drew).trans (hb1.mono (((Below.refl W.heap.size W)).drew).size))
       clear hb1)
    | fail)
  go_wp2_with fail
  refine (overP_any 1 _).mono ?_
  rintro e w2 ⟨rfl, hb2⟩
  have D2 := Lib.hid ((D1.out).trans (hb2.mono (D1.out).size))
  clear hb2
  go_wp2_with fail
  refine (mkP0 base 11 1 (.over 1) rfl _ (Nat.le_trans HB.out (Nat.le_trans BW.out.size D2.out.size))).mono ?_
  rintro e w3 ⟨y3, rfl, hn3, hb3⟩
  obtain ⟨_, ay3, cy3, rfl, -⟩ := id hn3
  have D3 := Lib.hid ((D2.out).trans (hb3.mono (D2.out).size))
  have N3 := Lib.hid hn3
  clear hn3 hb3
  go_wp2_with fail
  go_ret
  exact ⟨_, rfl, N3.out, BW.out.trans ((D3.out).mono BW.out.size)⟩
set_option maxHeartbeats 1000000 in
theorem inBlock_2 (base : Nat) (c : Tm) (vA : Value) (w : World) (hA : Nds w vA (flat (.fin 2 c))) (PB : Hid (PS c)) (hbs : base ≤ w.heap.size) (hl : sz (.fin 2 c) ≤ 900) :
    Calls Tryz.prog 120 #[.agg #[.int .i64 9, .string ⟨#[]⟩, .int .i64 0], vA] w (OutB base (S c) w) := by
  have HL : Hid (sz (.fin 2 c) ≤ 900) := Lib.hid hl
  have HB := Lib.hid hbs
  have AA := Lib.hid (fun w1 (hb : Below w.heap.size w w1) => hA.below hb)
  obtain ⟨bA, oA, cA, rfl, hcA, hltA, hwA, hatA⟩ := form3 hA
  have TA := Lib.hid (fun w1 (hb : Below w.heap.size w w1) => (tail_fin hatA hcA).below hb)
  have hzA : sz (.fin 2 c) = sz c + 1 := rfl
  rw [hzA] at hcA AA ⊢
  obtain ⟨nA, hnA⟩ : ∃ n, sz c = n := ⟨_, rfl⟩
  have hqA := sz_pos c
  rw [hnA] at hcA TA AA hqA ⊢
  have g2A : ¬ cA = 1 := by omega
  clear hnA hzA
  have g3A : (1 : Int) ≤ (nA : Int) + 1 := by omega
  rw [show kd (.fin 2 c) = 14 from rfl, show sg (.fin 2 c) = 2 from rfl, show nmT (.fin 2 c) = ⟨#[]⟩ from rfl] at hwA
  have qe0 : ∀ w, (binOp .eql 39 (.agg #[.int .i64 14, .string ⟨#[]⟩, .int .i64 2]) (.agg #[.int .i64 14, .string ⟨#[]⟩, .int .i64 1])).run Tryz.prog w = .ok (.bool false) w := fun w => by rw [eq_bare]; exact congrArg (fun x => Result.ok (Value.bool x) w) (decide_eq_false (fun e => absurd (congrArg Nd.s e) (by show ¬ ((2 : Int) = 1); decide)))
  have qe1 : ∀ w, (binOp .eql 39 (.agg #[.int .i64 14, .string ⟨#[]⟩, .int .i64 2]) (.agg #[.int .i64 14, .string ⟨#[]⟩, .int .i64 2])).run Tryz.prog w = .ok (.bool true) w := fun w => by rw [eq_bare]; exact congrArg (fun x => Result.ok (Value.bool x) w) (decide_eq_true rfl)
  unfold OutB
  clear hl hbs hatA hA
  go_enter Tryz.func120, Tryz.ntmps120
  go_wp2_with fail
  have BW0 := below1 w (.cells #[.int .i64 9, .string ⟨#[]⟩, .int .i64 0] 39)
  have BC := box_cells w 9 0 ⟨#[]⟩ 39
  generalize w.alloc (.cells #[.int .i64 9, .string ⟨#[]⟩, .int .i64 0] 39) = W at BW0 BC ⊢
  have BW := Lib.hid BW0
  have SW : Hid (∀ w', Below W.heap.size W w' → w'.cell? ⟨bA, oA, none⟩ = some (.int .i64 14) ∧ w'.cell? ⟨bA, oA + 1, none⟩ = some (.string ⟨#[]⟩) ∧ w'.cell? ⟨bA, oA + 2, none⟩ = some (.int .i64 2) ∧ w'.cell? ⟨w.heap.size, 0, none⟩ = some (.int .i64 9) ∧ w'.cell? ⟨w.heap.size, 1, none⟩ = some (.string ⟨#[]⟩) ∧ w'.cell? ⟨w.heap.size, 2, none⟩ = some (.int .i64 0)) := Lib.hid fun w1 hb => by
    obtain ⟨x0, x1, x2⟩ := hwA w1 (BW.out.trans (hb.mono BW.out.size))
    obtain ⟨x3, x4, x5⟩ := BC w1 hb
    exact ⟨x0, x1, x2, x3, x4, x5⟩
  clear BW0 BC hwA
  go_region_held3 (fun w' => w'.cell? ⟨bA, oA, none⟩ = some (.int .i64 14) ∧ w'.cell? ⟨bA, oA + 1, none⟩ = some (.string ⟨#[]⟩) ∧ w'.cell? ⟨bA, oA + 2, none⟩ = some (.int .i64 2) ∧ w'.cell? ⟨w.heap.size, 0, none⟩ = some (.int .i64 9) ∧ w'.cell? ⟨w.heap.size, 1, none⟩ = some (.string ⟨#[]⟩) ∧ w'.cell? ⟨w.heap.size, 2, none⟩ = some (.int .i64 0)) (first | exact SW.out _ ((Below.refl W.heap.size W)).drew | exact SW.out _ (D1.out).drew | exact SW.out _ (Below.refl W.heap.size W) | exact SW.out _ D1.out | exact SW.out _ (Below.alloc (Below.refl W.heap.size W) ((Below.refl W.heap.size W)).size _) | exact SW.out _ (Below.alloc D1.out (D1.out).size _) | exact SW.out _ (Below.alloc (Below.refl W.heap.size W) ((Below.refl W.heap.size W)).size _).drew | exact SW.out _ (Below.alloc D1.out (D1.out).size _).drew | fail) (first
    | (go_at_call 126
       (with_reducible refine (endP_any 1 _).mono ?_)
       rintro e w1 ⟨rfl, hb1⟩
       have D1 := Lib.hid ((((Below.refl W.heap.size W)).drew).trans (hb1.mono (((Below.refl W.heap.size W)).drew).size))
       clear hb1)
    | fail)
  go_wp2_with fail
  go_region_held3 (fun w' => w'.cell? ⟨bA, oA, none⟩ = some (.int .i64 14) ∧ w'.cell? ⟨bA, oA + 1, none⟩ = some (.string ⟨#[]⟩) ∧ w'.cell? ⟨bA, oA + 2, none⟩ = some (.int .i64 2) ∧ w'.cell? ⟨w.heap.size, 0, none⟩ = some (.int .i64 9) ∧ w'.cell? ⟨w.heap.size, 1, none⟩ = some (.string ⟨#[]⟩) ∧ w'.cell? ⟨w.heap.size, 2, none⟩ = some (.int .i64 0)) (first | exact SW.out _ (D1.out).drew | exact SW.out _ (D2.out).drew | exact SW.out _ D1.out | exact SW.out _ D2.out | exact SW.out _ (Below.alloc D1.out (D1.out).size _) | exact SW.out _ (Below.alloc D2.out (D2.out).size _) | exact SW.out _ (Below.alloc D1.out (D1.out).size _).drew | exact SW.out _ (Below.alloc D2.out (D2.out).size _).drew | fail) (first
    | (go_at_call 126
       (with_reducible refine (endP_any 2 _).mono ?_)
       rintro e w2 ⟨rfl, hb2⟩
       have D2 := Lib.hid (((D1.out).drew).trans (hb2.mono ((D1.out).drew).size))
       clear hb2)
    | fail)
  go_wp2_with fail
  refine (PB.out _ _ (TA.out _ (BW.out.trans ((D2.out).mono BW.out.size)))).mono ?_
  rintro e w3 ⟨y3, rfl, hn3, hb3⟩
  obtain ⟨_, ay3, cy3, rfl, -⟩ := id hn3
  have D3 := Lib.hid ((D2.out).trans (hb3.mono (D2.out).size))
  have N3 := Lib.hid hn3
  clear hn3 hb3
  go_wp2_with fail
  go_ret
  exact ⟨_, rfl, N3.out.more (Nat.le_trans HB.out (Nat.le_trans BW.out.size D2.out.size)), BW.out.trans ((D3.out).mono BW.out.size)⟩
set_option maxHeartbeats 1000000 in
theorem inBlock_n (base : Nat) (s : Int) (c : Tm) (vA : Value) (w : World) (hA : Nds w vA (flat (.fin s c))) (h1 : s ≠ 1) (h2 : s ≠ 2) (hbs : base ≤ w.heap.size) (hl : sz (.fin s c) ≤ 900) :
    Calls Tryz.prog 120 #[.agg #[.int .i64 9, .string ⟨#[]⟩, .int .i64 0], vA] w (OutB base (.block (.fin s c)) w) := by
  have HL : Hid (sz (.fin s c) ≤ 900) := Lib.hid hl
  have HB := Lib.hid hbs
  have AA := Lib.hid (fun w1 (hb : Below w.heap.size w w1) => hA.below hb)
  obtain ⟨bA, oA, cA, rfl, hcA, hltA, hwA, hatA⟩ := form3 hA
  have TA := Lib.hid (fun w1 (hb : Below w.heap.size w w1) => (tail_fin hatA hcA).below hb)
  have hzA : sz (.fin s c) = sz c + 1 := rfl
  rw [hzA] at hcA AA ⊢
  obtain ⟨nA, hnA⟩ : ∃ n, sz c = n := ⟨_, rfl⟩
  have hqA := sz_pos c
  rw [hnA] at hcA TA AA hqA ⊢
  have g2A : ¬ cA = 1 := by omega
  clear hnA hzA
  have g3A : (1 : Int) ≤ (nA : Int) + 1 := by omega
  rw [show kd (.fin s c) = 14 from rfl, show sg (.fin s c) = s from rfl, show nmT (.fin s c) = ⟨#[]⟩ from rfl] at hwA
  have qe0 : ∀ w, (binOp .eql 39 (.agg #[.int .i64 14, .string ⟨#[]⟩, .int .i64 s]) (.agg #[.int .i64 14, .string ⟨#[]⟩, .int .i64 1])).run Tryz.prog w = .ok (.bool false) w := fun w => by rw [eq_bare]; exact congrArg (fun x => Result.ok (Value.bool x) w) (decide_eq_false (fun e => absurd (congrArg Nd.s e) h1))
  have qe1 : ∀ w, (binOp .eql 39 (.agg #[.int .i64 14, .string ⟨#[]⟩, .int .i64 s]) (.agg #[.int .i64 14, .string ⟨#[]⟩, .int .i64 2])).run Tryz.prog w = .ok (.bool false) w := fun w => by rw [eq_bare]; exact congrArg (fun x => Result.ok (Value.bool x) w) (decide_eq_false (fun e => absurd (congrArg Nd.s e) h2))
  unfold OutB
  clear hl hbs hatA hA
  go_enter Tryz.func120, Tryz.ntmps120
  go_wp2_with fail
  have BW0 := below1 w (.cells #[.int .i64 9, .string ⟨#[]⟩, .int .i64 0] 39)
  have BC := box_cells w 9 0 ⟨#[]⟩ 39
  generalize w.alloc (.cells #[.int .i64 9, .string ⟨#[]⟩, .int .i64 0] 39) = W at BW0 BC ⊢
  have BW := Lib.hid BW0
  have SW : Hid (∀ w', Below W.heap.size W w' → w'.cell? ⟨bA, oA, none⟩ = some (.int .i64 14) ∧ w'.cell? ⟨bA, oA + 1, none⟩ = some (.string ⟨#[]⟩) ∧ w'.cell? ⟨bA, oA + 2, none⟩ = some (.int .i64 s) ∧ w'.cell? ⟨w.heap.size, 0, none⟩ = some (.int .i64 9) ∧ w'.cell? ⟨w.heap.size, 1, none⟩ = some (.string ⟨#[]⟩) ∧ w'.cell? ⟨w.heap.size, 2, none⟩ = some (.int .i64 0)) := Lib.hid fun w1 hb => by
    obtain ⟨x0, x1, x2⟩ := hwA w1 (BW.out.trans (hb.mono BW.out.size))
    obtain ⟨x3, x4, x5⟩ := BC w1 hb
    exact ⟨x0, x1, x2, x3, x4, x5⟩
  clear BW0 BC hwA
  go_region_held3 (fun w' => w'.cell? ⟨bA, oA, none⟩ = some (.int .i64 14) ∧ w'.cell? ⟨bA, oA + 1, none⟩ = some (.string ⟨#[]⟩) ∧ w'.cell? ⟨bA, oA + 2, none⟩ = some (.int .i64 s) ∧ w'.cell? ⟨w.heap.size, 0, none⟩ = some (.int .i64 9) ∧ w'.cell? ⟨w.heap.size, 1, none⟩ = some (.string ⟨#[]⟩) ∧ w'.cell? ⟨w.heap.size, 2, none⟩ = some (.int .i64 0)) (first | exact SW.out _ ((Below.refl W.heap.size W)).drew | exact SW.out _ (D1.out).drew | exact SW.out _ (Below.refl W.heap.size W) | exact SW.out _ D1.out | exact SW.out _ (Below.alloc (Below.refl W.heap.size W) ((Below.refl W.heap.size W)).size _) | exact SW.out _ (Below.alloc D1.out (D1.out).size _) | exact SW.out _ (Below.alloc (Below.refl W.heap.size W) ((Below.refl W.heap.size W)).size _).drew | exact SW.out _ (Below.alloc D1.out (D1.out).size _).drew | fail) (first
    | (go_at_call 126
       (with_reducible refine (endP_any 1 _).mono ?_)
       rintro e w1 ⟨rfl, hb1⟩
       have D1 := Lib.hid ((((Below.refl W.heap.size W)).drew).trans (hb1.mono (((Below.refl W.heap.size W)).drew).size))
       clear hb1)
    | fail)
  go_wp2_with fail
  go_region_held3 (fun w' => w'.cell? ⟨bA, oA, none⟩ = some (.int .i64 14) ∧ w'.cell? ⟨bA, oA + 1, none⟩ = some (.string ⟨#[]⟩) ∧ w'.cell? ⟨bA, oA + 2, none⟩ = some (.int .i64 s) ∧ w'.cell? ⟨w.heap.size, 0, none⟩ = some (.int .i64 9) ∧ w'.cell? ⟨w.heap.size, 1, none⟩ = some (.string ⟨#[]⟩) ∧ w'.cell? ⟨w.heap.size, 2, none⟩ = some (.int .i64 0)) (first | exact SW.out _ (D1.out).drew | exact SW.out _ (D2.out).drew | exact SW.out _ D1.out | exact SW.out _ D2.out | exact SW.out _ (Below.alloc D1.out (D1.out).size _) | exact SW.out _ (Below.alloc D2.out (D2.out).size _) | exact SW.out _ (Below.alloc D1.out (D1.out).size _).drew | exact SW.out _ (Below.alloc D2.out (D2.out).size _).drew | fail) (first
    | (go_at_call 126
       (with_reducible refine (endP_any 2 _).mono ?_)
       rintro e w2 ⟨rfl, hb2⟩
       have D2 := Lib.hid (((D1.out).drew).trans (hb2.mono ((D1.out).drew).size))
       clear hb2)
    | fail)
  go_wp2_with fail
  refine (mkP1 base 9 0 (.block (.fin s c)) (.fin s c) rfl _ _ _ (AA.out _ (BW.out.trans ((D2.out).mono BW.out.size))) (by have := HL.out; simp only [sz] at *; omega) (Nat.le_trans HB.out (Nat.le_trans BW.out.size D2.out.size))).mono ?_
  rintro e w3 ⟨y3, rfl, hn3, hb3⟩
  obtain ⟨_, ay3, cy3, rfl, -⟩ := id hn3
  have D3 := Lib.hid ((D2.out).trans (hb3.mono (D2.out).size))
  have N3 := Lib.hid hn3
  clear hn3 hb3
  go_wp2_with fail
  go_ret
  exact ⟨_, rfl, N3.out, BW.out.trans ((D3.out).mono BW.out.size)⟩
set_option maxHeartbeats 1000000 in
theorem inBlock_other (base : Nat) (a : Tm) (vA : Value) (w : World) (hA : Nds w vA (flat a)) (qA14 : kd a ≠ 14) (hbs : base ≤ w.heap.size) (hl : sz a ≤ 900) :
    Calls Tryz.prog 120 #[.agg #[.int .i64 9, .string ⟨#[]⟩, .int .i64 0], vA] w (OutB base (.block a) w) := by
  have HL : Hid (sz a ≤ 900) := Lib.hid hl
  have HB := Lib.hid hbs
  have AA := Lib.hid (fun w1 (hb : Below w.heap.size w w1) => hA.below hb)
  obtain ⟨bA, oA, cA, rfl, hcA, hltA, hwA, hatA⟩ := form3 hA
  obtain ⟨nA, hnA⟩ : ∃ n, sz a = n + 1 := ⟨sz a - 1, by have := sz_pos a; omega⟩
  rw [hnA] at hcA AA ⊢
  clear hnA
  have g3A : (1 : Int) ≤ (nA : Int) + 1 := by omega
  have fA14 : (kd a == 14) = false := by rw [beq_eq_false_iff_ne]; exact qA14
  obtain ⟨kA, hkA⟩ : ∃ k, kd a = k := ⟨_, rfl⟩
  obtain ⟨sA, hsA⟩ : ∃ s, sg a = s := ⟨_, rfl⟩
  obtain ⟨mA, hmA⟩ : ∃ m, nmT a = m := ⟨_, rfl⟩
  rw [hkA] at hwA fA14 qA14
  rw [hsA, hmA] at hwA
  clear hkA hsA hmA
  have qe0 : ∀ w, (binOp .eql 39 (.agg #[.int .i64 kA, .string mA, .int .i64 sA]) (.agg #[.int .i64 14, .string ⟨#[]⟩, .int .i64 1])).run Tryz.prog w = .ok (.bool false) w := fun w => by rw [eq_bare]; exact congrArg (fun x => Result.ok (Value.bool x) w) (decide_eq_false (fun e => absurd (congrArg Nd.k e) qA14))
  have qe1 : ∀ w, (binOp .eql 39 (.agg #[.int .i64 kA, .string mA, .int .i64 sA]) (.agg #[.int .i64 14, .string ⟨#[]⟩, .int .i64 2])).run Tryz.prog w = .ok (.bool false) w := fun w => by rw [eq_bare]; exact congrArg (fun x => Result.ok (Value.bool x) w) (decide_eq_false (fun e => absurd (congrArg Nd.k e) qA14))
  unfold OutB
  clear hl hbs qA14 hatA hA
  go_enter Tryz.func120, Tryz.ntmps120
  go_wp2_with fail
  have BW0 := below1 w (.cells #[.int .i64 9, .string ⟨#[]⟩, .int .i64 0] 39)
  have BC := box_cells w 9 0 ⟨#[]⟩ 39
  generalize w.alloc (.cells #[.int .i64 9, .string ⟨#[]⟩, .int .i64 0] 39) = W at BW0 BC ⊢
  have BW := Lib.hid BW0
  have SW : Hid (∀ w', Below W.heap.size W w' → w'.cell? ⟨bA, oA, none⟩ = some (.int .i64 kA) ∧ w'.cell? ⟨bA, oA + 1, none⟩ = some (.string mA) ∧ w'.cell? ⟨bA, oA + 2, none⟩ = some (.int .i64 sA) ∧ w'.cell? ⟨w.heap.size, 0, none⟩ = some (.int .i64 9) ∧ w'.cell? ⟨w.heap.size, 1, none⟩ = some (.string ⟨#[]⟩) ∧ w'.cell? ⟨w.heap.size, 2, none⟩ = some (.int .i64 0)) := Lib.hid fun w1 hb => by
    obtain ⟨x0, x1, x2⟩ := hwA w1 (BW.out.trans (hb.mono BW.out.size))
    obtain ⟨x3, x4, x5⟩ := BC w1 hb
    exact ⟨x0, x1, x2, x3, x4, x5⟩
  clear BW0 BC hwA
  go_region_held3 (fun w' => w'.cell? ⟨bA, oA, none⟩ = some (.int .i64 kA) ∧ w'.cell? ⟨bA, oA + 1, none⟩ = some (.string mA) ∧ w'.cell? ⟨bA, oA + 2, none⟩ = some (.int .i64 sA) ∧ w'.cell? ⟨w.heap.size, 0, none⟩ = some (.int .i64 9) ∧ w'.cell? ⟨w.heap.size, 1, none⟩ = some (.string ⟨#[]⟩) ∧ w'.cell? ⟨w.heap.size, 2, none⟩ = some (.int .i64 0)) (first | exact SW.out _ ((Below.refl W.heap.size W)).drew | exact SW.out _ (D1.out).drew | exact SW.out _ (Below.refl W.heap.size W) | exact SW.out _ D1.out | exact SW.out _ (Below.alloc (Below.refl W.heap.size W) ((Below.refl W.heap.size W)).size _) | exact SW.out _ (Below.alloc D1.out (D1.out).size _) | exact SW.out _ (Below.alloc (Below.refl W.heap.size W) ((Below.refl W.heap.size W)).size _).drew | exact SW.out _ (Below.alloc D1.out (D1.out).size _).drew | fail) (first
    | (go_at_call 126
       (with_reducible refine (endP_any 1 _).mono ?_)
       rintro e w1 ⟨rfl, hb1⟩
       have D1 := Lib.hid ((((Below.refl W.heap.size W)).drew).trans (hb1.mono (((Below.refl W.heap.size W)).drew).size))
       clear hb1)
    | fail)
  go_wp2_with fail
  go_region_held3 (fun w' => w'.cell? ⟨bA, oA, none⟩ = some (.int .i64 kA) ∧ w'.cell? ⟨bA, oA + 1, none⟩ = some (.string mA) ∧ w'.cell? ⟨bA, oA + 2, none⟩ = some (.int .i64 sA) ∧ w'.cell? ⟨w.heap.size, 0, none⟩ = some (.int .i64 9) ∧ w'.cell? ⟨w.heap.size, 1, none⟩ = some (.string ⟨#[]⟩) ∧ w'.cell? ⟨w.heap.size, 2, none⟩ = some (.int .i64 0)) (first | exact SW.out _ (D1.out).drew | exact SW.out _ (D2.out).drew | exact SW.out _ D1.out | exact SW.out _ D2.out | exact SW.out _ (Below.alloc D1.out (D1.out).size _) | exact SW.out _ (Below.alloc D2.out (D2.out).size _) | exact SW.out _ (Below.alloc D1.out (D1.out).size _).drew | exact SW.out _ (Below.alloc D2.out (D2.out).size _).drew | fail) (first
    | (go_at_call 126
       (with_reducible refine (endP_any 2 _).mono ?_)
       rintro e w2 ⟨rfl, hb2⟩
       have D2 := Lib.hid (((D1.out).drew).trans (hb2.mono ((D1.out).drew).size))
       clear hb2)
    | fail)
  go_wp2_with fail
  refine (mkP1 base 9 0 (.block a) a rfl _ _ _ (AA.out _ (BW.out.trans ((D2.out).mono BW.out.size))) (by have := HL.out; simp only [sz] at *; omega) (Nat.le_trans HB.out (Nat.le_trans BW.out.size D2.out.size))).mono ?_
  rintro e w3 ⟨y3, rfl, hn3, hb3⟩
  obtain ⟨_, ay3, cy3, rfl, -⟩ := id hn3
  have D3 := Lib.hid ((D2.out).trans (hb3.mono (D2.out).size))
  have N3 := Lib.hid hn3
  clear hn3 hb3
  go_wp2_with fail
  go_ret
  exact ⟨_, rfl, N3.out, BW.out.trans ((D3.out).mono BW.out.size)⟩
theorem inBlockP_any (base : Nat) (a : Tm) (va : Value) (w : World) (ha : Nds w va (flat a)) (PB : ∀ s c, a = .fin s c → PS c) (hb : base ≤ w.heap.size) (hl : sz a ≤ 900) :
    Calls Tryz.prog 120 #[.agg #[.int .i64 9, .string ⟨#[]⟩, .int .i64 0], va] w (OutB base (sBlock S a) w) := by
  by_cases a14 : kd a = 14
  · obtain ⟨s, c, rfl⟩ := kd14 a14
    by_cases h1 : s = 1
    · subst h1
      exact inBlock_1 base c va w ha hb hl
    · by_cases h2 : s = 2
      · subst h2
        exact inBlock_2 base c va w ha (Lib.hid (PB 2 c rfl)) hb hl
      · have e : sBlock S (.fin s c) = .block (.fin s c) := by simp [sBlock, h1, h2]
        rw [e]
        exact inBlock_n base s c va w ha h1 h2 hb hl
  · have e : sBlock S a = .block a := by cases a <;> first | rfl | exact absurd rfl a14
    rw [e]
    exact inBlock_other base a va w ha a14 hb hl
set_option maxHeartbeats 1000000 in
theorem going_1 (base : Nat) (d : Tm) (vA : Value) (vB : Value) (w : World) (hA : Nds w vA (flat (.over 1))) (hB : Nds w vB (flat d)) (hbs : base ≤ w.heap.size) (hl : sz (.over 1) + sz d ≤ 900) :
    Calls Tryz.prog 121 #[.agg #[.int .i64 12, .string ⟨#[]⟩, .int .i64 0], vA, vB] w (OutB base (.fin 1 d) w) := by
  have HL : Hid (sz (.over 1) + sz d ≤ 900) := Lib.hid hl
  have HB := Lib.hid hbs
  have AA := Lib.hid (fun w1 (hb : Below w.heap.size w w1) => hA.below hb)
  obtain ⟨bA, oA, cA, rfl, hcA, hltA, hwA, hatA⟩ := form3 hA
  obtain ⟨nA, hnA⟩ : ∃ n, sz (.over 1) = n + 1 := ⟨sz (.over 1) - 1, by have := sz_pos (.over 1); omega⟩
  rw [hnA] at hcA AA ⊢
  clear hnA
  have g3A : (1 : Int) ≤ (nA : Int) + 1 := by omega
  rw [show kd (.over 1) = 11 from rfl, show sg (.over 1) = 1 from rfl, show nmT (.over 1) = ⟨#[]⟩ from rfl] at hwA
  have AB := Lib.hid (fun w1 (hb : Below w.heap.size w w1) => hB.below hb)
  obtain ⟨_, adB, cdB, rfl, -⟩ := id hB
  have qe0 : ∀ w, (binOp .eql 39 (.agg #[.int .i64 11, .string ⟨#[]⟩, .int .i64 1]) (.agg #[.int .i64 11, .string ⟨#[]⟩, .int .i64 1])).run Tryz.prog w = .ok (.bool true) w := fun w => by rw [eq_bare]; exact congrArg (fun x => Result.ok (Value.bool x) w) (decide_eq_true rfl)
  unfold OutB
  clear hl hbs hatA hA hB
  go_enter Tryz.func121, Tryz.ntmps121
  go_wp2_with fail
  have BW0 := below1 w (.cells #[.int .i64 12, .string ⟨#[]⟩, .int .i64 0] 39)
  have BC := box_cells w 12 0 ⟨#[]⟩ 39
  generalize w.alloc (.cells #[.int .i64 12, .string ⟨#[]⟩, .int .i64 0] 39) = W at BW0 BC ⊢
  have BW := Lib.hid BW0
  have SW : Hid (∀ w', Below W.heap.size W w' → w'.cell? ⟨bA, oA, none⟩ = some (.int .i64 11) ∧ w'.cell? ⟨bA, oA + 1, none⟩ = some (.string ⟨#[]⟩) ∧ w'.cell? ⟨bA, oA + 2, none⟩ = some (.int .i64 1) ∧ w'.cell? ⟨w.heap.size, 0, none⟩ = some (.int .i64 12) ∧ w'.cell? ⟨w.heap.size, 1, none⟩ = some (.string ⟨#[]⟩) ∧ w'.cell? ⟨w.heap.size, 2, none⟩ = some (.int .i64 0)) := Lib.hid fun w1 hb => by
    obtain ⟨x0, x1, x2⟩ := hwA w1 (BW.out.trans (hb.mono BW.out.size))
    obtain ⟨x3, x4, x5⟩ := BC w1 hb
    exact ⟨x0, x1, x2, x3, x4, x5⟩
  clear BW0 BC hwA
  go_region_held3 (fun w' => w'.cell? ⟨bA, oA, none⟩ = some (.int .i64 11) ∧ w'.cell? ⟨bA, oA + 1, none⟩ = some (.string ⟨#[]⟩) ∧ w'.cell? ⟨bA, oA + 2, none⟩ = some (.int .i64 1) ∧ w'.cell? ⟨w.heap.size, 0, none⟩ = some (.int .i64 12) ∧ w'.cell? ⟨w.heap.size, 1, none⟩ = some (.string ⟨#[]⟩) ∧ w'.cell? ⟨w.heap.size, 2, none⟩ = some (.int .i64 0)) (first | exact SW.out _ ((Below.refl W.heap.size W)).drew | exact SW.out _ (D1.out).drew | exact SW.out _ (Below.refl W.heap.size W) | exact SW.out _ D1.out | exact SW.out _ (Below.alloc (Below.refl W.heap.size W) ((Below.refl W.heap.size W)).size _) | exact SW.out _ (Below.alloc D1.out (D1.out).size _) | exact SW.out _ (Below.alloc (Below.refl W.heap.size W) ((Below.refl W.heap.size W)).size _).drew | exact SW.out _ (Below.alloc D1.out (D1.out).size _).drew | fail) (first
    | (go_at_call 117
       (with_reducible refine (overP_any 1 _).mono ?_)
       rintro e w1 ⟨rfl, hb1⟩
       have D1 := Lib.hid ((((Below.refl W.heap.size W)).drew).trans (hb1.mono (((Below.refl W.heap.size W)).drew).size))
       clear hb1)
    | fail)
  go_wp2_with fail
  refine (endP_any 1 _).mono ?_
  rintro e w2 ⟨rfl, hb2⟩
  have D2 := Lib.hid ((D1.out).trans (hb2.mono (D1.out).size))
  clear hb2
  go_wp2_with fail
  refine (mkP1 base 14 1 (.fin 1 d) d rfl _ _ _ (AB.out _ (BW.out.trans ((D2.out).mono BW.out.size))) (by have := HL.out; simp only [sz] at *; omega) (Nat.le_trans HB.out (Nat.le_trans BW.out.size D2.out.size))).mono ?_
  rintro e w3 ⟨y3, rfl, hn3, hb3⟩
  obtain ⟨_, ay3, cy3, rfl, -⟩ := id hn3
  have D3 := Lib.hid ((D2.out).trans (hb3.mono (D2.out).size))
  have N3 := Lib.hid hn3
  clear hn3 hb3
  go_wp2_with fail
  go_ret
  exact ⟨_, rfl, N3.out, BW.out.trans ((D3.out).mono BW.out.size)⟩
set_option maxHeartbeats 1000000 in
theorem going_over (base : Nat) (s : Int) (d : Tm) (vA : Value) (vB : Value) (w : World) (hA : Nds w vA (flat (.over s))) (hB : Nds w vB (flat d)) (hs : s ≠ 1) (hbs : base ≤ w.heap.size) (hl : sz (.over s) + sz d ≤ 900) :
    Calls Tryz.prog 121 #[.agg #[.int .i64 12, .string ⟨#[]⟩, .int .i64 0], vA, vB] w (OutB base (.fin s .skip) w) := by
  have HL : Hid (sz (.over s) + sz d ≤ 900) := Lib.hid hl
  have HB := Lib.hid hbs
  have AA := Lib.hid (fun w1 (hb : Below w.heap.size w w1) => hA.below hb)
  obtain ⟨bA, oA, cA, rfl, hcA, hltA, hwA, hatA⟩ := form3 hA
  obtain ⟨nA, hnA⟩ : ∃ n, sz (.over s) = n + 1 := ⟨sz (.over s) - 1, by have := sz_pos (.over s); omega⟩
  rw [hnA] at hcA AA ⊢
  clear hnA
  have g3A : (1 : Int) ≤ (nA : Int) + 1 := by omega
  rw [show kd (.over s) = 11 from rfl, show sg (.over s) = s from rfl, show nmT (.over s) = ⟨#[]⟩ from rfl] at hwA
  have AB := Lib.hid (fun w1 (hb : Below w.heap.size w w1) => hB.below hb)
  obtain ⟨_, adB, cdB, rfl, -⟩ := id hB
  have qe0 : ∀ w, (binOp .eql 39 (.agg #[.int .i64 11, .string ⟨#[]⟩, .int .i64 s]) (.agg #[.int .i64 11, .string ⟨#[]⟩, .int .i64 1])).run Tryz.prog w = .ok (.bool false) w := fun w => by rw [eq_bare]; exact congrArg (fun x => Result.ok (Value.bool x) w) (decide_eq_false (fun e => absurd (congrArg Nd.s e) hs))
  unfold OutB
  clear hl hbs hatA hA hB
  go_enter Tryz.func121, Tryz.ntmps121
  go_wp2_with fail
  have BW0 := below1 w (.cells #[.int .i64 12, .string ⟨#[]⟩, .int .i64 0] 39)
  have BC := box_cells w 12 0 ⟨#[]⟩ 39
  generalize w.alloc (.cells #[.int .i64 12, .string ⟨#[]⟩, .int .i64 0] 39) = W at BW0 BC ⊢
  have BW := Lib.hid BW0
  have SW : Hid (∀ w', Below W.heap.size W w' → w'.cell? ⟨bA, oA, none⟩ = some (.int .i64 11) ∧ w'.cell? ⟨bA, oA + 1, none⟩ = some (.string ⟨#[]⟩) ∧ w'.cell? ⟨bA, oA + 2, none⟩ = some (.int .i64 s) ∧ w'.cell? ⟨w.heap.size, 0, none⟩ = some (.int .i64 12) ∧ w'.cell? ⟨w.heap.size, 1, none⟩ = some (.string ⟨#[]⟩) ∧ w'.cell? ⟨w.heap.size, 2, none⟩ = some (.int .i64 0)) := Lib.hid fun w1 hb => by
    obtain ⟨x0, x1, x2⟩ := hwA w1 (BW.out.trans (hb.mono BW.out.size))
    obtain ⟨x3, x4, x5⟩ := BC w1 hb
    exact ⟨x0, x1, x2, x3, x4, x5⟩
  clear BW0 BC hwA
  go_region_held3 (fun w' => w'.cell? ⟨bA, oA, none⟩ = some (.int .i64 11) ∧ w'.cell? ⟨bA, oA + 1, none⟩ = some (.string ⟨#[]⟩) ∧ w'.cell? ⟨bA, oA + 2, none⟩ = some (.int .i64 s) ∧ w'.cell? ⟨w.heap.size, 0, none⟩ = some (.int .i64 12) ∧ w'.cell? ⟨w.heap.size, 1, none⟩ = some (.string ⟨#[]⟩) ∧ w'.cell? ⟨w.heap.size, 2, none⟩ = some (.int .i64 0)) (first | exact SW.out _ ((Below.refl W.heap.size W)).drew | exact SW.out _ (D1.out).drew | exact SW.out _ (Below.refl W.heap.size W) | exact SW.out _ D1.out | exact SW.out _ (Below.alloc (Below.refl W.heap.size W) ((Below.refl W.heap.size W)).size _) | exact SW.out _ (Below.alloc D1.out (D1.out).size _) | exact SW.out _ (Below.alloc (Below.refl W.heap.size W) ((Below.refl W.heap.size W)).size _).drew | exact SW.out _ (Below.alloc D1.out (D1.out).size _).drew | fail) (first
    | (go_at_call 117
       (with_reducible refine (overP_any 1 _).mono ?_)
       rintro e w1 ⟨rfl, hb1⟩
       have D1 := Lib.hid ((((Below.refl W.heap.size W)).drew).trans (hb1.mono (((Below.refl W.heap.size W)).drew).size))
       clear hb1)
    | fail)
  go_wp2_with fail
  refine (endP_any s _).mono ?_
  rintro e w2 ⟨rfl, hb2⟩
  have D2 := Lib.hid ((D1.out).trans (hb2.mono (D1.out).size))
  clear hb2
  go_wp2_with fail
  refine (mkP0 base 2 0 .skip rfl _ (Nat.le_trans HB.out (Nat.le_trans BW.out.size D2.out.size))).mono ?_
  rintro e w3 ⟨y3, rfl, hn3, hb3⟩
  obtain ⟨_, ay3, cy3, rfl, -⟩ := id hn3
  have D3 := Lib.hid ((D2.out).trans (hb3.mono (D2.out).size))
  have N3 := Lib.hid hn3
  clear hn3 hb3
  go_wp2_with fail
  refine (mkP1 base 14 s (.fin s .skip) .skip rfl _ _ _ N3.out.nds (by simp [sz]) (Nat.le_trans HB.out (Nat.le_trans BW.out.size D3.out.size))).mono ?_
  rintro e w4 ⟨y4, rfl, hn4, hb4⟩
  obtain ⟨_, ay4, cy4, rfl, -⟩ := id hn4
  have D4 := Lib.hid ((D3.out).trans (hb4.mono (D3.out).size))
  have N4 := Lib.hid hn4
  clear hn4 hb4
  go_wp2_with fail
  go_ret
  exact ⟨_, rfl, N4.out, BW.out.trans ((D4.out).mono BW.out.size)⟩
set_option maxHeartbeats 1000000 in
theorem going_other (base : Nat) (a d : Tm) (vA : Value) (vB : Value) (w : World) (hA : Nds w vA (flat a)) (hB : Nds w vB (flat d)) (qA11 : kd a ≠ 11) (hbs : base ≤ w.heap.size) (hl : sz a + sz d ≤ 900) :
    Calls Tryz.prog 121 #[.agg #[.int .i64 12, .string ⟨#[]⟩, .int .i64 0], vA, vB] w (OutB base (.going a d) w) := by
  have HL : Hid (sz a + sz d ≤ 900) := Lib.hid hl
  have HB := Lib.hid hbs
  have AA := Lib.hid (fun w1 (hb : Below w.heap.size w w1) => hA.below hb)
  obtain ⟨bA, oA, cA, rfl, hcA, hltA, hwA, hatA⟩ := form3 hA
  obtain ⟨nA, hnA⟩ : ∃ n, sz a = n + 1 := ⟨sz a - 1, by have := sz_pos a; omega⟩
  rw [hnA] at hcA AA ⊢
  clear hnA
  have g3A : (1 : Int) ≤ (nA : Int) + 1 := by omega
  have fA11 : (kd a == 11) = false := by rw [beq_eq_false_iff_ne]; exact qA11
  obtain ⟨kA, hkA⟩ : ∃ k, kd a = k := ⟨_, rfl⟩
  obtain ⟨sA, hsA⟩ : ∃ s, sg a = s := ⟨_, rfl⟩
  obtain ⟨mA, hmA⟩ : ∃ m, nmT a = m := ⟨_, rfl⟩
  rw [hkA] at hwA fA11 qA11
  rw [hsA, hmA] at hwA
  clear hkA hsA hmA
  have AB := Lib.hid (fun w1 (hb : Below w.heap.size w w1) => hB.below hb)
  obtain ⟨_, adB, cdB, rfl, -⟩ := id hB
  have qe0 : ∀ w, (binOp .eql 39 (.agg #[.int .i64 kA, .string mA, .int .i64 sA]) (.agg #[.int .i64 11, .string ⟨#[]⟩, .int .i64 1])).run Tryz.prog w = .ok (.bool false) w := fun w => by rw [eq_bare]; exact congrArg (fun x => Result.ok (Value.bool x) w) (decide_eq_false (fun e => absurd (congrArg Nd.k e) qA11))
  unfold OutB
  clear hl hbs qA11 hatA hA hB
  go_enter Tryz.func121, Tryz.ntmps121
  go_wp2_with fail
  have BW0 := below1 w (.cells #[.int .i64 12, .string ⟨#[]⟩, .int .i64 0] 39)
  have BC := box_cells w 12 0 ⟨#[]⟩ 39
  generalize w.alloc (.cells #[.int .i64 12, .string ⟨#[]⟩, .int .i64 0] 39) = W at BW0 BC ⊢
  have BW := Lib.hid BW0
  have SW : Hid (∀ w', Below W.heap.size W w' → w'.cell? ⟨bA, oA, none⟩ = some (.int .i64 kA) ∧ w'.cell? ⟨bA, oA + 1, none⟩ = some (.string mA) ∧ w'.cell? ⟨bA, oA + 2, none⟩ = some (.int .i64 sA) ∧ w'.cell? ⟨w.heap.size, 0, none⟩ = some (.int .i64 12) ∧ w'.cell? ⟨w.heap.size, 1, none⟩ = some (.string ⟨#[]⟩) ∧ w'.cell? ⟨w.heap.size, 2, none⟩ = some (.int .i64 0)) := Lib.hid fun w1 hb => by
    obtain ⟨x0, x1, x2⟩ := hwA w1 (BW.out.trans (hb.mono BW.out.size))
    obtain ⟨x3, x4, x5⟩ := BC w1 hb
    exact ⟨x0, x1, x2, x3, x4, x5⟩
  clear BW0 BC hwA
  go_region_held3 (fun w' => w'.cell? ⟨bA, oA, none⟩ = some (.int .i64 kA) ∧ w'.cell? ⟨bA, oA + 1, none⟩ = some (.string mA) ∧ w'.cell? ⟨bA, oA + 2, none⟩ = some (.int .i64 sA) ∧ w'.cell? ⟨w.heap.size, 0, none⟩ = some (.int .i64 12) ∧ w'.cell? ⟨w.heap.size, 1, none⟩ = some (.string ⟨#[]⟩) ∧ w'.cell? ⟨w.heap.size, 2, none⟩ = some (.int .i64 0)) (first | exact SW.out _ ((Below.refl W.heap.size W)).drew | exact SW.out _ (D1.out).drew | exact SW.out _ (Below.refl W.heap.size W) | exact SW.out _ D1.out | exact SW.out _ (Below.alloc (Below.refl W.heap.size W) ((Below.refl W.heap.size W)).size _) | exact SW.out _ (Below.alloc D1.out (D1.out).size _) | exact SW.out _ (Below.alloc (Below.refl W.heap.size W) ((Below.refl W.heap.size W)).size _).drew | exact SW.out _ (Below.alloc D1.out (D1.out).size _).drew | fail) (first
    | (go_at_call 117
       (with_reducible refine (overP_any 1 _).mono ?_)
       rintro e w1 ⟨rfl, hb1⟩
       have D1 := Lib.hid ((((Below.refl W.heap.size W)).drew).trans (hb1.mono (((Below.refl W.heap.size W)).drew).size))
       clear hb1)
    | fail)
  go_wp2_with fail
  refine (mkP2 base 12 0 (.going a d) a d rfl _ _ _ _ (AA.out _ (BW.out.trans ((D1.out).mono BW.out.size))) (AB.out _ (BW.out.trans ((D1.out).mono BW.out.size))) (by have := HL.out; simp only [sz] at *; omega) (Nat.le_trans HB.out (Nat.le_trans BW.out.size D1.out.size))).mono ?_
  rintro e w2 ⟨y2, rfl, hn2, hb2⟩
  obtain ⟨_, ay2, cy2, rfl, -⟩ := id hn2
  have D2 := Lib.hid ((D1.out).trans (hb2.mono (D1.out).size))
  have N2 := Lib.hid hn2
  clear hn2 hb2
  go_wp2_with fail
  go_ret
  exact ⟨_, rfl, N2.out, BW.out.trans ((D2.out).mono BW.out.size)⟩
theorem goingP_any (base : Nat) (a d : Tm) (va vd : Value) (w : World) (ha : Nds w va (flat a)) (hd : Nds w vd (flat d)) (hb : base ≤ w.heap.size) (hl : sz a + sz d ≤ 900) :
    Calls Tryz.prog 121 #[.agg #[.int .i64 12, .string ⟨#[]⟩, .int .i64 0], va, vd] w (OutB base (sGoing a d) w) := by
  by_cases g11 : kd a = 11
  · obtain ⟨s, rfl⟩ := kd11 g11
    by_cases hs : s = 1
    · subst hs
      exact going_1 base d va vd w ha hd hb hl
    · have e : sGoing (.over s) d = .fin s .skip := by simp [sGoing, hs]
      rw [e]
      exact going_over base s d va vd w ha hd hs hb hl
  · have e : sGoing a d = .going a d := by cases a <;> first | rfl | exact absurd rfl g11
    rw [e]
    exact going_other base a d va vd w ha hd g11 hb hl
end Go.Proofs.YtpingbiibbmcaaaGreat.Se

namespace Go.Proofs.YtpingbiibbmcaaaGreat.Se
open Go Go.RowKit Go.Proofs.YtpingbiibbmcaaaGreat.Rw Go.Proofs.YtpingbiibbmcaaaGreat.So
set_option maxRecDepth 20000

end Go.Proofs.YtpingbiibbmcaaaGreat.Se

namespace Go.Proofs.YtpingbiibbmcaaaGreat.Pl
open Go Go.RowKit Go.Proofs.YtpingbiibbmcaaaGreat.Rw
set_option maxRecDepth 20000

/-- The float of a whole number. -/
abbrev fo (n : Int) : Nat := floatOfInt .f64 n
/-- A point of whole numbers. -/
def cx (p : Nat × Nat) : Value := .complex .f64 (fo p.1) (fo p.2)
set_option maxHeartbeats 1000000 in
theorem isTreeP_any (v : Value) (l : List Nd) (w : World) (h : Nds w v l) (hl : l.length ≤ 4398046511104) :
    Calls Tryz.prog 129 #[v] w fun e w' => e = .returned (.bool (one l)) ∧ Below w.heap.size w w' := by
  have HN := Lib.hid h
  obtain ⟨_, a, cap, rfl, -⟩ := h
  by_cases h0 : 0 < l.length
  · have HO : Hid (one l = decide (Rw.size l = l.length)) := by
      show _ = _
      unfold one
      rw [decide_eq_true h0, Bool.true_and]
    rw [HO.out]
    obtain ⟨z, hz⟩ : ∃ z, Rw.size l = z := ⟨_, rfl⟩
    have HZ := Lib.hid hz
    rw [hz]
    clear hz
    go_enter Tryz.func129, Tryz.ntmps129
    go_wp2_with fail
    refine (Rx.sizeP_big _ l _ HN.out hl).mono ?_
    rw [HZ.out]
    rintro e w' ⟨rfl, hb⟩
    have HB := Lib.hid hb
    clear hb
    go_wp2_with fail
    go_ret
    refine ⟨ret_bool ?_, HB.out⟩
    rw [Bool.eq_iff_iff]
    simp
    try omega
  · have HO : Hid (one l = false) := by
      show _ = _
      unfold one
      rw [decide_eq_false h0, Bool.false_and]
    rw [HO.out]
    go_enter Tryz.func129, Tryz.ntmps129
    go_wp2_with fail
    go_ret
    exact ⟨rfl, Below.refl _ _⟩
end Go.Proofs.YtpingbiibbmcaaaGreat.Pl

namespace Go.Proofs.YtpingbiibbmcaaaGreat.Mn
open Go Tr

/-- A row that has the actions of both, each in order. -/
inductive Mix : List ByteArray → List ByteArray → List ByteArray → Prop
  | nil : Mix [] [] []
  | l {x : ByteArray} {a b r : List ByteArray} : Mix a b r → Mix (x :: a) b (x :: r)
  | r {y : ByteArray} {a b r : List ByteArray} : Mix a b r → Mix a (y :: b) (y :: r)
theorem one5 (p q : Tr) : one 5 p q = [thn p q] := by unfold one; rw [if_pos rfl]
theorem mem5 {A B : List Tr} {t : Tr} : t ∈ two 5 A B ↔ ∃ p ∈ A, ∃ q ∈ B, t = thn p q := by
  rw [mem_two, if_neg (by decide)]
  simp only [one5, List.mem_singleton]
/-- What does nothing. -/
def bang : Tr := ⟨[], 2⟩
theorem up_one (t : Tr) : Up [t] := List.pairwise_singleton _ _
/-- What a block of a pair does: what the first one does, but for giving way. -/
def want (A : List Tr) : List Tr := A.flatMap fun p => if p.e = 3 then [] else [⟨p.a, 1⟩]
end Go.Proofs.YtpingbiibbmcaaaGreat.Mn
