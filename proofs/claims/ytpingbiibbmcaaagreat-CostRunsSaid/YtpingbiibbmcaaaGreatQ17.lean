/- The program's inTurn: the walks. -/
import Derived.Test.YtpingbiibbmcaaaGreatQ16
import Derived.Deep.RegionHeld3
import Derived.StillTailTactics

namespace Go.Proofs.YtpingbiibbmcaaaGreat.Se
open Go Go.RowKit Go.Proofs.YtpingbiibbmcaaaGreat.Rw Go.Proofs.YtpingbiibbmcaaaGreat.So
set_option maxRecDepth 20000

set_option maxHeartbeats 1000000 in
theorem turn_go (base : Nat) (kk g : Int) (d : Tm) (vA : Value) (vB : Value) (w : World) (hA : NdO base w vA (.over g)) (hB : Nds w vB (flat d)) (PB : Hid (PS d)) (hbs : base ≤ w.heap.size) (hl : sz (.over g) + sz d ≤ 900) :
    Calls Tryz.prog 118 #[.agg #[.int .i64 kk, .string ⟨#[]⟩, .int .i64 0], .int .i64 g, vA, vB] w (OutB base (S d) w) := by
  have HL : Hid (sz (.over g) + sz d ≤ 900) := Lib.hid hl
  have HB := Lib.hid hbs
  have AA := Lib.hid (fun w1 (hb : Below w.heap.size w w1) => hA.below hb)
  obtain ⟨bA, oA, cA, rfl, hcA, hltA, hwA, hatA⟩ := form3 hA.nds
  obtain ⟨nA, hnA⟩ : ∃ n, sz (.over g) = n + 1 := ⟨sz (.over g) - 1, by have := sz_pos (.over g); omega⟩
  rw [hnA] at hcA AA ⊢
  clear hnA
  have g3A : (1 : Int) ≤ (nA : Int) + 1 := by omega
  rw [show kd (.over g) = 11 from rfl, show sg (.over g) = g from rfl, show nmT (.over g) = ⟨#[]⟩ from rfl] at hwA
  have AB := Lib.hid (fun w1 (hb : Below w.heap.size w w1) => hB.below hb)
  obtain ⟨_, adB, cdB, rfl, -⟩ := id hB
  have qe0 : ∀ w, (binOp .eql 39 (.agg #[.int .i64 11, .string ⟨#[]⟩, .int .i64 g]) (.agg #[.int .i64 11, .string ⟨#[]⟩, .int .i64 g])).run Tryz.prog w = .ok (.bool true) w := fun w => by rw [eq_bare]; exact congrArg (fun x => Result.ok (Value.bool x) w) (decide_eq_true rfl)
  unfold OutB
  clear hl hbs hatA hA hB
  go_enter Tryz.func118, Tryz.ntmps118
  go_wp2_with fail
  have BW0 := below1 w (.cells #[.int .i64 kk, .string ⟨#[]⟩, .int .i64 0] 39)
  have BC := box_cells w kk 0 ⟨#[]⟩ 39
  generalize w.alloc (.cells #[.int .i64 kk, .string ⟨#[]⟩, .int .i64 0] 39) = W at BW0 BC ⊢
  have BW := Lib.hid BW0
  have SW : Hid (∀ w', Below W.heap.size W w' → w'.cell? ⟨bA, oA, none⟩ = some (.int .i64 11) ∧ w'.cell? ⟨bA, oA + 1, none⟩ = some (.string ⟨#[]⟩) ∧ w'.cell? ⟨bA, oA + 2, none⟩ = some (.int .i64 g) ∧ w'.cell? ⟨w.heap.size, 0, none⟩ = some (.int .i64 kk) ∧ w'.cell? ⟨w.heap.size, 1, none⟩ = some (.string ⟨#[]⟩) ∧ w'.cell? ⟨w.heap.size, 2, none⟩ = some (.int .i64 0)) := Lib.hid fun w1 hb => by
    obtain ⟨x0, x1, x2⟩ := hwA w1 (BW.out.trans (hb.mono BW.out.size))
    obtain ⟨x3, x4, x5⟩ := BC w1 hb
    exact ⟨x0, x1, x2, x3, x4, x5⟩
  clear BW0 BC hwA
  go_region_held3 (fun w' => w'.cell? ⟨bA, oA, none⟩ = some (.int .i64 11) ∧ w'.cell? ⟨bA, oA + 1, none⟩ = some (.string ⟨#[]⟩) ∧ w'.cell? ⟨bA, oA + 2, none⟩ = some (.int .i64 g) ∧ w'.cell? ⟨w.heap.size, 0, none⟩ = some (.int .i64 kk) ∧ w'.cell? ⟨w.heap.size, 1, none⟩ = some (.string ⟨#[]⟩) ∧ w'.cell? ⟨w.heap.size, 2, none⟩ = some (.int .i64 0)) (first | exact SW.out _ ((Below.refl W.heap.size W)).drew | exact SW.out _ (D1.out).drew | exact SW.out _ (Below.refl W.heap.size W) | exact SW.out _ D1.out | exact SW.out _ (Below.alloc (Below.refl W.heap.size W) ((Below.refl W.heap.size W)).size _) | exact SW.out _ (Below.alloc D1.out (D1.out).size _) | exact SW.out _ (Below.alloc (Below.refl W.heap.size W) ((Below.refl W.heap.size W)).size _).drew | exact SW.out _ (Below.alloc D1.out (D1.out).size _).drew | fail) (first
    | (go_at_call 117
       (with_reducible refine (overP_any g _).mono ?_)
       rintro e w1 ⟨rfl, hb1⟩
       have D1 := Lib.hid ((((Below.refl W.heap.size W)).drew).trans (hb1.mono (((Below.refl W.heap.size W)).drew).size))
       clear hb1)
    | fail)
  go_wp2_with fail
  refine (PB.out _ _ (AB.out _ (BW.out.trans ((D1.out).mono BW.out.size)))).mono ?_
  rintro e w2 ⟨y2, rfl, hn2, hb2⟩
  obtain ⟨_, ay2, cy2, rfl, -⟩ := id hn2
  have D2 := Lib.hid ((D1.out).trans (hb2.mono (D1.out).size))
  have N2 := Lib.hid hn2
  clear hn2 hb2
  go_wp2_with fail
  go_ret
  exact ⟨_, rfl, N2.out.more (Nat.le_trans HB.out (Nat.le_trans BW.out.size D1.out.size)), BW.out.trans ((D2.out).mono BW.out.size)⟩
set_option maxHeartbeats 1000000 in
theorem turn_over (base : Nat) (kk g s : Int) (d : Tm) (vA : Value) (vB : Value) (w : World) (hA : NdO base w vA (.over s)) (hB : Nds w vB (flat d)) (hs : s ≠ g) (hbs : base ≤ w.heap.size) (hl : sz (.over s) + sz d ≤ 900) :
    Calls Tryz.prog 118 #[.agg #[.int .i64 kk, .string ⟨#[]⟩, .int .i64 0], .int .i64 g, vA, vB] w (OutB base (.over s) w) := by
  have HL : Hid (sz (.over s) + sz d ≤ 900) := Lib.hid hl
  have HB := Lib.hid hbs
  have AA := Lib.hid (fun w1 (hb : Below w.heap.size w w1) => hA.below hb)
  obtain ⟨bA, oA, cA, rfl, hcA, hltA, hwA, hatA⟩ := form3 hA.nds
  obtain ⟨nA, hnA⟩ : ∃ n, sz (.over s) = n + 1 := ⟨sz (.over s) - 1, by have := sz_pos (.over s); omega⟩
  rw [hnA] at hcA AA ⊢
  clear hnA
  have g3A : (1 : Int) ≤ (nA : Int) + 1 := by omega
  rw [show kd (.over s) = 11 from rfl, show sg (.over s) = s from rfl, show nmT (.over s) = ⟨#[]⟩ from rfl] at hwA
  have AB := Lib.hid (fun w1 (hb : Below w.heap.size w w1) => hB.below hb)
  obtain ⟨_, adB, cdB, rfl, -⟩ := id hB
  have qe0 : ∀ w, (binOp .eql 39 (.agg #[.int .i64 11, .string ⟨#[]⟩, .int .i64 s]) (.agg #[.int .i64 11, .string ⟨#[]⟩, .int .i64 g])).run Tryz.prog w = .ok (.bool false) w := fun w => by rw [eq_bare]; exact congrArg (fun x => Result.ok (Value.bool x) w) (decide_eq_false (fun e => absurd (congrArg Nd.s e) hs))
  have qe1 : ∀ w, (binOp .eql 39 (.agg #[.int .i64 11, .string ⟨#[]⟩, .int .i64 s]) (.agg #[.int .i64 14, .string ⟨#[]⟩, .int .i64 1])).run Tryz.prog w = .ok (.bool false) w := fun w => by rw [eq_bare]; exact congrArg (fun x => Result.ok (Value.bool x) w) (decide_eq_false (fun e => absurd (congrArg Nd.k e) (by simp)))
  unfold OutB
  clear hl hbs hatA hA hB
  go_enter Tryz.func118, Tryz.ntmps118
  go_wp2_with fail
  have BW0 := below1 w (.cells #[.int .i64 kk, .string ⟨#[]⟩, .int .i64 0] 39)
  have BC := box_cells w kk 0 ⟨#[]⟩ 39
  generalize w.alloc (.cells #[.int .i64 kk, .string ⟨#[]⟩, .int .i64 0] 39) = W at BW0 BC ⊢
  have BW := Lib.hid BW0
  have SW : Hid (∀ w', Below W.heap.size W w' → w'.cell? ⟨bA, oA, none⟩ = some (.int .i64 11) ∧ w'.cell? ⟨bA, oA + 1, none⟩ = some (.string ⟨#[]⟩) ∧ w'.cell? ⟨bA, oA + 2, none⟩ = some (.int .i64 s) ∧ w'.cell? ⟨w.heap.size, 0, none⟩ = some (.int .i64 kk) ∧ w'.cell? ⟨w.heap.size, 1, none⟩ = some (.string ⟨#[]⟩) ∧ w'.cell? ⟨w.heap.size, 2, none⟩ = some (.int .i64 0)) := Lib.hid fun w1 hb => by
    obtain ⟨x0, x1, x2⟩ := hwA w1 (BW.out.trans (hb.mono BW.out.size))
    obtain ⟨x3, x4, x5⟩ := BC w1 hb
    exact ⟨x0, x1, x2, x3, x4, x5⟩
  clear BW0 BC hwA
  go_region_held3 (fun w' => w'.cell? ⟨bA, oA, none⟩ = some (.int .i64 11) ∧ w'.cell? ⟨bA, oA + 1, none⟩ = some (.string ⟨#[]⟩) ∧ w'.cell? ⟨bA, oA + 2, none⟩ = some (.int .i64 s) ∧ w'.cell? ⟨w.heap.size, 0, none⟩ = some (.int .i64 kk) ∧ w'.cell? ⟨w.heap.size, 1, none⟩ = some (.string ⟨#[]⟩) ∧ w'.cell? ⟨w.heap.size, 2, none⟩ = some (.int .i64 0)) (first | exact SW.out _ ((Below.refl W.heap.size W)).drew | exact SW.out _ (D1.out).drew | exact SW.out _ (Below.refl W.heap.size W) | exact SW.out _ D1.out | exact SW.out _ (Below.alloc (Below.refl W.heap.size W) ((Below.refl W.heap.size W)).size _) | exact SW.out _ (Below.alloc D1.out (D1.out).size _) | exact SW.out _ (Below.alloc (Below.refl W.heap.size W) ((Below.refl W.heap.size W)).size _).drew | exact SW.out _ (Below.alloc D1.out (D1.out).size _).drew | fail) (first
    | (go_at_call 117
       (with_reducible refine (overP_any g _).mono ?_)
       rintro e w1 ⟨rfl, hb1⟩
       have D1 := Lib.hid ((((Below.refl W.heap.size W)).drew).trans (hb1.mono (((Below.refl W.heap.size W)).drew).size))
       clear hb1)
    | fail)
  go_wp2_with fail
  go_region_held3 (fun w' => w'.cell? ⟨bA, oA, none⟩ = some (.int .i64 11) ∧ w'.cell? ⟨bA, oA + 1, none⟩ = some (.string ⟨#[]⟩) ∧ w'.cell? ⟨bA, oA + 2, none⟩ = some (.int .i64 s) ∧ w'.cell? ⟨w.heap.size, 0, none⟩ = some (.int .i64 kk) ∧ w'.cell? ⟨w.heap.size, 1, none⟩ = some (.string ⟨#[]⟩) ∧ w'.cell? ⟨w.heap.size, 2, none⟩ = some (.int .i64 0)) (first | exact SW.out _ (D1.out).drew | exact SW.out _ (D2.out).drew | exact SW.out _ D1.out | exact SW.out _ D2.out | exact SW.out _ (Below.alloc D1.out (D1.out).size _) | exact SW.out _ (Below.alloc D2.out (D2.out).size _) | exact SW.out _ (Below.alloc D1.out (D1.out).size _).drew | exact SW.out _ (Below.alloc D2.out (D2.out).size _).drew | fail) (first
    | (go_at_call 126
       (with_reducible refine (endP_any 1 _).mono ?_)
       rintro e w2 ⟨rfl, hb2⟩
       have D2 := Lib.hid (((D1.out).drew).trans (hb2.mono ((D1.out).drew).size))
       clear hb2)
    | fail)
  go_wp2_with fail
  go_ret
  exact ⟨_, rfl, AA.out _ (BW.out.trans ((D2.out).mono BW.out.size)), BW.out.trans ((D2.out).mono BW.out.size)⟩
set_option maxHeartbeats 1000000 in
theorem turn_other (base : Nat) (kk g : Int) (t a d : Tm) (vA : Value) (vB : Value) (w : World) (hA : NdO base w vA a) (hB : Nds w vB (flat d)) (qA11 : kd a ≠ 11) (qA14 : kd a ≠ 14) (ht : Hid (flat t = ⟨kk, ⟨#[]⟩, 0⟩ :: (flat a ++ flat d))) (hz : sz t ≤ 1000) (hbs : base ≤ w.heap.size) (hl : sz a + sz d ≤ 900) :
    Calls Tryz.prog 118 #[.agg #[.int .i64 kk, .string ⟨#[]⟩, .int .i64 0], .int .i64 g, vA, vB] w (OutB base (t) w) := by
  have HL : Hid (sz a + sz d ≤ 900) := Lib.hid hl
  have HB := Lib.hid hbs
  have AA := Lib.hid (fun w1 (hb : Below w.heap.size w w1) => hA.below hb)
  obtain ⟨bA, oA, cA, rfl, hcA, hltA, hwA, hatA⟩ := form3 hA.nds
  obtain ⟨nA, hnA⟩ : ∃ n, sz a = n + 1 := ⟨sz a - 1, by have := sz_pos a; omega⟩
  rw [hnA] at hcA AA ⊢
  clear hnA
  have g3A : (1 : Int) ≤ (nA : Int) + 1 := by omega
  have fA11 : (kd a == 11) = false := by rw [beq_eq_false_iff_ne]; exact qA11
  have fA14 : (kd a == 14) = false := by rw [beq_eq_false_iff_ne]; exact qA14
  obtain ⟨kA, hkA⟩ : ∃ k, kd a = k := ⟨_, rfl⟩
  obtain ⟨sA, hsA⟩ : ∃ s, sg a = s := ⟨_, rfl⟩
  obtain ⟨mA, hmA⟩ : ∃ m, nmT a = m := ⟨_, rfl⟩
  rw [hkA] at hwA fA11 qA11 fA14 qA14
  rw [hsA, hmA] at hwA
  clear hkA hsA hmA
  have AB := Lib.hid (fun w1 (hb : Below w.heap.size w w1) => hB.below hb)
  obtain ⟨_, adB, cdB, rfl, -⟩ := id hB
  have qe0 : ∀ w, (binOp .eql 39 (.agg #[.int .i64 kA, .string mA, .int .i64 sA]) (.agg #[.int .i64 11, .string ⟨#[]⟩, .int .i64 g])).run Tryz.prog w = .ok (.bool false) w := fun w => by rw [eq_bare]; exact congrArg (fun x => Result.ok (Value.bool x) w) (decide_eq_false (fun e => absurd (congrArg Nd.k e) qA11))
  have qe1 : ∀ w, (binOp .eql 39 (.agg #[.int .i64 kA, .string mA, .int .i64 sA]) (.agg #[.int .i64 14, .string ⟨#[]⟩, .int .i64 1])).run Tryz.prog w = .ok (.bool false) w := fun w => by rw [eq_bare]; exact congrArg (fun x => Result.ok (Value.bool x) w) (decide_eq_false (fun e => absurd (congrArg Nd.k e) qA14))
  unfold OutB
  clear hl hbs qA11 qA14 hatA hA hB
  go_enter Tryz.func118, Tryz.ntmps118
  go_wp2_with fail
  have BW0 := below1 w (.cells #[.int .i64 kk, .string ⟨#[]⟩, .int .i64 0] 39)
  have BC := box_cells w kk 0 ⟨#[]⟩ 39
  generalize w.alloc (.cells #[.int .i64 kk, .string ⟨#[]⟩, .int .i64 0] 39) = W at BW0 BC ⊢
  have BW := Lib.hid BW0
  have SW : Hid (∀ w', Below W.heap.size W w' → w'.cell? ⟨bA, oA, none⟩ = some (.int .i64 kA) ∧ w'.cell? ⟨bA, oA + 1, none⟩ = some (.string mA) ∧ w'.cell? ⟨bA, oA + 2, none⟩ = some (.int .i64 sA) ∧ w'.cell? ⟨w.heap.size, 0, none⟩ = some (.int .i64 kk) ∧ w'.cell? ⟨w.heap.size, 1, none⟩ = some (.string ⟨#[]⟩) ∧ w'.cell? ⟨w.heap.size, 2, none⟩ = some (.int .i64 0)) := Lib.hid fun w1 hb => by
    obtain ⟨x0, x1, x2⟩ := hwA w1 (BW.out.trans (hb.mono BW.out.size))
    obtain ⟨x3, x4, x5⟩ := BC w1 hb
    exact ⟨x0, x1, x2, x3, x4, x5⟩
  clear BW0 BC hwA
  go_region_held3 (fun w' => w'.cell? ⟨bA, oA, none⟩ = some (.int .i64 kA) ∧ w'.cell? ⟨bA, oA + 1, none⟩ = some (.string mA) ∧ w'.cell? ⟨bA, oA + 2, none⟩ = some (.int .i64 sA) ∧ w'.cell? ⟨w.heap.size, 0, none⟩ = some (.int .i64 kk) ∧ w'.cell? ⟨w.heap.size, 1, none⟩ = some (.string ⟨#[]⟩) ∧ w'.cell? ⟨w.heap.size, 2, none⟩ = some (.int .i64 0)) (first | exact SW.out _ ((Below.refl W.heap.size W)).drew | exact SW.out _ (D1.out).drew | exact SW.out _ (Below.refl W.heap.size W) | exact SW.out _ D1.out | exact SW.out _ (Below.alloc (Below.refl W.heap.size W) ((Below.refl W.heap.size W)).size _) | exact SW.out _ (Below.alloc D1.out (D1.out).size _) | exact SW.out _ (Below.alloc (Below.refl W.heap.size W) ((Below.refl W.heap.size W)).size _).drew | exact SW.out _ (Below.alloc D1.out (D1.out).size _).drew | fail) (first
    | (go_at_call 117
       (with_reducible refine (overP_any g _).mono ?_)
       rintro e w1 ⟨rfl, hb1⟩
       have D1 := Lib.hid ((((Below.refl W.heap.size W)).drew).trans (hb1.mono (((Below.refl W.heap.size W)).drew).size))
       clear hb1)
    | fail)
  go_wp2_with fail
  go_region_held3 (fun w' => w'.cell? ⟨bA, oA, none⟩ = some (.int .i64 kA) ∧ w'.cell? ⟨bA, oA + 1, none⟩ = some (.string mA) ∧ w'.cell? ⟨bA, oA + 2, none⟩ = some (.int .i64 sA) ∧ w'.cell? ⟨w.heap.size, 0, none⟩ = some (.int .i64 kk) ∧ w'.cell? ⟨w.heap.size, 1, none⟩ = some (.string ⟨#[]⟩) ∧ w'.cell? ⟨w.heap.size, 2, none⟩ = some (.int .i64 0)) (first | exact SW.out _ (D1.out).drew | exact SW.out _ (D2.out).drew | exact SW.out _ D1.out | exact SW.out _ D2.out | exact SW.out _ (Below.alloc D1.out (D1.out).size _) | exact SW.out _ (Below.alloc D2.out (D2.out).size _) | exact SW.out _ (Below.alloc D1.out (D1.out).size _).drew | exact SW.out _ (Below.alloc D2.out (D2.out).size _).drew | fail) (first
    | (go_at_call 126
       (with_reducible refine (endP_any 1 _).mono ?_)
       rintro e w2 ⟨rfl, hb2⟩
       have D2 := Lib.hid (((D1.out).drew).trans (hb2.mono ((D1.out).drew).size))
       clear hb2)
    | fail)
  go_wp2_with fail
  refine (mkP2 base kk 0 t a d ht.out _ _ _ _ (AA.out _ (BW.out.trans ((D2.out).mono BW.out.size))).nds (AB.out _ (BW.out.trans ((D2.out).mono BW.out.size))) hz (Nat.le_trans HB.out (Nat.le_trans BW.out.size D2.out.size))).mono ?_
  rintro e w3 ⟨y3, rfl, hn3, hb3⟩
  obtain ⟨_, ay3, cy3, rfl, -⟩ := id hn3
  have D3 := Lib.hid ((D2.out).trans (hb3.mono (D2.out).size))
  have N3 := Lib.hid hn3
  clear hn3 hb3
  go_wp2_with fail
  go_ret
  exact ⟨_, rfl, N3.out, BW.out.trans ((D3.out).mono BW.out.size)⟩
set_option maxHeartbeats 1000000 in
theorem turn5_fin (base : Nat) (s : Int) (c d : Tm) (vA : Value) (vB : Value) (w : World) (hA : NdO base w vA (.fin s c)) (hB : Nds w vB (flat d)) (hs : s ≠ 1) (hbs : base ≤ w.heap.size) (hl : sz (.fin s c) + sz d ≤ 900) :
    Calls Tryz.prog 118 #[.agg #[.int .i64 5, .string ⟨#[]⟩, .int .i64 0], .int .i64 1, vA, vB] w (OutB base (.fin s c) w) := by
  have HL : Hid (sz (.fin s c) + sz d ≤ 900) := Lib.hid hl
  have HB := Lib.hid hbs
  have AA := Lib.hid (fun w1 (hb : Below w.heap.size w w1) => hA.below hb)
  obtain ⟨bA, oA, cA, rfl, hcA, hltA, hwA, hatA⟩ := form3 hA.nds
  have TA := Lib.hid (fun w1 (hb : Below w.heap.size w w1) => (tail_fin hatA hcA).below hb)
  have hzA : sz (.fin s c) = sz c + 1 := rfl
  rw [hzA] at hcA AA ⊢
  obtain ⟨nA, hnA⟩ : ∃ n, sz c = n := ⟨_, rfl⟩
  have hqA := sz_pos c
  rw [hnA] at hcA TA AA hqA ⊢
  have g2A : ¬ cA = 1 := by omega
  clear hnA hzA
  have g3A : (1 : Int) ≤ (nA : Int) + 1 := by omega
  rw [show kd (.fin s c) = 14 from rfl, show sg (.fin s c) = s from rfl, show nmT (.fin s c) = ⟨#[]⟩ from rfl] at hwA
  have AB := Lib.hid (fun w1 (hb : Below w.heap.size w w1) => hB.below hb)
  obtain ⟨_, adB, cdB, rfl, -⟩ := id hB
  have qe0 : ∀ w, (binOp .eql 39 (.agg #[.int .i64 14, .string ⟨#[]⟩, .int .i64 s]) (.agg #[.int .i64 11, .string ⟨#[]⟩, .int .i64 1])).run Tryz.prog w = .ok (.bool false) w := fun w => by rw [eq_bare]; exact congrArg (fun x => Result.ok (Value.bool x) w) (decide_eq_false (fun e => absurd (congrArg Nd.k e) (by simp)))
  have qe1 : ∀ w, (binOp .eql 39 (.agg #[.int .i64 14, .string ⟨#[]⟩, .int .i64 s]) (.agg #[.int .i64 14, .string ⟨#[]⟩, .int .i64 1])).run Tryz.prog w = .ok (.bool false) w := fun w => by rw [eq_bare]; exact congrArg (fun x => Result.ok (Value.bool x) w) (decide_eq_false (fun e => absurd (congrArg Nd.s e) hs))
  unfold OutB
  clear hl hbs hatA hA hB
  go_enter Tryz.func118, Tryz.ntmps118
  go_wp2_with fail
  have BW0 := below1 w (.cells #[.int .i64 5, .string ⟨#[]⟩, .int .i64 0] 39)
  have BC := box_cells w 5 0 ⟨#[]⟩ 39
  generalize w.alloc (.cells #[.int .i64 5, .string ⟨#[]⟩, .int .i64 0] 39) = W at BW0 BC ⊢
  have BW := Lib.hid BW0
  have SW : Hid (∀ w', Below W.heap.size W w' → w'.cell? ⟨bA, oA, none⟩ = some (.int .i64 14) ∧ w'.cell? ⟨bA, oA + 1, none⟩ = some (.string ⟨#[]⟩) ∧ w'.cell? ⟨bA, oA + 2, none⟩ = some (.int .i64 s) ∧ w'.cell? ⟨w.heap.size, 0, none⟩ = some (.int .i64 5) ∧ w'.cell? ⟨w.heap.size, 1, none⟩ = some (.string ⟨#[]⟩) ∧ w'.cell? ⟨w.heap.size, 2, none⟩ = some (.int .i64 0)) := Lib.hid fun w1 hb => by
    obtain ⟨x0, x1, x2⟩ := hwA w1 (BW.out.trans (hb.mono BW.out.size))
    obtain ⟨x3, x4, x5⟩ := BC w1 hb
    exact ⟨x0, x1, x2, x3, x4, x5⟩
  clear BW0 BC hwA
  go_region_held3 (fun w' => w'.cell? ⟨bA, oA, none⟩ = some (.int .i64 14) ∧ w'.cell? ⟨bA, oA + 1, none⟩ = some (.string ⟨#[]⟩) ∧ w'.cell? ⟨bA, oA + 2, none⟩ = some (.int .i64 s) ∧ w'.cell? ⟨w.heap.size, 0, none⟩ = some (.int .i64 5) ∧ w'.cell? ⟨w.heap.size, 1, none⟩ = some (.string ⟨#[]⟩) ∧ w'.cell? ⟨w.heap.size, 2, none⟩ = some (.int .i64 0)) (first | exact SW.out _ ((Below.refl W.heap.size W)).drew | exact SW.out _ (D1.out).drew | exact SW.out _ (Below.refl W.heap.size W) | exact SW.out _ D1.out | exact SW.out _ (Below.alloc (Below.refl W.heap.size W) ((Below.refl W.heap.size W)).size _) | exact SW.out _ (Below.alloc D1.out (D1.out).size _) | exact SW.out _ (Below.alloc (Below.refl W.heap.size W) ((Below.refl W.heap.size W)).size _).drew | exact SW.out _ (Below.alloc D1.out (D1.out).size _).drew | fail) (first
    | (go_at_call 117
       (with_reducible refine (overP_any 1 _).mono ?_)
       rintro e w1 ⟨rfl, hb1⟩
       have D1 := Lib.hid ((((Below.refl W.heap.size W)).drew).trans (hb1.mono (((Below.refl W.heap.size W)).drew).size))
       clear hb1)
    | fail)
  go_wp2_with fail
  go_region_held3 (fun w' => w'.cell? ⟨bA, oA, none⟩ = some (.int .i64 14) ∧ w'.cell? ⟨bA, oA + 1, none⟩ = some (.string ⟨#[]⟩) ∧ w'.cell? ⟨bA, oA + 2, none⟩ = some (.int .i64 s) ∧ w'.cell? ⟨w.heap.size, 0, none⟩ = some (.int .i64 5) ∧ w'.cell? ⟨w.heap.size, 1, none⟩ = some (.string ⟨#[]⟩) ∧ w'.cell? ⟨w.heap.size, 2, none⟩ = some (.int .i64 0)) (first | exact SW.out _ (D1.out).drew | exact SW.out _ (D2.out).drew | exact SW.out _ D1.out | exact SW.out _ D2.out | exact SW.out _ (Below.alloc D1.out (D1.out).size _) | exact SW.out _ (Below.alloc D2.out (D2.out).size _) | exact SW.out _ (Below.alloc D1.out (D1.out).size _).drew | exact SW.out _ (Below.alloc D2.out (D2.out).size _).drew | fail) (first
    | (go_at_call 126
       (with_reducible refine (endP_any 1 _).mono ?_)
       rintro e w2 ⟨rfl, hb2⟩
       have D2 := Lib.hid (((D1.out).drew).trans (hb2.mono ((D1.out).drew).size))
       clear hb2)
    | fail)
  go_wp2_with fail
  go_ret
  exact ⟨_, rfl, AA.out _ (BW.out.trans ((D2.out).mono BW.out.size)), BW.out.trans ((D2.out).mono BW.out.size)⟩
set_option maxHeartbeats 1000000 in
theorem turn5_fin1 (base : Nat) (c d : Tm) (vA : Value) (vB : Value) (w : World) (hA : NdO base w vA (.fin 1 c)) (hB : Nds w vB (flat d)) (PB : Hid (PS d)) (hbs : base ≤ w.heap.size) (hl : sz (.fin 1 c) + sz d ≤ 900) :
    Calls Tryz.prog 118 #[.agg #[.int .i64 5, .string ⟨#[]⟩, .int .i64 0], .int .i64 1, vA, vB] w (OutB base (stk (S d) c) w) := by
  have HL : Hid (sz (.fin 1 c) + sz d ≤ 900) := Lib.hid hl
  have HB := Lib.hid hbs
  have AA := Lib.hid (fun w1 (hb : Below w.heap.size w w1) => hA.below hb)
  obtain ⟨bA, oA, cA, rfl, hcA, hltA, hwA, hatA⟩ := form3 hA.nds
  have TA := Lib.hid (fun w1 (hb : Below w.heap.size w w1) => (tail_fin hatA hcA).below hb)
  have hzA : sz (.fin 1 c) = sz c + 1 := rfl
  rw [hzA] at hcA AA ⊢
  obtain ⟨nA, hnA⟩ : ∃ n, sz c = n := ⟨_, rfl⟩
  have hqA := sz_pos c
  rw [hnA] at hcA TA AA hqA ⊢
  have g2A : ¬ cA = 1 := by omega
  clear hnA hzA
  have g3A : (1 : Int) ≤ (nA : Int) + 1 := by omega
  rw [show kd (.fin 1 c) = 14 from rfl, show sg (.fin 1 c) = 1 from rfl, show nmT (.fin 1 c) = ⟨#[]⟩ from rfl] at hwA
  have AB := Lib.hid (fun w1 (hb : Below w.heap.size w w1) => hB.below hb)
  obtain ⟨_, adB, cdB, rfl, -⟩ := id hB
  have qe0 : ∀ w, (binOp .eql 39 (.agg #[.int .i64 14, .string ⟨#[]⟩, .int .i64 1]) (.agg #[.int .i64 11, .string ⟨#[]⟩, .int .i64 1])).run Tryz.prog w = .ok (.bool false) w := fun w => by rw [eq_bare]; exact congrArg (fun x => Result.ok (Value.bool x) w) (decide_eq_false (fun e => absurd (congrArg Nd.k e) (by simp)))
  have qe1 : ∀ w, (binOp .eql 39 (.agg #[.int .i64 14, .string ⟨#[]⟩, .int .i64 1]) (.agg #[.int .i64 14, .string ⟨#[]⟩, .int .i64 1])).run Tryz.prog w = .ok (.bool true) w := fun w => by rw [eq_bare]; exact congrArg (fun x => Result.ok (Value.bool x) w) (decide_eq_true rfl)
  unfold OutB
  clear hl hbs hatA hA hB
  go_enter Tryz.func118, Tryz.ntmps118
  go_wp2_with fail
  have BW0 := below1 w (.cells #[.int .i64 5, .string ⟨#[]⟩, .int .i64 0] 39)
  have BC := box_cells w 5 0 ⟨#[]⟩ 39
  generalize w.alloc (.cells #[.int .i64 5, .string ⟨#[]⟩, .int .i64 0] 39) = W at BW0 BC ⊢
  have BW := Lib.hid BW0
  have SW : Hid (∀ w', Below W.heap.size W w' → w'.cell? ⟨bA, oA, none⟩ = some (.int .i64 14) ∧ w'.cell? ⟨bA, oA + 1, none⟩ = some (.string ⟨#[]⟩) ∧ w'.cell? ⟨bA, oA + 2, none⟩ = some (.int .i64 1) ∧ w'.cell? ⟨w.heap.size, 0, none⟩ = some (.int .i64 5) ∧ w'.cell? ⟨w.heap.size, 1, none⟩ = some (.string ⟨#[]⟩) ∧ w'.cell? ⟨w.heap.size, 2, none⟩ = some (.int .i64 0)) := Lib.hid fun w1 hb => by
    obtain ⟨x0, x1, x2⟩ := hwA w1 (BW.out.trans (hb.mono BW.out.size))
    obtain ⟨x3, x4, x5⟩ := BC w1 hb
    exact ⟨x0, x1, x2, x3, x4, x5⟩
  clear BW0 BC hwA
  go_region_held3 (fun w' => w'.cell? ⟨bA, oA, none⟩ = some (.int .i64 14) ∧ w'.cell? ⟨bA, oA + 1, none⟩ = some (.string ⟨#[]⟩) ∧ w'.cell? ⟨bA, oA + 2, none⟩ = some (.int .i64 1) ∧ w'.cell? ⟨w.heap.size, 0, none⟩ = some (.int .i64 5) ∧ w'.cell? ⟨w.heap.size, 1, none⟩ = some (.string ⟨#[]⟩) ∧ w'.cell? ⟨w.heap.size, 2, none⟩ = some (.int .i64 0)) (first | exact SW.out _ ((Below.refl W.heap.size W)).drew | exact SW.out _ (D1.out).drew | exact SW.out _ (Below.refl W.heap.size W) | exact SW.out _ D1.out | exact SW.out _ (Below.alloc (Below.refl W.heap.size W) ((Below.refl W.heap.size W)).size _) | exact SW.out _ (Below.alloc D1.out (D1.out).size _) | exact SW.out _ (Below.alloc (Below.refl W.heap.size W) ((Below.refl W.heap.size W)).size _).drew | exact SW.out _ (Below.alloc D1.out (D1.out).size _).drew | fail) (first
    | (go_at_call 117
       (with_reducible refine (overP_any 1 _).mono ?_)
       rintro e w1 ⟨rfl, hb1⟩
       have D1 := Lib.hid ((((Below.refl W.heap.size W)).drew).trans (hb1.mono (((Below.refl W.heap.size W)).drew).size))
       clear hb1)
    | fail)
  go_wp2_with fail
  go_region_held3 (fun w' => w'.cell? ⟨bA, oA, none⟩ = some (.int .i64 14) ∧ w'.cell? ⟨bA, oA + 1, none⟩ = some (.string ⟨#[]⟩) ∧ w'.cell? ⟨bA, oA + 2, none⟩ = some (.int .i64 1) ∧ w'.cell? ⟨w.heap.size, 0, none⟩ = some (.int .i64 5) ∧ w'.cell? ⟨w.heap.size, 1, none⟩ = some (.string ⟨#[]⟩) ∧ w'.cell? ⟨w.heap.size, 2, none⟩ = some (.int .i64 0)) (first | exact SW.out _ (D1.out).drew | exact SW.out _ (D2.out).drew | exact SW.out _ D1.out | exact SW.out _ D2.out | exact SW.out _ (Below.alloc D1.out (D1.out).size _) | exact SW.out _ (Below.alloc D2.out (D2.out).size _) | exact SW.out _ (Below.alloc D1.out (D1.out).size _).drew | exact SW.out _ (Below.alloc D2.out (D2.out).size _).drew | fail) (first
    | (go_at_call 126
       (with_reducible refine (endP_any 1 _).mono ?_)
       rintro e w2 ⟨rfl, hb2⟩
       have D2 := Lib.hid (((D1.out).drew).trans (hb2.mono ((D1.out).drew).size))
       clear hb2)
    | fail)
  go_wp2_with fail
  go_region_held3 (fun w' => w'.cell? ⟨bA, oA, none⟩ = some (.int .i64 14) ∧ w'.cell? ⟨bA, oA + 1, none⟩ = some (.string ⟨#[]⟩) ∧ w'.cell? ⟨bA, oA + 2, none⟩ = some (.int .i64 1) ∧ w'.cell? ⟨w.heap.size, 0, none⟩ = some (.int .i64 5) ∧ w'.cell? ⟨w.heap.size, 1, none⟩ = some (.string ⟨#[]⟩) ∧ w'.cell? ⟨w.heap.size, 2, none⟩ = some (.int .i64 0)) (first | exact SW.out _ (D2.out).drew | exact SW.out _ (D3.out).drew | exact SW.out _ (D4.out).drew | exact SW.out _ D2.out | exact SW.out _ D3.out | exact SW.out _ D4.out | exact SW.out _ (Below.alloc D2.out (D2.out).size _) | exact SW.out _ (Below.alloc D3.out (D3.out).size _) | exact SW.out _ (Below.alloc D4.out (D4.out).size _) | exact SW.out _ (Below.alloc D2.out (D2.out).size _).drew | exact SW.out _ (Below.alloc D3.out (D3.out).size _).drew | exact SW.out _ (Below.alloc D4.out (D4.out).size _).drew | fail) (first
    | (go_at_call 92
       (with_reducible refine (PB.out _ _ (AB.out _ (BW.out.trans ((D2.out.drew).mono BW.out.size)))).mono ?_)
       rintro e w3 ⟨y3, rfl, hn3, hb3⟩
       obtain ⟨_, ay3, cy3, rfl, -⟩ := id hn3
       have D3 := Lib.hid (((D2.out).drew).trans (hb3.mono ((D2.out).drew).size))
       have N3 := Lib.hid hn3
       clear hn3 hb3)
    | (go_at_call 122
       (with_reducible refine (stackedP_any base (S d) c _ _ _ N3.out.nds (TA.out _ (BW.out.trans (D3.out.mono BW.out.size))) (Nat.le_trans HB.out (Nat.le_trans BW.out.size D3.out.size)) (by have := HL.out; have := S_sz d; simp only [sz] at *; omega)).mono ?_)
       rintro e w4 ⟨y4, rfl, hn4, hb4⟩
       obtain ⟨_, ay4, cy4, rfl, -⟩ := id hn4
       have D4 := Lib.hid ((D3.out).trans (hb4.mono (D3.out).size))
       have N4 := Lib.hid hn4
       clear hn4 hb4)
    | fail)
  go_wp2_with fail
  go_ret
  exact ⟨_, rfl, N4.out, BW.out.trans ((D4.out).mono BW.out.size)⟩
theorem turn5P_any (base : Nat) (a d : Tm) (va vd : Value) (w : World) (ha : NdO base w va a) (hd : Nds w vd (flat d)) (PB : PS d) (hb : base ≤ w.heap.size) (hl : sz a + sz d ≤ 900) :
    Calls Tryz.prog 118 #[.agg #[.int .i64 5, .string ⟨#[]⟩, .int .i64 0], .int .i64 1, va, vd] w (OutB base (sSeq S a d) w) := by
  by_cases g11 : kd a = 11
  · obtain ⟨s, rfl⟩ := kd11 g11
    by_cases hs : s = 1
    · subst hs
      exact turn_go base 5 1 d va vd w ha hd (Lib.hid PB) hb hl
    · have e : sSeq S (.over s) d = .over s := by simp [sSeq, hs]
      rw [e]
      exact turn_over base 5 1 s d va vd w ha hd hs hb hl
  · by_cases g14 : kd a = 14
    · obtain ⟨s, c, rfl⟩ := kd14 g14
      by_cases hs : s = 1
      · subst hs
        exact turn5_fin1 base c d va vd w ha hd (Lib.hid PB) hb hl
      · have e : sSeq S (.fin s c) d = .fin s c := by simp [sSeq, hs]
        rw [e]
        exact turn5_fin base s c d va vd w ha hd hs hb hl
    · have e : sSeq S a d = .seq a d := by cases a <;> first | rfl | exact absurd rfl g11 | exact absurd rfl g14
      rw [e]
      exact turn_other base 5 1 (.seq a d) a d va vd w ha hd g11 g14 (Lib.hid rfl) (by simp only [sz]; omega) hb hl
theorem turn8P_any (base : Nat) (a d : Tm) (va vd : Value) (w : World) (ha : NdO base w va a) (hd : Nds w vd (flat d)) (PB : PS d) (g14 : kd a ≠ 14) (hb : base ≤ w.heap.size) (hl : sz a + sz d ≤ 900) :
    Calls Tryz.prog 118 #[.agg #[.int .i64 8, .string ⟨#[]⟩, .int .i64 0], .int .i64 2, va, vd] w (OutB base (sHand S a d) w) := by
  by_cases g11 : kd a = 11
  · obtain ⟨s, rfl⟩ := kd11 g11
    by_cases hs : s = 2
    · subst hs
      exact turn_go base 8 2 d va vd w ha hd (Lib.hid PB) hb hl
    · have e : sHand S (.over s) d = .over s := by simp [sHand, hs]
      rw [e]
      exact turn_over base 8 2 s d va vd w ha hd hs hb hl
  · have e : sHand S a d = .hand a d := by cases a <;> first | rfl | exact absurd rfl g11 | exact absurd rfl g14
    rw [e]
    exact turn_other base 8 2 (.hand a d) a d va vd w ha hd g11 g14 (Lib.hid rfl) (by simp only [sz]; omega) hb hl
end Go.Proofs.YtpingbiibbmcaaaGreat.Se
