/- The statements' own act, few, waits, stuck: the walks. -/
import Derived.Test.YtgaediondmdnbaaQ13
import Derived.Test.YtgaediondmdnbaaQ10

namespace Go.Proofs.Ytgaediondmdnbaa.Se
open Go Go.RowKit Go.Proofs.Ytgaediondmdnbaa.Rw Go.Proofs.Ytgaediondmdnbaa.So
set_option maxRecDepth 20000

theorem isQ_nd (a : Tm) : decide ((⟨kd a, nmT a, sg a⟩ : Nd) = ⟨14, ⟨#[]⟩, 3⟩) = isQuery a := by
  by_cases h : kd a = 14
  · obtain ⟨s, c, rfl⟩ := kd14 h
    show decide ((⟨14, ⟨#[]⟩, s⟩ : Nd) = ⟨14, ⟨#[]⟩, 3⟩) = (s == 3)
    by_cases h3 : s = 3
    · subst h3
      rfl
    · rw [decide_eq_false (fun e => h3 (congrArg Nd.s e))]
      exact (beq_eq_false_iff_ne.2 h3).symm
  · rw [decide_eq_false (fun e => h (congrArg Nd.k e))]
    cases a <;> first | rfl | exact absurd rfl h
abbrev Wwaits (t : Tm) : Prop := ∀ (v : Value) (w : World), Nds w v (flat t) → Calls Try.prog 19 #[v] w fun e w' => e = .returned (.bool (waits t)) ∧ Below w.heap.size w w'
set_option maxHeartbeats 1000000 in
theorem waits_act (s : ByteArray) (va : Value) (w : World) (hA : Nds w va (flat (.act s))) (hl : sz (.act s) ≤ 400) :
    Calls Try.prog 19 #[va] w fun e w' => e = .returned (.bool (true)) ∧ Below w.heap.size w w' := by
  have KK := Rw.kidsR_any va (flat (.act s)) w hA (by rw [flat_len]; omega)
  rw [show kids (flat (.act s)) = [] from rfl] at KK
  obtain ⟨bA, oA, cA, rfl, hcA, hltA, hwA, hatA⟩ := form hA
  obtain ⟨nA, hnA⟩ : ∃ n, sz (.act s) = n + 1 := ⟨sz (.act s) - 1, by have := sz_pos (.act s); omega⟩
  rw [hnA] at hcA KK ⊢
  have g3A : (1 : Int) ≤ (nA : Int) + 1 := by omega
  rw [show kd (.act s) = 1 from rfl] at hwA
  have SA := Lib.hid hwA
  have HK := Lib.hid KK
  clear hnA hatA hA hwA KK hl
  go_enter Try.func19, Try.ntmps19
  go_wp2_with fail
  refine HK.out.mono ?_
  rintro e wc ⟨y, rfl, hks, hb0⟩
  obtain ⟨cs, hRd, -⟩ := hks
  obtain ⟨_, ak, ck, rfl, -⟩ := hRd
  have B0 := Lib.hid hb0
  have e0 := (SA.out _ hb0).1
  clear hb0
  go_wp2_with fail
  go_ret
  exact ⟨rfl, B0.out⟩
set_option maxHeartbeats 1000000 in
theorem waits_skip  (va : Value) (w : World) (hA : Nds w va (flat .skip)) (hl : sz .skip ≤ 400) :
    Calls Try.prog 19 #[va] w fun e w' => e = .returned (.bool (false)) ∧ Below w.heap.size w w' := by
  have KK := Rw.kidsR_any va (flat .skip) w hA (by rw [flat_len]; omega)
  rw [show kids (flat .skip) = [] from rfl] at KK
  obtain ⟨bA, oA, cA, rfl, hcA, hltA, hwA, hatA⟩ := form hA
  obtain ⟨nA, hnA⟩ : ∃ n, sz .skip = n + 1 := ⟨sz .skip - 1, by have := sz_pos .skip; omega⟩
  rw [hnA] at hcA KK ⊢
  have g3A : (1 : Int) ≤ (nA : Int) + 1 := by omega
  rw [show kd .skip = 2 from rfl] at hwA
  have SA := Lib.hid hwA
  have HK := Lib.hid KK
  clear hnA hatA hA hwA KK hl
  go_enter Try.func19, Try.ntmps19
  go_wp2_with fail
  refine HK.out.mono ?_
  rintro e wc ⟨y, rfl, hks, hb0⟩
  obtain ⟨cs, hRd, -⟩ := hks
  obtain ⟨_, ak, ck, rfl, -⟩ := hRd
  have B0 := Lib.hid hb0
  have e0 := (SA.out _ hb0).1
  clear hb0
  go_wp2_with fail
  go_ret
  exact ⟨rfl, B0.out⟩
set_option maxHeartbeats 1000000 in
theorem waits_throw  (va : Value) (w : World) (hA : Nds w va (flat .throw)) (hl : sz .throw ≤ 400) :
    Calls Try.prog 19 #[va] w fun e w' => e = .returned (.bool (false)) ∧ Below w.heap.size w w' := by
  have KK := Rw.kidsR_any va (flat .throw) w hA (by rw [flat_len]; omega)
  rw [show kids (flat .throw) = [] from rfl] at KK
  obtain ⟨bA, oA, cA, rfl, hcA, hltA, hwA, hatA⟩ := form hA
  obtain ⟨nA, hnA⟩ : ∃ n, sz .throw = n + 1 := ⟨sz .throw - 1, by have := sz_pos .throw; omega⟩
  rw [hnA] at hcA KK ⊢
  have g3A : (1 : Int) ≤ (nA : Int) + 1 := by omega
  rw [show kd .throw = 3 from rfl] at hwA
  have SA := Lib.hid hwA
  have HK := Lib.hid KK
  clear hnA hatA hA hwA KK hl
  go_enter Try.func19, Try.ntmps19
  go_wp2_with fail
  refine HK.out.mono ?_
  rintro e wc ⟨y, rfl, hks, hb0⟩
  obtain ⟨cs, hRd, -⟩ := hks
  obtain ⟨_, ak, ck, rfl, -⟩ := hRd
  have B0 := Lib.hid hb0
  have e0 := (SA.out _ hb0).1
  clear hb0
  go_wp2_with fail
  go_ret
  exact ⟨rfl, B0.out⟩
set_option maxHeartbeats 1000000 in
theorem waits_yield  (va : Value) (w : World) (hA : Nds w va (flat .yield)) (hl : sz .yield ≤ 400) :
    Calls Try.prog 19 #[va] w fun e w' => e = .returned (.bool (true)) ∧ Below w.heap.size w w' := by
  have KK := Rw.kidsR_any va (flat .yield) w hA (by rw [flat_len]; omega)
  rw [show kids (flat .yield) = [] from rfl] at KK
  obtain ⟨bA, oA, cA, rfl, hcA, hltA, hwA, hatA⟩ := form hA
  obtain ⟨nA, hnA⟩ : ∃ n, sz .yield = n + 1 := ⟨sz .yield - 1, by have := sz_pos .yield; omega⟩
  rw [hnA] at hcA KK ⊢
  have g3A : (1 : Int) ≤ (nA : Int) + 1 := by omega
  rw [show kd .yield = 4 from rfl] at hwA
  have SA := Lib.hid hwA
  have HK := Lib.hid KK
  clear hnA hatA hA hwA KK hl
  go_enter Try.func19, Try.ntmps19
  go_wp2_with fail
  refine HK.out.mono ?_
  rintro e wc ⟨y, rfl, hks, hb0⟩
  obtain ⟨cs, hRd, -⟩ := hks
  obtain ⟨_, ak, ck, rfl, -⟩ := hRd
  have B0 := Lib.hid hb0
  have e0 := (SA.out _ hb0).1
  clear hb0
  go_wp2_with fail
  go_ret
  exact ⟨rfl, B0.out⟩
set_option maxHeartbeats 1000000 in
theorem waits_over (s : Int) (va : Value) (w : World) (hA : Nds w va (flat (.over s))) (hl : sz (.over s) ≤ 400) :
    Calls Try.prog 19 #[va] w fun e w' => e = .returned (.bool (false)) ∧ Below w.heap.size w w' := by
  have KK := Rw.kidsR_any va (flat (.over s)) w hA (by rw [flat_len]; omega)
  rw [show kids (flat (.over s)) = [] from rfl] at KK
  obtain ⟨bA, oA, cA, rfl, hcA, hltA, hwA, hatA⟩ := form hA
  obtain ⟨nA, hnA⟩ : ∃ n, sz (.over s) = n + 1 := ⟨sz (.over s) - 1, by have := sz_pos (.over s); omega⟩
  rw [hnA] at hcA KK ⊢
  have g3A : (1 : Int) ≤ (nA : Int) + 1 := by omega
  rw [show kd (.over s) = 11 from rfl] at hwA
  have SA := Lib.hid hwA
  have HK := Lib.hid KK
  clear hnA hatA hA hwA KK hl
  go_enter Try.func19, Try.ntmps19
  go_wp2_with fail
  refine HK.out.mono ?_
  rintro e wc ⟨y, rfl, hks, hb0⟩
  obtain ⟨cs, hRd, -⟩ := hks
  obtain ⟨_, ak, ck, rfl, -⟩ := hRd
  have B0 := Lib.hid hb0
  have e0 := (SA.out _ hb0).1
  clear hb0
  go_wp2_with fail
  go_ret
  exact ⟨rfl, B0.out⟩
set_option maxHeartbeats 1000000 in
theorem waits_fin (s : Int) (c : Tm) (va : Value) (w : World) (hA : Nds w va (flat (.fin s c))) (hl : sz (.fin s c) ≤ 400) :
    Calls Try.prog 19 #[va] w fun e w' => e = .returned (.bool (false)) ∧ Below w.heap.size w w' := by
  have KK := Rw.kidsR_any va (flat (.fin s c)) w hA (by rw [flat_len]; omega)
  rw [show kids (flat (.fin s c)) = [flat c] from kids_fin s c] at KK
  obtain ⟨bA, oA, cA, rfl, hcA, hltA, hwA, hatA⟩ := form hA
  obtain ⟨nA, hnA⟩ : ∃ n, sz (.fin s c) = n + 1 := ⟨sz (.fin s c) - 1, by have := sz_pos (.fin s c); omega⟩
  rw [hnA] at hcA KK ⊢
  have g3A : (1 : Int) ≤ (nA : Int) + 1 := by omega
  rw [show kd (.fin s c) = 14 from rfl] at hwA
  have SA := Lib.hid hwA
  have HK := Lib.hid KK
  clear hnA hatA hA hwA KK hl
  go_enter Try.func19, Try.ntmps19
  go_wp2_with fail
  refine HK.out.mono ?_
  rintro e wc ⟨y, rfl, hks, hb0⟩
  obtain ⟨bk, ok, ck, y0, rfl, q0, n0⟩ := one_row hks
  have N0 := Lib.hid n0
  clear n0
  have B0 := Lib.hid hb0
  have e0 := (SA.out _ hb0).1
  clear hks hb0
  go_wp2_with fail
  go_ret
  exact ⟨rfl, B0.out⟩
set_option maxHeartbeats 1000000 in
theorem waits_alt (a b : Tm) (va : Value) (w : World) (hA : Nds w va (flat (.alt a b))) (hl : sz (.alt a b) ≤ 400) :
    Calls Try.prog 19 #[va] w fun e w' => e = .returned (.bool (true)) ∧ Below w.heap.size w w' := by
  have KK := Rw.kidsR_any va (flat (.alt a b)) w hA (by rw [flat_len]; omega)
  rw [show kids (flat (.alt a b)) = [flat a, flat b] from kids_alt a b] at KK
  obtain ⟨bA, oA, cA, rfl, hcA, hltA, hwA, hatA⟩ := form hA
  obtain ⟨nA, hnA⟩ : ∃ n, sz (.alt a b) = n + 1 := ⟨sz (.alt a b) - 1, by have := sz_pos (.alt a b); omega⟩
  rw [hnA] at hcA KK ⊢
  have g3A : (1 : Int) ≤ (nA : Int) + 1 := by omega
  rw [show kd (.alt a b) = 6 from rfl] at hwA
  have SA := Lib.hid hwA
  have HK := Lib.hid KK
  clear hnA hatA hA hwA KK hl
  go_enter Try.func19, Try.ntmps19
  go_wp2_with fail
  refine HK.out.mono ?_
  rintro e wc ⟨y, rfl, hks, hb0⟩
  obtain ⟨bk, ok, ck, y0, y1, rfl, q0, q1, n0, n1⟩ := two_rows hks
  have hkl : bk < wc.heap.size := Ap.cell_lt q0
  have KS : Hid (∀ w1, Below wc.heap.size wc w1 → w1.cell? ⟨bk, ok, none⟩ = some y0 ∧ w1.cell? ⟨bk, ok + 1, none⟩ = some y1) := Lib.hid fun w1 hb => ⟨by rw [hb.cell (p := ⟨bk, ok, none⟩) hkl]; exact q0, by rw [hb.cell (p := ⟨bk, ok + 1, none⟩) hkl]; exact q1⟩
  have N0 := Lib.hid n0
  have N1 := Lib.hid (fun w1 (hb : Below wc.heap.size wc w1) => n1.below hb)
  clear n0 n1
  have B0 := Lib.hid hb0
  have e0 := (SA.out _ hb0).1
  clear hks hb0
  go_wp2_with fail
  go_ret
  exact ⟨rfl, B0.out⟩
set_option maxHeartbeats 1000000 in
theorem waits_pair (a b : Tm) (va : Value) (w : World) (hA : Nds w va (flat (.pair a b))) (hl : sz (.pair a b) ≤ 400) :
    Calls Try.prog 19 #[va] w fun e w' => e = .returned (.bool (true)) ∧ Below w.heap.size w w' := by
  have KK := Rw.kidsR_any va (flat (.pair a b)) w hA (by rw [flat_len]; omega)
  rw [show kids (flat (.pair a b)) = [flat a, flat b] from kids_pair a b] at KK
  obtain ⟨bA, oA, cA, rfl, hcA, hltA, hwA, hatA⟩ := form hA
  obtain ⟨nA, hnA⟩ : ∃ n, sz (.pair a b) = n + 1 := ⟨sz (.pair a b) - 1, by have := sz_pos (.pair a b); omega⟩
  rw [hnA] at hcA KK ⊢
  have g3A : (1 : Int) ≤ (nA : Int) + 1 := by omega
  rw [show kd (.pair a b) = 10 from rfl] at hwA
  have SA := Lib.hid hwA
  have HK := Lib.hid KK
  clear hnA hatA hA hwA KK hl
  go_enter Try.func19, Try.ntmps19
  go_wp2_with fail
  refine HK.out.mono ?_
  rintro e wc ⟨y, rfl, hks, hb0⟩
  obtain ⟨bk, ok, ck, y0, y1, rfl, q0, q1, n0, n1⟩ := two_rows hks
  have hkl : bk < wc.heap.size := Ap.cell_lt q0
  have KS : Hid (∀ w1, Below wc.heap.size wc w1 → w1.cell? ⟨bk, ok, none⟩ = some y0 ∧ w1.cell? ⟨bk, ok + 1, none⟩ = some y1) := Lib.hid fun w1 hb => ⟨by rw [hb.cell (p := ⟨bk, ok, none⟩) hkl]; exact q0, by rw [hb.cell (p := ⟨bk, ok + 1, none⟩) hkl]; exact q1⟩
  have N0 := Lib.hid n0
  have N1 := Lib.hid (fun w1 (hb : Below wc.heap.size wc w1) => n1.below hb)
  clear n0 n1
  have B0 := Lib.hid hb0
  have e0 := (SA.out _ hb0).1
  clear hks hb0
  go_wp2_with fail
  go_ret
  exact ⟨rfl, B0.out⟩
set_option maxHeartbeats 1000000 in
theorem waits_seq (a b : Tm) (va : Value) (w : World) (hA : Nds w va (flat (.seq a b))) (RA : Hid (Wwaits a)) (hl : sz (.seq a b) ≤ 400) :
    Calls Try.prog 19 #[va] w fun e w' => e = .returned (.bool (waits a)) ∧ Below w.heap.size w w' := by
  have KK := Rw.kidsR_any va (flat (.seq a b)) w hA (by rw [flat_len]; omega)
  rw [show kids (flat (.seq a b)) = [flat a, flat b] from kids_seq a b] at KK
  obtain ⟨bA, oA, cA, rfl, hcA, hltA, hwA, hatA⟩ := form hA
  obtain ⟨nA, hnA⟩ : ∃ n, sz (.seq a b) = n + 1 := ⟨sz (.seq a b) - 1, by have := sz_pos (.seq a b); omega⟩
  rw [hnA] at hcA KK ⊢
  have g3A : (1 : Int) ≤ (nA : Int) + 1 := by omega
  rw [show kd (.seq a b) = 5 from rfl] at hwA
  have SA := Lib.hid hwA
  have HK := Lib.hid KK
  clear hnA hatA hA hwA KK hl
  go_enter Try.func19, Try.ntmps19
  go_wp2_with fail
  refine HK.out.mono ?_
  rintro e wc ⟨y, rfl, hks, hb0⟩
  obtain ⟨bk, ok, ck, y0, y1, rfl, q0, q1, n0, n1⟩ := two_rows hks
  have hkl : bk < wc.heap.size := Ap.cell_lt q0
  have KS : Hid (∀ w1, Below wc.heap.size wc w1 → w1.cell? ⟨bk, ok, none⟩ = some y0 ∧ w1.cell? ⟨bk, ok + 1, none⟩ = some y1) := Lib.hid fun w1 hb => ⟨by rw [hb.cell (p := ⟨bk, ok, none⟩) hkl]; exact q0, by rw [hb.cell (p := ⟨bk, ok + 1, none⟩) hkl]; exact q1⟩
  have N0 := Lib.hid n0
  have N1 := Lib.hid (fun w1 (hb : Below wc.heap.size wc w1) => n1.below hb)
  clear n0 n1
  have B0 := Lib.hid hb0
  have e0 := (SA.out _ hb0).1
  clear hks hb0
  go_wp2_with fail
  refine (RA.out y0 _ N0.out).mono ?_
  rintro e w1 ⟨rfl, hb1⟩
  have D1 := Lib.hid (B0.out.trans (hb1.mono B0.out.size))
  clear hb1
  go_wp2_with fail
  go_ret
  exact ⟨rfl, D1.out⟩
set_option maxHeartbeats 1000000 in
theorem waits_hand (a b : Tm) (va : Value) (w : World) (hA : Nds w va (flat (.hand a b))) (RA : Hid (Wwaits a)) (hl : sz (.hand a b) ≤ 400) :
    Calls Try.prog 19 #[va] w fun e w' => e = .returned (.bool (waits a)) ∧ Below w.heap.size w w' := by
  have KK := Rw.kidsR_any va (flat (.hand a b)) w hA (by rw [flat_len]; omega)
  rw [show kids (flat (.hand a b)) = [flat a, flat b] from kids_hand a b] at KK
  obtain ⟨bA, oA, cA, rfl, hcA, hltA, hwA, hatA⟩ := form hA
  obtain ⟨nA, hnA⟩ : ∃ n, sz (.hand a b) = n + 1 := ⟨sz (.hand a b) - 1, by have := sz_pos (.hand a b); omega⟩
  rw [hnA] at hcA KK ⊢
  have g3A : (1 : Int) ≤ (nA : Int) + 1 := by omega
  rw [show kd (.hand a b) = 8 from rfl] at hwA
  have SA := Lib.hid hwA
  have HK := Lib.hid KK
  clear hnA hatA hA hwA KK hl
  go_enter Try.func19, Try.ntmps19
  go_wp2_with fail
  refine HK.out.mono ?_
  rintro e wc ⟨y, rfl, hks, hb0⟩
  obtain ⟨bk, ok, ck, y0, y1, rfl, q0, q1, n0, n1⟩ := two_rows hks
  have hkl : bk < wc.heap.size := Ap.cell_lt q0
  have KS : Hid (∀ w1, Below wc.heap.size wc w1 → w1.cell? ⟨bk, ok, none⟩ = some y0 ∧ w1.cell? ⟨bk, ok + 1, none⟩ = some y1) := Lib.hid fun w1 hb => ⟨by rw [hb.cell (p := ⟨bk, ok, none⟩) hkl]; exact q0, by rw [hb.cell (p := ⟨bk, ok + 1, none⟩) hkl]; exact q1⟩
  have N0 := Lib.hid n0
  have N1 := Lib.hid (fun w1 (hb : Below wc.heap.size wc w1) => n1.below hb)
  clear n0 n1
  have B0 := Lib.hid hb0
  have e0 := (SA.out _ hb0).1
  clear hks hb0
  go_wp2_with fail
  refine (RA.out y0 _ N0.out).mono ?_
  rintro e w1 ⟨rfl, hb1⟩
  have D1 := Lib.hid (B0.out.trans (hb1.mono B0.out.size))
  clear hb1
  go_wp2_with fail
  go_ret
  exact ⟨rfl, D1.out⟩
set_option maxHeartbeats 1000000 in
theorem waits_going (a b : Tm) (va : Value) (w : World) (hA : Nds w va (flat (.going a b))) (RA : Hid (Wwaits a)) (hl : sz (.going a b) ≤ 400) :
    Calls Try.prog 19 #[va] w fun e w' => e = .returned (.bool (waits a)) ∧ Below w.heap.size w w' := by
  have KK := Rw.kidsR_any va (flat (.going a b)) w hA (by rw [flat_len]; omega)
  rw [show kids (flat (.going a b)) = [flat a, flat b] from kids_going a b] at KK
  obtain ⟨bA, oA, cA, rfl, hcA, hltA, hwA, hatA⟩ := form hA
  obtain ⟨nA, hnA⟩ : ∃ n, sz (.going a b) = n + 1 := ⟨sz (.going a b) - 1, by have := sz_pos (.going a b); omega⟩
  rw [hnA] at hcA KK ⊢
  have g3A : (1 : Int) ≤ (nA : Int) + 1 := by omega
  rw [show kd (.going a b) = 12 from rfl] at hwA
  have SA := Lib.hid hwA
  have HK := Lib.hid KK
  clear hnA hatA hA hwA KK hl
  go_enter Try.func19, Try.ntmps19
  go_wp2_with fail
  refine HK.out.mono ?_
  rintro e wc ⟨y, rfl, hks, hb0⟩
  obtain ⟨bk, ok, ck, y0, y1, rfl, q0, q1, n0, n1⟩ := two_rows hks
  have hkl : bk < wc.heap.size := Ap.cell_lt q0
  have KS : Hid (∀ w1, Below wc.heap.size wc w1 → w1.cell? ⟨bk, ok, none⟩ = some y0 ∧ w1.cell? ⟨bk, ok + 1, none⟩ = some y1) := Lib.hid fun w1 hb => ⟨by rw [hb.cell (p := ⟨bk, ok, none⟩) hkl]; exact q0, by rw [hb.cell (p := ⟨bk, ok + 1, none⟩) hkl]; exact q1⟩
  have N0 := Lib.hid n0
  have N1 := Lib.hid (fun w1 (hb : Below wc.heap.size wc w1) => n1.below hb)
  clear n0 n1
  have B0 := Lib.hid hb0
  have e0 := (SA.out _ hb0).1
  clear hks hb0
  go_wp2_with fail
  refine (RA.out y0 _ N0.out).mono ?_
  rintro e w1 ⟨rfl, hb1⟩
  have D1 := Lib.hid (B0.out.trans (hb1.mono B0.out.size))
  clear hb1
  go_wp2_with fail
  go_ret
  exact ⟨rfl, D1.out⟩
set_option maxHeartbeats 1000000 in
theorem waits_stack (a b : Tm) (va : Value) (w : World) (hA : Nds w va (flat (.stack a b))) (RA : Hid (Wwaits a)) (hl : sz (.stack a b) ≤ 400) :
    Calls Try.prog 19 #[va] w fun e w' => e = .returned (.bool (waits a)) ∧ Below w.heap.size w w' := by
  have KK := Rw.kidsR_any va (flat (.stack a b)) w hA (by rw [flat_len]; omega)
  rw [show kids (flat (.stack a b)) = [flat a, flat b] from kids_stack a b] at KK
  obtain ⟨bA, oA, cA, rfl, hcA, hltA, hwA, hatA⟩ := form hA
  obtain ⟨nA, hnA⟩ : ∃ n, sz (.stack a b) = n + 1 := ⟨sz (.stack a b) - 1, by have := sz_pos (.stack a b); omega⟩
  rw [hnA] at hcA KK ⊢
  have g3A : (1 : Int) ≤ (nA : Int) + 1 := by omega
  rw [show kd (.stack a b) = 13 from rfl] at hwA
  have SA := Lib.hid hwA
  have HK := Lib.hid KK
  clear hnA hatA hA hwA KK hl
  go_enter Try.func19, Try.ntmps19
  go_wp2_with fail
  refine HK.out.mono ?_
  rintro e wc ⟨y, rfl, hks, hb0⟩
  obtain ⟨bk, ok, ck, y0, y1, rfl, q0, q1, n0, n1⟩ := two_rows hks
  have hkl : bk < wc.heap.size := Ap.cell_lt q0
  have KS : Hid (∀ w1, Below wc.heap.size wc w1 → w1.cell? ⟨bk, ok, none⟩ = some y0 ∧ w1.cell? ⟨bk, ok + 1, none⟩ = some y1) := Lib.hid fun w1 hb => ⟨by rw [hb.cell (p := ⟨bk, ok, none⟩) hkl]; exact q0, by rw [hb.cell (p := ⟨bk, ok + 1, none⟩) hkl]; exact q1⟩
  have N0 := Lib.hid n0
  have N1 := Lib.hid (fun w1 (hb : Below wc.heap.size wc w1) => n1.below hb)
  clear n0 n1
  have B0 := Lib.hid hb0
  have e0 := (SA.out _ hb0).1
  clear hks hb0
  go_wp2_with fail
  refine (RA.out y0 _ N0.out).mono ?_
  rintro e w1 ⟨rfl, hb1⟩
  have D1 := Lib.hid (B0.out.trans (hb1.mono B0.out.size))
  clear hb1
  go_wp2_with fail
  go_ret
  exact ⟨rfl, D1.out⟩
set_option maxHeartbeats 1000000 in
theorem waits_par_t (a b : Tm) (va : Value) (w : World) (hA : Nds w va (flat (.par a b))) (RA : Hid (∀ (v : Value) (w : World), Nds w v (flat a) → Calls Try.prog 19 #[v] w fun e w' => e = .returned (.bool true) ∧ Below w.heap.size w w')) (hl : sz (.par a b) ≤ 400) :
    Calls Try.prog 19 #[va] w fun e w' => e = .returned (.bool (true)) ∧ Below w.heap.size w w' := by
  have KK := Rw.kidsR_any va (flat (.par a b)) w hA (by rw [flat_len]; omega)
  rw [show kids (flat (.par a b)) = [flat a, flat b] from kids_par a b] at KK
  obtain ⟨bA, oA, cA, rfl, hcA, hltA, hwA, hatA⟩ := form hA
  obtain ⟨nA, hnA⟩ : ∃ n, sz (.par a b) = n + 1 := ⟨sz (.par a b) - 1, by have := sz_pos (.par a b); omega⟩
  rw [hnA] at hcA KK ⊢
  have g3A : (1 : Int) ≤ (nA : Int) + 1 := by omega
  rw [show kd (.par a b) = 7 from rfl] at hwA
  have SA := Lib.hid hwA
  have HK := Lib.hid KK
  clear hnA hatA hA hwA KK hl
  go_enter Try.func19, Try.ntmps19
  go_wp2_with fail
  refine HK.out.mono ?_
  rintro e wc ⟨y, rfl, hks, hb0⟩
  obtain ⟨bk, ok, ck, y0, y1, rfl, q0, q1, n0, n1⟩ := two_rows hks
  have hkl : bk < wc.heap.size := Ap.cell_lt q0
  have KS : Hid (∀ w1, Below wc.heap.size wc w1 → w1.cell? ⟨bk, ok, none⟩ = some y0 ∧ w1.cell? ⟨bk, ok + 1, none⟩ = some y1) := Lib.hid fun w1 hb => ⟨by rw [hb.cell (p := ⟨bk, ok, none⟩) hkl]; exact q0, by rw [hb.cell (p := ⟨bk, ok + 1, none⟩) hkl]; exact q1⟩
  have N0 := Lib.hid n0
  have N1 := Lib.hid (fun w1 (hb : Below wc.heap.size wc w1) => n1.below hb)
  clear n0 n1
  have B0 := Lib.hid hb0
  have e0 := (SA.out _ hb0).1
  clear hks hb0
  go_wp2_with fail
  refine (RA.out y0 _ N0.out).mono ?_
  rintro e w1 ⟨rfl, hb1⟩
  have D1 := Lib.hid (B0.out.trans (hb1.mono B0.out.size))
  clear hb1
  go_wp2_with fail
  go_ret
  exact ⟨rfl, D1.out⟩
set_option maxHeartbeats 1000000 in
theorem waits_par_f (a b : Tm) (va : Value) (w : World) (hA : Nds w va (flat (.par a b))) (RA : Hid (∀ (v : Value) (w : World), Nds w v (flat a) → Calls Try.prog 19 #[v] w fun e w' => e = .returned (.bool false) ∧ Below w.heap.size w w')) (RB : Hid (Wwaits b)) (hl : sz (.par a b) ≤ 400) :
    Calls Try.prog 19 #[va] w fun e w' => e = .returned (.bool (waits b)) ∧ Below w.heap.size w w' := by
  have KK := Rw.kidsR_any va (flat (.par a b)) w hA (by rw [flat_len]; omega)
  rw [show kids (flat (.par a b)) = [flat a, flat b] from kids_par a b] at KK
  obtain ⟨bA, oA, cA, rfl, hcA, hltA, hwA, hatA⟩ := form hA
  obtain ⟨nA, hnA⟩ : ∃ n, sz (.par a b) = n + 1 := ⟨sz (.par a b) - 1, by have := sz_pos (.par a b); omega⟩
  rw [hnA] at hcA KK ⊢
  have g3A : (1 : Int) ≤ (nA : Int) + 1 := by omega
  rw [show kd (.par a b) = 7 from rfl] at hwA
  have SA := Lib.hid hwA
  have HK := Lib.hid KK
  clear hnA hatA hA hwA KK hl
  go_enter Try.func19, Try.ntmps19
  go_wp2_with fail
  refine HK.out.mono ?_
  rintro e wc ⟨y, rfl, hks, hb0⟩
  obtain ⟨bk, ok, ck, y0, y1, rfl, q0, q1, n0, n1⟩ := two_rows hks
  have hkl : bk < wc.heap.size := Ap.cell_lt q0
  have KS : Hid (∀ w1, Below wc.heap.size wc w1 → w1.cell? ⟨bk, ok, none⟩ = some y0 ∧ w1.cell? ⟨bk, ok + 1, none⟩ = some y1) := Lib.hid fun w1 hb => ⟨by rw [hb.cell (p := ⟨bk, ok, none⟩) hkl]; exact q0, by rw [hb.cell (p := ⟨bk, ok + 1, none⟩) hkl]; exact q1⟩
  have N0 := Lib.hid n0
  have N1 := Lib.hid (fun w1 (hb : Below wc.heap.size wc w1) => n1.below hb)
  clear n0 n1
  have B0 := Lib.hid hb0
  have e0 := (SA.out _ hb0).1
  clear hks hb0
  go_wp2_with fail
  refine (RA.out y0 _ N0.out).mono ?_
  rintro e w1 ⟨rfl, hb1⟩
  have D1 := Lib.hid (B0.out.trans (hb1.mono B0.out.size))
  have NB := Lib.hid (N1.out w1 hb1)
  obtain ⟨p0, p1⟩ := KS.out w1 hb1
  clear hb1
  go_wp2_with fail
  refine (RB.out y1 _ NB.out).mono ?_
  rintro e w2 ⟨rfl, hb2⟩
  have D2 := Lib.hid (D1.out.trans (hb2.mono D1.out.size))
  clear hb2
  go_wp2_with fail
  go_ret
  exact ⟨rfl, D2.out⟩
theorem waits_par (a b : Tm) (va : Value) (w : World) (hA : Nds w va (flat (.par a b))) (RA : Wwaits a) (RB : Wwaits b) (hl : sz (.par a b) ≤ 400) :
    Calls Try.prog 19 #[va] w fun e w' => e = .returned (.bool (waits a || waits b)) ∧ Below w.heap.size w w' := by
  cases hx : waits a with
  | true => exact waits_par_t a b va w hA (Lib.hid fun v w hv => by have h := RA v w hv; rw [hx] at h; exact h) hl
  | false => exact waits_par_f a b va w hA (Lib.hid fun v w hv => by have h := RA v w hv; rw [hx] at h; exact h) (Lib.hid RB) hl
set_option maxHeartbeats 1000000 in
theorem waits_block (a : Tm) (va : Value) (w : World) (hA : Nds w va (flat (.block a))) (RA : Hid (Wwaits a)) (hl : sz (.block a) ≤ 400) :
    Calls Try.prog 19 #[va] w fun e w' => e = .returned (.bool (waits a)) ∧ Below w.heap.size w w' := by
  have KK := Rw.kidsR_any va (flat (.block a)) w hA (by rw [flat_len]; omega)
  rw [show kids (flat (.block a)) = [flat a] from kids_block a] at KK
  obtain ⟨bA, oA, cA, rfl, hcA, hltA, hwA, hatA⟩ := form hA
  obtain ⟨nA, hnA⟩ : ∃ n, sz (.block a) = n + 1 := ⟨sz (.block a) - 1, by have := sz_pos (.block a); omega⟩
  rw [hnA] at hcA KK ⊢
  have g3A : (1 : Int) ≤ (nA : Int) + 1 := by omega
  rw [show kd (.block a) = 9 from rfl] at hwA
  have SA := Lib.hid hwA
  have HK := Lib.hid KK
  clear hnA hatA hA hwA KK hl
  go_enter Try.func19, Try.ntmps19
  go_wp2_with fail
  refine HK.out.mono ?_
  rintro e wc ⟨y, rfl, hks, hb0⟩
  obtain ⟨bk, ok, ck, y0, rfl, q0, n0⟩ := one_row hks
  have N0 := Lib.hid n0
  clear n0
  have B0 := Lib.hid hb0
  have e0 := (SA.out _ hb0).1
  clear hks hb0
  go_wp2_with fail
  refine (RA.out y0 _ N0.out).mono ?_
  rintro e w1 ⟨rfl, hb1⟩
  have D1 := Lib.hid (B0.out.trans (hb1.mono B0.out.size))
  clear hb1
  go_wp2_with fail
  go_ret
  exact ⟨rfl, D1.out⟩
theorem waits_any : ∀ t : Tm, sz t ≤ 400 → Wwaits t := by
  intro t
  induction t with
  | act s => exact fun hl v w hv => waits_act s v w hv hl
  | over s => exact fun hl v w hv => waits_over s v w hv hl
  | skip => exact fun hl v w hv => waits_skip v w hv hl
  | throw => exact fun hl v w hv => waits_throw v w hv hl
  | yield => exact fun hl v w hv => waits_yield v w hv hl
  | fin s c _ => exact fun hl v w hv => waits_fin s c v w hv hl
  | alt a b _ _ => exact fun hl v w hv => waits_alt a b v w hv hl
  | pair a b _ _ => exact fun hl v w hv => waits_pair a b v w hv hl
  | seq a b ia _ => exact fun hl v w hv => waits_seq a b v w hv (Lib.hid (ia (by simp only [sz] at hl; omega))) hl
  | hand a b ia _ => exact fun hl v w hv => waits_hand a b v w hv (Lib.hid (ia (by simp only [sz] at hl; omega))) hl
  | going a b ia _ => exact fun hl v w hv => waits_going a b v w hv (Lib.hid (ia (by simp only [sz] at hl; omega))) hl
  | stack a b ia _ => exact fun hl v w hv => waits_stack a b v w hv (Lib.hid (ia (by simp only [sz] at hl; omega))) hl
  | par a b ia ib => exact fun hl v w hv => waits_par a b v w hv (ia (by simp only [sz] at hl; omega)) (ib (by simp only [sz] at hl; omega)) hl
  | block a ia => exact fun hl v w hv => waits_block a v w hv (Lib.hid (ia (by simp only [sz] at hl; omega))) hl
abbrev Wstuck (t : Tm) : Prop := ∀ (v : Value) (w : World), Nds w v (flat t) → Calls Try.prog 20 #[v] w fun e w' => e = .returned (.bool (stuck t)) ∧ Below w.heap.size w w'
set_option maxHeartbeats 1000000 in
theorem stuck_act (s : ByteArray) (va : Value) (w : World) (hA : Nds w va (flat (.act s))) (hl : sz (.act s) ≤ 400) :
    Calls Try.prog 20 #[va] w fun e w' => e = .returned (.bool (false)) ∧ Below w.heap.size w w' := by
  have KK := Rw.kidsR_any va (flat (.act s)) w hA (by rw [flat_len]; omega)
  rw [show kids (flat (.act s)) = [] from rfl] at KK
  obtain ⟨bA, oA, cA, rfl, hcA, hltA, hwA, hatA⟩ := form hA
  obtain ⟨nA, hnA⟩ : ∃ n, sz (.act s) = n + 1 := ⟨sz (.act s) - 1, by have := sz_pos (.act s); omega⟩
  rw [hnA] at hcA KK ⊢
  have g3A : (1 : Int) ≤ (nA : Int) + 1 := by omega
  rw [show kd (.act s) = 1 from rfl] at hwA
  have SA := Lib.hid hwA
  have HK := Lib.hid KK
  clear hnA hatA hA hwA KK hl
  go_enter Try.func20, Try.ntmps20
  go_wp2_with fail
  refine HK.out.mono ?_
  rintro e wc ⟨y, rfl, hks, hb0⟩
  obtain ⟨cs, hRd, -⟩ := hks
  obtain ⟨_, ak, ck, rfl, -⟩ := hRd
  have B0 := Lib.hid hb0
  have e0 := (SA.out _ hb0).1
  clear hb0
  go_wp2_with fail
  go_ret
  exact ⟨rfl, B0.out⟩
set_option maxHeartbeats 1000000 in
theorem stuck_skip  (va : Value) (w : World) (hA : Nds w va (flat .skip)) (hl : sz .skip ≤ 400) :
    Calls Try.prog 20 #[va] w fun e w' => e = .returned (.bool (false)) ∧ Below w.heap.size w w' := by
  have KK := Rw.kidsR_any va (flat .skip) w hA (by rw [flat_len]; omega)
  rw [show kids (flat .skip) = [] from rfl] at KK
  obtain ⟨bA, oA, cA, rfl, hcA, hltA, hwA, hatA⟩ := form hA
  obtain ⟨nA, hnA⟩ : ∃ n, sz .skip = n + 1 := ⟨sz .skip - 1, by have := sz_pos .skip; omega⟩
  rw [hnA] at hcA KK ⊢
  have g3A : (1 : Int) ≤ (nA : Int) + 1 := by omega
  rw [show kd .skip = 2 from rfl] at hwA
  have SA := Lib.hid hwA
  have HK := Lib.hid KK
  clear hnA hatA hA hwA KK hl
  go_enter Try.func20, Try.ntmps20
  go_wp2_with fail
  refine HK.out.mono ?_
  rintro e wc ⟨y, rfl, hks, hb0⟩
  obtain ⟨cs, hRd, -⟩ := hks
  obtain ⟨_, ak, ck, rfl, -⟩ := hRd
  have B0 := Lib.hid hb0
  have e0 := (SA.out _ hb0).1
  clear hb0
  go_wp2_with fail
  go_ret
  exact ⟨rfl, B0.out⟩
set_option maxHeartbeats 1000000 in
theorem stuck_throw  (va : Value) (w : World) (hA : Nds w va (flat .throw)) (hl : sz .throw ≤ 400) :
    Calls Try.prog 20 #[va] w fun e w' => e = .returned (.bool (false)) ∧ Below w.heap.size w w' := by
  have KK := Rw.kidsR_any va (flat .throw) w hA (by rw [flat_len]; omega)
  rw [show kids (flat .throw) = [] from rfl] at KK
  obtain ⟨bA, oA, cA, rfl, hcA, hltA, hwA, hatA⟩ := form hA
  obtain ⟨nA, hnA⟩ : ∃ n, sz .throw = n + 1 := ⟨sz .throw - 1, by have := sz_pos .throw; omega⟩
  rw [hnA] at hcA KK ⊢
  have g3A : (1 : Int) ≤ (nA : Int) + 1 := by omega
  rw [show kd .throw = 3 from rfl] at hwA
  have SA := Lib.hid hwA
  have HK := Lib.hid KK
  clear hnA hatA hA hwA KK hl
  go_enter Try.func20, Try.ntmps20
  go_wp2_with fail
  refine HK.out.mono ?_
  rintro e wc ⟨y, rfl, hks, hb0⟩
  obtain ⟨cs, hRd, -⟩ := hks
  obtain ⟨_, ak, ck, rfl, -⟩ := hRd
  have B0 := Lib.hid hb0
  have e0 := (SA.out _ hb0).1
  clear hb0
  go_wp2_with fail
  go_ret
  exact ⟨rfl, B0.out⟩
set_option maxHeartbeats 1000000 in
theorem stuck_yield  (va : Value) (w : World) (hA : Nds w va (flat .yield)) (hl : sz .yield ≤ 400) :
    Calls Try.prog 20 #[va] w fun e w' => e = .returned (.bool (false)) ∧ Below w.heap.size w w' := by
  have KK := Rw.kidsR_any va (flat .yield) w hA (by rw [flat_len]; omega)
  rw [show kids (flat .yield) = [] from rfl] at KK
  obtain ⟨bA, oA, cA, rfl, hcA, hltA, hwA, hatA⟩ := form hA
  obtain ⟨nA, hnA⟩ : ∃ n, sz .yield = n + 1 := ⟨sz .yield - 1, by have := sz_pos .yield; omega⟩
  rw [hnA] at hcA KK ⊢
  have g3A : (1 : Int) ≤ (nA : Int) + 1 := by omega
  rw [show kd .yield = 4 from rfl] at hwA
  have SA := Lib.hid hwA
  have HK := Lib.hid KK
  clear hnA hatA hA hwA KK hl
  go_enter Try.func20, Try.ntmps20
  go_wp2_with fail
  refine HK.out.mono ?_
  rintro e wc ⟨y, rfl, hks, hb0⟩
  obtain ⟨cs, hRd, -⟩ := hks
  obtain ⟨_, ak, ck, rfl, -⟩ := hRd
  have B0 := Lib.hid hb0
  have e0 := (SA.out _ hb0).1
  clear hb0
  go_wp2_with fail
  go_ret
  exact ⟨rfl, B0.out⟩
set_option maxHeartbeats 1000000 in
theorem stuck_over (s : Int) (va : Value) (w : World) (hA : Nds w va (flat (.over s))) (hl : sz (.over s) ≤ 400) :
    Calls Try.prog 20 #[va] w fun e w' => e = .returned (.bool (false)) ∧ Below w.heap.size w w' := by
  have KK := Rw.kidsR_any va (flat (.over s)) w hA (by rw [flat_len]; omega)
  rw [show kids (flat (.over s)) = [] from rfl] at KK
  obtain ⟨bA, oA, cA, rfl, hcA, hltA, hwA, hatA⟩ := form hA
  obtain ⟨nA, hnA⟩ : ∃ n, sz (.over s) = n + 1 := ⟨sz (.over s) - 1, by have := sz_pos (.over s); omega⟩
  rw [hnA] at hcA KK ⊢
  have g3A : (1 : Int) ≤ (nA : Int) + 1 := by omega
  rw [show kd (.over s) = 11 from rfl] at hwA
  have SA := Lib.hid hwA
  have HK := Lib.hid KK
  clear hnA hatA hA hwA KK hl
  go_enter Try.func20, Try.ntmps20
  go_wp2_with fail
  refine HK.out.mono ?_
  rintro e wc ⟨y, rfl, hks, hb0⟩
  obtain ⟨cs, hRd, -⟩ := hks
  obtain ⟨_, ak, ck, rfl, -⟩ := hRd
  have B0 := Lib.hid hb0
  have e0 := (SA.out _ hb0).1
  clear hb0
  go_wp2_with fail
  go_ret
  exact ⟨rfl, B0.out⟩
set_option maxHeartbeats 1000000 in
theorem stuck_fin (s : Int) (c : Tm) (va : Value) (w : World) (hA : Nds w va (flat (.fin s c))) (hl : sz (.fin s c) ≤ 400) :
    Calls Try.prog 20 #[va] w fun e w' => e = .returned (.bool (false)) ∧ Below w.heap.size w w' := by
  have KK := Rw.kidsR_any va (flat (.fin s c)) w hA (by rw [flat_len]; omega)
  rw [show kids (flat (.fin s c)) = [flat c] from kids_fin s c] at KK
  obtain ⟨bA, oA, cA, rfl, hcA, hltA, hwA, hatA⟩ := form hA
  obtain ⟨nA, hnA⟩ : ∃ n, sz (.fin s c) = n + 1 := ⟨sz (.fin s c) - 1, by have := sz_pos (.fin s c); omega⟩
  rw [hnA] at hcA KK ⊢
  have g3A : (1 : Int) ≤ (nA : Int) + 1 := by omega
  rw [show kd (.fin s c) = 14 from rfl] at hwA
  have SA := Lib.hid hwA
  have HK := Lib.hid KK
  clear hnA hatA hA hwA KK hl
  go_enter Try.func20, Try.ntmps20
  go_wp2_with fail
  refine HK.out.mono ?_
  rintro e wc ⟨y, rfl, hks, hb0⟩
  obtain ⟨bk, ok, ck, y0, rfl, q0, n0⟩ := one_row hks
  have N0 := Lib.hid n0
  clear n0
  have B0 := Lib.hid hb0
  have e0 := (SA.out _ hb0).1
  clear hks hb0
  go_wp2_with fail
  go_ret
  exact ⟨rfl, B0.out⟩
set_option maxHeartbeats 1000000 in
theorem stuck_alt (a b : Tm) (va : Value) (w : World) (hA : Nds w va (flat (.alt a b))) (hl : sz (.alt a b) ≤ 400) :
    Calls Try.prog 20 #[va] w fun e w' => e = .returned (.bool (false)) ∧ Below w.heap.size w w' := by
  have KK := Rw.kidsR_any va (flat (.alt a b)) w hA (by rw [flat_len]; omega)
  rw [show kids (flat (.alt a b)) = [flat a, flat b] from kids_alt a b] at KK
  obtain ⟨bA, oA, cA, rfl, hcA, hltA, hwA, hatA⟩ := form hA
  obtain ⟨nA, hnA⟩ : ∃ n, sz (.alt a b) = n + 1 := ⟨sz (.alt a b) - 1, by have := sz_pos (.alt a b); omega⟩
  rw [hnA] at hcA KK ⊢
  have g3A : (1 : Int) ≤ (nA : Int) + 1 := by omega
  rw [show kd (.alt a b) = 6 from rfl] at hwA
  have SA := Lib.hid hwA
  have HK := Lib.hid KK
  clear hnA hatA hA hwA KK hl
  go_enter Try.func20, Try.ntmps20
  go_wp2_with fail
  refine HK.out.mono ?_
  rintro e wc ⟨y, rfl, hks, hb0⟩
  obtain ⟨bk, ok, ck, y0, y1, rfl, q0, q1, n0, n1⟩ := two_rows hks
  have hkl : bk < wc.heap.size := Ap.cell_lt q0
  have KS : Hid (∀ w1, Below wc.heap.size wc w1 → w1.cell? ⟨bk, ok, none⟩ = some y0 ∧ w1.cell? ⟨bk, ok + 1, none⟩ = some y1) := Lib.hid fun w1 hb => ⟨by rw [hb.cell (p := ⟨bk, ok, none⟩) hkl]; exact q0, by rw [hb.cell (p := ⟨bk, ok + 1, none⟩) hkl]; exact q1⟩
  have N0 := Lib.hid n0
  have N1 := Lib.hid (fun w1 (hb : Below wc.heap.size wc w1) => n1.below hb)
  clear n0 n1
  have B0 := Lib.hid hb0
  have e0 := (SA.out _ hb0).1
  clear hks hb0
  go_wp2_with fail
  go_ret
  exact ⟨rfl, B0.out⟩
set_option maxHeartbeats 1000000 in
theorem stuck_pair (a b : Tm) (va : Value) (w : World) (hA : Nds w va (flat (.pair a b))) (hl : sz (.pair a b) ≤ 400) :
    Calls Try.prog 20 #[va] w fun e w' => e = .returned (.bool (false)) ∧ Below w.heap.size w w' := by
  have KK := Rw.kidsR_any va (flat (.pair a b)) w hA (by rw [flat_len]; omega)
  rw [show kids (flat (.pair a b)) = [flat a, flat b] from kids_pair a b] at KK
  obtain ⟨bA, oA, cA, rfl, hcA, hltA, hwA, hatA⟩ := form hA
  obtain ⟨nA, hnA⟩ : ∃ n, sz (.pair a b) = n + 1 := ⟨sz (.pair a b) - 1, by have := sz_pos (.pair a b); omega⟩
  rw [hnA] at hcA KK ⊢
  have g3A : (1 : Int) ≤ (nA : Int) + 1 := by omega
  rw [show kd (.pair a b) = 10 from rfl] at hwA
  have SA := Lib.hid hwA
  have HK := Lib.hid KK
  clear hnA hatA hA hwA KK hl
  go_enter Try.func20, Try.ntmps20
  go_wp2_with fail
  refine HK.out.mono ?_
  rintro e wc ⟨y, rfl, hks, hb0⟩
  obtain ⟨bk, ok, ck, y0, y1, rfl, q0, q1, n0, n1⟩ := two_rows hks
  have hkl : bk < wc.heap.size := Ap.cell_lt q0
  have KS : Hid (∀ w1, Below wc.heap.size wc w1 → w1.cell? ⟨bk, ok, none⟩ = some y0 ∧ w1.cell? ⟨bk, ok + 1, none⟩ = some y1) := Lib.hid fun w1 hb => ⟨by rw [hb.cell (p := ⟨bk, ok, none⟩) hkl]; exact q0, by rw [hb.cell (p := ⟨bk, ok + 1, none⟩) hkl]; exact q1⟩
  have N0 := Lib.hid n0
  have N1 := Lib.hid (fun w1 (hb : Below wc.heap.size wc w1) => n1.below hb)
  clear n0 n1
  have B0 := Lib.hid hb0
  have e0 := (SA.out _ hb0).1
  clear hks hb0
  go_wp2_with fail
  go_ret
  exact ⟨rfl, B0.out⟩
set_option maxHeartbeats 1000000 in
theorem stuck_seq (a b : Tm) (va : Value) (w : World) (hA : Nds w va (flat (.seq a b))) (RA : Hid (Wstuck a)) (hl : sz (.seq a b) ≤ 400) :
    Calls Try.prog 20 #[va] w fun e w' => e = .returned (.bool (stuck a)) ∧ Below w.heap.size w w' := by
  have KK := Rw.kidsR_any va (flat (.seq a b)) w hA (by rw [flat_len]; omega)
  rw [show kids (flat (.seq a b)) = [flat a, flat b] from kids_seq a b] at KK
  obtain ⟨bA, oA, cA, rfl, hcA, hltA, hwA, hatA⟩ := form hA
  obtain ⟨nA, hnA⟩ : ∃ n, sz (.seq a b) = n + 1 := ⟨sz (.seq a b) - 1, by have := sz_pos (.seq a b); omega⟩
  rw [hnA] at hcA KK ⊢
  have g3A : (1 : Int) ≤ (nA : Int) + 1 := by omega
  rw [show kd (.seq a b) = 5 from rfl] at hwA
  have SA := Lib.hid hwA
  have HK := Lib.hid KK
  clear hnA hatA hA hwA KK hl
  go_enter Try.func20, Try.ntmps20
  go_wp2_with fail
  refine HK.out.mono ?_
  rintro e wc ⟨y, rfl, hks, hb0⟩
  obtain ⟨bk, ok, ck, y0, y1, rfl, q0, q1, n0, n1⟩ := two_rows hks
  have hkl : bk < wc.heap.size := Ap.cell_lt q0
  have KS : Hid (∀ w1, Below wc.heap.size wc w1 → w1.cell? ⟨bk, ok, none⟩ = some y0 ∧ w1.cell? ⟨bk, ok + 1, none⟩ = some y1) := Lib.hid fun w1 hb => ⟨by rw [hb.cell (p := ⟨bk, ok, none⟩) hkl]; exact q0, by rw [hb.cell (p := ⟨bk, ok + 1, none⟩) hkl]; exact q1⟩
  have N0 := Lib.hid n0
  have N1 := Lib.hid (fun w1 (hb : Below wc.heap.size wc w1) => n1.below hb)
  clear n0 n1
  have B0 := Lib.hid hb0
  have e0 := (SA.out _ hb0).1
  clear hks hb0
  go_wp2_with fail
  refine (RA.out y0 _ N0.out).mono ?_
  rintro e w1 ⟨rfl, hb1⟩
  have D1 := Lib.hid (B0.out.trans (hb1.mono B0.out.size))
  clear hb1
  go_wp2_with fail
  go_ret
  exact ⟨rfl, D1.out⟩
set_option maxHeartbeats 1000000 in
theorem stuck_hand (a b : Tm) (va : Value) (w : World) (hA : Nds w va (flat (.hand a b))) (RA : Hid (Wstuck a)) (hl : sz (.hand a b) ≤ 400) :
    Calls Try.prog 20 #[va] w fun e w' => e = .returned (.bool (stuck a)) ∧ Below w.heap.size w w' := by
  have KK := Rw.kidsR_any va (flat (.hand a b)) w hA (by rw [flat_len]; omega)
  rw [show kids (flat (.hand a b)) = [flat a, flat b] from kids_hand a b] at KK
  obtain ⟨bA, oA, cA, rfl, hcA, hltA, hwA, hatA⟩ := form hA
  obtain ⟨nA, hnA⟩ : ∃ n, sz (.hand a b) = n + 1 := ⟨sz (.hand a b) - 1, by have := sz_pos (.hand a b); omega⟩
  rw [hnA] at hcA KK ⊢
  have g3A : (1 : Int) ≤ (nA : Int) + 1 := by omega
  rw [show kd (.hand a b) = 8 from rfl] at hwA
  have SA := Lib.hid hwA
  have HK := Lib.hid KK
  clear hnA hatA hA hwA KK hl
  go_enter Try.func20, Try.ntmps20
  go_wp2_with fail
  refine HK.out.mono ?_
  rintro e wc ⟨y, rfl, hks, hb0⟩
  obtain ⟨bk, ok, ck, y0, y1, rfl, q0, q1, n0, n1⟩ := two_rows hks
  have hkl : bk < wc.heap.size := Ap.cell_lt q0
  have KS : Hid (∀ w1, Below wc.heap.size wc w1 → w1.cell? ⟨bk, ok, none⟩ = some y0 ∧ w1.cell? ⟨bk, ok + 1, none⟩ = some y1) := Lib.hid fun w1 hb => ⟨by rw [hb.cell (p := ⟨bk, ok, none⟩) hkl]; exact q0, by rw [hb.cell (p := ⟨bk, ok + 1, none⟩) hkl]; exact q1⟩
  have N0 := Lib.hid n0
  have N1 := Lib.hid (fun w1 (hb : Below wc.heap.size wc w1) => n1.below hb)
  clear n0 n1
  have B0 := Lib.hid hb0
  have e0 := (SA.out _ hb0).1
  clear hks hb0
  go_wp2_with fail
  refine (RA.out y0 _ N0.out).mono ?_
  rintro e w1 ⟨rfl, hb1⟩
  have D1 := Lib.hid (B0.out.trans (hb1.mono B0.out.size))
  clear hb1
  go_wp2_with fail
  go_ret
  exact ⟨rfl, D1.out⟩
set_option maxHeartbeats 1000000 in
theorem stuck_going (a b : Tm) (va : Value) (w : World) (hA : Nds w va (flat (.going a b))) (RA : Hid (Wstuck a)) (hl : sz (.going a b) ≤ 400) :
    Calls Try.prog 20 #[va] w fun e w' => e = .returned (.bool (stuck a)) ∧ Below w.heap.size w w' := by
  have KK := Rw.kidsR_any va (flat (.going a b)) w hA (by rw [flat_len]; omega)
  rw [show kids (flat (.going a b)) = [flat a, flat b] from kids_going a b] at KK
  obtain ⟨bA, oA, cA, rfl, hcA, hltA, hwA, hatA⟩ := form hA
  obtain ⟨nA, hnA⟩ : ∃ n, sz (.going a b) = n + 1 := ⟨sz (.going a b) - 1, by have := sz_pos (.going a b); omega⟩
  rw [hnA] at hcA KK ⊢
  have g3A : (1 : Int) ≤ (nA : Int) + 1 := by omega
  rw [show kd (.going a b) = 12 from rfl] at hwA
  have SA := Lib.hid hwA
  have HK := Lib.hid KK
  clear hnA hatA hA hwA KK hl
  go_enter Try.func20, Try.ntmps20
  go_wp2_with fail
  refine HK.out.mono ?_
  rintro e wc ⟨y, rfl, hks, hb0⟩
  obtain ⟨bk, ok, ck, y0, y1, rfl, q0, q1, n0, n1⟩ := two_rows hks
  have hkl : bk < wc.heap.size := Ap.cell_lt q0
  have KS : Hid (∀ w1, Below wc.heap.size wc w1 → w1.cell? ⟨bk, ok, none⟩ = some y0 ∧ w1.cell? ⟨bk, ok + 1, none⟩ = some y1) := Lib.hid fun w1 hb => ⟨by rw [hb.cell (p := ⟨bk, ok, none⟩) hkl]; exact q0, by rw [hb.cell (p := ⟨bk, ok + 1, none⟩) hkl]; exact q1⟩
  have N0 := Lib.hid n0
  have N1 := Lib.hid (fun w1 (hb : Below wc.heap.size wc w1) => n1.below hb)
  clear n0 n1
  have B0 := Lib.hid hb0
  have e0 := (SA.out _ hb0).1
  clear hks hb0
  go_wp2_with fail
  refine (RA.out y0 _ N0.out).mono ?_
  rintro e w1 ⟨rfl, hb1⟩
  have D1 := Lib.hid (B0.out.trans (hb1.mono B0.out.size))
  clear hb1
  go_wp2_with fail
  go_ret
  exact ⟨rfl, D1.out⟩
set_option maxHeartbeats 1000000 in
theorem stuck_stack (a b : Tm) (va : Value) (w : World) (hA : Nds w va (flat (.stack a b))) (RA : Hid (Wstuck a)) (hl : sz (.stack a b) ≤ 400) :
    Calls Try.prog 20 #[va] w fun e w' => e = .returned (.bool (stuck a)) ∧ Below w.heap.size w w' := by
  have KK := Rw.kidsR_any va (flat (.stack a b)) w hA (by rw [flat_len]; omega)
  rw [show kids (flat (.stack a b)) = [flat a, flat b] from kids_stack a b] at KK
  obtain ⟨bA, oA, cA, rfl, hcA, hltA, hwA, hatA⟩ := form hA
  obtain ⟨nA, hnA⟩ : ∃ n, sz (.stack a b) = n + 1 := ⟨sz (.stack a b) - 1, by have := sz_pos (.stack a b); omega⟩
  rw [hnA] at hcA KK ⊢
  have g3A : (1 : Int) ≤ (nA : Int) + 1 := by omega
  rw [show kd (.stack a b) = 13 from rfl] at hwA
  have SA := Lib.hid hwA
  have HK := Lib.hid KK
  clear hnA hatA hA hwA KK hl
  go_enter Try.func20, Try.ntmps20
  go_wp2_with fail
  refine HK.out.mono ?_
  rintro e wc ⟨y, rfl, hks, hb0⟩
  obtain ⟨bk, ok, ck, y0, y1, rfl, q0, q1, n0, n1⟩ := two_rows hks
  have hkl : bk < wc.heap.size := Ap.cell_lt q0
  have KS : Hid (∀ w1, Below wc.heap.size wc w1 → w1.cell? ⟨bk, ok, none⟩ = some y0 ∧ w1.cell? ⟨bk, ok + 1, none⟩ = some y1) := Lib.hid fun w1 hb => ⟨by rw [hb.cell (p := ⟨bk, ok, none⟩) hkl]; exact q0, by rw [hb.cell (p := ⟨bk, ok + 1, none⟩) hkl]; exact q1⟩
  have N0 := Lib.hid n0
  have N1 := Lib.hid (fun w1 (hb : Below wc.heap.size wc w1) => n1.below hb)
  clear n0 n1
  have B0 := Lib.hid hb0
  have e0 := (SA.out _ hb0).1
  clear hks hb0
  go_wp2_with fail
  refine (RA.out y0 _ N0.out).mono ?_
  rintro e w1 ⟨rfl, hb1⟩
  have D1 := Lib.hid (B0.out.trans (hb1.mono B0.out.size))
  clear hb1
  go_wp2_with fail
  go_ret
  exact ⟨rfl, D1.out⟩
set_option maxHeartbeats 1000000 in
theorem stuck_par_t (a b : Tm) (va : Value) (w : World) (hA : Nds w va (flat (.par a b))) (RA : Hid (∀ (v : Value) (w : World), Nds w v (flat a) → Calls Try.prog 20 #[v] w fun e w' => e = .returned (.bool true) ∧ Below w.heap.size w w')) (hl : sz (.par a b) ≤ 400) :
    Calls Try.prog 20 #[va] w fun e w' => e = .returned (.bool (true)) ∧ Below w.heap.size w w' := by
  have KK := Rw.kidsR_any va (flat (.par a b)) w hA (by rw [flat_len]; omega)
  rw [show kids (flat (.par a b)) = [flat a, flat b] from kids_par a b] at KK
  obtain ⟨bA, oA, cA, rfl, hcA, hltA, hwA, hatA⟩ := form hA
  obtain ⟨nA, hnA⟩ : ∃ n, sz (.par a b) = n + 1 := ⟨sz (.par a b) - 1, by have := sz_pos (.par a b); omega⟩
  rw [hnA] at hcA KK ⊢
  have g3A : (1 : Int) ≤ (nA : Int) + 1 := by omega
  rw [show kd (.par a b) = 7 from rfl] at hwA
  have SA := Lib.hid hwA
  have HK := Lib.hid KK
  clear hnA hatA hA hwA KK hl
  go_enter Try.func20, Try.ntmps20
  go_wp2_with fail
  refine HK.out.mono ?_
  rintro e wc ⟨y, rfl, hks, hb0⟩
  obtain ⟨bk, ok, ck, y0, y1, rfl, q0, q1, n0, n1⟩ := two_rows hks
  have hkl : bk < wc.heap.size := Ap.cell_lt q0
  have KS : Hid (∀ w1, Below wc.heap.size wc w1 → w1.cell? ⟨bk, ok, none⟩ = some y0 ∧ w1.cell? ⟨bk, ok + 1, none⟩ = some y1) := Lib.hid fun w1 hb => ⟨by rw [hb.cell (p := ⟨bk, ok, none⟩) hkl]; exact q0, by rw [hb.cell (p := ⟨bk, ok + 1, none⟩) hkl]; exact q1⟩
  have N0 := Lib.hid n0
  have N1 := Lib.hid (fun w1 (hb : Below wc.heap.size wc w1) => n1.below hb)
  clear n0 n1
  have B0 := Lib.hid hb0
  have e0 := (SA.out _ hb0).1
  clear hks hb0
  go_wp2_with fail
  refine (RA.out y0 _ N0.out).mono ?_
  rintro e w1 ⟨rfl, hb1⟩
  have D1 := Lib.hid (B0.out.trans (hb1.mono B0.out.size))
  clear hb1
  go_wp2_with fail
  go_ret
  exact ⟨rfl, D1.out⟩
set_option maxHeartbeats 1000000 in
theorem stuck_par_f (a b : Tm) (va : Value) (w : World) (hA : Nds w va (flat (.par a b))) (RA : Hid (∀ (v : Value) (w : World), Nds w v (flat a) → Calls Try.prog 20 #[v] w fun e w' => e = .returned (.bool false) ∧ Below w.heap.size w w')) (RB : Hid (Wstuck b)) (hl : sz (.par a b) ≤ 400) :
    Calls Try.prog 20 #[va] w fun e w' => e = .returned (.bool (stuck b)) ∧ Below w.heap.size w w' := by
  have KK := Rw.kidsR_any va (flat (.par a b)) w hA (by rw [flat_len]; omega)
  rw [show kids (flat (.par a b)) = [flat a, flat b] from kids_par a b] at KK
  obtain ⟨bA, oA, cA, rfl, hcA, hltA, hwA, hatA⟩ := form hA
  obtain ⟨nA, hnA⟩ : ∃ n, sz (.par a b) = n + 1 := ⟨sz (.par a b) - 1, by have := sz_pos (.par a b); omega⟩
  rw [hnA] at hcA KK ⊢
  have g3A : (1 : Int) ≤ (nA : Int) + 1 := by omega
  rw [show kd (.par a b) = 7 from rfl] at hwA
  have SA := Lib.hid hwA
  have HK := Lib.hid KK
  clear hnA hatA hA hwA KK hl
  go_enter Try.func20, Try.ntmps20
  go_wp2_with fail
  refine HK.out.mono ?_
  rintro e wc ⟨y, rfl, hks, hb0⟩
  obtain ⟨bk, ok, ck, y0, y1, rfl, q0, q1, n0, n1⟩ := two_rows hks
  have hkl : bk < wc.heap.size := Ap.cell_lt q0
  have KS : Hid (∀ w1, Below wc.heap.size wc w1 → w1.cell? ⟨bk, ok, none⟩ = some y0 ∧ w1.cell? ⟨bk, ok + 1, none⟩ = some y1) := Lib.hid fun w1 hb => ⟨by rw [hb.cell (p := ⟨bk, ok, none⟩) hkl]; exact q0, by rw [hb.cell (p := ⟨bk, ok + 1, none⟩) hkl]; exact q1⟩
  have N0 := Lib.hid n0
  have N1 := Lib.hid (fun w1 (hb : Below wc.heap.size wc w1) => n1.below hb)
  clear n0 n1
  have B0 := Lib.hid hb0
  have e0 := (SA.out _ hb0).1
  clear hks hb0
  go_wp2_with fail
  refine (RA.out y0 _ N0.out).mono ?_
  rintro e w1 ⟨rfl, hb1⟩
  have D1 := Lib.hid (B0.out.trans (hb1.mono B0.out.size))
  have NB := Lib.hid (N1.out w1 hb1)
  obtain ⟨p0, p1⟩ := KS.out w1 hb1
  clear hb1
  go_wp2_with fail
  refine (RB.out y1 _ NB.out).mono ?_
  rintro e w2 ⟨rfl, hb2⟩
  have D2 := Lib.hid (D1.out.trans (hb2.mono D1.out.size))
  clear hb2
  go_wp2_with fail
  go_ret
  exact ⟨rfl, D2.out⟩
theorem stuck_par (a b : Tm) (va : Value) (w : World) (hA : Nds w va (flat (.par a b))) (RA : Wstuck a) (RB : Wstuck b) (hl : sz (.par a b) ≤ 400) :
    Calls Try.prog 20 #[va] w fun e w' => e = .returned (.bool (stuck a || stuck b)) ∧ Below w.heap.size w w' := by
  cases hx : stuck a with
  | true => exact stuck_par_t a b va w hA (Lib.hid fun v w hv => by have h := RA v w hv; rw [hx] at h; exact h) hl
  | false => exact stuck_par_f a b va w hA (Lib.hid fun v w hv => by have h := RA v w hv; rw [hx] at h; exact h) (Lib.hid RB) hl
set_option maxHeartbeats 1000000 in
theorem stuck_block_t (a : Tm) (va : Value) (w : World) (hA : Nds w va (flat (.block a))) (hx : isQuery a = true) (hl : sz (.block a) ≤ 400) :
    Calls Try.prog 20 #[va] w fun e w' => e = .returned (.bool (true)) ∧ Below w.heap.size w w' := by
  have KK := Rw.kidsR_any va (flat (.block a)) w hA (by rw [flat_len]; omega)
  rw [show kids (flat (.block a)) = [flat a] from kids_block a] at KK
  obtain ⟨bA, oA, cA, rfl, hcA, hltA, hwA, hatA⟩ := form hA
  obtain ⟨nA, hnA⟩ : ∃ n, sz (.block a) = n + 1 := ⟨sz (.block a) - 1, by have := sz_pos (.block a); omega⟩
  rw [hnA] at hcA KK ⊢
  have g3A : (1 : Int) ≤ (nA : Int) + 1 := by omega
  rw [show kd (.block a) = 9 from rfl] at hwA
  have SA := Lib.hid hwA
  have HK := Lib.hid KK
  clear hnA hatA hA hwA KK hl
  go_enter Try.func20, Try.ntmps20
  go_wp2_with fail
  refine HK.out.mono ?_
  rintro e wc ⟨y, rfl, hks, hb0⟩
  obtain ⟨bk, ok, ck, y0, rfl, q0, n0⟩ := one_row hks
  have N0 := Lib.hid n0
  clear n0
  have B0 := Lib.hid hb0
  have e0 := (SA.out _ hb0).1
  clear hks hb0
  obtain ⟨b1, o1, c1, rfl, hc1, hlt1, hw1, -⟩ := form3 N0.out
  obtain ⟨x0, x1, x2⟩ := hw1 wc (Below.refl _ _)
  obtain ⟨n1, hn1⟩ : ∃ n, sz a = n + 1 := ⟨sz a - 1, by have := sz_pos a; omega⟩
  rw [hn1] at q0 N0
  have g31 : (1 : Int) ≤ (n1 : Int) + 1 := by omega
  have hq : ∀ w, (binOp .eql 30 (.agg #[.int .i64 (kd a), .string (nmT a), .int .i64 (sg a)]) (.agg #[.int .i64 14, .string ⟨#[]⟩, .int .i64 3])).run Try.prog w = .ok (.bool true) w := fun w => by rw [eq_bare, isQ_nd, hx]
  generalize kd a = k1 at x0 hq
  generalize nmT a = m1 at x1 hq
  generalize sg a = s1 at x2 hq
  clear hw1 hn1 hc1 hx
  go_wp2_with fail
  go_ret
  exact ⟨rfl, B0.out⟩
set_option maxHeartbeats 1000000 in
theorem stuck_block_f (a : Tm) (va : Value) (w : World) (hA : Nds w va (flat (.block a))) (RA : Hid (Wstuck a)) (hx : isQuery a = false) (hl : sz (.block a) ≤ 400) :
    Calls Try.prog 20 #[va] w fun e w' => e = .returned (.bool (stuck a)) ∧ Below w.heap.size w w' := by
  have KK := Rw.kidsR_any va (flat (.block a)) w hA (by rw [flat_len]; omega)
  rw [show kids (flat (.block a)) = [flat a] from kids_block a] at KK
  obtain ⟨bA, oA, cA, rfl, hcA, hltA, hwA, hatA⟩ := form hA
  obtain ⟨nA, hnA⟩ : ∃ n, sz (.block a) = n + 1 := ⟨sz (.block a) - 1, by have := sz_pos (.block a); omega⟩
  rw [hnA] at hcA KK ⊢
  have g3A : (1 : Int) ≤ (nA : Int) + 1 := by omega
  rw [show kd (.block a) = 9 from rfl] at hwA
  have SA := Lib.hid hwA
  have HK := Lib.hid KK
  clear hnA hatA hA hwA KK hl
  go_enter Try.func20, Try.ntmps20
  go_wp2_with fail
  refine HK.out.mono ?_
  rintro e wc ⟨y, rfl, hks, hb0⟩
  obtain ⟨bk, ok, ck, y0, rfl, q0, n0⟩ := one_row hks
  have N0 := Lib.hid n0
  clear n0
  have B0 := Lib.hid hb0
  have e0 := (SA.out _ hb0).1
  clear hks hb0
  obtain ⟨b1, o1, c1, rfl, hc1, hlt1, hw1, -⟩ := form3 N0.out
  obtain ⟨x0, x1, x2⟩ := hw1 wc (Below.refl _ _)
  obtain ⟨n1, hn1⟩ : ∃ n, sz a = n + 1 := ⟨sz a - 1, by have := sz_pos a; omega⟩
  rw [hn1] at q0 N0
  have g31 : (1 : Int) ≤ (n1 : Int) + 1 := by omega
  have hq : ∀ w, (binOp .eql 30 (.agg #[.int .i64 (kd a), .string (nmT a), .int .i64 (sg a)]) (.agg #[.int .i64 14, .string ⟨#[]⟩, .int .i64 3])).run Try.prog w = .ok (.bool false) w := fun w => by rw [eq_bare, isQ_nd, hx]
  generalize kd a = k1 at x0 hq
  generalize nmT a = m1 at x1 hq
  generalize sg a = s1 at x2 hq
  clear hw1 hn1 hc1 hx
  go_wp2_with fail
  refine (RA.out _ _ N0.out).mono ?_
  rintro e w1 ⟨rfl, hb1⟩
  have D1 := Lib.hid (B0.out.trans (hb1.mono B0.out.size))
  clear hb1
  go_wp2_with fail
  go_ret
  exact ⟨rfl, D1.out⟩
theorem stuck_block (a : Tm) (va : Value) (w : World) (hA : Nds w va (flat (.block a))) (RA : Hid (Wstuck a)) (hl : sz (.block a) ≤ 400) :
    Calls Try.prog 20 #[va] w fun e w' => e = .returned (.bool (isQuery a || stuck a)) ∧ Below w.heap.size w w' := by
  cases hx : isQuery a with
  | true => exact stuck_block_t a va w hA hx hl
  | false => exact stuck_block_f a va w hA RA hx hl
theorem stuck_any : ∀ t : Tm, sz t ≤ 400 → Wstuck t := by
  intro t
  induction t with
  | act s => exact fun hl v w hv => stuck_act s v w hv hl
  | over s => exact fun hl v w hv => stuck_over s v w hv hl
  | skip => exact fun hl v w hv => stuck_skip v w hv hl
  | throw => exact fun hl v w hv => stuck_throw v w hv hl
  | yield => exact fun hl v w hv => stuck_yield v w hv hl
  | fin s c _ => exact fun hl v w hv => stuck_fin s c v w hv hl
  | alt a b _ _ => exact fun hl v w hv => stuck_alt a b v w hv hl
  | pair a b _ _ => exact fun hl v w hv => stuck_pair a b v w hv hl
  | seq a b ia _ => exact fun hl v w hv => stuck_seq a b v w hv (Lib.hid (ia (by simp only [sz] at hl; omega))) hl
  | hand a b ia _ => exact fun hl v w hv => stuck_hand a b v w hv (Lib.hid (ia (by simp only [sz] at hl; omega))) hl
  | going a b ia _ => exact fun hl v w hv => stuck_going a b v w hv (Lib.hid (ia (by simp only [sz] at hl; omega))) hl
  | stack a b ia _ => exact fun hl v w hv => stuck_stack a b v w hv (Lib.hid (ia (by simp only [sz] at hl; omega))) hl
  | par a b ia ib => exact fun hl v w hv => stuck_par a b v w hv (ia (by simp only [sz] at hl; omega)) (ib (by simp only [sz] at hl; omega)) hl
  | block a ia => exact fun hl v w hv => stuck_block a v w hv (Lib.hid (ia (by simp only [sz] at hl; omega))) hl
end Go.Proofs.Ytgaediondmdnbaa.Se
