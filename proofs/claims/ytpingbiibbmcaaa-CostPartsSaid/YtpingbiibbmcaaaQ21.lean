/- The document's costs: the walks. Plain: what is beside a place, and whether a block is above it. The statements' own first look at package settle: the walk. -/
import Derived.Test.YtpingbiibbmcaaaQ20
import Derived.Test.YtpingbiibbmcaaaQ13
import Derived.Test.YtpingbiibbmcaaaQ05
import Derived.Deep.QuietTactic
import Derived.Test.YtpingbiibbmcaaaQ18
import Derived.Test.YtpingbiibbmcaaaQ14
import Derived.Test.YtpingbiibbmcaaaQ06

namespace Go.Proofs.Ytpingbiibbmcaaa.Co
open Go Go.RowKit Go.Proofs.Ytpingbiibbmcaaa.Rw Go.Proofs.Ytpingbiibbmcaaa.So Go.Proofs.Ytpingbiibbmcaaa.Se Go.Proofs.Ytpingbiibbmcaaa.Do Go.Proofs.Ytpingbiibbmcaaa.Sp
set_option maxRecDepth 20000

/-- What a tree costs: the least, or the most. -/
def cst (b : Bool) (t : Tm) : Nat := if b then le t else mo t
theorem cst_sz (b : Bool) (t : Tm) : cst b t ≤ sz t := by
  have h1 := le_mo t
  have h2 := mo_ch t
  have h3 := ch_sz t
  unfold cst
  split <;> omega
theorem cst_alt (b : Bool) (x y : Tm) : cst b (.alt x y) = 1 + (if (decide (cst b x < cst b y) == b) = true then cst b x else cst b y) := by
  cases b
  · show 1 + max (mo x) (mo y) = 1 + (if (decide (mo x < mo y) == false) = true then mo x else mo y)
    by_cases h : mo x < mo y
    · rw [decide_eq_true h, if_neg (by decide)]; omega
    · rw [decide_eq_false h, if_pos (by decide)]; omega
  · show 1 + min (le x) (le y) = 1 + (if (decide (le x < le y) == true) = true then le x else le y)
    by_cases h : le x < le y
    · rw [decide_eq_true h, if_pos (by decide)]; omega
    · rw [decide_eq_false h, if_neg (by decide)]; omega
abbrev Wtr (t : Tm) : Prop := ∀ (v : Value) (w : World) (b : Bool), Nds w v (flat t) → Calls Try.prog 30 #[v, .bool b] w fun e w' => e = .returned (.int .i64 (cst b t : Nat)) ∧ Below w.heap.size w w'
set_option maxHeartbeats 2000000 in
theorem tree_act (s : ByteArray) (va : Value) (w : World) (b : Bool) (hA : Nds w va (flat (.act s))) (hl : sz (.act s) ≤ 400) :
    Calls Try.prog 30 #[va, .bool b] w fun e w' => e = .returned (.int .i64 (cst b (.act s) : Nat)) ∧ Below w.heap.size w w' := by
  have KK := Rw.kidsR_any va (flat (.act s)) w hA (by rw [Se.flat_len]; omega)
  rw [show kids (flat (.act s)) = [] from rfl] at KK
  obtain ⟨bA, oA, cA, rfl, hcA, hltA, hwA, hatA⟩ := form hA
  obtain ⟨nA, hnA⟩ : ∃ n, sz (.act s) = n + 1 := ⟨sz (.act s) - 1, by have := sz_pos (.act s); omega⟩
  rw [hnA] at hcA KK ⊢
  have g3A : (1 : Int) ≤ (nA : Int) + 1 := by omega
  rw [show kd (.act s) = 1 from rfl] at hwA
  have SA := Lib.hid hwA
  have HK := Lib.hid KK
  have HE : Hid (cst b (.act s) = 0 + 1) := Lib.hid (by cases b <;> rfl)
  simp only [sz] at hl
  clear hnA hatA hA hwA KK hl
  go_enter Try.func30, Try.ntmps30
  go_wp2_with fail
  refine HK.out.mono ?_
  rintro e wc ⟨y, rfl, hks, hb0⟩
  obtain ⟨cs, hRd, -⟩ := hks
  obtain ⟨_, ak, ck, rfl, -⟩ := hRd
  have B0 := Lib.hid hb0
  have F0 := Lib.hid (Below.refl wc.heap.size wc)
  clear hb0
  go_wp2_with fail
  refine Go.wp_loop_rounds 1 ?_
  have e0 := (SA.out wc (B0.out.trans (F0.out.mono B0.out.size))).1
  rw [rounds_succ]
  go_wp2_with fail
  go_ret
  exact ⟨ret_int (by first | (rw [HE.out]; done) | (rw [HE.out]; omega)), B0.out.trans (F0.out.mono B0.out.size)⟩
set_option maxHeartbeats 2000000 in
theorem tree_skip  (va : Value) (w : World) (b : Bool) (hA : Nds w va (flat .skip)) (hl : sz .skip ≤ 400) :
    Calls Try.prog 30 #[va, .bool b] w fun e w' => e = .returned (.int .i64 (cst b .skip : Nat)) ∧ Below w.heap.size w w' := by
  have KK := Rw.kidsR_any va (flat .skip) w hA (by rw [Se.flat_len]; omega)
  rw [show kids (flat .skip) = [] from rfl] at KK
  obtain ⟨bA, oA, cA, rfl, hcA, hltA, hwA, hatA⟩ := form hA
  obtain ⟨nA, hnA⟩ : ∃ n, sz .skip = n + 1 := ⟨sz .skip - 1, by have := sz_pos .skip; omega⟩
  rw [hnA] at hcA KK ⊢
  have g3A : (1 : Int) ≤ (nA : Int) + 1 := by omega
  rw [show kd .skip = 2 from rfl] at hwA
  have SA := Lib.hid hwA
  have HK := Lib.hid KK
  have HE : Hid (cst b .skip = 0) := Lib.hid (by cases b <;> rfl)
  simp only [sz] at hl
  clear hnA hatA hA hwA KK hl
  go_enter Try.func30, Try.ntmps30
  go_wp2_with fail
  refine HK.out.mono ?_
  rintro e wc ⟨y, rfl, hks, hb0⟩
  obtain ⟨cs, hRd, -⟩ := hks
  obtain ⟨_, ak, ck, rfl, -⟩ := hRd
  have B0 := Lib.hid hb0
  have F0 := Lib.hid (Below.refl wc.heap.size wc)
  clear hb0
  go_wp2_with fail
  refine Go.wp_loop_rounds 1 ?_
  have e0 := (SA.out wc (B0.out.trans (F0.out.mono B0.out.size))).1
  rw [rounds_succ]
  go_wp2_with fail
  go_ret
  exact ⟨ret_int (by first | (rw [HE.out]; done) | (rw [HE.out]; omega)), B0.out.trans (F0.out.mono B0.out.size)⟩
set_option maxHeartbeats 2000000 in
theorem tree_throw  (va : Value) (w : World) (b : Bool) (hA : Nds w va (flat .throw)) (hl : sz .throw ≤ 400) :
    Calls Try.prog 30 #[va, .bool b] w fun e w' => e = .returned (.int .i64 (cst b .throw : Nat)) ∧ Below w.heap.size w w' := by
  have KK := Rw.kidsR_any va (flat .throw) w hA (by rw [Se.flat_len]; omega)
  rw [show kids (flat .throw) = [] from rfl] at KK
  obtain ⟨bA, oA, cA, rfl, hcA, hltA, hwA, hatA⟩ := form hA
  obtain ⟨nA, hnA⟩ : ∃ n, sz .throw = n + 1 := ⟨sz .throw - 1, by have := sz_pos .throw; omega⟩
  rw [hnA] at hcA KK ⊢
  have g3A : (1 : Int) ≤ (nA : Int) + 1 := by omega
  rw [show kd .throw = 3 from rfl] at hwA
  have SA := Lib.hid hwA
  have HK := Lib.hid KK
  have HE : Hid (cst b .throw = 0) := Lib.hid (by cases b <;> rfl)
  simp only [sz] at hl
  clear hnA hatA hA hwA KK hl
  go_enter Try.func30, Try.ntmps30
  go_wp2_with fail
  refine HK.out.mono ?_
  rintro e wc ⟨y, rfl, hks, hb0⟩
  obtain ⟨cs, hRd, -⟩ := hks
  obtain ⟨_, ak, ck, rfl, -⟩ := hRd
  have B0 := Lib.hid hb0
  have F0 := Lib.hid (Below.refl wc.heap.size wc)
  clear hb0
  go_wp2_with fail
  refine Go.wp_loop_rounds 1 ?_
  have e0 := (SA.out wc (B0.out.trans (F0.out.mono B0.out.size))).1
  rw [rounds_succ]
  go_wp2_with fail
  go_ret
  exact ⟨ret_int (by first | (rw [HE.out]; done) | (rw [HE.out]; omega)), B0.out.trans (F0.out.mono B0.out.size)⟩
set_option maxHeartbeats 2000000 in
theorem tree_yield  (va : Value) (w : World) (b : Bool) (hA : Nds w va (flat .yield)) (hl : sz .yield ≤ 400) :
    Calls Try.prog 30 #[va, .bool b] w fun e w' => e = .returned (.int .i64 (cst b .yield : Nat)) ∧ Below w.heap.size w w' := by
  have KK := Rw.kidsR_any va (flat .yield) w hA (by rw [Se.flat_len]; omega)
  rw [show kids (flat .yield) = [] from rfl] at KK
  obtain ⟨bA, oA, cA, rfl, hcA, hltA, hwA, hatA⟩ := form hA
  obtain ⟨nA, hnA⟩ : ∃ n, sz .yield = n + 1 := ⟨sz .yield - 1, by have := sz_pos .yield; omega⟩
  rw [hnA] at hcA KK ⊢
  have g3A : (1 : Int) ≤ (nA : Int) + 1 := by omega
  rw [show kd .yield = 4 from rfl] at hwA
  have SA := Lib.hid hwA
  have HK := Lib.hid KK
  have HE : Hid (cst b .yield = 0 + 1) := Lib.hid (by cases b <;> rfl)
  simp only [sz] at hl
  clear hnA hatA hA hwA KK hl
  go_enter Try.func30, Try.ntmps30
  go_wp2_with fail
  refine HK.out.mono ?_
  rintro e wc ⟨y, rfl, hks, hb0⟩
  obtain ⟨cs, hRd, -⟩ := hks
  obtain ⟨_, ak, ck, rfl, -⟩ := hRd
  have B0 := Lib.hid hb0
  have F0 := Lib.hid (Below.refl wc.heap.size wc)
  clear hb0
  go_wp2_with fail
  refine Go.wp_loop_rounds 1 ?_
  have e0 := (SA.out wc (B0.out.trans (F0.out.mono B0.out.size))).1
  rw [rounds_succ]
  go_wp2_with fail
  go_ret
  exact ⟨ret_int (by first | (rw [HE.out]; done) | (rw [HE.out]; omega)), B0.out.trans (F0.out.mono B0.out.size)⟩
set_option maxHeartbeats 2000000 in
theorem tree_over (s : Int) (va : Value) (w : World) (b : Bool) (hA : Nds w va (flat (.over s))) (hl : sz (.over s) ≤ 400) :
    Calls Try.prog 30 #[va, .bool b] w fun e w' => e = .returned (.int .i64 (cst b (.over s) : Nat)) ∧ Below w.heap.size w w' := by
  have KK := Rw.kidsR_any va (flat (.over s)) w hA (by rw [Se.flat_len]; omega)
  rw [show kids (flat (.over s)) = [] from rfl] at KK
  obtain ⟨bA, oA, cA, rfl, hcA, hltA, hwA, hatA⟩ := form hA
  obtain ⟨nA, hnA⟩ : ∃ n, sz (.over s) = n + 1 := ⟨sz (.over s) - 1, by have := sz_pos (.over s); omega⟩
  rw [hnA] at hcA KK ⊢
  have g3A : (1 : Int) ≤ (nA : Int) + 1 := by omega
  rw [show kd (.over s) = 11 from rfl] at hwA
  have SA := Lib.hid hwA
  have HK := Lib.hid KK
  have HE : Hid (cst b (.over s) = 0) := Lib.hid (by cases b <;> rfl)
  simp only [sz] at hl
  clear hnA hatA hA hwA KK hl
  go_enter Try.func30, Try.ntmps30
  go_wp2_with fail
  refine HK.out.mono ?_
  rintro e wc ⟨y, rfl, hks, hb0⟩
  obtain ⟨cs, hRd, -⟩ := hks
  obtain ⟨_, ak, ck, rfl, -⟩ := hRd
  have B0 := Lib.hid hb0
  have F0 := Lib.hid (Below.refl wc.heap.size wc)
  clear hb0
  go_wp2_with fail
  refine Go.wp_loop_rounds 1 ?_
  have e0 := (SA.out wc (B0.out.trans (F0.out.mono B0.out.size))).1
  rw [rounds_succ]
  go_wp2_with fail
  go_ret
  exact ⟨ret_int (by first | (rw [HE.out]; done) | (rw [HE.out]; omega)), B0.out.trans (F0.out.mono B0.out.size)⟩
set_option maxHeartbeats 2000000 in
theorem tree_fin (s : Int) (c : Tm) (va : Value) (w : World) (b : Bool) (hA : Nds w va (flat (.fin s c))) (R0 : Hid (Wtr c)) (hl : sz (.fin s c) ≤ 400) :
    Calls Try.prog 30 #[va, .bool b] w fun e w' => e = .returned (.int .i64 (cst b (.fin s c) : Nat)) ∧ Below w.heap.size w w' := by
  have KK := Rw.kidsR_any va (flat (.fin s c)) w hA (by rw [Se.flat_len]; omega)
  rw [show kids (flat (.fin s c)) = [flat c] from kids_fin s c] at KK
  obtain ⟨bA, oA, cA, rfl, hcA, hltA, hwA, hatA⟩ := form hA
  obtain ⟨nA, hnA⟩ : ∃ n, sz (.fin s c) = n + 1 := ⟨sz (.fin s c) - 1, by have := sz_pos (.fin s c); omega⟩
  rw [hnA] at hcA KK ⊢
  have g3A : (1 : Int) ≤ (nA : Int) + 1 := by omega
  rw [show kd (.fin s c) = 14 from rfl] at hwA
  have SA := Lib.hid hwA
  have HK := Lib.hid KK
  have hc0 := cst_sz b c
  have HE : Hid (cst b (.fin s c) = cst b c) := Lib.hid (by cases b <;> rfl)
  simp only [sz] at hl
  have q0 : cst b c ≤ 400 := by omega
  have S0 := Lib.hid (fun y w1 (h : Nds w1 y (flat c)) => R0.out y w1 b h)
  generalize cst b c = z0 at S0 HE q0
  clear hnA hatA hA hwA KK hl hc0
  go_enter Try.func30, Try.ntmps30
  go_wp2_with fail
  refine HK.out.mono ?_
  rintro e wc ⟨y, rfl, hks, hb0⟩
  obtain ⟨bk, ok, ck, y0, rfl, qq0, n0⟩ := one_row hks
  have hkl : bk < wc.heap.size := Ap.cell_lt qq0
  have KS : Hid (∀ w1, Below wc.heap.size wc w1 → w1.cell? ⟨bk, ok, none⟩ = some y0) := Lib.hid fun w1 hb => by rw [hb.cell (p := ⟨bk, ok, none⟩) hkl]; exact qq0
  have N0 := Lib.hid (fun w1 (hb : Below wc.heap.size wc w1) => n0.below hb)
  have B0 := Lib.hid hb0
  have F0 := Lib.hid (Below.refl wc.heap.size wc)
  clear hks hb0
  clear n0
  go_wp2_with fail
  refine Go.wp_loop_rounds 2 ?_
  have p0 := KS.out wc F0.out
  rw [rounds_succ]
  go_wp2_with fail
  refine (S0.out _ _ (N0.out _ F0.out)).mono ?_
  rintro e w1 ⟨rfl, hb1⟩
  have F1 := Lib.hid (F0.out.trans (hb1.mono F0.out.size))
  clear hb1
  go_wp2_with fail
  have e0 := (SA.out w1 (B0.out.trans (F1.out.mono B0.out.size))).1
  rw [rounds_succ]
  go_wp2_with fail
  go_ret
  exact ⟨ret_int (by first | (rw [HE.out]; done) | (rw [HE.out]; omega)), B0.out.trans (F1.out.mono B0.out.size)⟩
set_option maxHeartbeats 2000000 in
theorem tree_block (a : Tm) (va : Value) (w : World) (b : Bool) (hA : Nds w va (flat (.block a))) (R0 : Hid (Wtr a)) (hl : sz (.block a) ≤ 400) :
    Calls Try.prog 30 #[va, .bool b] w fun e w' => e = .returned (.int .i64 (cst b (.block a) : Nat)) ∧ Below w.heap.size w w' := by
  have KK := Rw.kidsR_any va (flat (.block a)) w hA (by rw [Se.flat_len]; omega)
  rw [show kids (flat (.block a)) = [flat a] from kids_block a] at KK
  obtain ⟨bA, oA, cA, rfl, hcA, hltA, hwA, hatA⟩ := form hA
  obtain ⟨nA, hnA⟩ : ∃ n, sz (.block a) = n + 1 := ⟨sz (.block a) - 1, by have := sz_pos (.block a); omega⟩
  rw [hnA] at hcA KK ⊢
  have g3A : (1 : Int) ≤ (nA : Int) + 1 := by omega
  rw [show kd (.block a) = 9 from rfl] at hwA
  have SA := Lib.hid hwA
  have HK := Lib.hid KK
  have hc0 := cst_sz b a
  have HE : Hid (cst b (.block a) = cst b a) := Lib.hid (by cases b <;> rfl)
  simp only [sz] at hl
  have q0 : cst b a ≤ 400 := by omega
  have S0 := Lib.hid (fun y w1 (h : Nds w1 y (flat a)) => R0.out y w1 b h)
  generalize cst b a = z0 at S0 HE q0
  clear hnA hatA hA hwA KK hl hc0
  go_enter Try.func30, Try.ntmps30
  go_wp2_with fail
  refine HK.out.mono ?_
  rintro e wc ⟨y, rfl, hks, hb0⟩
  obtain ⟨bk, ok, ck, y0, rfl, qq0, n0⟩ := one_row hks
  have hkl : bk < wc.heap.size := Ap.cell_lt qq0
  have KS : Hid (∀ w1, Below wc.heap.size wc w1 → w1.cell? ⟨bk, ok, none⟩ = some y0) := Lib.hid fun w1 hb => by rw [hb.cell (p := ⟨bk, ok, none⟩) hkl]; exact qq0
  have N0 := Lib.hid (fun w1 (hb : Below wc.heap.size wc w1) => n0.below hb)
  have B0 := Lib.hid hb0
  have F0 := Lib.hid (Below.refl wc.heap.size wc)
  clear hks hb0
  clear n0
  go_wp2_with fail
  refine Go.wp_loop_rounds 2 ?_
  have p0 := KS.out wc F0.out
  rw [rounds_succ]
  go_wp2_with fail
  refine (S0.out _ _ (N0.out _ F0.out)).mono ?_
  rintro e w1 ⟨rfl, hb1⟩
  have F1 := Lib.hid (F0.out.trans (hb1.mono F0.out.size))
  clear hb1
  go_wp2_with fail
  have e0 := (SA.out w1 (B0.out.trans (F1.out.mono B0.out.size))).1
  rw [rounds_succ]
  go_wp2_with fail
  go_ret
  exact ⟨ret_int (by first | (rw [HE.out]; done) | (rw [HE.out]; omega)), B0.out.trans (F1.out.mono B0.out.size)⟩
set_option maxHeartbeats 2000000 in
theorem tree_seq (a b' : Tm) (va : Value) (w : World) (b : Bool) (hA : Nds w va (flat (.seq a b'))) (R0 : Hid (Wtr a)) (R1 : Hid (Wtr b')) (hl : sz (.seq a b') ≤ 400) :
    Calls Try.prog 30 #[va, .bool b] w fun e w' => e = .returned (.int .i64 (cst b (.seq a b') : Nat)) ∧ Below w.heap.size w w' := by
  have KK := Rw.kidsR_any va (flat (.seq a b')) w hA (by rw [Se.flat_len]; omega)
  rw [show kids (flat (.seq a b')) = [flat a, flat b'] from kids_seq a b'] at KK
  obtain ⟨bA, oA, cA, rfl, hcA, hltA, hwA, hatA⟩ := form hA
  obtain ⟨nA, hnA⟩ : ∃ n, sz (.seq a b') = n + 1 := ⟨sz (.seq a b') - 1, by have := sz_pos (.seq a b'); omega⟩
  rw [hnA] at hcA KK ⊢
  have g3A : (1 : Int) ≤ (nA : Int) + 1 := by omega
  rw [show kd (.seq a b') = 5 from rfl] at hwA
  have SA := Lib.hid hwA
  have HK := Lib.hid KK
  have hc0 := cst_sz b a
  have hc1 := cst_sz b b'
  have HE : Hid (cst b (.seq a b') = cst b a + cst b b') := Lib.hid (by cases b <;> rfl)
  simp only [sz] at hl
  have q0 : cst b a ≤ 400 := by omega
  have S0 := Lib.hid (fun y w1 (h : Nds w1 y (flat a)) => R0.out y w1 b h)
  have q1 : cst b b' ≤ 400 := by omega
  have S1 := Lib.hid (fun y w1 (h : Nds w1 y (flat b')) => R1.out y w1 b h)
  generalize cst b a = z0 at S0 HE q0
  generalize cst b b' = z1 at S1 HE q1
  clear hnA hatA hA hwA KK hl hc0 hc1
  go_enter Try.func30, Try.ntmps30
  go_wp2_with fail
  refine HK.out.mono ?_
  rintro e wc ⟨y, rfl, hks, hb0⟩
  obtain ⟨bk, ok, ck, y0, y1, rfl, qq0, qq1, n0, n1⟩ := two_rows hks
  have hkl : bk < wc.heap.size := Ap.cell_lt qq0
  have KS : Hid (∀ w1, Below wc.heap.size wc w1 → w1.cell? ⟨bk, ok, none⟩ = some y0 ∧ w1.cell? ⟨bk, ok + 1, none⟩ = some y1) := Lib.hid fun w1 hb => ⟨by rw [hb.cell (p := ⟨bk, ok, none⟩) hkl]; exact qq0, by rw [hb.cell (p := ⟨bk, ok + 1, none⟩) hkl]; exact qq1⟩
  have N0 := Lib.hid (fun w1 (hb : Below wc.heap.size wc w1) => n0.below hb)
  have N1 := Lib.hid (fun w1 (hb : Below wc.heap.size wc w1) => n1.below hb)
  have B0 := Lib.hid hb0
  have F0 := Lib.hid (Below.refl wc.heap.size wc)
  clear hks hb0
  clear n0 n1
  go_wp2_with fail
  refine Go.wp_loop_rounds 3 ?_
  obtain ⟨p0, p1⟩ := KS.out wc F0.out
  rw [rounds_succ]
  go_wp2_with fail
  refine (S0.out _ _ (N0.out _ F0.out)).mono ?_
  rintro e w1 ⟨rfl, hb1⟩
  have F1 := Lib.hid (F0.out.trans (hb1.mono F0.out.size))
  clear hb1
  go_wp2_with fail
  obtain ⟨p0, p1⟩ := KS.out w1 F1.out
  rw [rounds_succ]
  go_wp2_with fail
  refine (S1.out _ _ (N1.out _ F1.out)).mono ?_
  rintro e w2 ⟨rfl, hb2⟩
  have F2 := Lib.hid (F1.out.trans (hb2.mono F1.out.size))
  clear hb2
  go_wp2_with fail
  have e0 := (SA.out w2 (B0.out.trans (F2.out.mono B0.out.size))).1
  rw [rounds_succ]
  go_wp2_with fail
  go_ret
  exact ⟨ret_int (by first | (rw [HE.out]; done) | (rw [HE.out]; omega)), B0.out.trans (F2.out.mono B0.out.size)⟩
set_option maxHeartbeats 2000000 in
theorem tree_alt (a b' : Tm) (va : Value) (w : World) (b : Bool) (hA : Nds w va (flat (.alt a b'))) (R0 : Hid (Wtr a)) (R1 : Hid (Wtr b')) (hl : sz (.alt a b') ≤ 400) :
    Calls Try.prog 30 #[va, .bool b] w fun e w' => e = .returned (.int .i64 (cst b (.alt a b') : Nat)) ∧ Below w.heap.size w w' := by
  have KK := Rw.kidsR_any va (flat (.alt a b')) w hA (by rw [Se.flat_len]; omega)
  rw [show kids (flat (.alt a b')) = [flat a, flat b'] from kids_alt a b'] at KK
  obtain ⟨bA, oA, cA, rfl, hcA, hltA, hwA, hatA⟩ := form hA
  obtain ⟨nA, hnA⟩ : ∃ n, sz (.alt a b') = n + 1 := ⟨sz (.alt a b') - 1, by have := sz_pos (.alt a b'); omega⟩
  rw [hnA] at hcA KK ⊢
  have g3A : (1 : Int) ≤ (nA : Int) + 1 := by omega
  rw [show kd (.alt a b') = 6 from rfl] at hwA
  have SA := Lib.hid hwA
  have HK := Lib.hid KK
  have hc0 := cst_sz b a
  have hc1 := cst_sz b b'
  have HE := Lib.hid (cst_alt b a b')
  simp only [sz] at hl
  have q0 : cst b a ≤ 400 := by omega
  have S0 := Lib.hid (fun y w1 (h : Nds w1 y (flat a)) => R0.out y w1 b h)
  have q1 : cst b b' ≤ 400 := by omega
  have S1 := Lib.hid (fun y w1 (h : Nds w1 y (flat b')) => R1.out y w1 b h)
  generalize cst b a = z0 at S0 HE q0
  generalize cst b b' = z1 at S1 HE q1
  clear hnA hatA hA hwA KK hl hc0 hc1
  go_enter Try.func30, Try.ntmps30
  go_wp2_with fail
  refine HK.out.mono ?_
  rintro e wc ⟨y, rfl, hks, hb0⟩
  obtain ⟨bk, ok, ck, y0, y1, rfl, qq0, qq1, n0, n1⟩ := two_rows hks
  have hkl : bk < wc.heap.size := Ap.cell_lt qq0
  have KS : Hid (∀ w1, Below wc.heap.size wc w1 → w1.cell? ⟨bk, ok, none⟩ = some y0 ∧ w1.cell? ⟨bk, ok + 1, none⟩ = some y1) := Lib.hid fun w1 hb => ⟨by rw [hb.cell (p := ⟨bk, ok, none⟩) hkl]; exact qq0, by rw [hb.cell (p := ⟨bk, ok + 1, none⟩) hkl]; exact qq1⟩
  have N0 := Lib.hid (fun w1 (hb : Below wc.heap.size wc w1) => n0.below hb)
  have N1 := Lib.hid (fun w1 (hb : Below wc.heap.size wc w1) => n1.below hb)
  have B0 := Lib.hid hb0
  have F0 := Lib.hid (Below.refl wc.heap.size wc)
  clear hks hb0
  clear n0 n1
  go_wp2_with fail
  refine Go.wp_loop_rounds 3 ?_
  obtain ⟨p0, p1⟩ := KS.out wc F0.out
  rw [rounds_succ]
  go_wp2_with fail
  refine (S0.out _ _ (N0.out _ F0.out)).mono ?_
  rintro e w1 ⟨rfl, hb1⟩
  have F1 := Lib.hid (F0.out.trans (hb1.mono F0.out.size))
  clear hb1
  go_wp2_with fail
  obtain ⟨p0, p1⟩ := KS.out w1 F1.out
  rw [rounds_succ]
  go_wp2_with fail
  refine (S1.out _ _ (N1.out _ F1.out)).mono ?_
  rintro e w2 ⟨rfl, hb2⟩
  have F2 := Lib.hid (F1.out.trans (hb2.mono F1.out.size))
  clear hb2
  go_wp2_with fail
  have e0 := (SA.out w2 (B0.out.trans (F2.out.mono B0.out.size))).1
  rw [rounds_succ]
  obtain ⟨p0, p1⟩ := KS.out w2 F2.out
  go_wp2_with fail
  refine (S0.out _ _ (N0.out _ F2.out)).mono ?_
  rintro e w3 ⟨rfl, hb3⟩
  have F3 := Lib.hid (F2.out.trans (hb3.mono F2.out.size))
  clear hb3
  obtain ⟨p0, p1⟩ := KS.out w3 F3.out
  go_wp2_with fail
  refine (S1.out _ _ (N1.out _ F3.out)).mono ?_
  rintro e w4 ⟨rfl, hb4⟩
  have F4 := Lib.hid (F3.out.trans (hb4.mono F3.out.size))
  clear hb4
  obtain ⟨p0, p1⟩ := KS.out w4 F4.out
  have D := Lib.hid (B0.out.trans (F4.out.mono B0.out.size))
  by_cases hlt : z0 < z1
  · have hi : (z0 : Int) < (z1 : Int) := by omega
    have hdd : decide ((z0 : Int) < (z1 : Int)) = true := decide_eq_true hi
    have b1 : (!decide (z0 < z1)) = false := by rw [decide_eq_true hlt]; rfl
    rw [decide_eq_true hlt] at HE
    cases b
    all_goals
      go_wp2_with fail
      go_ret
      exact ⟨ret_int (by rw [HE.out]; simp), D.out⟩
  · have hi : ¬ (z0 : Int) < (z1 : Int) := by omega
    have hdd : decide ((z0 : Int) < (z1 : Int)) = false := decide_eq_false hi
    have b1 : (!decide (z0 < z1)) = true := by rw [decide_eq_false hlt]; rfl
    rw [decide_eq_false hlt] at HE
    cases b
    all_goals
      go_wp2_with fail
      go_ret
      exact ⟨ret_int (by rw [HE.out]; simp), D.out⟩
set_option maxHeartbeats 2000000 in
theorem tree_par (a b' : Tm) (va : Value) (w : World) (b : Bool) (hA : Nds w va (flat (.par a b'))) (R0 : Hid (Wtr a)) (R1 : Hid (Wtr b')) (hl : sz (.par a b') ≤ 400) :
    Calls Try.prog 30 #[va, .bool b] w fun e w' => e = .returned (.int .i64 (cst b (.par a b') : Nat)) ∧ Below w.heap.size w w' := by
  have KK := Rw.kidsR_any va (flat (.par a b')) w hA (by rw [Se.flat_len]; omega)
  rw [show kids (flat (.par a b')) = [flat a, flat b'] from kids_par a b'] at KK
  obtain ⟨bA, oA, cA, rfl, hcA, hltA, hwA, hatA⟩ := form hA
  obtain ⟨nA, hnA⟩ : ∃ n, sz (.par a b') = n + 1 := ⟨sz (.par a b') - 1, by have := sz_pos (.par a b'); omega⟩
  rw [hnA] at hcA KK ⊢
  have g3A : (1 : Int) ≤ (nA : Int) + 1 := by omega
  rw [show kd (.par a b') = 7 from rfl] at hwA
  have SA := Lib.hid hwA
  have HK := Lib.hid KK
  have hc0 := cst_sz b a
  have hc1 := cst_sz b b'
  have HE : Hid (cst b (.par a b') = cst b a + cst b b') := Lib.hid (by cases b <;> rfl)
  simp only [sz] at hl
  have q0 : cst b a ≤ 400 := by omega
  have S0 := Lib.hid (fun y w1 (h : Nds w1 y (flat a)) => R0.out y w1 b h)
  have q1 : cst b b' ≤ 400 := by omega
  have S1 := Lib.hid (fun y w1 (h : Nds w1 y (flat b')) => R1.out y w1 b h)
  generalize cst b a = z0 at S0 HE q0
  generalize cst b b' = z1 at S1 HE q1
  clear hnA hatA hA hwA KK hl hc0 hc1
  go_enter Try.func30, Try.ntmps30
  go_wp2_with fail
  refine HK.out.mono ?_
  rintro e wc ⟨y, rfl, hks, hb0⟩
  obtain ⟨bk, ok, ck, y0, y1, rfl, qq0, qq1, n0, n1⟩ := two_rows hks
  have hkl : bk < wc.heap.size := Ap.cell_lt qq0
  have KS : Hid (∀ w1, Below wc.heap.size wc w1 → w1.cell? ⟨bk, ok, none⟩ = some y0 ∧ w1.cell? ⟨bk, ok + 1, none⟩ = some y1) := Lib.hid fun w1 hb => ⟨by rw [hb.cell (p := ⟨bk, ok, none⟩) hkl]; exact qq0, by rw [hb.cell (p := ⟨bk, ok + 1, none⟩) hkl]; exact qq1⟩
  have N0 := Lib.hid (fun w1 (hb : Below wc.heap.size wc w1) => n0.below hb)
  have N1 := Lib.hid (fun w1 (hb : Below wc.heap.size wc w1) => n1.below hb)
  have B0 := Lib.hid hb0
  have F0 := Lib.hid (Below.refl wc.heap.size wc)
  clear hks hb0
  clear n0 n1
  go_wp2_with fail
  refine Go.wp_loop_rounds 3 ?_
  obtain ⟨p0, p1⟩ := KS.out wc F0.out
  rw [rounds_succ]
  go_wp2_with fail
  refine (S0.out _ _ (N0.out _ F0.out)).mono ?_
  rintro e w1 ⟨rfl, hb1⟩
  have F1 := Lib.hid (F0.out.trans (hb1.mono F0.out.size))
  clear hb1
  go_wp2_with fail
  obtain ⟨p0, p1⟩ := KS.out w1 F1.out
  rw [rounds_succ]
  go_wp2_with fail
  refine (S1.out _ _ (N1.out _ F1.out)).mono ?_
  rintro e w2 ⟨rfl, hb2⟩
  have F2 := Lib.hid (F1.out.trans (hb2.mono F1.out.size))
  clear hb2
  go_wp2_with fail
  have e0 := (SA.out w2 (B0.out.trans (F2.out.mono B0.out.size))).1
  rw [rounds_succ]
  go_wp2_with fail
  go_ret
  exact ⟨ret_int (by first | (rw [HE.out]; done) | (rw [HE.out]; omega)), B0.out.trans (F2.out.mono B0.out.size)⟩
set_option maxHeartbeats 2000000 in
theorem tree_hand (a b' : Tm) (va : Value) (w : World) (b : Bool) (hA : Nds w va (flat (.hand a b'))) (R0 : Hid (Wtr a)) (R1 : Hid (Wtr b')) (hl : sz (.hand a b') ≤ 400) :
    Calls Try.prog 30 #[va, .bool b] w fun e w' => e = .returned (.int .i64 (cst b (.hand a b') : Nat)) ∧ Below w.heap.size w w' := by
  have KK := Rw.kidsR_any va (flat (.hand a b')) w hA (by rw [Se.flat_len]; omega)
  rw [show kids (flat (.hand a b')) = [flat a, flat b'] from kids_hand a b'] at KK
  obtain ⟨bA, oA, cA, rfl, hcA, hltA, hwA, hatA⟩ := form hA
  obtain ⟨nA, hnA⟩ : ∃ n, sz (.hand a b') = n + 1 := ⟨sz (.hand a b') - 1, by have := sz_pos (.hand a b'); omega⟩
  rw [hnA] at hcA KK ⊢
  have g3A : (1 : Int) ≤ (nA : Int) + 1 := by omega
  rw [show kd (.hand a b') = 8 from rfl] at hwA
  have SA := Lib.hid hwA
  have HK := Lib.hid KK
  have hc0 := cst_sz b a
  have hc1 := cst_sz b b'
  have HE : Hid (cst b (.hand a b') = cst b a + cst b b') := Lib.hid (by cases b <;> rfl)
  simp only [sz] at hl
  have q0 : cst b a ≤ 400 := by omega
  have S0 := Lib.hid (fun y w1 (h : Nds w1 y (flat a)) => R0.out y w1 b h)
  have q1 : cst b b' ≤ 400 := by omega
  have S1 := Lib.hid (fun y w1 (h : Nds w1 y (flat b')) => R1.out y w1 b h)
  generalize cst b a = z0 at S0 HE q0
  generalize cst b b' = z1 at S1 HE q1
  clear hnA hatA hA hwA KK hl hc0 hc1
  go_enter Try.func30, Try.ntmps30
  go_wp2_with fail
  refine HK.out.mono ?_
  rintro e wc ⟨y, rfl, hks, hb0⟩
  obtain ⟨bk, ok, ck, y0, y1, rfl, qq0, qq1, n0, n1⟩ := two_rows hks
  have hkl : bk < wc.heap.size := Ap.cell_lt qq0
  have KS : Hid (∀ w1, Below wc.heap.size wc w1 → w1.cell? ⟨bk, ok, none⟩ = some y0 ∧ w1.cell? ⟨bk, ok + 1, none⟩ = some y1) := Lib.hid fun w1 hb => ⟨by rw [hb.cell (p := ⟨bk, ok, none⟩) hkl]; exact qq0, by rw [hb.cell (p := ⟨bk, ok + 1, none⟩) hkl]; exact qq1⟩
  have N0 := Lib.hid (fun w1 (hb : Below wc.heap.size wc w1) => n0.below hb)
  have N1 := Lib.hid (fun w1 (hb : Below wc.heap.size wc w1) => n1.below hb)
  have B0 := Lib.hid hb0
  have F0 := Lib.hid (Below.refl wc.heap.size wc)
  clear hks hb0
  clear n0 n1
  go_wp2_with fail
  refine Go.wp_loop_rounds 3 ?_
  obtain ⟨p0, p1⟩ := KS.out wc F0.out
  rw [rounds_succ]
  go_wp2_with fail
  refine (S0.out _ _ (N0.out _ F0.out)).mono ?_
  rintro e w1 ⟨rfl, hb1⟩
  have F1 := Lib.hid (F0.out.trans (hb1.mono F0.out.size))
  clear hb1
  go_wp2_with fail
  obtain ⟨p0, p1⟩ := KS.out w1 F1.out
  rw [rounds_succ]
  go_wp2_with fail
  refine (S1.out _ _ (N1.out _ F1.out)).mono ?_
  rintro e w2 ⟨rfl, hb2⟩
  have F2 := Lib.hid (F1.out.trans (hb2.mono F1.out.size))
  clear hb2
  go_wp2_with fail
  have e0 := (SA.out w2 (B0.out.trans (F2.out.mono B0.out.size))).1
  rw [rounds_succ]
  go_wp2_with fail
  go_ret
  exact ⟨ret_int (by first | (rw [HE.out]; done) | (rw [HE.out]; omega)), B0.out.trans (F2.out.mono B0.out.size)⟩
set_option maxHeartbeats 2000000 in
theorem tree_pair (a b' : Tm) (va : Value) (w : World) (b : Bool) (hA : Nds w va (flat (.pair a b'))) (R0 : Hid (Wtr a)) (R1 : Hid (Wtr b')) (hl : sz (.pair a b') ≤ 400) :
    Calls Try.prog 30 #[va, .bool b] w fun e w' => e = .returned (.int .i64 (cst b (.pair a b') : Nat)) ∧ Below w.heap.size w w' := by
  have KK := Rw.kidsR_any va (flat (.pair a b')) w hA (by rw [Se.flat_len]; omega)
  rw [show kids (flat (.pair a b')) = [flat a, flat b'] from kids_pair a b'] at KK
  obtain ⟨bA, oA, cA, rfl, hcA, hltA, hwA, hatA⟩ := form hA
  obtain ⟨nA, hnA⟩ : ∃ n, sz (.pair a b') = n + 1 := ⟨sz (.pair a b') - 1, by have := sz_pos (.pair a b'); omega⟩
  rw [hnA] at hcA KK ⊢
  have g3A : (1 : Int) ≤ (nA : Int) + 1 := by omega
  rw [show kd (.pair a b') = 10 from rfl] at hwA
  have SA := Lib.hid hwA
  have HK := Lib.hid KK
  have hc0 := cst_sz b a
  have hc1 := cst_sz b b'
  have HE : Hid (cst b (.pair a b') = cst b a + cst b b' + 1) := Lib.hid (by cases b <;> rfl)
  simp only [sz] at hl
  have q0 : cst b a ≤ 400 := by omega
  have S0 := Lib.hid (fun y w1 (h : Nds w1 y (flat a)) => R0.out y w1 b h)
  have q1 : cst b b' ≤ 400 := by omega
  have S1 := Lib.hid (fun y w1 (h : Nds w1 y (flat b')) => R1.out y w1 b h)
  generalize cst b a = z0 at S0 HE q0
  generalize cst b b' = z1 at S1 HE q1
  clear hnA hatA hA hwA KK hl hc0 hc1
  go_enter Try.func30, Try.ntmps30
  go_wp2_with fail
  refine HK.out.mono ?_
  rintro e wc ⟨y, rfl, hks, hb0⟩
  obtain ⟨bk, ok, ck, y0, y1, rfl, qq0, qq1, n0, n1⟩ := two_rows hks
  have hkl : bk < wc.heap.size := Ap.cell_lt qq0
  have KS : Hid (∀ w1, Below wc.heap.size wc w1 → w1.cell? ⟨bk, ok, none⟩ = some y0 ∧ w1.cell? ⟨bk, ok + 1, none⟩ = some y1) := Lib.hid fun w1 hb => ⟨by rw [hb.cell (p := ⟨bk, ok, none⟩) hkl]; exact qq0, by rw [hb.cell (p := ⟨bk, ok + 1, none⟩) hkl]; exact qq1⟩
  have N0 := Lib.hid (fun w1 (hb : Below wc.heap.size wc w1) => n0.below hb)
  have N1 := Lib.hid (fun w1 (hb : Below wc.heap.size wc w1) => n1.below hb)
  have B0 := Lib.hid hb0
  have F0 := Lib.hid (Below.refl wc.heap.size wc)
  clear hks hb0
  clear n0 n1
  go_wp2_with fail
  refine Go.wp_loop_rounds 3 ?_
  obtain ⟨p0, p1⟩ := KS.out wc F0.out
  rw [rounds_succ]
  go_wp2_with fail
  refine (S0.out _ _ (N0.out _ F0.out)).mono ?_
  rintro e w1 ⟨rfl, hb1⟩
  have F1 := Lib.hid (F0.out.trans (hb1.mono F0.out.size))
  clear hb1
  go_wp2_with fail
  obtain ⟨p0, p1⟩ := KS.out w1 F1.out
  rw [rounds_succ]
  go_wp2_with fail
  refine (S1.out _ _ (N1.out _ F1.out)).mono ?_
  rintro e w2 ⟨rfl, hb2⟩
  have F2 := Lib.hid (F1.out.trans (hb2.mono F1.out.size))
  clear hb2
  go_wp2_with fail
  have e0 := (SA.out w2 (B0.out.trans (F2.out.mono B0.out.size))).1
  rw [rounds_succ]
  go_wp2_with fail
  go_ret
  exact ⟨ret_int (by first | (rw [HE.out]; done) | (rw [HE.out]; omega)), B0.out.trans (F2.out.mono B0.out.size)⟩
set_option maxHeartbeats 2000000 in
theorem tree_going (a b' : Tm) (va : Value) (w : World) (b : Bool) (hA : Nds w va (flat (.going a b'))) (R0 : Hid (Wtr a)) (R1 : Hid (Wtr b')) (hl : sz (.going a b') ≤ 400) :
    Calls Try.prog 30 #[va, .bool b] w fun e w' => e = .returned (.int .i64 (cst b (.going a b') : Nat)) ∧ Below w.heap.size w w' := by
  have KK := Rw.kidsR_any va (flat (.going a b')) w hA (by rw [Se.flat_len]; omega)
  rw [show kids (flat (.going a b')) = [flat a, flat b'] from kids_going a b'] at KK
  obtain ⟨bA, oA, cA, rfl, hcA, hltA, hwA, hatA⟩ := form hA
  obtain ⟨nA, hnA⟩ : ∃ n, sz (.going a b') = n + 1 := ⟨sz (.going a b') - 1, by have := sz_pos (.going a b'); omega⟩
  rw [hnA] at hcA KK ⊢
  have g3A : (1 : Int) ≤ (nA : Int) + 1 := by omega
  rw [show kd (.going a b') = 12 from rfl] at hwA
  have SA := Lib.hid hwA
  have HK := Lib.hid KK
  have hc0 := cst_sz b a
  have hc1 := cst_sz b b'
  have HE : Hid (cst b (.going a b') = cst b a + cst b b') := Lib.hid (by cases b <;> rfl)
  simp only [sz] at hl
  have q0 : cst b a ≤ 400 := by omega
  have S0 := Lib.hid (fun y w1 (h : Nds w1 y (flat a)) => R0.out y w1 b h)
  have q1 : cst b b' ≤ 400 := by omega
  have S1 := Lib.hid (fun y w1 (h : Nds w1 y (flat b')) => R1.out y w1 b h)
  generalize cst b a = z0 at S0 HE q0
  generalize cst b b' = z1 at S1 HE q1
  clear hnA hatA hA hwA KK hl hc0 hc1
  go_enter Try.func30, Try.ntmps30
  go_wp2_with fail
  refine HK.out.mono ?_
  rintro e wc ⟨y, rfl, hks, hb0⟩
  obtain ⟨bk, ok, ck, y0, y1, rfl, qq0, qq1, n0, n1⟩ := two_rows hks
  have hkl : bk < wc.heap.size := Ap.cell_lt qq0
  have KS : Hid (∀ w1, Below wc.heap.size wc w1 → w1.cell? ⟨bk, ok, none⟩ = some y0 ∧ w1.cell? ⟨bk, ok + 1, none⟩ = some y1) := Lib.hid fun w1 hb => ⟨by rw [hb.cell (p := ⟨bk, ok, none⟩) hkl]; exact qq0, by rw [hb.cell (p := ⟨bk, ok + 1, none⟩) hkl]; exact qq1⟩
  have N0 := Lib.hid (fun w1 (hb : Below wc.heap.size wc w1) => n0.below hb)
  have N1 := Lib.hid (fun w1 (hb : Below wc.heap.size wc w1) => n1.below hb)
  have B0 := Lib.hid hb0
  have F0 := Lib.hid (Below.refl wc.heap.size wc)
  clear hks hb0
  clear n0 n1
  go_wp2_with fail
  refine Go.wp_loop_rounds 3 ?_
  obtain ⟨p0, p1⟩ := KS.out wc F0.out
  rw [rounds_succ]
  go_wp2_with fail
  refine (S0.out _ _ (N0.out _ F0.out)).mono ?_
  rintro e w1 ⟨rfl, hb1⟩
  have F1 := Lib.hid (F0.out.trans (hb1.mono F0.out.size))
  clear hb1
  go_wp2_with fail
  obtain ⟨p0, p1⟩ := KS.out w1 F1.out
  rw [rounds_succ]
  go_wp2_with fail
  refine (S1.out _ _ (N1.out _ F1.out)).mono ?_
  rintro e w2 ⟨rfl, hb2⟩
  have F2 := Lib.hid (F1.out.trans (hb2.mono F1.out.size))
  clear hb2
  go_wp2_with fail
  have e0 := (SA.out w2 (B0.out.trans (F2.out.mono B0.out.size))).1
  rw [rounds_succ]
  go_wp2_with fail
  go_ret
  exact ⟨ret_int (by first | (rw [HE.out]; done) | (rw [HE.out]; omega)), B0.out.trans (F2.out.mono B0.out.size)⟩
set_option maxHeartbeats 2000000 in
theorem tree_stack (a b' : Tm) (va : Value) (w : World) (b : Bool) (hA : Nds w va (flat (.stack a b'))) (R0 : Hid (Wtr a)) (R1 : Hid (Wtr b')) (hl : sz (.stack a b') ≤ 400) :
    Calls Try.prog 30 #[va, .bool b] w fun e w' => e = .returned (.int .i64 (cst b (.stack a b') : Nat)) ∧ Below w.heap.size w w' := by
  have KK := Rw.kidsR_any va (flat (.stack a b')) w hA (by rw [Se.flat_len]; omega)
  rw [show kids (flat (.stack a b')) = [flat a, flat b'] from kids_stack a b'] at KK
  obtain ⟨bA, oA, cA, rfl, hcA, hltA, hwA, hatA⟩ := form hA
  obtain ⟨nA, hnA⟩ : ∃ n, sz (.stack a b') = n + 1 := ⟨sz (.stack a b') - 1, by have := sz_pos (.stack a b'); omega⟩
  rw [hnA] at hcA KK ⊢
  have g3A : (1 : Int) ≤ (nA : Int) + 1 := by omega
  rw [show kd (.stack a b') = 13 from rfl] at hwA
  have SA := Lib.hid hwA
  have HK := Lib.hid KK
  have hc0 := cst_sz b a
  have hc1 := cst_sz b b'
  have HE : Hid (cst b (.stack a b') = cst b a + cst b b') := Lib.hid (by cases b <;> rfl)
  simp only [sz] at hl
  have q0 : cst b a ≤ 400 := by omega
  have S0 := Lib.hid (fun y w1 (h : Nds w1 y (flat a)) => R0.out y w1 b h)
  have q1 : cst b b' ≤ 400 := by omega
  have S1 := Lib.hid (fun y w1 (h : Nds w1 y (flat b')) => R1.out y w1 b h)
  generalize cst b a = z0 at S0 HE q0
  generalize cst b b' = z1 at S1 HE q1
  clear hnA hatA hA hwA KK hl hc0 hc1
  go_enter Try.func30, Try.ntmps30
  go_wp2_with fail
  refine HK.out.mono ?_
  rintro e wc ⟨y, rfl, hks, hb0⟩
  obtain ⟨bk, ok, ck, y0, y1, rfl, qq0, qq1, n0, n1⟩ := two_rows hks
  have hkl : bk < wc.heap.size := Ap.cell_lt qq0
  have KS : Hid (∀ w1, Below wc.heap.size wc w1 → w1.cell? ⟨bk, ok, none⟩ = some y0 ∧ w1.cell? ⟨bk, ok + 1, none⟩ = some y1) := Lib.hid fun w1 hb => ⟨by rw [hb.cell (p := ⟨bk, ok, none⟩) hkl]; exact qq0, by rw [hb.cell (p := ⟨bk, ok + 1, none⟩) hkl]; exact qq1⟩
  have N0 := Lib.hid (fun w1 (hb : Below wc.heap.size wc w1) => n0.below hb)
  have N1 := Lib.hid (fun w1 (hb : Below wc.heap.size wc w1) => n1.below hb)
  have B0 := Lib.hid hb0
  have F0 := Lib.hid (Below.refl wc.heap.size wc)
  clear hks hb0
  clear n0 n1
  go_wp2_with fail
  refine Go.wp_loop_rounds 3 ?_
  obtain ⟨p0, p1⟩ := KS.out wc F0.out
  rw [rounds_succ]
  go_wp2_with fail
  refine (S0.out _ _ (N0.out _ F0.out)).mono ?_
  rintro e w1 ⟨rfl, hb1⟩
  have F1 := Lib.hid (F0.out.trans (hb1.mono F0.out.size))
  clear hb1
  go_wp2_with fail
  obtain ⟨p0, p1⟩ := KS.out w1 F1.out
  rw [rounds_succ]
  go_wp2_with fail
  refine (S1.out _ _ (N1.out _ F1.out)).mono ?_
  rintro e w2 ⟨rfl, hb2⟩
  have F2 := Lib.hid (F1.out.trans (hb2.mono F1.out.size))
  clear hb2
  go_wp2_with fail
  have e0 := (SA.out w2 (B0.out.trans (F2.out.mono B0.out.size))).1
  rw [rounds_succ]
  go_wp2_with fail
  go_ret
  exact ⟨ret_int (by first | (rw [HE.out]; done) | (rw [HE.out]; omega)), B0.out.trans (F2.out.mono B0.out.size)⟩
theorem treeR_any : ∀ t : Tm, sz t ≤ 400 → Wtr t := by
  intro t
  induction t with
  | act s => exact fun hl v w b hv => tree_act s v w b hv hl
  | over s => exact fun hl v w b hv => tree_over s v w b hv hl
  | skip => exact fun hl v w b hv => tree_skip v w b hv hl
  | throw => exact fun hl v w b hv => tree_throw v w b hv hl
  | yield => exact fun hl v w b hv => tree_yield v w b hv hl
  | fin s c ic => exact fun hl v w b hv => tree_fin s c v w b hv (Lib.hid (ic (by simp only [sz] at hl; omega))) hl
  | block a ia => exact fun hl v w b hv => tree_block a v w b hv (Lib.hid (ia (by simp only [sz] at hl; omega))) hl
  | seq a b' ia ib => exact fun hl v w b hv => tree_seq a b' v w b hv (Lib.hid (ia (by simp only [sz] at hl; omega))) (Lib.hid (ib (by simp only [sz] at hl; omega))) hl
  | alt a b' ia ib => exact fun hl v w b hv => tree_alt a b' v w b hv (Lib.hid (ia (by simp only [sz] at hl; omega))) (Lib.hid (ib (by simp only [sz] at hl; omega))) hl
  | par a b' ia ib => exact fun hl v w b hv => tree_par a b' v w b hv (Lib.hid (ia (by simp only [sz] at hl; omega))) (Lib.hid (ib (by simp only [sz] at hl; omega))) hl
  | hand a b' ia ib => exact fun hl v w b hv => tree_hand a b' v w b hv (Lib.hid (ia (by simp only [sz] at hl; omega))) (Lib.hid (ib (by simp only [sz] at hl; omega))) hl
  | pair a b' ia ib => exact fun hl v w b hv => tree_pair a b' v w b hv (Lib.hid (ia (by simp only [sz] at hl; omega))) (Lib.hid (ib (by simp only [sz] at hl; omega))) hl
  | going a b' ia ib => exact fun hl v w b hv => tree_going a b' v w b hv (Lib.hid (ia (by simp only [sz] at hl; omega))) (Lib.hid (ib (by simp only [sz] at hl; omega))) hl
  | stack a b' ia ib => exact fun hl v w b hv => tree_stack a b' v w b hv (Lib.hid (ia (by simp only [sz] at hl; omega))) (Lib.hid (ib (by simp only [sz] at hl; omega))) hl
end Go.Proofs.Ytpingbiibbmcaaa.Co

namespace Go.Proofs.Ytpingbiibbmcaaa.Do
open Go Go.Proofs.Ytpingbiibbmcaaa.Rw Go.Proofs.Ytpingbiibbmcaaa.So Go.Proofs.Ytpingbiibbmcaaa.Se

/-- Those beside a place, from the innermost one outward, up to the innermost block; and whether there is one. -/
def pth : Tm → Nat → Nat → List Tm × Bool
  | .par a b, i, p => if i = p then ([], false) else if p < i + 1 + sz a then (if (pth a (i + 1) p).2 then pth a (i + 1) p else ((pth a (i + 1) p).1 ++ [b], false)) else (if (pth b (i + 1 + sz a) p).2 then pth b (i + 1 + sz a) p else ((pth b (i + 1 + sz a) p).1 ++ [a], false))
  | .block a, i, p => if i = p then ([], false) else ((pth a (i + 1) p).1, true)
  | .seq a b, i, p => if i = p then ([], false) else if p < i + 1 + sz a then pth a (i + 1) p else pth b (i + 1 + sz a) p
  | .alt a b, i, p => if i = p then ([], false) else if p < i + 1 + sz a then pth a (i + 1) p else pth b (i + 1 + sz a) p
  | .hand a b, i, p => if i = p then ([], false) else if p < i + 1 + sz a then pth a (i + 1) p else pth b (i + 1 + sz a) p
  | .pair a b, i, p => if i = p then ([], false) else if p < i + 1 + sz a then pth a (i + 1) p else pth b (i + 1 + sz a) p
  | .going a b, i, p => if i = p then ([], false) else if p < i + 1 + sz a then pth a (i + 1) p else pth b (i + 1 + sz a) p
  | .stack a b, i, p => if i = p then ([], false) else if p < i + 1 + sz a then pth a (i + 1) p else pth b (i + 1 + sz a) p
  | .fin _ c, i, p => if i = p then ([], false) else pth c (i + 1) p
  | _, _, _ => ([], false)
end Go.Proofs.Ytpingbiibbmcaaa.Do

namespace Go.Proofs.Ytpingbiibbmcaaa.Se
open Go Go.RowKit Go.Proofs.Ytpingbiibbmcaaa.Rw Go.Proofs.Ytpingbiibbmcaaa.So
set_option maxRecDepth 20000

/-- A row of nodes in a block that is new. -/
theorem nds_new (w : World) (l : List Nd) (ty : TypeId) : Nds (w.alloc (.cells (cls l).toArray ty)) (.slice (some ⟨w.heap.size, 0, none⟩) l.length l.length) l := by
  refine ⟨cls_len l, some ⟨w.heap.size, 0, none⟩, l.length, rfl, Nat.le_refl _, fun h => (by cases h), fun _ => ⟨w.heap.size, 0, rfl, fun j u hu => ?_⟩⟩
  rw [Nat.zero_add, World.cell?_alloc_new]
  simpa using hu
end Go.Proofs.Ytpingbiibbmcaaa.Se
