/- TokenWords: the walk. -/
import Derived.Test.YthfcclheephokaaTk2
namespace Go.Proofs.Ythfcclheephokaa.To
open Go Go.RowKit
set_option maxRecDepth 20000

def wd : Nat → ByteArray
  | 0 => w1
  | 1 => w2
  | 2 => w3
  | 3 => w4
  | 4 => w5
  | _ => w6
theorem word_of (i : Nat) (hi : i < 6) (w : World) : Calls Try.prog 17 #[.string (wd i)] w fun e w' => e = .returned (.int .i64 ((i : Int) + 1)) ∧ w = w' := by
  have : i = 0 ∨ i = 1 ∨ i = 2 ∨ i = 3 ∨ i = 4 ∨ i = 5 := by omega
  rcases this with rfl | rfl | rfl | rfl | rfl | rfl
  all_goals
    simp only [wd, w1, w2, w3, w4, w5, w6]
    go_enter Try.func17, Try.ntmps17
    go_wp2_with fail
    go_ret
    exact ⟨rfl, rfl⟩
theorem lex_word (i : Nat) (hi : i < 6) : lexR (wd i) = .ok [⟨10, 0, wd i⟩] ∧ (wd i).size ≤ 8 := by
  have : i = 0 ∨ i = 1 ∨ i = 2 ∨ i = 3 ∨ i = 4 ∨ i = 5 := by omega
  rcases this with rfl | rfl | rfl | rfl | rfl | rfl <;> exact ⟨by decide +kernel, by decide +kernel⟩
/-- The six words in a block. -/
def WdAt (w : World) (g off : Nat) : Prop := ∀ i, i < 6 → w.cell? ⟨g, off + i, none⟩ = some (.string (wd i)) ∧ w.frozen? ⟨g, off + i, none⟩ = false
theorem WdAt.below {w w' : World} {g off : Nat} (h : WdAt w g off) (hb : Below w.heap.size w w') : WdAt w' g off := fun i hi => by
  obtain ⟨h1, h2⟩ := h i hi
  have hlt := Ap.cell_lt h1
  refine ⟨by rw [hb.cell (p := ⟨g, off + i, none⟩) hlt]; exact h1, ?_⟩
  have := hb.block g hlt
  simp only [World.frozen?, this] at h2 ⊢
  exact h2
theorem WordsPost.at {w w' : World} {e : Ending} (h : WordsPost w e w') : ∃ g off cap, e = .returned (.slice (some ⟨g, off, none⟩) 6 cap) ∧ w.heap.size ≤ g ∧ 6 ≤ cap ∧ WdAt w' g off ∧ Below w.heap.size w w' := by
  obtain ⟨g, off, cap, rfl, h1, h2, ⟨c0, c1, c2, c3, c4, c5⟩, hf, hb⟩ := h
  refine ⟨g, off, cap, rfl, h1, h2, fun i hi => ⟨?_, hf i hi⟩, hb⟩
  have : i = 0 ∨ i = 1 ∨ i = 2 ∨ i = 3 ∨ i = 4 ∨ i = 5 := by omega
  rcases this with rfl | rfl | rfl | rfl | rfl | rfl
  · exact c0
  · exact c1
  · exact c2
  · exact c3
  · exact c4
  · exact c5
theorem and1 (k : Int) : ∃ j : Nat, j < 2 ∧ bits BinOp.and IntKind.i64 k 1 = (j : Int) := by
  refine ⟨(BitVec.ofInt 64 k).toNat % 2, Nat.mod_lt _ (by decide), ?_⟩
  show IntKind.i64.wrap ((BitVec.ofInt 64 k &&& BitVec.ofInt 64 1).toNat : Int) = _
  rw [BitVec.toNat_and, show (BitVec.ofInt 64 1).toNat = 1 by decide, Nat.and_one_is_mod, IntKind.wrap_i64]
  omega
set_option maxHeartbeats 1000000 in
theorem words_law (con : Con) (k : Int) (w : World) : Calls Try.prog 8 #[.int .i64 k] w fun e w' => e = .returned (.bool true) ∧ Below w.heap.size w w' := by
  have CON := Lib.hid con
  go_enter Try.func8, Try.ntmps8
  go_wp2_with fail
  refine (CON.out.cWords _).mono ?_
  intro e wa ha
  obtain ⟨g, off, cap, rfl, hg, hc, hat, hb⟩ := ha.at
  have HA := Lib.hid hat
  have HB := Lib.hid hb
  have HG := Lib.hid hg
  clear ha hat hb hg
  go_wp2_with fail
  go_loopw [12] (fun iv wr => ∃ i : Nat, i ≤ 6 ∧ iv = .int .i64 i ∧ Hid (WdAt wr g off) ∧ Hid (Below w.heap.size w wr)) (fun iv _ => 6 - (intOf iv).toNat)
  case atStart => exact ⟨0, by omega, rfl, HA, HB⟩
  case round =>
    obtain ⟨i, hi, rfl, HW, HBW⟩ := hrel
    by_cases hlt : i < 6
    · have c1 := (HW.out i hlt).1
      have L1 := Lib.hid (fun w' => CON.out.lex (wd i) w' (by have := (lex_word i hlt).2; omega))
      rw [(lex_word i hlt).1] at L1
      have WD := Lib.hid (word_of i hlt)
      have hq := neq_to ⟨10, 0, wd i⟩ ⟨10, 0, wd i⟩
      rw [decide_eq_true rfl] at hq
      obtain ⟨u, hu⟩ : ∃ u, wd i = u := ⟨_, rfl⟩
      rw [hu] at c1 L1 WD hq
      clear hu
      go_wp2_with fail
      refine (L1.out _).mono ?_
      intro e wb hpb
      obtain ⟨b1, o1, cap1, rfl, hc1, hat1, hb1⟩ := hpb.ok (by simp)
      obtain ⟨k1, k2, k3⟩ := hat1 0 (by simp)
      change wb.cell? ⟨b1, o1 + 0, none⟩ = some (.int .i64 10) at k1
      change wb.cell? ⟨b1, o1 + 0 + 1, none⟩ = some (.int .i64 0) at k2
      change wb.cell? ⟨b1, o1 + 0 + 2, none⟩ = some (.string u) at k3
      rw [Nat.add_zero] at k1 k2 k3
      have HB2 := Lib.hid (HBW.out.trans (hb1.mono HBW.out.size))
      have HW2 := Lib.hid (HW.out.below hb1)
      clear hpb hat1 hb1 c1
      go_wp2_with fail
      refine (WD.out _).mono ?_
      rintro e wc ⟨rfl, rfl⟩
      go_wp2_with fail
      go_roundw
      case rel => exact ⟨i + 1, by omega, by go_num, HW2, HB2⟩
      case measure => simp [intOf]; omega
    · obtain rfl : i = 6 := by omega
      obtain ⟨j, hj, hkj⟩ := and1 k
      obtain ⟨s1, s2⟩ := HW.out j (by omega)
      have BS := Lib.hid (below_set HBW.out g (off + j) (.string ⟨#[120]⟩) HG.out)
      go_wp2_with fail
      refine (alive_any CON.out _).mono ?_
      rintro e wb ⟨rfl, hb⟩
      have B2 := Lib.hid (BS.out.trans (hb.mono BS.out.size))
      clear hb s1 s2
      go_wp2_with fail
      refine (CON.out.cWords _).mono ?_
      intro e wc ha
      obtain ⟨g2, off2, cap2, rfl, -, hc2, hat2, hb⟩ := ha.at
      have B3 := Lib.hid (B2.out.trans (hb.mono B2.out.size))
      have c1 := (hat2 j (by omega)).1
      have WD := Lib.hid (word_of j (by omega))
      obtain ⟨u, hu⟩ : ∃ u, wd j = u := ⟨_, rfl⟩
      rw [hu] at c1 WD
      clear ha hat2 hb hu
      go_wp2_with fail
      refine (WD.out _).mono ?_
      rintro e wd ⟨rfl, rfl⟩
      go_wp2_with fail
      go_ret
      exact ⟨by simp, B3.out⟩
end Go.Proofs.Ythfcclheephokaa.To
