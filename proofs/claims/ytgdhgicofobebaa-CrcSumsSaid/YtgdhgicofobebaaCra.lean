/- Bytes in memory; the sums: the program's moved, More, Sum and the document's bits, More. -/
import Derived.Test.YtgdhgicofobebaaProg
import Derived.Test.YtgdhgicofobebaaCrn
import Derived.Test.YtgdhgicofobebaaAp
import Derived.WalkKit
import Derived.WalkSpells
import Derived.WalkLawsBesides
import Derived.Lib.Hide
import Derived.IntWalk
import Derived.Laws.BitsAll
import Derived.Laws.Shifts
import Derived.Deep.QuietTactic
import Derived.BigQuiet
namespace Go.Proofs.Ytgdhgicofobebaa.Cr
open Go Go.RowKit
set_option maxRecDepth 20000

/-- Bytes' cells. -/
def bc (l : By) : List Value := l.map fun b => .int .u8 (b.toNat : Int)
theorem bc_len (l : By) : (bc l).length = l.length := by simp [bc]
theorem bc_append (l m : By) : bc (l ++ m) = bc l ++ bc m := by simp [bc]
theorem bc_one : ∀ l : By, ∀ u ∈ bc l, u.oneCell' = true := by
  intro l u hu
  simp only [bc, List.mem_map] at hu
  obtain ⟨b, _, rfl⟩ := hu
  rfl
/-- A slice of bytes that reads as these. -/
def Bys (w : World) (v : Value) (l : By) : Prop := Ap.Rd w 1 v l.length (bc l)
theorem Bys.below {w w' : World} {v : Value} {l : By} (h : Bys w v l) (hb : Below w.heap.size w w') : Bys w' v l := Ap.Rd.below h hb
/-- Its cells. -/
theorem Bys.form {w : World} {v : Value} {l : By} (h : Bys w v l) :
    (l = [] ∧ ∃ a cap, v = .slice a 0 cap) ∨ ∃ b off cap, v = .slice (some ⟨b, off, none⟩) l.length cap ∧ l.length ≤ cap ∧ ∀ k, (hk : k < l.length) → w.cell? ⟨b, off + k, none⟩ = some (.int .u8 (l[k].toNat : Int)) := by
  obtain ⟨_, a, cap, rfl, hle, _, hcell⟩ := h
  by_cases h0 : 0 < l.length
  · obtain ⟨b, off, rfl, hj⟩ := hcell h0
    exact Or.inr ⟨b, off, cap, rfl, hle, fun k hk => hj k _ (by simp [bc, hk])⟩
  · have : l = [] := List.eq_nil_of_length_eq_zero (by omega)
    subst this
    exact Or.inl ⟨rfl, a, cap, rfl⟩
theorem bys_cells {w : World} {b off cap : Nat} {l : By} (hc : l.length ≤ cap) (h : ∀ k, (hk : k < l.length) → w.cell? ⟨b, off + k, none⟩ = some (.int .u8 (l[k].toNat : Int))) : Bys w (.slice (some ⟨b, off, none⟩) l.length cap) l := by
  refine ⟨by rw [bc_len, Nat.mul_one], some ⟨b, off, none⟩, cap, rfl, hc, fun h => (by cases h), fun _ => ⟨b, off, rfl, fun j u hu => ?_⟩⟩
  have hj : j < l.length := by
    rw [← bc_len]
    exact (List.getElem?_eq_some_iff.1 hu).1
  rw [h j hj, ← hu]
  simp [bc, hj]
/-- A slice of m elements that reads so: its m, and each of its cells. -/
theorem Bys.len {w : World} {a : Option Addr} {m c : Nat} {l : By} (h : Bys w (.slice a m c) l) : l.length = m := by
  obtain ⟨_, a', cap, hv, _⟩ := h
  cases hv
  rfl
theorem Bys.cap {w : World} {a : Option Addr} {m c : Nat} {l : By} (h : Bys w (.slice a m c) l) : m ≤ c := by
  obtain ⟨_, a', cap, hv, hc, _⟩ := h
  cases hv
  exact hc
theorem Bys.at {w : World} {a : Option Addr} {m c : Nat} {l : By} (h : Bys w (.slice a m c) l) {k : Nat} (hk : k < l.length) : ∃ b off, a = some ⟨b, off, none⟩ ∧ w.cell? ⟨b, off + k, none⟩ = some (.int .u8 (l[k].toNat : Int)) := by
  obtain ⟨_, a', cap, hv, _, _, hcell⟩ := h
  cases hv
  obtain ⟨b, off, rfl, hj⟩ := hcell (by omega)
  exact ⟨b, off, rfl, hj k _ (by simp [bc, hk])⟩
theorem Bys.split {w : World} {v : Value} {l : By} (h : Bys w v l) : ∃ a m c, v = .slice a m c ∧ l.length = m := by
  obtain ⟨_, a, cap, rfl, _⟩ := h
  exact ⟨a, l.length, cap, rfl, rfl⟩
theorem ret_int {k : IntKind} {a b : Int} (h : a = b) : Ending.returned (.int k a) = .returned (.int k b) := congrArg (fun z => Ending.returned (.int k z)) h
theorem Below.drewN (B n : Nat) (w : World) : Below B w (w.drewN n) := by
  induction n with
  | zero => exact Below.refl _ _
  | succ n ih => exact ih.drew

/-! ### One step of a sum. -/
theorem b1_if (s : BitVec 32) : b1 s = if s.toNat % 2 = 1 then (s >>> 1) ^^^ 0xedb88320#32 else s >>> 1 := by
  unfold b1
  have : s.getLsbD 0 = decide (s.toNat % 2 = 1) := by rw [BitVec.getLsbD, Nat.testBit_zero]
  rw [this]
  by_cases h : s.toNat % 2 = 1 <;> simp [h]
theorem shr_nat (s : BitVec 32) : (s >>> 1).toNat = s.toNat / 2 := by rw [BitVec.toNat_ushiftRight, Nat.shiftRight_eq_div_pow]
/-- The program's step. -/
theorem step_p (s : BitVec 32) : bits .xor .u32 ((s.toNat : Int) / 2) (bits .and .u32 (s.toNat : Int) 1 * 3988292384 % 4294967296) = ((b1 s).toNat : Int) := by
  have hs := s.isLt
  have h1 : bits .and .u32 (s.toNat : Int) 1 = ((s.toNat % 2 : Nat) : Int) := by
    have := u32_and_nat s.toNat 1 (by omega) (by omega)
    rw [Nat.and_one_is_mod] at this
    exact this
  rw [h1, b1_if]
  have hd : (s.toNat : Int) / 2 = ((s.toNat / 2 : Nat) : Int) := by omega
  rw [hd]
  rcases Nat.mod_two_eq_zero_or_one s.toNat with h | h
  · rw [h, if_neg (by decide), shr_nat]
    have := u32_xor_nat (s.toNat / 2) 0 (by omega) (by omega)
    rw [Nat.xor_zero] at this
    exact this
  · rw [h, if_pos rfl, BitVec.toNat_xor, shr_nat]
    exact u32_xor_nat (s.toNat / 2) 3988292384 (by omega) (by omega)
theorem xor_r (s : BitVec 32) : bits .xor .u32 ((s.toNat : Int) / 2) 3988292384 = (((s >>> 1) ^^^ 0xedb88320#32).toNat : Int) := by
  have hs := s.isLt
  have hd : (s.toNat : Int) / 2 = ((s.toNat / 2 : Nat) : Int) := by omega
  rw [hd, BitVec.toNat_xor, shr_nat]
  exact u32_xor_nat (s.toNat / 2) 3988292384 (by omega) (by omega)
/-- So many steps. -/
def bn : Nat → BitVec 32 → BitVec 32
  | 0, s => s
  | n + 1, s => bn n (b1 s)
theorem bn_eight (s : BitVec 32) : bn 8 s = b8 s := rfl
set_option maxHeartbeats 1000000 in
theorem movedP (s : BitVec 32) (w : World) : Calls Try.prog 23 #[.int .u32 (s.toNat : Int)] w fun e w' => e = .returned (.int .u32 ((b8 s).toNat : Int)) ∧ w = w' := by
  go_enter Try.func23, Try.ntmps23
  go_wp2_with fail
  go_loop [0, 3, 4] (fun sv _ iv => ∃ (k : Nat) (t : BitVec 32), k ≤ 8 ∧ iv = .int .i64 k ∧ sv = .int .u32 (t.toNat : Int) ∧ Hid (bn (8 - k) t = b8 s)) (fun _ _ iv => 8 - (intOf iv).toNat)
  case atStart => exact ⟨0, s, by omega, rfl, rfl, Lib.hid (bn_eight s)⟩
  case round =>
    obtain ⟨k, t, hk, rfl, rfl, HB⟩ := hrel
    by_cases hlt : k < 8
    · have HS := Lib.hid (step_p t)
      have hn : 8 - k = (8 - (k + 1)) + 1 := by omega
      have HN : Hid (bn (8 - (k + 1)) (b1 t) = b8 s) := by have := HB.out; rw [hn] at this; exact this
      have ht := t.isLt
      clear hn
      go_wp2_with fail
      go_round
      case rel => exact ⟨k + 1, b1 t, by omega, by go_num, by rw [HS.out], HN⟩
      case measure => simp [intOf]; omega
    · have HE : Hid (t = b8 s) := by have := HB.out; rw [show 8 - k = 0 by omega] at this; exact this
      go_wp2_with fail
      go_ret
      exact ⟨by rw [HE.out]; rfl, rfl⟩
end Go.Proofs.Ytgdhgicofobebaa.Cr
