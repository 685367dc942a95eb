/- Numbers out of bytes: the program's Get. -/
import Derived.Test.YtgdhgicofobebaaCre
namespace Go.Proofs.Ytgdhgicofobebaa.Cr
open Go Go.RowKit
set_option maxRecDepth 20000

theorem ge_take (l : By) : ∀ {k : Nat} (h : k < l.length), ge (l.take (k + 1)) = ge (l.take k) + l[k].toNat * 256 ^ k := by
  induction l with
  | nil => intro k h; simp at h
  | cons b l ih =>
    intro k h
    cases k with
    | zero => simp [ge]
    | succ k =>
      have hk : k < l.length := by simpa using h
      have := ih hk
      simp only [List.take_succ_cons, ge, List.getElem_cons_succ]
      rw [this, Nat.pow_succ, Nat.mul_add, ← Nat.mul_assoc, Nat.mul_comm 256 l[k].toNat, Nat.mul_assoc, Nat.mul_comm 256 (256 ^ k), Nat.add_assoc]
/-- A byte's part of a number. -/
theorem or_part {x y k : Nat} (hk : k < 8) (hx : x < 256 ^ k) (hy : y < 256) : bits .or .u64 (x : Int) (IntKind.u64.wrap ((y : Int) * 2 ^ (8 * k))) = ((x + y * 256 ^ k : Nat) : Int) := by
  have p : (2 : Int) ^ (8 * k) = ((256 ^ k : Nat) : Int) := by
    rw [Int.natCast_pow, show ((256 : Nat) : Int) = 2 ^ 8 from rfl, ← Int.pow_mul]
  have hb : 256 ^ k ≤ 256 ^ 7 := Nat.pow_le_pow_right (by decide) (by omega)
  have hyk : y * 256 ^ k ≤ 255 * 256 ^ 7 := Nat.mul_le_mul (by omega) hb
  have q : IntKind.u64.wrap ((y : Int) * 2 ^ (8 * k)) = ((y * 256 ^ k : Nat) : Int) := by
    rw [IntKind.wrap_u64, p, ← Int.natCast_mul]
    omega
  rw [q, u64_or_nat x (y * 256 ^ k) (by omega) (by omega)]
  congr 1
  have h2 : (256 : Nat) ^ k = 2 ^ (8 * k) := by rw [show 256 = 2 ^ 8 from rfl, ← Nat.pow_mul]
  rw [h2] at hx ⊢
  rw [Nat.or_comm, Nat.mul_comm, ← Nat.two_pow_add_eq_or_of_lt hx y, Nat.add_comm]
set_option maxHeartbeats 2000000 in
theorem getP_any (v : Value) (l : By) (w : World) (hv : Bys w v l) (hl : l.length ≤ 4398046511104) :
    Calls Try.prog 17 #[v] w fun e w' => e = .returned (.int .u64 (ge (l.take 8) : Int)) ∧ w = w' := by
  obtain ⟨a, m, cap, rfl, hm⟩ := hv.split
  have HV := Lib.hid hv
  have HMM := Lib.hid hm
  have hcap := hv.cap
  rw [hm] at hl
  clear hv hm
  obtain ⟨n, hn, hnm, hmn⟩ : ∃ n : Nat, (if (8 : Int) < (m : Int) then (8 : Int) else (m : Int)) = (n : Int) ∧ n ≤ m ∧ n = min m 8 := by
    refine ⟨min m 8, ?_, by omega, rfl⟩
    split <;> omega
  have HNN : Hid (n = min m 8) := hmn
  clear hmn
  go_enter Try.func17, Try.ntmps17
  go_wp2_with fail
  go_loop [3, 4, 5, 12] (fun nv _ _ iv => ∃ (k x : Nat), k ≤ n ∧ nv = .int .u64 (x : Int) ∧ iv = .int .i64 k ∧ Hid (x = ge (l.take k))) (fun _ _ _ iv => n - (intOf iv).toNat)
  case atStart => exact ⟨0, 0, Nat.zero_le _, rfl, rfl, Lib.hid rfl⟩
  case round =>
    obtain ⟨k, x, hk, rfl, rfl, HX⟩ := hrel
    by_cases hlt : k < n
    · have hkl : k < l.length := by have := HMM.out; omega
      have hk8 : k < 8 := by have := HNN.out; omega
      obtain ⟨b, off, rfl, c0⟩ := HV.out.at hkl
      have hb := l[k].isLt
      have HN : Hid (x + l[k].toNat * 256 ^ k = ge (l.take (k + 1))) := by show _ = _; rw [ge_take l hkl, HX.out]
      have HO := Lib.hid (or_part (y := l[k].toNat) hk8 (show x < 256 ^ k by have h := ge_lt (l.take k); rw [List.length_take, Nat.min_eq_left (by omega)] at h; rw [HX.out]; exact h) hb)
      obtain ⟨y, hy⟩ : ∃ y, l[k].toNat = y := ⟨_, rfl⟩
      rw [hy] at HN HO c0 hb
      clear hy
      go_wp2_with fail
      go_round
      case rel => exact ⟨k + 1, _, by omega, by rw [HO.out], by go_num, HN⟩
      case measure => first | (simp [intOf]; done) | (simp [intOf]; omega)
    · have HE : Hid (x = ge (l.take 8)) := by
        have h1 := HMM.out
        have h2 := HNN.out
        have h3 := HX.out
        show _ = _
        rw [h3]
        rcases Nat.le_total m 8 with h8 | h8
        · rw [List.take_of_length_le (by omega), List.take_of_length_le (by omega)]
        · rw [show k = 8 by omega]
      go_wp2_with fail
      go_ret
      exact ⟨by rw [HE.out]; rfl, rfl⟩
end Go.Proofs.Ytgdhgicofobebaa.Cr
