/- The document's sums: bits, More. -/
import Derived.Test.YtgdhgicofobebaaCrb
namespace Go.Proofs.Ytgdhgicofobebaa.Cr
open Go Go.RowKit
set_option maxRecDepth 20000

set_option maxHeartbeats 1000000 in
theorem bitsR (s : BitVec 32) (w : World) : Calls Try.prog 24 #[.int .u32 (s.toNat : Int)] w fun e w' => e = .returned (.int .u32 ((b8 s).toNat : Int)) ∧ w = w' := by
  go_enter Try.func24, Try.ntmps24
  go_wp2_with fail
  go_loop [0, 3] (fun sv iv => ∃ (k : Nat) (t : BitVec 32), k ≤ 8 ∧ iv = .int .i64 k ∧ sv = .int .u32 (t.toNat : Int) ∧ Hid (bn (8 - k) t = b8 s)) (fun _ iv => 8 - (intOf iv).toNat)
  case atStart => exact ⟨0, s, by omega, rfl, rfl, Lib.hid (bn_eight s)⟩
  case round =>
    obtain ⟨k, t, hk, rfl, rfl, HB⟩ := hrel
    by_cases hlt : k < 8
    · have hn : 8 - k = (8 - (k + 1)) + 1 := by omega
      have HN : Hid (bn (8 - (k + 1)) (b1 t) = b8 s) := by have := HB.out; rw [hn] at this; exact this
      have ht := t.isLt
      clear hn
      by_cases h2 : t.toNat % 2 = 1
      · have HS : Hid (bits .xor .u32 ((t.toNat : Int) / 2) 3988292384 = ((b1 t).toNat : Int)) := by rw [b1_if, if_pos h2]; exact xor_r t
        have g1 : (((t.toNat : Int) % 2) == 1) = true := by rw [beq_iff_eq]; omega
        clear h2
        go_wp2_with fail
        go_round
        case rel => exact ⟨k + 1, b1 t, by omega, by go_num, by rw [HS.out], HN⟩
        case measure => simp [intOf]; omega
      · have HS : Hid ((t.toNat : Int) / 2 = ((b1 t).toNat : Int)) := by rw [b1_if, if_neg h2, shr_nat]; show _ = _; omega
        have g1 : (((t.toNat : Int) % 2) == 1) = false := by rw [beq_eq_false_iff_ne]; omega
        clear h2
        go_wp2_with fail
        go_round
        case rel => exact ⟨k + 1, b1 t, by omega, by go_num, by rw [HS.out], HN⟩
        case measure => simp [intOf]; omega
    · have HE : Hid (t = b8 s) := by have := HB.out; rw [show 8 - k = 0 by omega] at this; exact this
      go_wp2_with fail
      go_ret
      exact ⟨by rw [HE.out]; rfl, rfl⟩
set_option maxHeartbeats 1000000 in
theorem moreR_any (s : BitVec 32) (v : Value) (l : By) (w : World) (hv : Bys w v l) (hl : l.length ≤ 4398046511104) :
    Calls Try.prog 12 #[.int .u32 (s.toNat : Int), v] w fun e w' => e = .returned (.int .u32 ((more s l).toNat : Int)) ∧ w = w' := by
  have HM0 := Lib.hid (xor_not s)
  rw [show more s l = ~~~ (go (~~~s) l) from rfl]
  obtain ⟨q, hq⟩ : ∃ q, ~~~s = q := ⟨_, rfl⟩
  rw [hq] at HM0 ⊢
  have HM1 := Lib.hid (xor_not (go q l))
  obtain ⟨r, hr⟩ : ∃ r, ~~~ (go q l) = r := ⟨_, rfl⟩
  rw [hr] at HM1 ⊢
  clear hq hr
  obtain ⟨a, m, cap, rfl, hm⟩ := hv.split
  have HV := Lib.hid hv
  have HMM := Lib.hid hm
  rw [hm] at hl
  clear hv hm
  go_enter Try.func12, Try.ntmps12
  go_wp2_with fail
  rw [HM0.out]
  go_loop [0, 5] (fun sv iv => ∃ (k : Nat) (t : BitVec 32), k ≤ m ∧ iv = .int .i64 k ∧ sv = .int .u32 (t.toNat : Int) ∧ Hid (go t (l.drop k) = go q l)) (fun _ iv => m - (intOf iv).toNat)
  case atStart => exact ⟨0, q, by omega, rfl, rfl, Lib.hid rfl⟩
  case round =>
    obtain ⟨k, t, hk, rfl, rfl, HB⟩ := hrel
    by_cases hlt : k < m
    · have hkl : k < l.length := by have := HMM.out; omega
      obtain ⟨b, off, rfl, c0⟩ := HV.out.at hkl
      have HX := Lib.hid (xor_wide t l[k])
      have HN : Hid (go (b8 (t ^^^ l[k].setWidth 32)) (l.drop (k + 1)) = go q l) := by have := HB.out; rw [List.drop_eq_getElem_cons hkl] at this; exact this
      have HC := Lib.hid (bitsR (t ^^^ l[k].setWidth 32) w)
      rw [← HX.out] at HC
      go_wp2_with fail
      refine HC.out.mono ?_
      rintro e w' ⟨rfl, rfl⟩
      go_wp2_with fail
      go_round
      case rel => exact ⟨k + 1, _, by omega, by go_num, rfl, HN⟩
      case measure => simp [intOf]; omega
    · have HE : Hid (t = go q l) := by have h := HB.out; have := HMM.out; rw [List.drop_eq_nil_of_le (by omega)] at h; exact h
      go_wp2_with fail
      go_ret
      refine ⟨?_, rfl⟩
      show Ending.returned _ = _
      rw [← HM1.out, ← HE.out]
      rfl
end Go.Proofs.Ytgdhgicofobebaa.Cr
