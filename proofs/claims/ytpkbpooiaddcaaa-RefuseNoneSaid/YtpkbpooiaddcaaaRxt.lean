/- The program's names: isName. -/
import Derived.Test.YtpkbpooiaddcaaaRxa
import Derived.Test.YtpkbpooiaddcaaaRwsa
import Derived.Laws.RangeAny
namespace Go.Proofs.Ytpkbpooiaddcaaa.Rx
open Go Go.RowKit Rw
set_option maxRecDepth 20000
/-- A name that an action may have. -/
def nm (n : ByteArray) : Bool := low n.data.toList && (decide (1 ≤ n.size) && decide (n.size ≤ 8)) && !wordB n
set_option maxHeartbeats 1000000 in
theorem name_other (s : ByteArray) (w : World) (h : wordB s = false) (h0 : s.size ≠ 0) (hs : s.size ≤ 140737488355328) : Calls Try.prog 44 #[.string s] w fun e w' => e = .returned (.bool (nm s)) ∧ Below w.heap.size w w' := by
  have hb : ¬ (s = w1 ∨ s = w2 ∨ s = w3 ∨ s = w4 ∨ s = w5 ∨ s = w6) := by simpa [wordB] using h
  have e0 := not_empty h0
  have HN : Hid (nm s = (low s.data.toList && decide (s.size ≤ 8))) := by
    show _ = _
    unfold nm
    rw [h, decide_eq_true (show 1 ≤ s.size by omega)]
    simp
  clear h h0
  simp only [not_or] at hb
  obtain ⟨h1, h2, h3, h4, h5, h6⟩ := hb
  have e1 := str_ne' (l := [115, 107, 105, 112]) h1
  have e2 := str_ne' (l := [116, 104, 114, 111, 119]) h2
  have e3 := str_ne' (l := [121, 105, 101, 108, 100]) h3
  have e4 := str_ne' (l := [115, 107, 105, 112, 112]) h4
  have e5 := str_ne' (l := [116, 104, 114, 111, 119, 119]) h5
  have e6 := str_ne' (l := [121, 105, 101, 108, 100, 100]) h6
  clear h1 h2 h3 h4 h5 h6
  go_enter Try.func44, Try.ntmps44
  go_wp2_with fail
  go_loopw [] (fun wr => ∃ pos : Nat, pos ≤ s.size ∧ wr = w.iter s pos ∧ Hid (low (s.data.toList.take pos) = true)) (fun wr => s.size - wr.iterPos w.heap.size)
  case atStart => exact ⟨0, Nat.zero_le _, rfl, Lib.hid rfl⟩
  case round =>
    obtain ⟨pos, hp, rfl, HL⟩ := hrel
    by_cases hlt : pos < s.size
    · have HT := Lib.hid (low_take s pos hlt)
      have HF := Lib.hid (fun hb => low_no hlt hb)
      by_cases ha : (s[pos]'hlt).toNat < 128
      · have hnx : ∀ ty, (Instr.next (.pointer (some ⟨w.heap.size, 0, none⟩)) true ty).run Try.prog (w.iter s pos) = _ := fun ty => run_next_ascii w s pos ty hlt ha
        obtain ⟨c, hc⟩ : ∃ c, (s[pos]'hlt).toNat = c := ⟨_, rfl⟩
        have HC := Lib.hid hc
        rw [hc] at hnx ha
        clear hc
        by_cases b1 : c < 97
        · have d1 : decide ((c : Int) < 97) = true := by simp; omega
          go_wp2_with fail
          go_ret
          refine ⟨ret_bool ?_, (Below.refl _ _).alloc (Nat.le_refl _) _⟩
          rw [HN.out, HF.out (by rw [HC.out]; simp; omega)]
          rfl
        · have d1 : decide ((c : Int) < 97) = false := by simp; omega
          by_cases b2 : 122 < c
          · have d2 : decide (122 < (c : Int)) = true := by simp; omega
            go_wp2_with fail
            go_ret
            refine ⟨ret_bool ?_, (Below.refl _ _).alloc (Nat.le_refl _) _⟩
            rw [HN.out, HF.out (by rw [HC.out]; simp; omega)]
            rfl
          · have d2 : decide (122 < (c : Int)) = false := by simp; omega
            have HG : Hid (low (s.data.toList.take (pos + 1)) = true) := by
              show _ = true
              rw [HT.out, HL.out, HC.out]
              simp
              omega
            go_wp2_with fail
            go_roundw
            case rel => exact ⟨pos + 1, by omega, rfl, HG⟩
            case measure => simp only [World.iterPos_iter]; omega
      · have hnx : ∀ ty, (Instr.next (.pointer (some ⟨w.heap.size, 0, none⟩)) true ty).run Try.prog (w.iter s pos) = _ := fun ty => run_next_any w s pos ty hlt
        have hh := (decode_high s pos hlt (by omega)).1
        obtain ⟨c, hc⟩ : ∃ c, (Utf8.decode s pos).1 = c := ⟨_, rfl⟩
        obtain ⟨q, hq⟩ : ∃ q, pos + (Utf8.decode s pos).2 = q := ⟨_, rfl⟩
        rw [hc] at hh
        rw [hc, hq] at hnx
        have HC := Lib.hid ha
        clear hc hq ha
        have d1 : decide ((c : Int) < 97) = false := by simp; omega
        have d2 : decide (122 < (c : Int)) = true := by simp; omega
        go_wp2_with fail
        go_ret
        refine ⟨ret_bool ?_, (Below.refl _ _).alloc (Nat.le_refl _) _⟩
        rw [HN.out, HF.out (by have := HC.out; simp; omega)]
        rfl
    · have hnx : ∀ ty, (Instr.next (.pointer (some ⟨w.heap.size, 0, none⟩)) true ty).run Try.prog (w.iter s pos) = _ := fun ty => run_next_end w s pos ty hlt
      have HF : Hid (low s.data.toList = true) := by
        have := HL.out
        rwa [List.take_of_length_le (by simp; omega)] at this
      by_cases q2 : s.size ≤ 8
      · go_wp2_with fail
        go_ret
        refine ⟨ret_bool ?_, (Below.refl _ _).alloc (Nat.le_refl _) _⟩
        rw [HN.out, HF.out, Bool.true_and, Bool.eq_iff_iff]
        simp
        omega
      · go_wp2_with fail
        go_ret
        refine ⟨ret_bool ?_, (Below.refl _ _).alloc (Nat.le_refl _) _⟩
        rw [HN.out, HF.out, Bool.true_and, Bool.eq_iff_iff]
        simp
        omega
theorem name_any (s : ByteArray) (w : World) (hs : s.size ≤ 140737488355328) : Calls Try.prog 44 #[.string s] w fun e w' => e = .returned (.bool (nm s)) ∧ Below w.heap.size w w' := by
  by_cases h0 : s.size = 0
  · obtain rfl := empty_of h0
    clear h0 hs
    rw [show nm ⟨#[]⟩ = false from rfl]
    go_enter Try.func44, Try.ntmps44
    go_wp2_with fail
    go_ret
    exact ⟨rfl, Below.refl _ _⟩
  · cases hw : wordB s with
    | false => exact name_other s w hw h0 hs
    | true =>
      have hb : nm s = false := by unfold nm; rw [hw]; simp
      rw [hb]
      have : s = w1 ∨ s = w2 ∨ s = w3 ∨ s = w4 ∨ s = w5 ∨ s = w6 := by simpa [wordB] using hw
      clear hw h0 hs hb
      rcases this with rfl | rfl | rfl | rfl | rfl | rfl
      all_goals
        simp only [w1, w2, w3, w4, w5, w6]
        go_enter Try.func44, Try.ntmps44
        go_wp2_with fail
        go_ret
        exact ⟨rfl, Below.refl _ _⟩
end Go.Proofs.Ytpkbpooiaddcaaa.Rx
