/- The program's Arity. -/
import Derived.Test.YtpkbpooiaddcaaaRww
namespace Go.Proofs.Ytpkbpooiaddcaaa.Rx
open Go Go.RowKit Rw
set_option maxRecDepth 20000

set_option maxHeartbeats 1000000 in
theorem arP_eq (k : Int) (w : World) : Calls Try.prog 37 #[.int .i64 k] w fun e w' => e = .returned (.int .i64 (ar k)) ∧ w = w' := by
  rcases cases15 k with rfl | rfl | rfl | rfl | rfl | rfl | rfl | rfl | rfl | rfl | rfl | rfl | rfl | rfl | h
  case inr.inr.inr.inr.inr.inr.inr.inr.inr.inr.inr.inr.inr.inr =>
    have hr := Lib.hid (ar_no h)
    obtain ⟨h1, h2, h3, h4, h5, h6, h7, h8, h9, h10, h11, h12, h13, h14⟩ := h
    have b1 : (k == 1) = false := by simp [h1]
    have b2 : (k == 2) = false := by simp [h2]
    have b3 : (k == 3) = false := by simp [h3]
    have b4 : (k == 4) = false := by simp [h4]
    have b5 : (k == 5) = false := by simp [h5]
    have b6 : (k == 6) = false := by simp [h6]
    have b7 : (k == 7) = false := by simp [h7]
    have b8 : (k == 8) = false := by simp [h8]
    have b9 : (k == 9) = false := by simp [h9]
    have b10 : (k == 10) = false := by simp [h10]
    have b11 : (k == 11) = false := by simp [h11]
    have b12 : (k == 12) = false := by simp [h12]
    have b13 : (k == 13) = false := by simp [h13]
    have b14 : (k == 14) = false := by simp [h14]
    clear h1 h2 h3 h4 h5 h6 h7 h8 h9 h10 h11 h12 h13 h14
    go_enter Try.func37, Try.ntmps37
    go_wp2_with fail
    go_ret
    exact ⟨ret_int hr.out.symm, rfl⟩
  all_goals
    go_enter Try.func37, Try.ntmps37
    go_wp2_with fail
    go_ret
    exact ⟨rfl, rfl⟩
theorem arP_any (k : Int) (w : World) : Calls Try.prog 37 #[.int .i64 k] w fun e w' => e = .returned (.int .i64 (ar k)) ∧ Below w.heap.size w w' :=
  (arP_eq k w).mono fun _ _ h => ⟨h.1, h.2 ▸ Below.refl _ _⟩
end Go.Proofs.Ytpkbpooiaddcaaa.Rx
