/- The program's Right. -/
import Derived.Test.YtpkbpooiaddcaaaRxt
namespace Go.Proofs.Ytpkbpooiaddcaaa.Rx
open Go Go.RowKit Rw
set_option maxRecDepth 20000

def sgn (s : Int) : Bool := decide (1 ≤ s) && decide (s ≤ 3)
set_option maxHeartbeats 1000000 in
theorem sign_any (s : Int) (w : World) : Calls Try.prog 45 #[.int .i64 s] w fun e w' => e = .returned (.bool (sgn s)) ∧ w = w' := by
  by_cases h : s = 1 ∨ s = 2 ∨ s = 3
  · rcases h with rfl | rfl | rfl
    all_goals
      go_enter Try.func45, Try.ntmps45
      go_wp2_with fail
      go_ret
      exact ⟨rfl, rfl⟩
  · have b1 : (s == 1) = false := by rw [beq_eq_false_iff_ne]; omega
    have b2 : (s == 2) = false := by rw [beq_eq_false_iff_ne]; omega
    have b3 : (s == 3) = false := by rw [beq_eq_false_iff_ne]; omega
    have hb : sgn s = false := by simp [sgn]; omega
    rw [hb]
    clear hb h
    go_enter Try.func45, Try.ntmps45
    go_wp2_with fail
    go_ret
    exact ⟨rfl, rfl⟩
theorem eq_nd (x y : Nd) (w : World) : (binOp .eql 39 (.agg #[.int .i64 x.k, .string x.n, .int .i64 x.s]) (.agg #[.int .i64 y.k, .string y.n, .int .i64 y.s])).run Try.prog w = .ok (.bool (decide (x = y))) w := by
  rw [run_eql_struct, show (10000 : Nat) = 9998 + 2 from rfl, eql_nd]
  rfl
theorem below_any (w : World) (o : Obj) : Below w.heap.size w (w.alloc o) := (Below.refl _ _).alloc (Nat.le_refl _) _

theorem below2 (w : World) (o p : Obj) : Below w.heap.size w ((w.alloc o).alloc p) := (below_any w o).alloc (below_any w o).size p
theorem low_nm (n : ByteArray) : (low n.data.toList && (decide (1 ≤ n.size) && decide (n.size ≤ 8)) && true && !wordB n) = nm n := by unfold nm; simp
set_option maxHeartbeats 4000000 in
theorem rgtP_act (n : ByteArray) (s : Int) (w : World) (hn : n.size ≤ 140737488355328) : Calls Try.prog 36 #[.agg #[.int .i64 1, .string n, .int .i64 s]] w fun e w' => e = .returned (.bool (rgt ⟨1, n, s⟩)) ∧ Below w.heap.size w w' := by
  have hq := eq_nd ⟨1, n, s⟩ ⟨1, n, 0⟩
  by_cases h0 : s = 0
  · subst h0
    have HR : Hid (rgt ⟨1, n, 0⟩ = nm n) := (rgt_act n 0).trans (low_nm n)
    rw [decide_eq_true rfl] at hq
    go_enter Try.func36, Try.ntmps36
    go_wp2_with fail
    refine (name_any n _ hn).mono ?_
    rintro e w' ⟨rfl, hb⟩
    have HB := Lib.hid hb
    clear hb
    go_wp2_with fail
    go_ret
    exact ⟨ret_bool HR.out.symm, (below2 w _ _).trans (HB.out.mono (below2 w _ _).size)⟩
  · have HR : Hid (rgt ⟨1, n, s⟩ = false) := (rgt_act n s).trans (by rw [show (s == 0) = false by simpa using h0]; simp)
    rw [decide_eq_false (fun e => h0 (nd_ext.1 e).2.2)] at hq
    clear h0
    go_enter Try.func36, Try.ntmps36
    go_wp2_with fail
    go_ret
    exact ⟨ret_bool HR.out.symm, below2 w _ _⟩
set_option maxHeartbeats 4000000 in
theorem rgtP_sign (k : Int) (n : ByteArray) (s : Int) (w : World) (hk : k = 11 ∨ k = 14) : Calls Try.prog 36 #[.agg #[.int .i64 k, .string n, .int .i64 s]] w fun e w' => e = .returned (.bool (rgt ⟨k, n, s⟩)) ∧ Below w.heap.size w w' := by
  have hq := eq_nd ⟨k, n, s⟩ ⟨k, ⟨#[]⟩, s⟩
  by_cases h0 : n.size = 0
  · have HR : Hid (rgt ⟨k, n, s⟩ = sgn s) := (rgt_sign n s hk).trans (by rw [decide_eq_true h0, Bool.true_and]; rfl)
    obtain rfl := empty_of h0
    rw [decide_eq_true rfl] at hq
    clear h0
    rcases hk with rfl | rfl
    all_goals
      go_enter Try.func36, Try.ntmps36
      go_wp2_with fail
      refine (sign_any s _).mono ?_
      rintro e w' ⟨rfl, rfl⟩
      go_wp2_with fail
      go_ret
      exact ⟨ret_bool HR.out.symm, below2 w _ _⟩
  · have HR : Hid (rgt ⟨k, n, s⟩ = false) := (rgt_sign n s hk).trans (by rw [decide_eq_false h0, Bool.false_and])
    rw [decide_eq_false (fun e => h0 (congrArg ByteArray.size (nd_ext.1 e).2.1))] at hq
    clear h0
    rcases hk with rfl | rfl
    all_goals
      go_enter Try.func36, Try.ntmps36
      go_wp2_with fail
      go_ret
      exact ⟨ret_bool HR.out.symm, below2 w _ _⟩
theorem rgt_no {k : Int} (n : ByteArray) (s : Int) (h0 : ar k < 0) : rgt ⟨k, n, s⟩ = false := by unfold rgt; rw [if_pos h0]
set_option maxHeartbeats 4000000 in
theorem rgtP_other (k : Int) (n : ByteArray) (s : Int) (w : World) (h1 : ¬ k = 1) (hk : ¬ (k = 11 ∨ k = 14)) : Calls Try.prog 36 #[.agg #[.int .i64 k, .string n, .int .i64 s]] w fun e w' => e = .returned (.bool (rgt ⟨k, n, s⟩)) ∧ Below w.heap.size w w' := by
  have hq := eq_nd ⟨k, n, s⟩ ⟨k, ⟨#[]⟩, 0⟩
  have k1 : (k == 1) = false := by rw [beq_eq_false_iff_ne]; omega
  have k2 : (k == 11) = false := by rw [beq_eq_false_iff_ne]; omega
  have k3 : (k == 14) = false := by rw [beq_eq_false_iff_ne]; omega
  have HZ : Hid (rgt ⟨k, n, s⟩ = (decide ((⟨k, n, s⟩ : Nd) = ⟨k, ⟨#[]⟩, 0⟩) && decide (ar k ≥ 0))) := by
    show _ = _
    by_cases h0 : ar k < 0
    · rw [rgt_no n s h0, decide_eq_false (show ¬ ar k ≥ 0 by omega), Bool.and_false]
    · rw [rgt_other n s h0 h1 hk, decide_eq_true (show ar k ≥ 0 by omega), Bool.and_true]
      by_cases h2 : n.size = 0
      · obtain rfl := empty_of h2
        rw [decide_eq_true h2, Bool.true_and, Bool.eq_iff_iff]
        simp
      · rw [decide_eq_false h2, Bool.false_and, decide_eq_false (fun e => h2 (congrArg ByteArray.size (nd_ext.1 e).2.1))]
  clear h1 hk
  obtain ⟨a, ha⟩ : ∃ a, ar k = a := ⟨_, rfl⟩
  rw [ha] at HZ
  have HA := Lib.hid ha
  clear ha
  by_cases h0 : (⟨k, n, s⟩ : Nd) = ⟨k, ⟨#[]⟩, 0⟩
  · rw [decide_eq_true h0, Bool.true_and] at HZ
    rw [decide_eq_true h0] at hq
    clear h0
    go_enter Try.func36, Try.ntmps36
    go_wp2_with fail
    refine (arP_eq k _).mono ?_
    rw [HA.out]
    rintro e w' ⟨rfl, rfl⟩
    go_wp2_with fail
    go_ret
    exact ⟨ret_bool HZ.out.symm, below2 w _ _⟩
  · rw [decide_eq_false h0, Bool.false_and] at HZ
    rw [decide_eq_false h0] at hq
    clear h0
    go_enter Try.func36, Try.ntmps36
    go_wp2_with fail
    go_ret
    exact ⟨ret_bool HZ.out.symm, below2 w _ _⟩
/-- The program's Right. -/
theorem rgtP_any (x : Nd) (w : World) (hn : x.n.size ≤ 140737488355328) : Calls Try.prog 36 #[.agg #[.int .i64 x.k, .string x.n, .int .i64 x.s]] w fun e w' => e = .returned (.bool (rgt x)) ∧ Below w.heap.size w w' := by
  obtain ⟨k, n, s⟩ := x
  by_cases h1 : k = 1
  · subst h1
    exact rgtP_act n s w hn
  · by_cases hk : k = 11 ∨ k = 14
    · exact rgtP_sign k n s w hk
    · exact rgtP_other k n s w h1 hk
end Go.Proofs.Ytpkbpooiaddcaaa.Rx
