/- How many nodes are of some kinds: plain. -/
import Derived.Test.YtpkbpooiaddcaaaRwv
namespace Go.Proofs.Ytpkbpooiaddcaaa.Rw
open Go Go.RowKit
set_option maxRecDepth 20000

theorem cnt_yes (l : List Nd) (ks : List Int) (k : Nat) (h : k < l.length) (hm : l[k].k ∈ ks) : cnt (l.take (k + 1)) ks = cnt (l.take k) ks + 1 := by
  unfold cnt
  rw [List.take_succ_eq_append_getElem h, List.countP_append]
  simp [hm]
theorem cnt_no (l : List Nd) (ks : List Int) (k : Nat) (h : k < l.length) (hm : ¬ l[k].k ∈ ks) : cnt (l.take (k + 1)) ks = cnt (l.take k) ks := by
  unfold cnt
  rw [List.take_succ_eq_append_getElem h, List.countP_append]
  simp [hm]
theorem cnt_le (l : List Nd) (ks : List Int) : cnt l ks ≤ l.length := List.countP_le_length
theorem has_take (ks : List Int) (a : Int) (j : Nat) (h : j < ks.length) : decide (a ∈ ks.take (j + 1)) = (decide (a ∈ ks.take j) || (ks[j] == a)) := by
  rw [List.take_succ_eq_append_getElem h, Bool.eq_iff_iff]
  simp only [decide_eq_true_eq, List.mem_append, List.mem_singleton, Bool.or_eq_true, beq_iff_eq]
  exact or_congr_right eq_comm
/-- The inner loop: whether one of the first kinds is the node's. -/
theorem has_start (ks : List Int) (a : Int) : decide (a ∈ ks.take 0) = false := by simp
end Go.Proofs.Ytpkbpooiaddcaaa.Rw
