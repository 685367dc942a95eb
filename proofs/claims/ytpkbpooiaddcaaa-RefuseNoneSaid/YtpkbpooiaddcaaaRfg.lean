/- The program's layer 8: isAct, and the two functions that say which may be refused. -/
import Derived.Test.YtpkbpooiaddcaaaRfa
import Derived.Test.YtpkbpooiaddcaaaSxa
import Derived.Deep.QuietTactic
import Derived.BigQuiet
namespace Go.Proofs.Ytpkbpooiaddcaaa.Rf
open Go Go.RowKit Go.Proofs.Ytpkbpooiaddcaaa.Rw
set_option maxRecDepth 20000

set_option maxHeartbeats 400000 in
theorem isAct_any (x : Nd) (w : World) : Calls Try.prog 24 #[.agg #[.int .i64 x.k, .string x.n, .int .i64 x.s]] w fun e w' => e = .returned (.bool (decide (x.k = 1))) ∧ Below w.heap.size w w' := by
  by_cases h : x.k = 1
  · have g : (x.k == 1) = true := by rw [beq_iff_eq]; exact h
    rw [decide_eq_true h]
    clear h
    go_enter Try.func24, Try.ntmps24
    go_wp2_with fail
    go_ret
    exact ⟨rfl, below1 _ _⟩
  · have g : (x.k == 1) = false := by rw [beq_eq_false_iff_ne]; exact h
    rw [decide_eq_false h]
    clear h
    go_enter Try.func24, Try.ntmps24
    go_wp2_with fail
    go_ret
    exact ⟨rfl, below1 _ _⟩
set_option maxHeartbeats 400000 in
/-- Mark's. -/
theorem mark1_any (k : Nat) (at_ : Int) (ab : Nat) (w : World) (hc : w.cell? ⟨ab, 0, none⟩ = some (.int .i64 at_)) :
    Calls Try.prog 27 #[.int .i64 (k : Int), .pointer (some ⟨ab, 0, none⟩)] w fun e w' => e = .returned (.bool (decide ((k : Int) = at_))) ∧ Below w.heap.size w w' := by
  by_cases h : (k : Int) = at_
  · have g : ((k : Int) == at_) = true := by rw [beq_iff_eq]; exact h
    rw [decide_eq_true h]
    clear h
    go_enter Try.func27, Try.ntmps27
    go_wp2_with fail
    go_ret
    exact ⟨rfl, Below.refl _ _⟩
  · have g : ((k : Int) == at_) = false := by rw [beq_eq_false_iff_ne]; exact h
    rw [decide_eq_false h]
    clear h
    go_enter Try.func27, Try.ntmps27
    go_wp2_with fail
    go_ret
    exact ⟨rfl, Below.refl _ _⟩
set_option maxHeartbeats 1000000 in
/-- Rewrite's: a look into the map of names. -/
theorem rew1_any (b off cap lb mb B : Nat) (l : List Nd) (k : Nat) (q : Bool) (w : World) (hk : k < l.length) (hat : At w b off l) (hl : w.cell? ⟨lb, 0, none⟩ = some (.slice (some ⟨b, off, none⟩) l.length cap)) (hm : w.cell? ⟨mb, 0, none⟩ = some (.map (some B)))
    (hlook : (Instr.lookup 40 (.map (some B)) (.string l[k].n) false).run Try.prog w.drew = .ok (.bool q) w.drew) :
    Calls Try.prog 23 #[.int .i64 (k : Int), .pointer (some ⟨mb, 0, none⟩), .pointer (some ⟨lb, 0, none⟩)] w fun e w' => e = .returned (.bool q) ∧ Below w.heap.size w w' := by
  obtain ⟨-, c2, -⟩ := hat k hk
  clear hat
  obtain ⟨x, hx⟩ : ∃ x, l[k] = x := ⟨_, rfl⟩
  rw [hx] at c2 hlook
  clear hx
  go_enter Try.func23, Try.ntmps23
  go_wp2_with fail
  go_region
  go_wp2_with fail
  go_ret
  exact ⟨rfl, (Below.refl _ _).drew⟩
end Go.Proofs.Ytpkbpooiaddcaaa.Rf
