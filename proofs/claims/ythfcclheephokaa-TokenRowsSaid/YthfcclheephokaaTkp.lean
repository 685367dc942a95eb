/- The document's Print and Word. -/
import Derived.Test.YthfcclheephokaaTkv
namespace Go.Proofs.Ythfcclheephokaa.To
open Go Go.RowKit
set_option maxRecDepth 20000

/-- A text, or none. -/
def PrintPost (r : Option ByteArray) (w : World) (e : Ending) (w' : World) : Prop := e = .returned (.tuple #[.string (r.getD ⟨#[]⟩), .bool r.isSome]) ∧ Below w.heap.size w w'
theorem prt_name (a : Int) (n : ByteArray) (h : named n = true) : prt ⟨10, a, n⟩ = some n := if_pos ⟨rfl, h⟩
theorem prt_none {t : Tk} (h : ¬ (t.k = 10 ∧ named t.n = true)) (h2 : t.k < 1 ∨ 9 < t.k ∨ t.n ≠ ⟨#[]⟩) : prt t = none := by
  unfold prt
  rw [if_neg h, if_pos h2]
set_option maxHeartbeats 2000000 in
theorem printR_any (t : Tk) (w : World) (hs : t.n.size ≤ 140737488355328) : Calls Try.prog 15 #[.agg #[.int .i64 t.k, .int .i64 t.a, .string t.n]] w (PrintPost (prt t) w) := by
  obtain ⟨k, a, n⟩ := t
  have HS : Hid (n.size ≤ 140737488355328) := hs
  clear hs
  by_cases h10 : k = 10
  · subst h10
    cases hn : named n with
    | true =>
      rw [prt_name a n hn]
      have HN := Lib.hid hn
      clear hn
      go_enter Try.func15, Try.ntmps15
      go_wp2_with fail
      refine (namedR_any n _ HS.out).mono ?_
      rw [HN.out]
      rintro e w' ⟨rfl, rfl⟩
      go_wp2_with fail
      go_ret2
      exact ⟨rfl, below_any w _⟩
    | false =>
      rw [prt_none (t := ⟨10, a, n⟩) (by rw [hn]; simp) (Or.inr (Or.inl (by show (9 : Int) < 10; omega)))]
      have HN := Lib.hid hn
      clear hn
      go_enter Try.func15, Try.ntmps15
      go_wp2_with fail
      refine (namedR_any n _ HS.out).mono ?_
      rw [HN.out]
      rintro e w' ⟨rfl, rfl⟩
      go_wp2_with fail
      go_ret2
      exact ⟨rfl, below_any w _⟩
  · have e10 : (k == 10) = false := by rw [beq_eq_false_iff_ne]; exact h10
    by_cases h1 : k < 1
    · rw [prt_none (t := ⟨k, a, n⟩) (fun h => h10 h.1) (Or.inl h1)]
      have d1 : decide (k < 1) = true := decide_eq_true h1
      clear h10 h1
      go_enter Try.func15, Try.ntmps15
      go_wp2_with fail
      go_ret2
      exact ⟨rfl, below_any w _⟩
    · by_cases h9 : 9 < k
      · rw [prt_none (t := ⟨k, a, n⟩) (fun h => h10 h.1) (Or.inr (Or.inl h9))]
        have d1 : decide (k < 1) = false := decide_eq_false h1
        have d9 : decide (k > 9) = true := decide_eq_true h9
        clear h10 h1 h9
        go_enter Try.func15, Try.ntmps15
        go_wp2_with fail
        go_ret2
        exact ⟨rfl, below_any w _⟩
      · by_cases hn : n = ⟨#[]⟩
        · subst hn
          rcases sgn_cases (show 1 ≤ k by omega) (show k ≤ 9 by omega) with rfl | rfl | rfl | rfl | rfl | rfl | rfl | rfl | rfl
          all_goals
            clear h10 h1 h9 e10
            go_enter Try.func15, Try.ntmps15
            go_wp2_with fail
            go_ret2
            exact ⟨rfl, below_any w _⟩
        · rw [prt_none (t := ⟨k, a, n⟩) (fun h => h10 h.1) (Or.inr (Or.inr hn))]
          have d1 : decide (k < 1) = false := decide_eq_false h1
          have d9 : decide (k > 9) = false := decide_eq_false h9
          have en := not_empty hn
          clear h10 h1 h9 hn
          go_enter Try.func15, Try.ntmps15
          go_wp2_with fail
          go_ret2
          exact ⟨rfl, below_any w _⟩
end Go.Proofs.Ythfcclheephokaa.To
