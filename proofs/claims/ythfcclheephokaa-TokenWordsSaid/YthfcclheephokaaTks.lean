/- The program's isName, Print, Words. -/
import Derived.Test.YthfcclheephokaaTkr
import Derived.Test.YthfcclheephokaaTkc
namespace Go.Proofs.Ythfcclheephokaa.To
open Go Go.RowKit
set_option maxRecDepth 20000
set_option maxHeartbeats 1000000 in
theorem name_any (s : ByteArray) (w : World) (hs : s.size ≤ 140737488355328) : Calls Try.prog 22 #[.string s] w fun e w' => e = .returned (.bool (named s)) ∧ Below w.heap.size w w' := by
  by_cases h0 : s = ⟨#[]⟩
  · subst h0
    clear hs
    rw [show named ⟨#[]⟩ = false from rfl]
    go_enter Try.func22, Try.ntmps22
    go_wp2_with fail
    go_ret
    exact ⟨rfl, Below.refl _ _⟩
  · have e0 := not_empty h0
    have h1 : 1 ≤ s.size := by
      rcases Nat.eq_zero_or_pos s.size with h | h
      · exact absurd (empty_of h) h0
      · exact h
    have HN : Hid (named s = (decide (ltr s = s) && decide (s.size ≤ 8))) := by
      show _ = _
      unfold named
      rw [decide_eq_true h1, Bool.true_and]
      congr 1
      rw [Bool.eq_iff_iff, decide_eq_true_iff]
      exact ltr_all.symm
    by_cases h8 : s.size ≤ 8
    · have HL := Lib.hid (letters_any s)
      have d8 : decide ((s.size : Int) ≤ 8) = true := by simp; omega
      by_cases hl : ltr s = s
      · have HR : Hid (named s = true) := by
          show _ = _
          rw [HN.out, decide_eq_true hl, decide_eq_true h8]
          rfl
        have HE := Lib.hid hl
        clear h0 h1 hl
        go_enter Try.func22, Try.ntmps22
        go_wp2_with fail
        refine (HL.out _).mono ?_
        rw [HE.out]
        rintro e w' ⟨rfl, hb⟩
        go_wp2_with fail
        go_ret
        exact ⟨ret_bool (by rw [HR.out]), hb⟩
      · have HR : Hid (named s = false) := by
          show _ = _
          rw [HN.out, decide_eq_false hl]
          rfl
        have HE := Lib.hid hl
        have e1 : ((ltr s).toList == s.toList) = false := by
          rw [beq_eq_false_iff_ne]
          intro e
          apply hl
          rw [ByteArray.toList_eq, ByteArray.toList_eq] at e
          exact ByteArray.ext (Array.toList_inj.1 e)
        obtain ⟨u, hu⟩ : ∃ u, ltr s = u := ⟨_, rfl⟩
        rw [hu] at HL e1
        clear h0 h1 hl hu
        go_enter Try.func22, Try.ntmps22
        go_wp2_with fail
        refine (HL.out _).mono ?_
        rintro e w' ⟨rfl, hb⟩
        go_wp2_with fail
        go_ret
        exact ⟨ret_bool (by rw [HR.out]), hb⟩
    · have HR : Hid (named s = false) := by
        show _ = _
        rw [HN.out, decide_eq_false h8, Bool.and_false]
      have d8 : decide ((s.size : Int) ≤ 8) = false := by simp; omega
      clear h0 h1
      go_enter Try.func22, Try.ntmps22
      go_wp2_with fail
      go_ret
      exact ⟨ret_bool (by rw [HR.out]), Below.refl _ _⟩
set_option maxHeartbeats 2000000 in
theorem print_any (t : Tk) (w : World) (hs : t.n.size ≤ 140737488355328) : Calls Try.prog 14 #[.agg #[.int .i64 t.k, .int .i64 t.a, .string t.n]] w (PrintPost (prt t) w) := by
  obtain ⟨k, a, n⟩ := t
  have HS : Hid (n.size ≤ 140737488355328) := hs
  clear hs
  by_cases h10 : k = 10
  · subst h10
    have HC := Lib.hid (name_any n · HS.out)
    cases hn : named n with
    | true =>
      rw [prt_name a n hn]
      rw [hn] at HC
      clear hn
      go_enter Try.func14, Try.ntmps14
      go_wp2_with fail
      refine (HC.out _).mono ?_
      rintro e w' ⟨rfl, hb⟩
      have hc := hb.cell (p := ⟨w.heap.size, 2, none⟩) (by simp)
      go_wp2_with fail
      go_ret2
      exact ⟨rfl, (below_any w _).trans (hb.mono (by simp))⟩
    | false =>
      rw [prt_none (t := ⟨10, a, n⟩) (by rw [hn]; simp) (Or.inr (Or.inl (by show (9 : Int) < 10; omega)))]
      rw [hn] at HC
      clear hn
      go_enter Try.func14, Try.ntmps14
      go_wp2_with fail
      refine (HC.out _).mono ?_
      rintro e w' ⟨rfl, hb⟩
      have hc := hb.cell (p := ⟨w.heap.size, 0, none⟩) (by simp)
      go_wp2_with fail
      go_ret2
      exact ⟨rfl, (below_any w _).trans (hb.mono (by simp))⟩
  · have e10 : (k == 10) = false := by rw [beq_eq_false_iff_ne]; exact h10
    by_cases h1 : k < 1
    · rw [prt_none (t := ⟨k, a, n⟩) (fun h => h10 h.1) (Or.inl h1)]
      have d1 : decide (1 ≤ k) = false := by simp; omega
      clear h10 h1
      go_enter Try.func14, Try.ntmps14
      go_wp2_with fail
      go_ret2
      exact ⟨rfl, below_any w _⟩
    · by_cases h9 : 9 < k
      · rw [prt_none (t := ⟨k, a, n⟩) (fun h => h10 h.1) (Or.inr (Or.inl h9))]
        have d1 : decide (1 ≤ k) = true := by simp; omega
        have d9 : decide (k < 10) = false := by simp; omega
        clear h10 h1 h9
        go_enter Try.func14, Try.ntmps14
        go_wp2_with fail
        go_ret2
        exact ⟨rfl, below_any w _⟩
      · by_cases hn : n = ⟨#[]⟩
        · subst hn
          rcases sgn_cases (show 1 ≤ k by omega) (show k ≤ 9 by omega) with rfl | rfl | rfl | rfl | rfl | rfl | rfl | rfl | rfl
          all_goals
            clear h10 h1 h9 e10
            go_enter Try.func14, Try.ntmps14
            go_wp2_with fail
            go_ret2
            exact ⟨rfl, below_any w _⟩
        · rw [prt_none (t := ⟨k, a, n⟩) (fun h => h10 h.1) (Or.inr (Or.inr hn))]
          have d1 : decide (1 ≤ k) = true := by simp; omega
          have d9 : decide (k < 10) = true := by simp; omega
          have en := not_empty hn
          clear h10 h1 h9 hn
          go_enter Try.func14, Try.ntmps14
          go_wp2_with fail
          go_ret2
          exact ⟨rfl, below_any w _⟩
set_option maxHeartbeats 1000000 in
theorem words_any (w : World) : Calls Try.prog 16 #[] w (WordsPost w) := by
  go_enter Try.func16, Try.ntmps16
  go_wp2_with fail
  go_ret
  refine ⟨w.heap.size, 0, 6, rfl, Nat.le_refl _, Nat.le_refl _, ?_, ?_, below_any w _⟩
  · simp [w1, w2, w3, w4, w5, w6]
  · intro i hi
    simp
end Go.Proofs.Ythfcclheephokaa.To
