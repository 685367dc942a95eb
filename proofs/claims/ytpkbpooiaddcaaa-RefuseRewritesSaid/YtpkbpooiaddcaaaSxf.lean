/- The program's fit and made: what kids a node may have, and what it then is. -/
import Derived.Test.YtpkbpooiaddcaaaSxm
namespace Go.Proofs.Ytpkbpooiaddcaaa.Sx
open Go Go.RowKit Go.Proofs.Ytpkbpooiaddcaaa.Rw Go.Proofs.Ytpkbpooiaddcaaa.So
set_option maxRecDepth 20000

theorem five {a : Nat} (h : a ≤ 4) : a = 0 ∨ a = 1 ∨ a = 2 ∨ a = 3 ∨ a = 4 := by omega
set_option maxHeartbeats 400000 in
theorem plP (a : Nat) (w : World) (h : a ≤ 4) : Calls Try.prog 48 #[.int .i64 a] w fun e w' => e = .returned (.bool (pl a)) ∧ w = w' := by
  rcases five h with rfl | rfl | rfl | rfl | rfl
  all_goals
    go_enter Try.func48, Try.ntmps48
    go_wp2_with fail
    go_ret
    exact ⟨rfl, rfl⟩
set_option maxHeartbeats 400000 in
theorem pdP (a : Nat) (w : World) (h : a ≤ 4) : Calls Try.prog 46 #[.int .i64 a] w fun e w' => e = .returned (.bool (pd a)) ∧ w = w' := by
  rcases five h with rfl | rfl | rfl | rfl | rfl
  all_goals
    go_enter Try.func46, Try.ntmps46
    go_wp2_with fail
    go_ret
    exact ⟨rfl, rfl⟩
set_option maxHeartbeats 400000 in
theorem onP (a : Nat) (w : World) (h : a ≤ 4) : Calls Try.prog 47 #[.int .i64 a] w fun e w' => e = .returned (.bool (on a)) ∧ w = w' := by
  rcases five h with rfl | rfl | rfl | rfl | rfl
  all_goals
    go_enter Try.func47, Try.ntmps47
    go_wp2_with fail
    go_ret
    exact ⟨rfl, rfl⟩
set_option maxHeartbeats 2000000 in
theorem fit_leaf (k : Int) (w : World) (h : k = 1 ∨ k = 2 ∨ k = 3 ∨ k = 4 ∨ k = 11) : Calls Try.prog 38 #[.int .i64 k, .int .i64 0, .int .i64 0] w fun e w' => e = .returned (.bool (fit k 0 0)) ∧ w = w' := by
  rcases h with rfl | rfl | rfl | rfl | rfl
  all_goals
    go_enter Try.func38, Try.ntmps38
    go_wp2_with fail
    go_ret
    exact ⟨rfl, rfl⟩
set_option maxHeartbeats 2000000 in
theorem fit_9 (a : Nat) (w : World) (ha : a ≤ 4) : Calls Try.prog 38 #[.int .i64 9, .int .i64 a, .int .i64 0] w fun e w' => e = .returned (.bool (fit 9 a 0)) ∧ w = w' := by
  go_enter Try.func38, Try.ntmps38
  go_wp2_with fail
  refine (pdP a _ ha).mono ?_
  rintro e w' ⟨rfl, rfl⟩
  go_wp2_with fail
  go_ret
  exact ⟨rfl, rfl⟩
set_option maxHeartbeats 2000000 in
theorem fit_14 (a : Nat) (w : World) (ha : a ≤ 4) : Calls Try.prog 38 #[.int .i64 14, .int .i64 a, .int .i64 0] w fun e w' => e = .returned (.bool (fit 14 a 0)) ∧ w = w' := by
  rcases five ha with rfl | rfl | rfl | rfl | rfl
  all_goals
    go_enter Try.func38, Try.ntmps38
    go_wp2_with fail
    go_ret
    exact ⟨rfl, rfl⟩
set_option maxHeartbeats 4000000 in
theorem fit_5 (a b : Nat) (w : World) (ha : a ≤ 4) (hb : b ≤ 4) : Calls Try.prog 38 #[.int .i64 5, .int .i64 a, .int .i64 b] w fun e w' => e = .returned (.bool (fit 5 a b)) ∧ w = w' := by
  have c_onb := fun w => onP b w hb
  have c_pla := fun w => plP a w ha
  have c_pda := fun w => pdP a w ha
  have c_pdb := fun w => pdP b w hb
  have c_plb := fun w => plP b w hb
  have hr : fit 5 a b = (!on b && (pl a && pl b || pd a && pd b)) := rfl
  rw [hr]
  clear hr
  generalize on b = x_onb at *
  generalize pl a = x_pla at *
  generalize pd a = x_pda at *
  generalize pd b = x_pdb at *
  generalize pl b = x_plb at *
  go_enter Try.func38, Try.ntmps38
  go_wp2_with fail
  refine (c_onb _).mono ?_
  rintro e w' ⟨rfl, rfl⟩
  cases x_onb
  · go_wp2_with fail
    refine (c_pla _).mono ?_
    rintro e w' ⟨rfl, rfl⟩
    cases x_pla
    · go_wp2_with fail
      refine (c_pda _).mono ?_
      rintro e w' ⟨rfl, rfl⟩
      cases x_pda
      · go_wp2_with fail
        go_ret
        exact ⟨rfl, rfl⟩
      · go_wp2_with fail
        refine (c_pdb _).mono ?_
        rintro e w' ⟨rfl, rfl⟩
        cases x_pdb
        · go_wp2_with fail
          go_ret
          exact ⟨rfl, rfl⟩
        · go_wp2_with fail
          go_ret
          exact ⟨rfl, rfl⟩
    · go_wp2_with fail
      refine (c_plb _).mono ?_
      rintro e w' ⟨rfl, rfl⟩
      cases x_plb
      · go_wp2_with fail
        refine (c_pda _).mono ?_
        rintro e w' ⟨rfl, rfl⟩
        cases x_pda
        · go_wp2_with fail
          go_ret
          exact ⟨rfl, rfl⟩
        · go_wp2_with fail
          refine (c_pdb _).mono ?_
          rintro e w' ⟨rfl, rfl⟩
          cases x_pdb
          · go_wp2_with fail
            go_ret
            exact ⟨rfl, rfl⟩
          · go_wp2_with fail
            go_ret
            exact ⟨rfl, rfl⟩
      · go_wp2_with fail
        go_ret
        exact ⟨rfl, rfl⟩
  · go_wp2_with fail
    go_ret
    exact ⟨rfl, rfl⟩
set_option maxHeartbeats 4000000 in
theorem fit_6 (a b : Nat) (w : World) (ha : a ≤ 4) (hb : b ≤ 4) : Calls Try.prog 38 #[.int .i64 6, .int .i64 a, .int .i64 b] w fun e w' => e = .returned (.bool (fit 6 a b)) ∧ w = w' := by
  have c_ona := fun w => onP a w ha
  have c_onb := fun w => onP b w hb
  have c_pla := fun w => plP a w ha
  have c_pda := fun w => pdP a w ha
  have c_pdb := fun w => pdP b w hb
  have c_plb := fun w => plP b w hb
  have hr : fit 6 a b = (!on a && (!on b && (pl a && pl b || pd a && pd b))) := rfl
  rw [hr]
  clear hr
  generalize on a = x_ona at *
  generalize on b = x_onb at *
  generalize pl a = x_pla at *
  generalize pd a = x_pda at *
  generalize pd b = x_pdb at *
  generalize pl b = x_plb at *
  go_enter Try.func38, Try.ntmps38
  go_wp2_with fail
  refine (c_ona _).mono ?_
  rintro e w' ⟨rfl, rfl⟩
  cases x_ona
  · go_wp2_with fail
    refine (c_onb _).mono ?_
    rintro e w' ⟨rfl, rfl⟩
    cases x_onb
    · go_wp2_with fail
      refine (c_pla _).mono ?_
      rintro e w' ⟨rfl, rfl⟩
      cases x_pla
      · go_wp2_with fail
        refine (c_pda _).mono ?_
        rintro e w' ⟨rfl, rfl⟩
        cases x_pda
        · go_wp2_with fail
          go_ret
          exact ⟨rfl, rfl⟩
        · go_wp2_with fail
          refine (c_pdb _).mono ?_
          rintro e w' ⟨rfl, rfl⟩
          cases x_pdb
          · go_wp2_with fail
            go_ret
            exact ⟨rfl, rfl⟩
          · go_wp2_with fail
            go_ret
            exact ⟨rfl, rfl⟩
      · go_wp2_with fail
        refine (c_plb _).mono ?_
        rintro e w' ⟨rfl, rfl⟩
        cases x_plb
        · go_wp2_with fail
          refine (c_pda _).mono ?_
          rintro e w' ⟨rfl, rfl⟩
          cases x_pda
          · go_wp2_with fail
            go_ret
            exact ⟨rfl, rfl⟩
          · go_wp2_with fail
            refine (c_pdb _).mono ?_
            rintro e w' ⟨rfl, rfl⟩
            cases x_pdb
            · go_wp2_with fail
              go_ret
              exact ⟨rfl, rfl⟩
            · go_wp2_with fail
              go_ret
              exact ⟨rfl, rfl⟩
        · go_wp2_with fail
          go_ret
          exact ⟨rfl, rfl⟩
    · go_wp2_with fail
      go_ret
      exact ⟨rfl, rfl⟩
  · go_wp2_with fail
    go_ret
    exact ⟨rfl, rfl⟩
set_option maxHeartbeats 4000000 in
theorem fit_7 (a b : Nat) (w : World) (ha : a ≤ 4) (hb : b ≤ 4) : Calls Try.prog 38 #[.int .i64 7, .int .i64 a, .int .i64 b] w fun e w' => e = .returned (.bool (fit 7 a b)) ∧ w = w' := by
  have c_pla := fun w => plP a w ha
  have c_pda := fun w => pdP a w ha
  have c_pdb := fun w => pdP b w hb
  have c_plb := fun w => plP b w hb
  have hr : fit 7 a b = (pl a && pl b || pd a && pd b) := rfl
  rw [hr]
  clear hr
  generalize pl a = x_pla at *
  generalize pd a = x_pda at *
  generalize pd b = x_pdb at *
  generalize pl b = x_plb at *
  go_enter Try.func38, Try.ntmps38
  go_wp2_with fail
  refine (c_pla _).mono ?_
  rintro e w' ⟨rfl, rfl⟩
  cases x_pla
  · go_wp2_with fail
    refine (c_pda _).mono ?_
    rintro e w' ⟨rfl, rfl⟩
    cases x_pda
    · go_wp2_with fail
      go_ret
      exact ⟨rfl, rfl⟩
    · go_wp2_with fail
      refine (c_pdb _).mono ?_
      rintro e w' ⟨rfl, rfl⟩
      cases x_pdb
      · go_wp2_with fail
        go_ret
        exact ⟨rfl, rfl⟩
      · go_wp2_with fail
        go_ret
        exact ⟨rfl, rfl⟩
  · go_wp2_with fail
    refine (c_plb _).mono ?_
    rintro e w' ⟨rfl, rfl⟩
    cases x_plb
    · go_wp2_with fail
      refine (c_pda _).mono ?_
      rintro e w' ⟨rfl, rfl⟩
      cases x_pda
      · go_wp2_with fail
        go_ret
        exact ⟨rfl, rfl⟩
      · go_wp2_with fail
        refine (c_pdb _).mono ?_
        rintro e w' ⟨rfl, rfl⟩
        cases x_pdb
        · go_wp2_with fail
          go_ret
          exact ⟨rfl, rfl⟩
        · go_wp2_with fail
          go_ret
          exact ⟨rfl, rfl⟩
    · go_wp2_with fail
      go_ret
      exact ⟨rfl, rfl⟩
set_option maxHeartbeats 4000000 in
theorem fit_8 (a b : Nat) (w : World) (ha : a ≤ 4) : Calls Try.prog 38 #[.int .i64 8, .int .i64 a, .int .i64 b] w fun e w' => e = .returned (.bool (fit 8 a b)) ∧ w = w' := by
  have c_pla := fun w => plP a w ha
  have hr : fit 8 a b = (pl a && (b == 1)) := rfl
  rw [hr]
  clear hr
  generalize pl a = x_pla at *
  have hi : ((b : Int) == 1) = (b == 1) := by rw [Bool.eq_iff_iff, beq_iff_eq, beq_iff_eq]; omega
  generalize (b == 1) = q at *
  cases q
  all_goals
    go_enter Try.func38, Try.ntmps38
    go_wp2_with fail
    refine (c_pla _).mono ?_
    rintro e w' ⟨rfl, rfl⟩
    cases x_pla
    · go_wp2_with fail
      go_ret
      exact ⟨rfl, rfl⟩
    · go_wp2_with fail
      go_ret
      exact ⟨rfl, rfl⟩
set_option maxHeartbeats 4000000 in
theorem fit_10 (a b : Nat) (w : World) (ha : a ≤ 4) : Calls Try.prog 38 #[.int .i64 10, .int .i64 a, .int .i64 b] w fun e w' => e = .returned (.bool (fit 10 a b)) ∧ w = w' := by
  have c_ona := fun w => onP a w ha
  have c_pla := fun w => plP a w ha
  have hr : fit 10 a b = (!on a && (pl a && (b == 1))) := rfl
  rw [hr]
  clear hr
  generalize on a = x_ona at *
  generalize pl a = x_pla at *
  have hi : ((b : Int) == 1) = (b == 1) := by rw [Bool.eq_iff_iff, beq_iff_eq, beq_iff_eq]; omega
  generalize (b == 1) = q at *
  cases q
  all_goals
    go_enter Try.func38, Try.ntmps38
    go_wp2_with fail
    refine (c_ona _).mono ?_
    rintro e w' ⟨rfl, rfl⟩
    cases x_ona
    · go_wp2_with fail
      refine (c_pla _).mono ?_
      rintro e w' ⟨rfl, rfl⟩
      cases x_pla
      · go_wp2_with fail
        go_ret
        exact ⟨rfl, rfl⟩
      · go_wp2_with fail
        go_ret
        exact ⟨rfl, rfl⟩
    · go_wp2_with fail
      go_ret
      exact ⟨rfl, rfl⟩
set_option maxHeartbeats 4000000 in
theorem fit_12 (a b : Nat) (w : World) (ha : a ≤ 4) : Calls Try.prog 38 #[.int .i64 12, .int .i64 a, .int .i64 b] w fun e w' => e = .returned (.bool (fit 12 a b)) ∧ w = w' := by
  have c_pla := fun w => plP a w ha
  have hr : fit 12 a b = (pl a && (b == 1)) := rfl
  rw [hr]
  clear hr
  generalize pl a = x_pla at *
  have hi : ((b : Int) == 1) = (b == 1) := by rw [Bool.eq_iff_iff, beq_iff_eq, beq_iff_eq]; omega
  generalize (b == 1) = q at *
  cases q
  all_goals
    go_enter Try.func38, Try.ntmps38
    go_wp2_with fail
    refine (c_pla _).mono ?_
    rintro e w' ⟨rfl, rfl⟩
    cases x_pla
    · go_wp2_with fail
      go_ret
      exact ⟨rfl, rfl⟩
    · go_wp2_with fail
      go_ret
      exact ⟨rfl, rfl⟩
set_option maxHeartbeats 4000000 in
theorem fit_13 (a b : Nat) (w : World) (ha : a ≤ 4) : Calls Try.prog 38 #[.int .i64 13, .int .i64 a, .int .i64 b] w fun e w' => e = .returned (.bool (fit 13 a b)) ∧ w = w' := by
  have c_pda := fun w => pdP a w ha
  have hr : fit 13 a b = (pd a && (b == 1)) := rfl
  rw [hr]
  clear hr
  generalize pd a = x_pda at *
  have hi : ((b : Int) == 1) = (b == 1) := by rw [Bool.eq_iff_iff, beq_iff_eq, beq_iff_eq]; omega
  generalize (b == 1) = q at *
  cases q
  all_goals
    go_enter Try.func38, Try.ntmps38
    go_wp2_with fail
    refine (c_pda _).mono ?_
    rintro e w' ⟨rfl, rfl⟩
    cases x_pda
    · go_wp2_with fail
      go_ret
      exact ⟨rfl, rfl⟩
    · go_wp2_with fail
      go_ret
      exact ⟨rfl, rfl⟩
theorem fit_any (k : Int) (a b : Nat) (w : World) (hk : 0 ≤ Rw.ar k) (ha : a ≤ 4) (hb : b ≤ 4) (h0 : Rw.ar k = 0 → a = 0) (h1 : Rw.ar k ≤ 1 → b = 0) : Calls Try.prog 38 #[.int .i64 k, .int .i64 a, .int .i64 b] w fun e w' => e = .returned (.bool (fit k a b)) ∧ w = w' := by
  rcases kinds hk with rfl | rfl | rfl | rfl | rfl | rfl | rfl | rfl | rfl | rfl | rfl | rfl | rfl | rfl
  case inr.inr.inr.inr.inl => exact fit_5 a b w ha hb
  case inr.inr.inr.inr.inr.inl => exact fit_6 a b w ha hb
  case inr.inr.inr.inr.inr.inr.inl => exact fit_7 a b w ha hb
  case inr.inr.inr.inr.inr.inr.inr.inl => exact fit_8 a b w ha
  case inr.inr.inr.inr.inr.inr.inr.inr.inl => obtain rfl := h1 (by decide); exact fit_9 a w ha
  case inr.inr.inr.inr.inr.inr.inr.inr.inr.inl => exact fit_10 a b w ha
  case inr.inr.inr.inr.inr.inr.inr.inr.inr.inr.inr.inl => exact fit_12 a b w ha
  case inr.inr.inr.inr.inr.inr.inr.inr.inr.inr.inr.inr.inl => exact fit_13 a b w ha
  case inr.inr.inr.inr.inr.inr.inr.inr.inr.inr.inr.inr.inr => obtain rfl := h1 (by decide); exact fit_14 a w ha
  all_goals
    obtain rfl := h0 (by decide)
    obtain rfl := h1 (by decide)
    exact fit_leaf _ w (by decide)
set_option maxHeartbeats 2000000 in
theorem made_two (k : Int) (a b : Nat) (w : World) (h : k = 5 ∨ k = 6 ∨ k = 7 ∨ k = 8) : Calls Try.prog 39 #[.int .i64 k, .int .i64 a, .int .i64 b] w fun e w' => e = .returned (.int .i64 (made k a b)) ∧ w = w' := by
  have hm : made k a b = max a b := by unfold made; rw [if_pos h]
  have HM : Hid (((max a b : Nat) : Int) = (made k a b : Nat)) := by show _ = _; rw [hm]
  clear hm
  rcases h with rfl | rfl | rfl | rfl
  all_goals
    go_enter Try.func39, Try.ntmps39
    go_wp2_with fail
  all_goals
    go_ret
    exact ⟨ret_int (by rw [← HM.out]; omega), rfl⟩
set_option maxHeartbeats 2000000 in
theorem made_9 (a b : Nat) (w : World) (ha : a ≤ 4) : Calls Try.prog 39 #[.int .i64 9, .int .i64 a, .int .i64 b] w fun e w' => e = .returned (.int .i64 (made 9 a b)) ∧ w = w' := by
  rcases five ha with rfl | rfl | rfl | rfl | rfl
  all_goals
    go_enter Try.func39, Try.ntmps39
    go_wp2_with fail
    go_ret
    exact ⟨rfl, rfl⟩
set_option maxHeartbeats 2000000 in
theorem made_other (k : Int) (a b : Nat) (w : World) (h : k = 1 ∨ k = 2 ∨ k = 3 ∨ k = 4 ∨ k = 10 ∨ k = 11 ∨ k = 12 ∨ k = 13 ∨ k = 14) : Calls Try.prog 39 #[.int .i64 k, .int .i64 a, .int .i64 b] w fun e w' => e = .returned (.int .i64 (made k a b)) ∧ w = w' := by
  rcases h with rfl | rfl | rfl | rfl | rfl | rfl | rfl | rfl | rfl
  all_goals
    go_enter Try.func39, Try.ntmps39
    go_wp2_with fail
    go_ret
    exact ⟨rfl, rfl⟩
theorem made_any (k : Int) (a b : Nat) (w : World) (hk : 0 ≤ Rw.ar k) (ha : a ≤ 4) : Calls Try.prog 39 #[.int .i64 k, .int .i64 a, .int .i64 b] w fun e w' => e = .returned (.int .i64 (made k a b)) ∧ w = w' := by
  by_cases h2 : k = 5 ∨ k = 6 ∨ k = 7 ∨ k = 8
  · exact made_two k a b w h2
  · by_cases h9 : k = 9
    · subst h9
      exact made_9 a b w ha
    · exact made_other k a b w (by have := kinds hk; omega)
end Go.Proofs.Ytpkbpooiaddcaaa.Sx
