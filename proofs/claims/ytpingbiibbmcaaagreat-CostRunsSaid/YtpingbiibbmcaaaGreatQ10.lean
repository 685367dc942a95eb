/- The document's Is, Of, On and Right. The program's fit and made: what kids a node may have, and what it then is. The program's Put: the walk. Where the nodes of a tree stand: plain. The node above, no two at one point, all within the box, trees below and beside one another. The laws of rows from the contracts: RowTrees, RowNodes. The document's Then: the walk. Plain: the sorts kind by kind; terms have no node of what goes on, and what goes on has one. The document's On. -/
import Derived.Test.YtpingbiibbmcaaaGreatQ08
import Derived.Test.YtpingbiibbmcaaaGreatQ09
import Derived.Test.YtpingbiibbmcaaaGreatQ02
import Derived.Test.YtpingbiibbmcaaaGreatQ06
import Derived.Test.YtpingbiibbmcaaaGreatQ07
import Derived.OwnWalk
import Derived.Deep.RegionHeld3
import Derived.Deep.QuietTactic
import Derived.BigQuiet

namespace Go.Proofs.YtpingbiibbmcaaaGreat.So
open Go Go.RowKit Go.Proofs.YtpingbiibbmcaaaGreat.Rw
set_option maxRecDepth 20000

set_option maxHeartbeats 1000000 in
theorem is_1 (l : List Nd) (v : Value) (w : World) (ht : Tre l) (hv : Nds w v l) (hl : l.length ≤ 1000000) (ih : IsC l.length) : Calls Tryz.prog 27 #[v, .int .i64 1] w fun e w' => e = .returned (.bool (Is 1 l)) ∧ Below w.heap.size w w' := by
  have HR := Lib.hid (Is_one l)
  have HV := Lib.hid hv
  obtain ⟨_, a, cap, rfl, -⟩ := hv
  go_enter Tryz.func27, Tryz.ntmps27
  go_wp2_with fail
  refine (kidsR_any _ l _ HV.out hl).mono ?_
  rintro e w1 ⟨y, rfl, hy, hb⟩
  have HY := Lib.hid hy
  have HB := Lib.hid hb
  replace HV := Lib.hid (HV.out.below hb)
  clear hy hb
  go_wp2_with fail
  refine (plain_any l _ _ _ ht HV.out HY.out ih).mono ?_
  rintro e w2 ⟨rfl, hb⟩
  go_wp2_with fail
  go_ret
  exact ⟨ret_bool HR.out.symm, HB.out.trans (hb.mono HB.out.size)⟩
set_option maxHeartbeats 1000000 in
theorem is_2 (l : List Nd) (v : Value) (w : World) (ht : Tre l) (hv : Nds w v l) (hl : l.length ≤ 1000000) (ih : IsC l.length) : Calls Tryz.prog 27 #[v, .int .i64 2] w fun e w' => e = .returned (.bool (Is 2 l)) ∧ Below w.heap.size w w' := by
  have HR := Lib.hid (Is_two l)
  have HV := Lib.hid hv
  obtain ⟨_, a, cap, rfl, -⟩ := hv
  go_enter Tryz.func27, Tryz.ntmps27
  go_wp2_with fail
  refine (kidsR_any _ l _ HV.out hl).mono ?_
  rintro e w1 ⟨y, rfl, hy, hb⟩
  have HY := Lib.hid hy
  have HB := Lib.hid hb
  replace HV := Lib.hid (HV.out.below hb)
  clear hy hb
  go_wp2_with fail
  refine (paired_any l _ _ _ ht HV.out HY.out ih).mono ?_
  rintro e w2 ⟨rfl, hb⟩
  go_wp2_with fail
  go_ret
  exact ⟨ret_bool HR.out.symm, HB.out.trans (hb.mono HB.out.size)⟩
set_option maxHeartbeats 1000000 in
theorem is_3 (l : List Nd) (v : Value) (w : World) (ht : Tre l) (hv : Nds w v l) (hl : l.length ≤ 1000000) (ih : IsC l.length) : Calls Tryz.prog 27 #[v, .int .i64 3] w fun e w' => e = .returned (.bool (Is 3 l)) ∧ Below w.heap.size w w' := by
  have HR := Lib.hid (Is_three l)
  have HV := Lib.hid hv
  obtain ⟨_, a, cap, rfl, -⟩ := hv
  go_enter Tryz.func27, Tryz.ntmps27
  go_wp2_with fail
  refine (kidsR_any _ l _ HV.out hl).mono ?_
  rintro e w1 ⟨y, rfl, hy, hb⟩
  have HY := Lib.hid hy
  have HB := Lib.hid hb
  replace HV := Lib.hid (HV.out.below hb)
  clear hy hb
  go_wp2_with fail
  refine (plain_any l _ _ _ ht HV.out HY.out ih).mono ?_
  cases h0 : plainB Is l with
  | true =>
    rw [h0, Bool.true_or] at HR
    rintro e w2 ⟨rfl, hb⟩
    go_wp2_with fail
    go_ret
    exact ⟨ret_bool HR.out.symm, HB.out.trans (hb.mono HB.out.size)⟩
  | false =>
    rw [h0, Bool.false_or] at HR
    rintro e w2 ⟨rfl, hb⟩
    replace HB := Lib.hid (HB.out.trans (hb.mono HB.out.size))
    replace HV := Lib.hid (HV.out.below hb)
    replace HY := Lib.hid (HY.out.below hb)
    clear hb h0
    go_wp2_with fail
    refine (plainOn_any l _ _ _ ht HV.out HY.out ih).mono ?_
    rintro e w3 ⟨rfl, hb⟩
    go_wp2_with fail
    go_ret
    exact ⟨ret_bool HR.out.symm, HB.out.trans (hb.mono HB.out.size)⟩
set_option maxHeartbeats 1000000 in
theorem is_4 (l : List Nd) (v : Value) (w : World) (ht : Tre l) (hv : Nds w v l) (hl : l.length ≤ 1000000) (ih : IsC l.length) : Calls Tryz.prog 27 #[v, .int .i64 4] w fun e w' => e = .returned (.bool (Is 4 l)) ∧ Below w.heap.size w w' := by
  have HR := Lib.hid (Is_four l)
  have HV := Lib.hid hv
  obtain ⟨_, a, cap, rfl, -⟩ := hv
  go_enter Tryz.func27, Tryz.ntmps27
  go_wp2_with fail
  refine (kidsR_any _ l _ HV.out hl).mono ?_
  rintro e w1 ⟨y, rfl, hy, hb⟩
  have HY := Lib.hid hy
  have HB := Lib.hid hb
  replace HV := Lib.hid (HV.out.below hb)
  clear hy hb
  go_wp2_with fail
  refine (paired_any l _ _ _ ht HV.out HY.out ih).mono ?_
  cases h0 : pairedB Is l with
  | true =>
    rw [h0, Bool.true_or] at HR
    rintro e w2 ⟨rfl, hb⟩
    go_wp2_with fail
    go_ret
    exact ⟨ret_bool HR.out.symm, HB.out.trans (hb.mono HB.out.size)⟩
  | false =>
    rw [h0, Bool.false_or] at HR
    rintro e w2 ⟨rfl, hb⟩
    replace HB := Lib.hid (HB.out.trans (hb.mono HB.out.size))
    replace HV := Lib.hid (HV.out.below hb)
    replace HY := Lib.hid (HY.out.below hb)
    clear hb h0
    go_wp2_with fail
    refine (pairedOn_any l _ _ _ ht HV.out HY.out ih).mono ?_
    rintro e w3 ⟨rfl, hb⟩
    go_wp2_with fail
    go_ret
    exact ⟨ret_bool HR.out.symm, HB.out.trans (hb.mono HB.out.size)⟩
theorem is_all : ∀ n, n ≤ 1000000 → IsC n
  | 0, _ => fun r _ _ _ h => absurd h (Nat.not_lt_zero _)
  | n + 1, hn => by
    intro r s w v hr ht hv h1 h4
    have ih : IsC r.length := by
      rcases Nat.lt_or_ge r.length n with h | h
      · intro r' s' w' v' hr'
        exact is_all n (by omega) r' s' w' v' (by omega)
      · have : r.length = n := by omega
        rw [this]
        exact is_all n (by omega)
    have hl : r.length ≤ 1000000 := by omega
    have hs : s = 1 ∨ s = 2 ∨ s = 3 ∨ s = 4 := by omega
    rcases hs with rfl | rfl | rfl | rfl
    · exact is_1 r v w ht hv hl ih
    · exact is_2 r v w ht hv hl ih
    · exact is_3 r v w ht hv hl ih
    · exact is_4 r v w ht hv hl ih
theorem isR_any (l : List Nd) (s : Nat) (v : Value) (w : World) (ht : Tre l) (hv : Nds w v l) (hl : l.length ≤ 999999) (h1 : 1 ≤ s) (h4 : s ≤ 4) : Calls Tryz.prog 27 #[v, .int .i64 s] w fun e w' => e = .returned (.bool (Is s l)) ∧ Below w.heap.size w w' :=
  is_all (l.length + 1) (by omega) l s w v (by omega) ht hv h1 h4

theorem whole_tre {l : List Nd} (h : whole l = true) : Tre l := by
  unfold whole at h
  simp only [Bool.and_eq_true, decide_eq_true_eq] at h
  exact Tre.of_size h.2 (fun e => by rw [e] at h; exact absurd h.1.2.1 (by decide))
/-- No sort below s. -/
def Not (l : List Nd) (s : Nat) : Prop := ∀ i, 1 ≤ i → i < s → Is i l = false
theorem first_yes {l : List Nd} {s : Nat} (h : Not l s) (h1 : 1 ≤ s) (h4 : s ≤ 4) (hs : Is s l = true) : first l = s := by
  have n1 : 1 < s → Is 1 l = false := fun h' => h 1 (by omega) h'
  have n2 : 2 < s → Is 2 l = false := fun h' => h 2 (by omega) h'
  have n3 : 3 < s → Is 3 l = false := fun h' => h 3 (by omega) h'
  unfold first
  have hc : s = 1 ∨ s = 2 ∨ s = 3 ∨ s = 4 := by omega
  rcases hc with rfl | rfl | rfl | rfl
  · simp [hs]
  · simp [n1 (by omega), hs]
  · simp [n1 (by omega), n2 (by omega), hs]
  · simp [n1 (by omega), n2 (by omega), n3 (by omega), hs]
theorem first_no {l : List Nd} (h : Not l 5) : first l = 0 := by
  unfold first
  simp [h 1 (by omega) (by omega), h 2 (by omega) (by omega), h 3 (by omega) (by omega), h 4 (by omega) (by omega)]
theorem Not.next {l : List Nd} {s : Nat} (h : Not l s) (hs : Is s l = false) : Not l (s + 1) := fun i h1 h2 => by
  rcases Nat.lt_or_ge i s with h' | h'
  · exact h i h1 h'
  · rw [show i = s by omega]
    exact hs

set_option maxHeartbeats 2000000 in
theorem ofR_any (l : List Nd) (v : Value) (w : World) (hv : Nds w v l) (hl : l.length ≤ 1000) (hm : Nms l) : Calls Tryz.prog 12 #[v] w fun e w' => e = .returned (.int .i64 (of l)) ∧ Below w.heap.size w w' := by
  have HV := Lib.hid hv
  have HM := Lib.hid hm
  obtain ⟨_, a, cap, rfl, -⟩ := hv
  clear hm
  go_enter Tryz.func12, Tryz.ntmps12
  go_wp2_with fail
  refine (wholeR_any _ l _ HV.out (by omega) HM.out).mono ?_
  cases hw : whole l with
  | false =>
    have HR : Hid (of l = 0) := by
      show _ = _
      unfold of
      rw [hw]
      rfl
    clear hw
    rintro e w1 ⟨rfl, hb⟩
    go_wp2_with fail
    go_ret
    exact ⟨ret_int (by rw [HR.out]; rfl), hb⟩
  | true =>
    have HT := Lib.hid (whole_tre hw)
    have HR : Hid (of l = first l) := by
      show _ = _
      unfold of
      rw [hw]
      rfl
    clear hw
    rintro e w1 ⟨rfl, hb⟩
    replace HV := Lib.hid (HV.out.below hb)
    have HB := Lib.hid hb
    clear hb
    go_wp2_with fail
    go_loopw [3] (fun i wr => ∃ s : Nat, 1 ≤ s ∧ s ≤ 5 ∧ i = .int .i64 s ∧ Hid (Not l s) ∧ Hid (Nds wr (.slice a l.length cap) l) ∧ Hid (Below w.heap.size w wr)) (fun i _ => (5 - intOf i).toNat)
    case atStart => exact ⟨1, by omega, by omega, rfl, Lib.hid (fun i h1 h2 => by omega), HV, HB⟩
    case round =>
      clear HV HB
      obtain ⟨s, h1, h5, rfl, HN, HV, HB⟩ := hrel
      by_cases h4 : s ≤ 4
      · have IH := Lib.hid (isR_any l s _ _ HT.out HV.out (by omega) h1 h4)
        cases hs : Is s l with
        | true =>
          have HF := Lib.hid (HR.out.trans (first_yes HN.out h1 h4 hs))
          rw [hs] at IH
          clear hs
          go_wp2_with fail
          refine IH.out.mono ?_
          rintro e w2 ⟨rfl, hb⟩
          go_wp2_with fail
          go_ret
          exact ⟨ret_int (by rw [HF.out]), HB.out.trans (hb.mono HB.out.size)⟩
        | false =>
          have HN' := Lib.hid (HN.out.next hs)
          rw [hs] at IH
          clear hs
          go_wp2_with fail
          refine IH.out.mono ?_
          rintro e w2 ⟨rfl, hb⟩
          replace HV := Lib.hid (HV.out.below hb)
          replace HB := Lib.hid (HB.out.trans (hb.mono HB.out.size))
          clear hb
          go_wp2_with fail
          go_roundw
          case rel => exact ⟨s + 1, by omega, by omega, by go_num, HN', HV, HB⟩
          case measure => simp [intOf]; omega
      · obtain rfl : s = 5 := by omega
        have HF := Lib.hid (HR.out.trans (first_no HN.out))
        go_wp2_with fail
        go_ret
        exact ⟨ret_int (by rw [HF.out]; rfl), HB.out⟩
end Go.Proofs.YtpingbiibbmcaaaGreat.So

namespace Go.Proofs.YtpingbiibbmcaaaGreat.Sx
open Go Go.RowKit Go.Proofs.YtpingbiibbmcaaaGreat.Rw Go.Proofs.YtpingbiibbmcaaaGreat.So
set_option maxRecDepth 20000

theorem five {a : Nat} (h : a ≤ 4) : a = 0 ∨ a = 1 ∨ a = 2 ∨ a = 3 ∨ a = 4 := by omega
set_option maxHeartbeats 400000 in
theorem plP (a : Nat) (w : World) (h : a ≤ 4) : Calls Tryz.prog 103 #[.int .i64 a] w fun e w' => e = .returned (.bool (pl a)) ∧ w = w' := by
  rcases five h with rfl | rfl | rfl | rfl | rfl
  all_goals
    go_enter Tryz.func103, Tryz.ntmps103
    go_wp2_with fail
    go_ret
    exact ⟨rfl, rfl⟩
set_option maxHeartbeats 400000 in
theorem pdP (a : Nat) (w : World) (h : a ≤ 4) : Calls Tryz.prog 101 #[.int .i64 a] w fun e w' => e = .returned (.bool (pd a)) ∧ w = w' := by
  rcases five h with rfl | rfl | rfl | rfl | rfl
  all_goals
    go_enter Tryz.func101, Tryz.ntmps101
    go_wp2_with fail
    go_ret
    exact ⟨rfl, rfl⟩
set_option maxHeartbeats 400000 in
theorem onP (a : Nat) (w : World) (h : a ≤ 4) : Calls Tryz.prog 102 #[.int .i64 a] w fun e w' => e = .returned (.bool (on a)) ∧ w = w' := by
  rcases five h with rfl | rfl | rfl | rfl | rfl
  all_goals
    go_enter Tryz.func102, Tryz.ntmps102
    go_wp2_with fail
    go_ret
    exact ⟨rfl, rfl⟩
set_option maxHeartbeats 2000000 in
theorem fit_leaf (k : Int) (w : World) (h : k = 1 ∨ k = 2 ∨ k = 3 ∨ k = 4 ∨ k = 11) : Calls Tryz.prog 84 #[.int .i64 k, .int .i64 0, .int .i64 0] w fun e w' => e = .returned (.bool (fit k 0 0)) ∧ w = w' := by
  rcases h with rfl | rfl | rfl | rfl | rfl
  all_goals
    go_enter Tryz.func84, Tryz.ntmps84
    go_wp2_with fail
    go_ret
    exact ⟨rfl, rfl⟩
set_option maxHeartbeats 2000000 in
theorem fit_9 (a : Nat) (w : World) (ha : a ≤ 4) : Calls Tryz.prog 84 #[.int .i64 9, .int .i64 a, .int .i64 0] w fun e w' => e = .returned (.bool (fit 9 a 0)) ∧ w = w' := by
  go_enter Tryz.func84, Tryz.ntmps84
  go_wp2_with fail
  refine (pdP a _ ha).mono ?_
  rintro e w' ⟨rfl, rfl⟩
  go_wp2_with fail
  go_ret
  exact ⟨rfl, rfl⟩
set_option maxHeartbeats 2000000 in
theorem fit_14 (a : Nat) (w : World) (ha : a ≤ 4) : Calls Tryz.prog 84 #[.int .i64 14, .int .i64 a, .int .i64 0] w fun e w' => e = .returned (.bool (fit 14 a 0)) ∧ w = w' := by
  rcases five ha with rfl | rfl | rfl | rfl | rfl
  all_goals
    go_enter Tryz.func84, Tryz.ntmps84
    go_wp2_with fail
    go_ret
    exact ⟨rfl, rfl⟩
set_option maxHeartbeats 4000000 in
theorem fit_5 (a b : Nat) (w : World) (ha : a ≤ 4) (hb : b ≤ 4) : Calls Tryz.prog 84 #[.int .i64 5, .int .i64 a, .int .i64 b] w fun e w' => e = .returned (.bool (fit 5 a b)) ∧ w = w' := by
  have c_onb := fun w => onP b w hb
  have c_pla := fun w => plP a w ha
  have c_pda := fun w => pdP a w ha
  have c_pdb := fun w => pdP b w hb
  have c_plb := fun w => plP b w hb
  have hr : fit 5 a b = (!on b && (pl a && pl b || pd a && pd b)) := rfl
  rw [hr]
  clear hr
  generalize on b = x_onb at *
  generalize pl a = x_pla at *
  generalize pd a = x_pda at *
  generalize pd b = x_pdb at *
  generalize pl b = x_plb at *
  go_enter Tryz.func84, Tryz.ntmps84
  go_wp2_with fail
  refine (c_onb _).mono ?_
  rintro e w' ⟨rfl, rfl⟩
  cases x_onb
  · go_wp2_with fail
    refine (c_pla _).mono ?_
    rintro e w' ⟨rfl, rfl⟩
    cases x_pla
    · go_wp2_with fail
      refine (c_pda _).mono ?_
      rintro e w' ⟨rfl, rfl⟩
      cases x_pda
      · go_wp2_with fail
        go_ret
        exact ⟨rfl, rfl⟩
      · go_wp2_with fail
        refine (c_pdb _).mono ?_
        rintro e w' ⟨rfl, rfl⟩
        cases x_pdb
        · go_wp2_with fail
          go_ret
          exact ⟨rfl, rfl⟩
        · go_wp2_with fail
          go_ret
          exact ⟨rfl, rfl⟩
    · go_wp2_with fail
      refine (c_plb _).mono ?_
      rintro e w' ⟨rfl, rfl⟩
      cases x_plb
      · go_wp2_with fail
        refine (c_pda _).mono ?_
        rintro e w' ⟨rfl, rfl⟩
        cases x_pda
        · go_wp2_with fail
          go_ret
          exact ⟨rfl, rfl⟩
        · go_wp2_with fail
          refine (c_pdb _).mono ?_
          rintro e w' ⟨rfl, rfl⟩
          cases x_pdb
          · go_wp2_with fail
            go_ret
            exact ⟨rfl, rfl⟩
          · go_wp2_with fail
            go_ret
            exact ⟨rfl, rfl⟩
      · go_wp2_with fail
        go_ret
        exact ⟨rfl, rfl⟩
  · go_wp2_with fail
    go_ret
    exact ⟨rfl, rfl⟩
set_option maxHeartbeats 4000000 in
theorem fit_6 (a b : Nat) (w : World) (ha : a ≤ 4) (hb : b ≤ 4) : Calls Tryz.prog 84 #[.int .i64 6, .int .i64 a, .int .i64 b] w fun e w' => e = .returned (.bool (fit 6 a b)) ∧ w = w' := by
  have c_ona := fun w => onP a w ha
  have c_onb := fun w => onP b w hb
  have c_pla := fun w => plP a w ha
  have c_pda := fun w => pdP a w ha
  have c_pdb := fun w => pdP b w hb
  have c_plb := fun w => plP b w hb
  have hr : fit 6 a b = (!on a && (!on b && (pl a && pl b || pd a && pd b))) := rfl
  rw [hr]
  clear hr
  generalize on a = x_ona at *
  generalize on b = x_onb at *
  generalize pl a = x_pla at *
  generalize pd a = x_pda at *
  generalize pd b = x_pdb at *
  generalize pl b = x_plb at *
  go_enter Tryz.func84, Tryz.ntmps84
  go_wp2_with fail
  refine (c_ona _).mono ?_
  rintro e w' ⟨rfl, rfl⟩
  cases x_ona
  · go_wp2_with fail
    refine (c_onb _).mono ?_
    rintro e w' ⟨rfl, rfl⟩
    cases x_onb
    · go_wp2_with fail
      refine (c_pla _).mono ?_
      rintro e w' ⟨rfl, rfl⟩
      cases x_pla
      · go_wp2_with fail
        refine (c_pda _).mono ?_
        rintro e w' ⟨rfl, rfl⟩
        cases x_pda
        · go_wp2_with fail
          go_ret
          exact ⟨rfl, rfl⟩
        · go_wp2_with fail
          refine (c_pdb _).mono ?_
          rintro e w' ⟨rfl, rfl⟩
          cases x_pdb
          · go_wp2_with fail
            go_ret
            exact ⟨rfl, rfl⟩
          · go_wp2_with fail
            go_ret
            exact ⟨rfl, rfl⟩
      · go_wp2_with fail
        refine (c_plb _).mono ?_
        rintro e w' ⟨rfl, rfl⟩
        cases x_plb
        · go_wp2_with fail
          refine (c_pda _).mono ?_
          rintro e w' ⟨rfl, rfl⟩
          cases x_pda
          · go_wp2_with fail
            go_ret
            exact ⟨rfl, rfl⟩
          · go_wp2_with fail
            refine (c_pdb _).mono ?_
            rintro e w' ⟨rfl, rfl⟩
            cases x_pdb
            · go_wp2_with fail
              go_ret
              exact ⟨rfl, rfl⟩
            · go_wp2_with fail
              go_ret
              exact ⟨rfl, rfl⟩
        · go_wp2_with fail
          go_ret
          exact ⟨rfl, rfl⟩
    · go_wp2_with fail
      go_ret
      exact ⟨rfl, rfl⟩
  · go_wp2_with fail
    go_ret
    exact ⟨rfl, rfl⟩
set_option maxHeartbeats 4000000 in
theorem fit_7 (a b : Nat) (w : World) (ha : a ≤ 4) (hb : b ≤ 4) : Calls Tryz.prog 84 #[.int .i64 7, .int .i64 a, .int .i64 b] w fun e w' => e = .returned (.bool (fit 7 a b)) ∧ w = w' := by
  have c_pla := fun w => plP a w ha
  have c_pda := fun w => pdP a w ha
  have c_pdb := fun w => pdP b w hb
  have c_plb := fun w => plP b w hb
  have hr : fit 7 a b = (pl a && pl b || pd a && pd b) := rfl
  rw [hr]
  clear hr
  generalize pl a = x_pla at *
  generalize pd a = x_pda at *
  generalize pd b = x_pdb at *
  generalize pl b = x_plb at *
  go_enter Tryz.func84, Tryz.ntmps84
  go_wp2_with fail
  refine (c_pla _).mono ?_
  rintro e w' ⟨rfl, rfl⟩
  cases x_pla
  · go_wp2_with fail
    refine (c_pda _).mono ?_
    rintro e w' ⟨rfl, rfl⟩
    cases x_pda
    · go_wp2_with fail
      go_ret
      exact ⟨rfl, rfl⟩
    · go_wp2_with fail
      refine (c_pdb _).mono ?_
      rintro e w' ⟨rfl, rfl⟩
      cases x_pdb
      · go_wp2_with fail
        go_ret
        exact ⟨rfl, rfl⟩
      · go_wp2_with fail
        go_ret
        exact ⟨rfl, rfl⟩
  · go_wp2_with fail
    refine (c_plb _).mono ?_
    rintro e w' ⟨rfl, rfl⟩
    cases x_plb
    · go_wp2_with fail
      refine (c_pda _).mono ?_
      rintro e w' ⟨rfl, rfl⟩
      cases x_pda
      · go_wp2_with fail
        go_ret
        exact ⟨rfl, rfl⟩
      · go_wp2_with fail
        refine (c_pdb _).mono ?_
        rintro e w' ⟨rfl, rfl⟩
        cases x_pdb
        · go_wp2_with fail
          go_ret
          exact ⟨rfl, rfl⟩
        · go_wp2_with fail
          go_ret
          exact ⟨rfl, rfl⟩
    · go_wp2_with fail
      go_ret
      exact ⟨rfl, rfl⟩
set_option maxHeartbeats 4000000 in
theorem fit_8 (a b : Nat) (w : World) (ha : a ≤ 4) : Calls Tryz.prog 84 #[.int .i64 8, .int .i64 a, .int .i64 b] w fun e w' => e = .returned (.bool (fit 8 a b)) ∧ w = w' := by
  have c_pla := fun w => plP a w ha
  have hr : fit 8 a b = (pl a && (b == 1)) := rfl
  rw [hr]
  clear hr
  generalize pl a = x_pla at *
  have hi : ((b : Int) == 1) = (b == 1) := by rw [Bool.eq_iff_iff, beq_iff_eq, beq_iff_eq]; omega
  generalize (b == 1) = q at *
  cases q
  all_goals
    go_enter Tryz.func84, Tryz.ntmps84
    go_wp2_with fail
    refine (c_pla _).mono ?_
    rintro e w' ⟨rfl, rfl⟩
    cases x_pla
    · go_wp2_with fail
      go_ret
      exact ⟨rfl, rfl⟩
    · go_wp2_with fail
      go_ret
      exact ⟨rfl, rfl⟩
set_option maxHeartbeats 4000000 in
theorem fit_10 (a b : Nat) (w : World) (ha : a ≤ 4) : Calls Tryz.prog 84 #[.int .i64 10, .int .i64 a, .int .i64 b] w fun e w' => e = .returned (.bool (fit 10 a b)) ∧ w = w' := by
  have c_ona := fun w => onP a w ha
  have c_pla := fun w => plP a w ha
  have hr : fit 10 a b = (!on a && (pl a && (b == 1))) := rfl
  rw [hr]
  clear hr
  generalize on a = x_ona at *
  generalize pl a = x_pla at *
  have hi : ((b : Int) == 1) = (b == 1) := by rw [Bool.eq_iff_iff, beq_iff_eq, beq_iff_eq]; omega
  generalize (b == 1) = q at *
  cases q
  all_goals
    go_enter Tryz.func84, Tryz.ntmps84
    go_wp2_with fail
    refine (c_ona _).mono ?_
    rintro e w' ⟨rfl, rfl⟩
    cases x_ona
    · go_wp2_with fail
      refine (c_pla _).mono ?_
      rintro e w' ⟨rfl, rfl⟩
      cases x_pla
      · go_wp2_with fail
        go_ret
        exact ⟨rfl, rfl⟩
      · go_wp2_with fail
        go_ret
        exact ⟨rfl, rfl⟩
    · go_wp2_with fail
      go_ret
      exact ⟨rfl, rfl⟩
set_option maxHeartbeats 4000000 in
theorem fit_12 (a b : Nat) (w : World) (ha : a ≤ 4) : Calls Tryz.prog 84 #[.int .i64 12, .int .i64 a, .int .i64 b] w fun e w' => e = .returned (.bool (fit 12 a b)) ∧ w = w' := by
  have c_pla := fun w => plP a w ha
  have hr : fit 12 a b = (pl a && (b == 1)) := rfl
  rw [hr]
  clear hr
  generalize pl a = x_pla at *
  have hi : ((b : Int) == 1) = (b == 1) := by rw [Bool.eq_iff_iff, beq_iff_eq, beq_iff_eq]; omega
  generalize (b == 1) = q at *
  cases q
  all_goals
    go_enter Tryz.func84, Tryz.ntmps84
    go_wp2_with fail
    refine (c_pla _).mono ?_
    rintro e w' ⟨rfl, rfl⟩
    cases x_pla
    · go_wp2_with fail
      go_ret
      exact ⟨rfl, rfl⟩
    · go_wp2_with fail
      go_ret
      exact ⟨rfl, rfl⟩
set_option maxHeartbeats 4000000 in
theorem fit_13 (a b : Nat) (w : World) (ha : a ≤ 4) : Calls Tryz.prog 84 #[.int .i64 13, .int .i64 a, .int .i64 b] w fun e w' => e = .returned (.bool (fit 13 a b)) ∧ w = w' := by
  have c_pda := fun w => pdP a w ha
  have hr : fit 13 a b = (pd a && (b == 1)) := rfl
  rw [hr]
  clear hr
  generalize pd a = x_pda at *
  have hi : ((b : Int) == 1) = (b == 1) := by rw [Bool.eq_iff_iff, beq_iff_eq, beq_iff_eq]; omega
  generalize (b == 1) = q at *
  cases q
  all_goals
    go_enter Tryz.func84, Tryz.ntmps84
    go_wp2_with fail
    refine (c_pda _).mono ?_
    rintro e w' ⟨rfl, rfl⟩
    cases x_pda
    · go_wp2_with fail
      go_ret
      exact ⟨rfl, rfl⟩
    · go_wp2_with fail
      go_ret
      exact ⟨rfl, rfl⟩
theorem fit_any (k : Int) (a b : Nat) (w : World) (hk : 0 ≤ Rw.ar k) (ha : a ≤ 4) (hb : b ≤ 4) (h0 : Rw.ar k = 0 → a = 0) (h1 : Rw.ar k ≤ 1 → b = 0) : Calls Tryz.prog 84 #[.int .i64 k, .int .i64 a, .int .i64 b] w fun e w' => e = .returned (.bool (fit k a b)) ∧ w = w' := by
  rcases kinds hk with rfl | rfl | rfl | rfl | rfl | rfl | rfl | rfl | rfl | rfl | rfl | rfl | rfl | rfl
  case inr.inr.inr.inr.inl => exact fit_5 a b w ha hb
  case inr.inr.inr.inr.inr.inl => exact fit_6 a b w ha hb
  case inr.inr.inr.inr.inr.inr.inl => exact fit_7 a b w ha hb
  case inr.inr.inr.inr.inr.inr.inr.inl => exact fit_8 a b w ha
  case inr.inr.inr.inr.inr.inr.inr.inr.inl => obtain rfl := h1 (by decide); exact fit_9 a w ha
  case inr.inr.inr.inr.inr.inr.inr.inr.inr.inl => exact fit_10 a b w ha
  case inr.inr.inr.inr.inr.inr.inr.inr.inr.inr.inr.inl => exact fit_12 a b w ha
  case inr.inr.inr.inr.inr.inr.inr.inr.inr.inr.inr.inr.inl => exact fit_13 a b w ha
  case inr.inr.inr.inr.inr.inr.inr.inr.inr.inr.inr.inr.inr => obtain rfl := h1 (by decide); exact fit_14 a w ha
  all_goals
    obtain rfl := h0 (by decide)
    obtain rfl := h1 (by decide)
    exact fit_leaf _ w (by decide)
set_option maxHeartbeats 2000000 in
theorem made_two (k : Int) (a b : Nat) (w : World) (h : k = 5 ∨ k = 6 ∨ k = 7 ∨ k = 8) : Calls Tryz.prog 85 #[.int .i64 k, .int .i64 a, .int .i64 b] w fun e w' => e = .returned (.int .i64 (made k a b)) ∧ w = w' := by
  have hm : made k a b = max a b := by unfold made; rw [if_pos h]
  have HM : Hid (((max a b : Nat) : Int) = (made k a b : Nat)) := by show _ = _; rw [hm]
  clear hm
  rcases h with rfl | rfl | rfl | rfl
  all_goals
    go_enter Tryz.func85, Tryz.ntmps85
    go_wp2_with fail
  all_goals
    go_ret
    exact ⟨ret_int (by rw [← HM.out]; omega), rfl⟩
set_option maxHeartbeats 2000000 in
theorem made_9 (a b : Nat) (w : World) (ha : a ≤ 4) : Calls Tryz.prog 85 #[.int .i64 9, .int .i64 a, .int .i64 b] w fun e w' => e = .returned (.int .i64 (made 9 a b)) ∧ w = w' := by
  rcases five ha with rfl | rfl | rfl | rfl | rfl
  all_goals
    go_enter Tryz.func85, Tryz.ntmps85
    go_wp2_with fail
    go_ret
    exact ⟨rfl, rfl⟩
set_option maxHeartbeats 2000000 in
theorem made_other (k : Int) (a b : Nat) (w : World) (h : k = 1 ∨ k = 2 ∨ k = 3 ∨ k = 4 ∨ k = 10 ∨ k = 11 ∨ k = 12 ∨ k = 13 ∨ k = 14) : Calls Tryz.prog 85 #[.int .i64 k, .int .i64 a, .int .i64 b] w fun e w' => e = .returned (.int .i64 (made k a b)) ∧ w = w' := by
  rcases h with rfl | rfl | rfl | rfl | rfl | rfl | rfl | rfl | rfl
  all_goals
    go_enter Tryz.func85, Tryz.ntmps85
    go_wp2_with fail
    go_ret
    exact ⟨rfl, rfl⟩
theorem made_any (k : Int) (a b : Nat) (w : World) (hk : 0 ≤ Rw.ar k) (ha : a ≤ 4) : Calls Tryz.prog 85 #[.int .i64 k, .int .i64 a, .int .i64 b] w fun e w' => e = .returned (.int .i64 (made k a b)) ∧ w = w' := by
  by_cases h2 : k = 5 ∨ k = 6 ∨ k = 7 ∨ k = 8
  · exact made_two k a b w h2
  · by_cases h9 : k = 9
    · subst h9
      exact made_9 a b w ha
    · exact made_other k a b w (by have := kinds hk; omega)
end Go.Proofs.YtpingbiibbmcaaaGreat.Sx

namespace Go.Proofs.YtpingbiibbmcaaaGreat.St
open Go Go.RowKit Go.Proofs.YtpingbiibbmcaaaGreat.Rw
set_option maxRecDepth 20000

theorem nds_zero (w : World) (ad : Addr) (c : Nat) : Nds w (.slice (some ad) 0 c) [] := by
  refine ⟨rfl, some ad, c, rfl, Nat.zero_le _, fun h => (by cases h), fun h => absurd h (Nat.lt_irrefl 0)⟩
theorem hszN : (Tryz.prog.info? 39).map (·.size) = some 3 := by kernel_rfl
/-- What is copied of a row into a block of the call's own: whatever the walk spells. -/
theorem copy_nds {w : World} (g off : Nat) (X : List Nd) (hX : ∃ sv, Nds w sv X) (cur : List Value) (hg : w.heap[g]? = some (.cells cur.toArray 39 (0, 0)))
    (hfit : off + X.length * 3 ≤ cur.length) (B : Nat) (w0 : World) (hb : Below B w0 w) (hBg : B ≤ g) (ty : TypeId) :
    ∃ w', (∀ (dp : Option Addr) (N cap : Nat) (sv : Value), Nds w sv X → X.length ≤ N → (0 < X.length → dp = some ⟨g, off, none⟩) → (Builtin.copy_ #[22, 22] ty #[.slice dp N cap, sv]).run Tryz.prog w = .ok (goInt X.length) w') ∧
      w'.heap[g]? = some (.cells (splice cur off (cls X)).toArray 39 (0, 0)) ∧ Below B w0 w' := by
  by_cases h0 : X.length = 0
  · obtain rfl : X = [] := List.eq_nil_of_length_eq_zero h0
    refine ⟨w, fun dp N cap sv hx _ _ => ?_, by simpa [splice, cls] using hg, hb⟩
    obtain ⟨_, a, c, rfl, _⟩ := hx
    exact Cy.run_copy_none w _ _ ty 39 3 dp a N cap 0 c Tryz.underlying22 hszN (Nat.zero_min N)
  · obtain ⟨sv0, hx0⟩ := hX
    obtain ⟨hl0, a0, c0, rfl, hc0, hn0, hcell0⟩ := hx0
    obtain ⟨b0, o0, rfl, hj0⟩ := hcell0 (by omega)
    have hsrc : ∀ (a : Addr), (∀ j v, (cls X)[j]? = some v → w.cell? (a.add j) = some v) → ∀ (N cap c : Nat), X.length ≤ N → (Builtin.copy_ #[22, 22] ty #[.slice (some ⟨g, off, none⟩) N cap, .slice (some a) X.length c]).run Tryz.prog w = .ok (goInt X.length) (w.setRow g (cur.toArray.toList.take off ++ cls X ++ cur.toArray.toList.drop (off + (cls X).length)).toArray) := fun a ha N cap c hN =>
      Cy.run_copy_row w _ _ ty 39 3 X.length g off N cap a X.length c cur.toArray 39 (cls X) Tryz.underlying22 hszN hg (by show _ = min _ _; omega) hl0 ha (by rw [cls_len]; simpa using hfit) (fun v hv => cls_one v hv)
    refine ⟨w.setRow g (cur.toArray.toList.take off ++ cls X ++ cur.toArray.toList.drop (off + (cls X).length)).toArray, fun dp N cap sv hx hN hdp => ?_, ?_, below_setRow hb hBg _⟩
    · obtain ⟨_, a, c, rfl, _, _, hcell⟩ := hx
      obtain ⟨b, o, rfl, hj⟩ := hcell (by omega)
      rw [hdp (by omega)]
      exact hsrc _ (fun j v hv => by rw [Addr.add_lit]; exact hj j v hv) N cap c hN
    · simpa [splice] using setRow_heap w g _ _ _ _ hg
/-- What make gives: a block of its own. -/
theorem made_block {w1 w2 : World} {N : Nat} {cs : List Value} (ho : w2.ownsRow w1.heap.size 39 3 (.slice (some ⟨w1.heap.size, 0, none⟩) N N) N cs) :
    ∃ cur : List Value, cur.length = N * 3 ∧ w2.heap[w1.heap.size]? = some (.cells cur.toArray 39 (0, 0)) := by
  obtain ⟨_, ⟨h0, _⟩ | ⟨g, cap, cur, hv, _, hh, h1, h2, h3, h4⟩⟩ := ho
  · cases h0
  · cases hv
    exact ⟨cur.toList, by simpa using h3, by simpa using hh⟩
/-- The three copies fill it. -/
theorem own_filled {w : World} {g base N : Nat} {cur : List Value} (L1 x L2 : List Nd) (hN : N = L1.length + x.length + L2.length) (hc : cur.length = N * 3) (hm : N ≤ maxLen) (hb : base ≤ g)
    (hg : w.heap[g]? = some (.cells (splice (splice (splice cur 0 (cls L1)) (L1.length * 3) (cls x)) ((L1.length + x.length) * 3) (cls L2)).toArray 39 (0, 0))) :
    w.ownsRow base 39 3 (.slice (some ⟨g, 0, none⟩) N N) (L1 ++ x ++ L2).length (cls (L1 ++ x ++ L2)) := by
  rw [Nat.add_mul, splice_splice_splice cur (cls L1) (cls x) (cls L2) _ _ (cls_len _) (cls_len _) (by rw [cls_len, hc, hN]; omega)] at hg
  have hl : (L1 ++ x ++ L2).length = N := by rw [List.length_append, List.length_append, hN]
  have e : cls L1 ++ (cls x ++ cls L2) = cls (L1 ++ x ++ L2) := by rw [cls_append, cls_append, List.append_assoc]
  rw [e] at hg
  have hcl : (cls (L1 ++ x ++ L2)).length = N * 3 := by rw [cls_len, hl]
  rw [hl]
  refine ⟨hcl, .inr ⟨g, N, _, rfl, hb, hg, Nat.le_refl _, hm, hcl, ?_⟩⟩
  exact List.take_of_length_le (Nat.le_of_eq hcl)
/-- How many nodes the tree has that begins at a place. -/
def szA (l : List Nd) (z : Int) : Nat := if z < 0 ∨ z ≥ l.length then 0 else size (l.drop z.toNat)
set_option maxHeartbeats 1000000 in
theorem sizeAt_any (v : Value) (l : List Nd) (z : Int) (w : World) (hv : Nds w v l) (hl : l.length ≤ 1000) :
    Calls Tryz.prog 93 #[v, .int .i64 z] w fun e w' => e = .returned (.int .i64 (szA l z)) ∧ Below w.heap.size w w' := by
  unfold szA
  by_cases h1 : z < 0
  · rw [if_pos (.inl h1)]
    obtain ⟨_, a, c, rfl, -⟩ := id hv
    clear hv
    go_enter Tryz.func93, Tryz.ntmps93
    go_wp2_with fail
    go_ret
    exact ⟨rfl, Below.refl _ _⟩
  by_cases h2 : z ≥ l.length
  · rw [if_pos (.inr h2)]
    obtain ⟨_, a, c, rfl, -⟩ := id hv
    clear hv
    go_enter Tryz.func93, Tryz.ntmps93
    go_wp2_with fail
    go_ret
    exact ⟨rfl, Below.refl _ _⟩
  rw [if_neg (by omega)]
  obtain ⟨q, rfl⟩ : ∃ q : Nat, z = (q : Int) := ⟨z.toNat, by omega⟩
  have hql : q < l.length := by omega
  rw [show ((q : Int)).toNat = q from rfl]
  rcases hv.form with ⟨h0, _⟩ | ⟨b, o, c, rfl, hc, hat⟩
  · rw [h0] at hql; simp at hql
  have HS := Lib.hid (Rx.sizeP_any _ (l.drop q) w (drop_nds rfl hat q (by omega) hc) (by simp; omega))
  obtain ⟨n, hn⟩ : ∃ n, l.length = n := ⟨_, rfl⟩
  rw [hn] at HS hc hql h2 ⊢
  have hcap : q < c := by omega
  generalize size (l.drop q) = s at HS ⊢
  clear hv hat hn hl
  go_enter Tryz.func93, Tryz.ntmps93
  go_wp2_with fail
  refine HS.out.mono ?_
  rintro e w1 ⟨rfl, hb⟩
  have D := Lib.hid hb
  clear hb
  go_wp2_with fail
  go_ret
  exact ⟨rfl, D.out⟩
end Go.Proofs.YtpingbiibbmcaaaGreat.St

namespace Go.Proofs.YtpingbiibbmcaaaGreat.Pl
open Go Rw Go.Proofs.YtpingbiibbmcaaaGreat.So

/-- The last of those that are asked for. -/
theorem filter_last {p : Nat → Bool} : ∀ {c : Nat} {P : List Nat} {q : Nat}, (List.range c).filter p = P ++ [q] → q < c ∧ p q = true ∧ (List.range q).filter p = P ∧ ∀ i, q < i → i < c → p i = false
  | 0, P, q, e => by cases P <;> cases e
  | c + 1, P, q, e => by
    rw [List.range_succ, List.filter_append] at e
    cases hh : p c with
    | true =>
      simp only [List.filter_cons, hh, if_true, List.filter_nil] at e
      obtain ⟨e1, e2⟩ := List.append_inj' e rfl
      injection e2 with e2
      subst e2
      exact ⟨Nat.lt_succ_self _, hh, e1, fun i h1 h2 => by omega⟩
    | false =>
      simp only [List.filter_cons, hh, Bool.false_eq_true, if_false, List.filter_nil, List.append_nil] at e
      obtain ⟨h1, h2, h3, h4⟩ := filter_last e
      refine ⟨by omega, h2, h3, fun i g1 g2 => ?_⟩
      by_cases hi : i = c
      · subst hi; exact hh
      · exact h4 i g1 (by omega)
theorem zz_zero {l : List Nd} (h : Tre l) : zz l 0 = l.length := by
  unfold zz
  rw [List.drop_zero]
  exact h.size
/-- The node above: the last of those above. -/
theorem parent {l : List Nd} (h : Tre l) {k : Nat} (h0 : 0 < k) (hk : k < l.length) : ∃ o, o < k ∧ k < o + zz l o ∧ ov l k = ov l o ++ [o] := by
  have hne : ov l k ≠ [] := fun e => by
    have : 0 ∈ ov l k := mem_ov.2 ⟨h0, by rw [zz_zero h]; omega⟩
    rw [e] at this
    cases this
  obtain ⟨P, o, e⟩ : ∃ P o, ov l k = P ++ [o] := ⟨_, _, (List.dropLast_concat_getLast hne).symm⟩
  obtain ⟨h1, h2, h3, _⟩ := filter_last e
  have h2' : k < o + zz l o := of_decide_eq_true h2
  refine ⟨o, h1, h2', ?_⟩
  rw [e, ← h3]
  congr 1
  unfold ov
  refine List.filter_congr fun j hj => decide_eq_decide.2 ?_
  have hjo := List.mem_range.1 hj
  constructor
  · intro hlt; omega
  · intro hlt
    have := (nest h hjo hlt (by omega)).1
    omega
/-- The deeper a node stands, the less deep is its tree. -/
theorem deep {l : List Nd} (h : Tre l) : ∀ (m k : Nat), k ≤ m → k < l.length → (ov l k).length + dd l k ≤ dd l 0
  | 0, k, hm, _ => by
    obtain rfl : k = 0 := by omega
    rw [ov_zero]
    simp
  | m + 1, k, hm, hk => by
    by_cases h0 : k = 0
    · subst h0
      rw [ov_zero]
      simp
    · obtain ⟨o, h1, h2, h3⟩ := parent h (by omega) hk
      have ih := deep h m o (by omega) (by omega)
      have := (nest h h1 h2 hk).2
      rw [h3, List.length_append, List.length_singleton]
      omega
/-- Where no leaf comes between, each next one is one deeper. -/
theorem chain {l : List Nd} (h : Tre l) (a : Nat) : ∀ n, a + n < l.length → xl l (a + n) = xl l a → (ov l (a + n)).length = (ov l a).length + n
  | 0, _, _ => rfl
  | n + 1, hk, e => by
    have h1 := xl_mono (l := l) (show a ≤ a + n by omega)
    have hlt : a + n < l.length := by omega
    have h2 := xl_succ hlt
    rw [show a + (n + 1) = a + n + 1 by omega] at e ⊢
    have hne : Rw.ar (l[a + n]'hlt).k ≠ 0 := fun h0 => by
      rw [if_pos h0] at h2
      omega
    rw [if_neg hne] at h2
    rw [ov_next h (by omega) hne, List.length_append, chain h a n hlt (by omega), List.length_singleton]
    omega
theorem apart {l : List Nd} (h : Tre l) {a b : Nat} (hab : a < b) (hb : b < l.length) : ¬ (xl l a = xl l b ∧ (ov l a).length = (ov l b).length) := by
  rintro ⟨e1, e2⟩
  have := chain h a (b - a) (by omega) (by rw [show a + (b - a) = b by omega]; exact e1.symm)
  rw [show a + (b - a) = b by omega] at this
  omega

/-! ### Below one node more, and beside one another -/
/-- A row that is one tree. -/
def one (l : List Nd) : Bool := decide (0 < l.length) && decide (Rw.size l = l.length)
theorem one_tre {l : List Nd} : one l = true ↔ Tre l := by
  unfold one
  rw [Bool.and_eq_true, decide_eq_true_eq, decide_eq_true_eq]
  constructor
  · rintro ⟨h1, h2⟩
    exact Tre.of_size h2 (fun e => by rw [e] at h1; exact absurd h1 (Nat.lt_irrefl 0))
  · intro h
    exact ⟨h.pos, h.size⟩
end Go.Proofs.YtpingbiibbmcaaaGreat.Pl

namespace Go.Proofs.YtpingbiibbmcaaaGreat.Rw
open Go Go.RowKit
set_option maxRecDepth 20000

/-- Nodes in memory, below which all is as it was. -/
structure Kp (w0 : World) (v : Value) (l : List Nd) (w : World) : Prop where
  bel : Below w0.heap.size w0 w
  nds : Nds w v l
end Go.Proofs.YtpingbiibbmcaaaGreat.Rw

namespace Go.Proofs.YtpingbiibbmcaaaGreat.Tr
open Go Go.RowKit
set_option maxRecDepth 20000

/-- One trace behind another. -/
def thn (p q : Tr) : Tr := if p.e = 1 then ⟨p.a ++ q.a, q.e⟩ else p

end Go.Proofs.YtpingbiibbmcaaaGreat.Tr

namespace Go.Proofs.YtpingbiibbmcaaaGreat.So
open Go Go.Proofs.YtpingbiibbmcaaaGreat.Rw

theorem eq_1_1 {l : List Nd} (h : hd l = 1) : Is 1 l = true := by
  rw [Is_one]
  unfold plainB
  rw [h]
  rfl
theorem eq_1_2 {l : List Nd} (h : hd l = 1) : Is 2 l = false := by
  rw [Is_two]
  unfold pairedB
  rw [h]
  rfl
theorem eq_1_3 {l : List Nd} (h : hd l = 1) : Is 3 l = (true || false) := by
  rw [Is_three]
  unfold plainB plainOnB
  rw [h]
  rfl
theorem eq_1_4 {l : List Nd} (h : hd l = 1) : Is 4 l = (false || false) := by
  rw [Is_four]
  unfold pairedB pairedOnB
  rw [h]
  rfl
theorem eq_2_1 {l : List Nd} (h : hd l = 2) : Is 1 l = true := by
  rw [Is_one]
  unfold plainB
  rw [h]
  rfl
theorem eq_2_2 {l : List Nd} (h : hd l = 2) : Is 2 l = false := by
  rw [Is_two]
  unfold pairedB
  rw [h]
  rfl
theorem eq_2_3 {l : List Nd} (h : hd l = 2) : Is 3 l = (true || false) := by
  rw [Is_three]
  unfold plainB plainOnB
  rw [h]
  rfl
theorem eq_2_4 {l : List Nd} (h : hd l = 2) : Is 4 l = (false || false) := by
  rw [Is_four]
  unfold pairedB pairedOnB
  rw [h]
  rfl
theorem eq_3_1 {l : List Nd} (h : hd l = 3) : Is 1 l = true := by
  rw [Is_one]
  unfold plainB
  rw [h]
  rfl
theorem eq_3_2 {l : List Nd} (h : hd l = 3) : Is 2 l = false := by
  rw [Is_two]
  unfold pairedB
  rw [h]
  rfl
theorem eq_3_3 {l : List Nd} (h : hd l = 3) : Is 3 l = (true || false) := by
  rw [Is_three]
  unfold plainB plainOnB
  rw [h]
  rfl
theorem eq_3_4 {l : List Nd} (h : hd l = 3) : Is 4 l = (false || false) := by
  rw [Is_four]
  unfold pairedB pairedOnB
  rw [h]
  rfl
theorem eq_4_1 {l : List Nd} (h : hd l = 4) : Is 1 l = true := by
  rw [Is_one]
  unfold plainB
  rw [h]
  rfl
theorem eq_4_2 {l : List Nd} (h : hd l = 4) : Is 2 l = false := by
  rw [Is_two]
  unfold pairedB
  rw [h]
  rfl
theorem eq_4_3 {l : List Nd} (h : hd l = 4) : Is 3 l = (true || false) := by
  rw [Is_three]
  unfold plainB plainOnB
  rw [h]
  rfl
theorem eq_4_4 {l : List Nd} (h : hd l = 4) : Is 4 l = (false || false) := by
  rw [Is_four]
  unfold pairedB pairedOnB
  rw [h]
  rfl
theorem eq_5_1 {l : List Nd} (h : hd l = 5) : Is 1 l = (Is 1 (k0 l) && Is 1 (k1 l)) := by
  rw [Is_one]
  unfold plainB
  rw [h]
  rfl
theorem eq_5_2 {l : List Nd} (h : hd l = 5) : Is 2 l = (Is 2 (k0 l) && Is 2 (k1 l)) := by
  rw [Is_two]
  unfold pairedB
  rw [h]
  rfl
theorem eq_5_3 {l : List Nd} (h : hd l = 5) : Is 3 l = ((Is 1 (k0 l) && Is 1 (k1 l)) || (Is 3 (k0 l) && Is 1 (k1 l))) := by
  rw [Is_three]
  unfold plainB plainOnB
  rw [h]
  rfl
theorem eq_5_4 {l : List Nd} (h : hd l = 5) : Is 4 l = ((Is 2 (k0 l) && Is 2 (k1 l)) || (Is 4 (k0 l) && Is 2 (k1 l))) := by
  rw [Is_four]
  unfold pairedB pairedOnB
  rw [h]
  rfl
theorem eq_6_1 {l : List Nd} (h : hd l = 6) : Is 1 l = (Is 1 (k0 l) && Is 1 (k1 l)) := by
  rw [Is_one]
  unfold plainB
  rw [h]
  rfl
theorem eq_6_2 {l : List Nd} (h : hd l = 6) : Is 2 l = (Is 2 (k0 l) && Is 2 (k1 l)) := by
  rw [Is_two]
  unfold pairedB
  rw [h]
  rfl
theorem eq_6_3 {l : List Nd} (h : hd l = 6) : Is 3 l = ((Is 1 (k0 l) && Is 1 (k1 l)) || false) := by
  rw [Is_three]
  unfold plainB plainOnB
  rw [h]
  rfl
theorem eq_6_4 {l : List Nd} (h : hd l = 6) : Is 4 l = ((Is 2 (k0 l) && Is 2 (k1 l)) || false) := by
  rw [Is_four]
  unfold pairedB pairedOnB
  rw [h]
  rfl
theorem eq_7_1 {l : List Nd} (h : hd l = 7) : Is 1 l = (Is 1 (k0 l) && Is 1 (k1 l)) := by
  rw [Is_one]
  unfold plainB
  rw [h]
  rfl
theorem eq_7_2 {l : List Nd} (h : hd l = 7) : Is 2 l = (Is 2 (k0 l) && Is 2 (k1 l)) := by
  rw [Is_two]
  unfold pairedB
  rw [h]
  rfl
theorem eq_7_3 {l : List Nd} (h : hd l = 7) : Is 3 l = ((Is 1 (k0 l) && Is 1 (k1 l)) || (Is 3 (k0 l) && Is 3 (k1 l))) := by
  rw [Is_three]
  unfold plainB plainOnB
  rw [h]
  rfl
theorem eq_7_4 {l : List Nd} (h : hd l = 7) : Is 4 l = ((Is 2 (k0 l) && Is 2 (k1 l)) || (Is 4 (k0 l) && Is 4 (k1 l))) := by
  rw [Is_four]
  unfold pairedB pairedOnB
  rw [h]
  rfl
theorem eq_8_1 {l : List Nd} (h : hd l = 8) : Is 1 l = (Is 1 (k0 l) && Is 1 (k1 l)) := by
  rw [Is_one]
  unfold plainB
  rw [h]
  rfl
theorem eq_8_2 {l : List Nd} (h : hd l = 8) : Is 2 l = false := by
  rw [Is_two]
  unfold pairedB
  rw [h]
  rfl
theorem eq_8_3 {l : List Nd} (h : hd l = 8) : Is 3 l = ((Is 1 (k0 l) && Is 1 (k1 l)) || (Is 3 (k0 l) && Is 1 (k1 l))) := by
  rw [Is_three]
  unfold plainB plainOnB
  rw [h]
  rfl
theorem eq_8_4 {l : List Nd} (h : hd l = 8) : Is 4 l = (false || false) := by
  rw [Is_four]
  unfold pairedB pairedOnB
  rw [h]
  rfl
theorem eq_9_1 {l : List Nd} (h : hd l = 9) : Is 1 l = Is 2 (k0 l) := by
  rw [Is_one]
  unfold plainB
  rw [h]
  rfl
theorem eq_9_2 {l : List Nd} (h : hd l = 9) : Is 2 l = false := by
  rw [Is_two]
  unfold pairedB
  rw [h]
  rfl
theorem eq_9_3 {l : List Nd} (h : hd l = 9) : Is 3 l = (Is 2 (k0 l) || Is 4 (k0 l)) := by
  rw [Is_three]
  unfold plainB plainOnB
  rw [h]
  rfl
theorem eq_9_4 {l : List Nd} (h : hd l = 9) : Is 4 l = (false || false) := by
  rw [Is_four]
  unfold pairedB pairedOnB
  rw [h]
  rfl
theorem eq_10_1 {l : List Nd} (h : hd l = 10) : Is 1 l = false := by
  rw [Is_one]
  unfold plainB
  rw [h]
  rfl
theorem eq_10_2 {l : List Nd} (h : hd l = 10) : Is 2 l = (Is 1 (k0 l) && Is 1 (k1 l)) := by
  rw [Is_two]
  unfold pairedB
  rw [h]
  rfl
theorem eq_10_3 {l : List Nd} (h : hd l = 10) : Is 3 l = (false || false) := by
  rw [Is_three]
  unfold plainB plainOnB
  rw [h]
  rfl
theorem eq_10_4 {l : List Nd} (h : hd l = 10) : Is 4 l = ((Is 1 (k0 l) && Is 1 (k1 l)) || false) := by
  rw [Is_four]
  unfold pairedB pairedOnB
  rw [h]
  rfl
theorem eq_11_1 {l : List Nd} (h : hd l = 11) : Is 1 l = false := by
  rw [Is_one]
  unfold plainB
  rw [h]
  rfl
theorem eq_11_2 {l : List Nd} (h : hd l = 11) : Is 2 l = false := by
  rw [Is_two]
  unfold pairedB
  rw [h]
  rfl
theorem eq_11_3 {l : List Nd} (h : hd l = 11) : Is 3 l = (false || true) := by
  rw [Is_three]
  unfold plainB plainOnB
  rw [h]
  rfl
theorem eq_11_4 {l : List Nd} (h : hd l = 11) : Is 4 l = (false || false) := by
  rw [Is_four]
  unfold pairedB pairedOnB
  rw [h]
  rfl
theorem eq_12_1 {l : List Nd} (h : hd l = 12) : Is 1 l = false := by
  rw [Is_one]
  unfold plainB
  rw [h]
  rfl
theorem eq_12_2 {l : List Nd} (h : hd l = 12) : Is 2 l = false := by
  rw [Is_two]
  unfold pairedB
  rw [h]
  rfl
theorem eq_12_3 {l : List Nd} (h : hd l = 12) : Is 3 l = (false || false) := by
  rw [Is_three]
  unfold plainB plainOnB
  rw [h]
  rfl
theorem eq_12_4 {l : List Nd} (h : hd l = 12) : Is 4 l = (false || (Is 3 (k0 l) && Is 1 (k1 l))) := by
  rw [Is_four]
  unfold pairedB pairedOnB
  rw [h]
  rfl
theorem eq_13_1 {l : List Nd} (h : hd l = 13) : Is 1 l = false := by
  rw [Is_one]
  unfold plainB
  rw [h]
  rfl
theorem eq_13_2 {l : List Nd} (h : hd l = 13) : Is 2 l = false := by
  rw [Is_two]
  unfold pairedB
  rw [h]
  rfl
theorem eq_13_3 {l : List Nd} (h : hd l = 13) : Is 3 l = (false || false) := by
  rw [Is_three]
  unfold plainB plainOnB
  rw [h]
  rfl
theorem eq_13_4 {l : List Nd} (h : hd l = 13) : Is 4 l = (false || (Is 4 (k0 l) && Is 1 (k1 l))) := by
  rw [Is_four]
  unfold pairedB pairedOnB
  rw [h]
  rfl
theorem eq_14_1 {l : List Nd} (h : hd l = 14) : Is 1 l = false := by
  rw [Is_one]
  unfold plainB
  rw [h]
  rfl
theorem eq_14_2 {l : List Nd} (h : hd l = 14) : Is 2 l = false := by
  rw [Is_two]
  unfold pairedB
  rw [h]
  rfl
theorem eq_14_3 {l : List Nd} (h : hd l = 14) : Is 3 l = (false || false) := by
  rw [Is_three]
  unfold plainB plainOnB
  rw [h]
  rfl
theorem eq_14_4 {l : List Nd} (h : hd l = 14) : Is 4 l = (false || Is 1 (k0 l)) := by
  rw [Is_four]
  unfold pairedB pairedOnB
  rw [h]
  rfl
/-- How many nodes are of what goes on. -/
def on (l : List Nd) : Nat := cnt l [11, 12, 13, 14]
/-- A tree, by its first node. -/
theorem Tre.flat {l : List Nd} (h : Tre l) : ∃ x, hd l = x.k ∧ l = x :: (Rw.kids l).flatten := by
  have hs := h.size
  have hp := h.pos
  cases l with
  | nil => exact absurd hp (Nat.lt_irrefl 0)
  | cons x r =>
    refine ⟨x, rfl, ?_⟩
    have := kids_flat (n := x) (r := r) (by rw [hs]; omega)
    rw [hs, List.take_length] at this
    exact this.symm
end Go.Proofs.YtpingbiibbmcaaaGreat.So

namespace Go.Proofs.YtpingbiibbmcaaaGreat.So
open Go Go.RowKit Go.Proofs.YtpingbiibbmcaaaGreat.Rw
set_option maxRecDepth 20000

def onB (l : List Nd) (p : Bool) : Bool := if p then of l == 2 || of l == 4 else of l == 1 || of l == 3
end Go.Proofs.YtpingbiibbmcaaaGreat.So
