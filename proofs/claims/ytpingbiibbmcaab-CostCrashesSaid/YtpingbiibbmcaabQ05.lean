/- The program's Whole: IndexFunc, ContainsFunc over Right. The program's Depth. Where the nodes of a tree stand: plain. Which nodes are above any one, how many leaves come ahead of it; no two at one point, all within the box. The document's Cat: two rows of actions as one of the call's own. The document's Is, Of, On and Right. The program's fit and made: what kids a node may have, and what it then is. The document's Then: the walk. Plain: the sorts kind by kind; terms have no node of what goes on, and what goes on has one. The document's On. -/
import Derived.Test.YtpingbiibbmcaabQ04
import Derived.Test.YtpingbiibbmcaabQ03
import Derived.Deep.QuietTactic
import Derived.BigQuiet

namespace Go.Proofs.Ytpingbiibbmcaab.Rx
open Go Go.RowKit Rw
set_option maxRecDepth 20000

set_option maxHeartbeats 400000 in
theorem not_any (x : Nd) (w : World) (hn : x.n.size ≤ 140737488355328) : Calls Try.prog 29 #[.agg #[.int .i64 x.k, .string x.n, .int .i64 x.s]] w fun e w' => e = .returned (.bool (!rgt x)) ∧ Below w.heap.size w w' := by
  obtain ⟨r, hr⟩ : ∃ r, rgt x = r := ⟨_, rfl⟩
  have HR := Lib.hid hr
  rw [hr]
  clear hr
  go_enter Try.func29, Try.ntmps29
  go_wp2_with fail
  refine (rgtP_any x _ hn).mono ?_
  rw [HR.out]
  rintro e w' ⟨rfl, hb⟩
  have HB := Lib.hid hb
  clear hb
  go_wp2_with fail
  go_ret
  exact ⟨rfl, (below_any w _).trans (HB.out.mono (below_any w _).size)⟩
/-- Where the first node stands that may not be. -/
def badAt : List Nd → Nat → Int
  | [], _ => -1
  | x :: l, k => if rgt x then badAt l (k + 1) else k
theorem badAt_neg (l : List Nd) (k : Nat) : decide (0 ≤ badAt l k) = !l.all rgt := by
  induction l generalizing k with
  | nil => rfl
  | cons x l ih =>
    unfold badAt
    cases hr : rgt x with
    | true => simp only [if_true, ih, List.all_cons, hr, Bool.true_and]
    | false => simp only [List.all_cons, hr, Bool.false_and]; simp
theorem badAt_end {l : List Nd} {k : Nat} (h : ¬ k < l.length) : badAt (l.drop k) k = -1 := by rw [List.drop_eq_nil_of_le (by omega)]; rfl
theorem badAt_at {l : List Nd} {k : Nat} (h : k < l.length) : badAt (l.drop k) k = if rgt l[k] then badAt (l.drop (k + 1)) (k + 1) else (k : Int) := by
  rw [List.drop_eq_getElem_cons h, badAt]

set_option maxHeartbeats 800000 in
theorem index_empty (a : Option Addr) (cap : Nat) (w : World) :
    Calls Try.prog 36 #[.slice a 0 cap, .func (.func 29) #[] #[]] w fun e w' => e = .returned (.int .i64 (-1)) ∧ Below w.heap.size w w' := by
  go_enter Try.func36, Try.ntmps36
  go_wp2_with fail
  refine Go.wp_loop_rounds 1 ?_
  rw [rounds_succ]
  go_wp2_with fail
  go_ret
  exact ⟨rfl, Below.refl _ _⟩
set_option maxHeartbeats 800000 in
theorem index_cells (b off cap : Nat) (l : List Nd) (w : World) (hat : At w b off l) (hl : l.length ≤ 1000000) (hm : Nms l) :
    Calls Try.prog 36 #[.slice (some ⟨b, off, none⟩) l.length cap, .func (.func 29) #[] #[]] w fun e w' => e = .returned (.int .i64 (badAt l 0)) ∧ Below w.heap.size w w' := by
  have HA := Lib.hid hat
  have HM := Lib.hid hm
  clear hat hm
  go_enter Try.func36, Try.ntmps36
  go_wp2_with fail
  go_loopw [8] (fun i wr => ∃ k : Nat, k ≤ l.length ∧ i = .int .i64 k ∧ Below w.heap.size w wr ∧ Hid (badAt l 0 = badAt (l.drop k) k)) (fun i _ => l.length - (intOf i).toNat)
  case atStart => exact ⟨0, Nat.zero_le _, rfl, Below.refl _ _, Lib.hid rfl⟩
  case round =>
    obtain ⟨k, hk, rfl, hb, HK⟩ := hrel
    have HB := Lib.hid hb
    clear hb
    by_cases hlt : k < l.length
    · obtain ⟨e1, e2, e3⟩ := HA.out k hlt
      have c1 : wr.cell? ⟨b, off + k * 3, none⟩ = some (.int .i64 l[k].k) := by rw [HB.out.cell (Ap.cell_lt e1)]; exact e1
      have c2 : wr.cell? ⟨b, off + k * 3 + 1, none⟩ = some (.string l[k].n) := by rw [HB.out.cell (Ap.cell_lt e2)]; exact e2
      have c3 : wr.cell? ⟨b, off + k * 3 + 2, none⟩ = some (.int .i64 l[k].s) := by rw [HB.out.cell (Ap.cell_lt e3)]; exact e3
      have HX := Lib.hid (HK.out.trans (badAt_at hlt))
      have hxm : (l[k]).n.size ≤ 140737488355328 := HM.out _ (List.getElem_mem hlt)
      obtain ⟨x, hx⟩ : ∃ x, l[k] = x := ⟨_, rfl⟩
      rw [hx] at c1 c2 c3 HX hxm
      have HXM := Lib.hid hxm
      clear hx e1 e2 e3 hxm
      cases hr : rgt x with
      | false =>
        rw [hr] at HX
        have HR := Lib.hid hr
        clear hr
        go_wp2_with fail
        refine (not_any x _ HXM.out).mono ?_
        rw [HR.out]
        rintro e w' ⟨rfl, hb'⟩
        have HB' := Lib.hid hb'
        clear hb'
        go_wp2_with fail
        go_ret
        exact ⟨ret_int HX.out.symm, HB.out.trans (HB'.out.mono HB.out.size)⟩
      | true =>
        rw [hr] at HX
        have HR := Lib.hid hr
        clear hr
        go_wp2_with fail
        refine (not_any x _ HXM.out).mono ?_
        rw [HR.out]
        rintro e w' ⟨rfl, hb'⟩
        have HB' := Lib.hid hb'
        clear hb'
        go_wp2_with fail
        go_roundw
        case rel => exact ⟨k + 1, by omega, by go_num, HB.out.trans (HB'.out.mono HB.out.size), HX⟩
        case measure => simp [intOf]; omega
    · go_wp2_with fail
      go_ret
      exact ⟨ret_int (by rw [HK.out, badAt_end hlt]), HB.out⟩
theorem index_any (v : Value) (l : List Nd) (w : World) (h : Nds w v l) (hl : l.length ≤ 1000000) (hm : Nms l) :
    Calls Try.prog 36 #[v, .func (.func 29) #[] #[]] w fun e w' => e = .returned (.int .i64 (badAt l 0)) ∧ Below w.heap.size w w' := by
  rcases h.form with ⟨rfl, a, cap, rfl⟩ | ⟨b, off, cap, rfl, _, hat⟩
  · exact index_empty a cap w
  · exact index_cells b off cap l w hat hl hm
set_option maxHeartbeats 400000 in
theorem contains_any (v : Value) (l : List Nd) (w : World) (h : Nds w v l) (hl : l.length ≤ 1000000) (hm : Nms l) :
    Calls Try.prog 28 #[v, .func (.func 29) #[] #[]] w fun e w' => e = .returned (.bool (!l.all rgt)) ∧ Below w.heap.size w w' := by
  have H := Lib.hid h
  have HM := Lib.hid hm
  have HQ := Lib.hid (badAt_neg l 0)
  obtain ⟨q, hq⟩ : ∃ q, badAt l 0 = q := ⟨_, rfl⟩
  rw [hq] at HQ
  have HC := Lib.hid hq
  clear h hm hq
  go_enter Try.func28, Try.ntmps28
  go_wp2_with fail
  refine (index_any v l _ H.out hl HM.out).mono ?_
  rw [HC.out]
  rintro e w' ⟨rfl, hb⟩
  have HB := Lib.hid hb
  clear hb
  go_wp2_with fail
  go_ret
  exact ⟨ret_bool HQ.out, HB.out⟩

set_option maxHeartbeats 2000000 in
/-- The program's Whole. -/
theorem wholeP_any (v : Value) (l : List Nd) (w : World) (h : Nds w v l) (hl : l.length ≤ 1000) (hm : Nms l) :
    Calls Try.prog 22 #[v] w fun e w' => e = .returned (.bool (whole l)) ∧ Below w.heap.size w w' := by
  have H := Lib.hid h
  have HM := Lib.hid hm
  obtain ⟨_, a, cap, rfl, -⟩ := h
  clear hm
  by_cases q1 : 1 ≤ l.length
  · by_cases q2 : l.length ≤ 200
    · have hz := size_le l
      obtain ⟨z, hzz⟩ : ∃ z, size l = z := ⟨_, rfl⟩
      have HZ := Lib.hid hzz
      rw [hzz] at hz
      by_cases q3 : z = l.length
      · have HW : Hid (whole l = l.all rgt) := by
          show _ = _
          unfold whole
          rw [decide_eq_true q1, decide_eq_true q2, hzz, decide_eq_true q3]
          simp
        have g0 : ((z : Int) != (l.length : Int)) = false := by rw [bne_eq_false_iff_eq]; omega
        have g1 : ((l.length : Int) == 0) = false := by rw [beq_eq_false_iff_ne]; omega
        obtain ⟨r, hr⟩ : ∃ r, l.all rgt = r := ⟨_, rfl⟩
        rw [hr] at HW
        have HR := Lib.hid hr
        have HQ3 := Lib.hid q3
        clear hzz hr q3
        go_enter Try.func22, Try.ntmps22
        go_wp2_with fail
        refine (sizeP_any _ l _ H.out (by omega)).mono ?_
        rw [HZ.out]
        rintro e w' ⟨rfl, hb⟩
        have HB := Lib.hid hb
        clear hb
        go_wp2_with fail
        refine (contains_any _ l _ (H.out.below HB.out) (by omega) HM.out).mono ?_
        rw [HR.out]
        rintro e w'' ⟨rfl, hb⟩
        have HB2 := Lib.hid hb
        clear hb
        go_wp2_with fail
        go_ret
        exact ⟨ret_bool HW.out.symm, HB.out.trans (HB2.out.mono HB.out.size)⟩
      · have HW : Hid (whole l = false) := by
          show _ = _
          unfold whole
          rw [hzz, decide_eq_false q3, Bool.and_false]
        have g0 : ((z : Int) != (l.length : Int)) = true := by rw [bne_iff_ne]; omega
        have g1 : ((l.length : Int) == 0) = false := by rw [beq_eq_false_iff_ne]; omega
        clear hzz q3
        go_enter Try.func22, Try.ntmps22
        go_wp2_with fail
        refine (sizeP_any _ l _ H.out (by omega)).mono ?_
        rw [HZ.out]
        rintro e w' ⟨rfl, hb⟩
        have HB := Lib.hid hb
        clear hb
        go_wp2_with fail
        go_ret
        exact ⟨ret_bool HW.out.symm, HB.out⟩
    · have HW : Hid (whole l = false) := by
        show _ = _
        unfold whole
        rw [decide_eq_false q2, Bool.and_false, Bool.and_false]
        rfl
      have g1 : ((l.length : Int) == 0) = false := by rw [beq_eq_false_iff_ne]; omega
      go_enter Try.func22, Try.ntmps22
      go_wp2_with fail
      go_ret
      exact ⟨ret_bool HW.out.symm, Below.refl _ _⟩
  · have HW : Hid (whole l = false) := by
      show _ = _
      unfold whole
      rw [decide_eq_false q1, Bool.false_and, Bool.and_false]
      rfl
    have g1 : ((l.length : Int) == 0) = true := by rw [beq_iff_eq]; omega
    go_enter Try.func22, Try.ntmps22
    go_wp2_with fail
    go_ret
    exact ⟨ret_bool HW.out.symm, Below.refl _ _⟩
end Go.Proofs.Ytpingbiibbmcaab.Rx

namespace Go.Proofs.Ytpingbiibbmcaab.Rx
open Go Go.RowKit Rw
set_option maxRecDepth 20000
end Go.Proofs.Ytpingbiibbmcaab.Rx

namespace Go.Proofs.Ytpingbiibbmcaab.Pl
open Go Rw Go.Proofs.Ytpingbiibbmcaab.So

/-- How many nodes the tree at a place has. -/
def zz (l : List Nd) (j : Nat) : Nat := Rw.size (l.drop j)
def dd (l : List Nd) (j : Nat) : Nat := Rw.depth (l.drop j)
/-- The places of the nodes above one. -/
def ov (l : List Nd) (k : Nat) : List Nat := (List.range k).filter fun j => decide (k < j + zz l j)
end Go.Proofs.Ytpingbiibbmcaab.Pl

namespace Go.Proofs.Ytpingbiibbmcaab.Tr
open Go Go.RowKit
set_option maxRecDepth 20000

end Go.Proofs.Ytpingbiibbmcaab.Tr

namespace Go.Proofs.Ytpingbiibbmcaab.So
open Go Go.RowKit Go.Proofs.Ytpingbiibbmcaab.Rw
set_option maxRecDepth 20000

theorem whole_tre {l : List Nd} (h : whole l = true) : Tre l := by
  unfold whole at h
  simp only [Bool.and_eq_true, decide_eq_true_eq] at h
  exact Tre.of_size h.2 (fun e => by rw [e] at h; exact absurd h.1.2.1 (by decide))
end Go.Proofs.Ytpingbiibbmcaab.So

namespace Go.Proofs.Ytpingbiibbmcaab.Sx
open Go Go.RowKit Go.Proofs.Ytpingbiibbmcaab.Rw Go.Proofs.Ytpingbiibbmcaab.So
set_option maxRecDepth 20000

theorem five {a : Nat} (h : a ≤ 4) : a = 0 ∨ a = 1 ∨ a = 2 ∨ a = 3 ∨ a = 4 := by omega
set_option maxHeartbeats 400000 in
theorem plP (a : Nat) (w : World) (h : a ≤ 4) : Calls Try.prog 41 #[.int .i64 a] w fun e w' => e = .returned (.bool (pl a)) ∧ w = w' := by
  rcases five h with rfl | rfl | rfl | rfl | rfl
  all_goals
    go_enter Try.func41, Try.ntmps41
    go_wp2_with fail
    go_ret
    exact ⟨rfl, rfl⟩
set_option maxHeartbeats 400000 in
theorem pdP (a : Nat) (w : World) (h : a ≤ 4) : Calls Try.prog 39 #[.int .i64 a] w fun e w' => e = .returned (.bool (pd a)) ∧ w = w' := by
  rcases five h with rfl | rfl | rfl | rfl | rfl
  all_goals
    go_enter Try.func39, Try.ntmps39
    go_wp2_with fail
    go_ret
    exact ⟨rfl, rfl⟩
set_option maxHeartbeats 400000 in
theorem onP (a : Nat) (w : World) (h : a ≤ 4) : Calls Try.prog 40 #[.int .i64 a] w fun e w' => e = .returned (.bool (on a)) ∧ w = w' := by
  rcases five h with rfl | rfl | rfl | rfl | rfl
  all_goals
    go_enter Try.func40, Try.ntmps40
    go_wp2_with fail
    go_ret
    exact ⟨rfl, rfl⟩
set_option maxHeartbeats 2000000 in
theorem fit_leaf (k : Int) (w : World) (h : k = 1 ∨ k = 2 ∨ k = 3 ∨ k = 4 ∨ k = 11) : Calls Try.prog 32 #[.int .i64 k, .int .i64 0, .int .i64 0] w fun e w' => e = .returned (.bool (fit k 0 0)) ∧ w = w' := by
  rcases h with rfl | rfl | rfl | rfl | rfl
  all_goals
    go_enter Try.func32, Try.ntmps32
    go_wp2_with fail
    go_ret
    exact ⟨rfl, rfl⟩
set_option maxHeartbeats 2000000 in
theorem fit_9 (a : Nat) (w : World) (ha : a ≤ 4) : Calls Try.prog 32 #[.int .i64 9, .int .i64 a, .int .i64 0] w fun e w' => e = .returned (.bool (fit 9 a 0)) ∧ w = w' := by
  go_enter Try.func32, Try.ntmps32
  go_wp2_with fail
  refine (pdP a _ ha).mono ?_
  rintro e w' ⟨rfl, rfl⟩
  go_wp2_with fail
  go_ret
  exact ⟨rfl, rfl⟩
set_option maxHeartbeats 2000000 in
theorem fit_14 (a : Nat) (w : World) (ha : a ≤ 4) : Calls Try.prog 32 #[.int .i64 14, .int .i64 a, .int .i64 0] w fun e w' => e = .returned (.bool (fit 14 a 0)) ∧ w = w' := by
  rcases five ha with rfl | rfl | rfl | rfl | rfl
  all_goals
    go_enter Try.func32, Try.ntmps32
    go_wp2_with fail
    go_ret
    exact ⟨rfl, rfl⟩
set_option maxHeartbeats 4000000 in
theorem fit_5 (a b : Nat) (w : World) (ha : a ≤ 4) (hb : b ≤ 4) : Calls Try.prog 32 #[.int .i64 5, .int .i64 a, .int .i64 b] w fun e w' => e = .returned (.bool (fit 5 a b)) ∧ w = w' := by
  have c_onb := fun w => onP b w hb
  have c_pla := fun w => plP a w ha
  have c_pda := fun w => pdP a w ha
  have c_pdb := fun w => pdP b w hb
  have c_plb := fun w => plP b w hb
  have hr : fit 5 a b = (!on b && (pl a && pl b || pd a && pd b)) := rfl
  rw [hr]
  clear hr
  generalize on b = x_onb at *
  generalize pl a = x_pla at *
  generalize pd a = x_pda at *
  generalize pd b = x_pdb at *
  generalize pl b = x_plb at *
  go_enter Try.func32, Try.ntmps32
  go_wp2_with fail
  refine (c_onb _).mono ?_
  rintro e w' ⟨rfl, rfl⟩
  cases x_onb
  · go_wp2_with fail
    refine (c_pla _).mono ?_
    rintro e w' ⟨rfl, rfl⟩
    cases x_pla
    · go_wp2_with fail
      refine (c_pda _).mono ?_
      rintro e w' ⟨rfl, rfl⟩
      cases x_pda
      · go_wp2_with fail
        go_ret
        exact ⟨rfl, rfl⟩
      · go_wp2_with fail
        refine (c_pdb _).mono ?_
        rintro e w' ⟨rfl, rfl⟩
        cases x_pdb
        · go_wp2_with fail
          go_ret
          exact ⟨rfl, rfl⟩
        · go_wp2_with fail
          go_ret
          exact ⟨rfl, rfl⟩
    · go_wp2_with fail
      refine (c_plb _).mono ?_
      rintro e w' ⟨rfl, rfl⟩
      cases x_plb
      · go_wp2_with fail
        refine (c_pda _).mono ?_
        rintro e w' ⟨rfl, rfl⟩
        cases x_pda
        · go_wp2_with fail
          go_ret
          exact ⟨rfl, rfl⟩
        · go_wp2_with fail
          refine (c_pdb _).mono ?_
          rintro e w' ⟨rfl, rfl⟩
          cases x_pdb
          · go_wp2_with fail
            go_ret
            exact ⟨rfl, rfl⟩
          · go_wp2_with fail
            go_ret
            exact ⟨rfl, rfl⟩
      · go_wp2_with fail
        go_ret
        exact ⟨rfl, rfl⟩
  · go_wp2_with fail
    go_ret
    exact ⟨rfl, rfl⟩
set_option maxHeartbeats 4000000 in
theorem fit_6 (a b : Nat) (w : World) (ha : a ≤ 4) (hb : b ≤ 4) : Calls Try.prog 32 #[.int .i64 6, .int .i64 a, .int .i64 b] w fun e w' => e = .returned (.bool (fit 6 a b)) ∧ w = w' := by
  have c_ona := fun w => onP a w ha
  have c_onb := fun w => onP b w hb
  have c_pla := fun w => plP a w ha
  have c_pda := fun w => pdP a w ha
  have c_pdb := fun w => pdP b w hb
  have c_plb := fun w => plP b w hb
  have hr : fit 6 a b = (!on a && (!on b && (pl a && pl b || pd a && pd b))) := rfl
  rw [hr]
  clear hr
  generalize on a = x_ona at *
  generalize on b = x_onb at *
  generalize pl a = x_pla at *
  generalize pd a = x_pda at *
  generalize pd b = x_pdb at *
  generalize pl b = x_plb at *
  go_enter Try.func32, Try.ntmps32
  go_wp2_with fail
  refine (c_ona _).mono ?_
  rintro e w' ⟨rfl, rfl⟩
  cases x_ona
  · go_wp2_with fail
    refine (c_onb _).mono ?_
    rintro e w' ⟨rfl, rfl⟩
    cases x_onb
    · go_wp2_with fail
      refine (c_pla _).mono ?_
      rintro e w' ⟨rfl, rfl⟩
      cases x_pla
      · go_wp2_with fail
        refine (c_pda _).mono ?_
        rintro e w' ⟨rfl, rfl⟩
        cases x_pda
        · go_wp2_with fail
          go_ret
          exact ⟨rfl, rfl⟩
        · go_wp2_with fail
          refine (c_pdb _).mono ?_
          rintro e w' ⟨rfl, rfl⟩
          cases x_pdb
          · go_wp2_with fail
            go_ret
            exact ⟨rfl, rfl⟩
          · go_wp2_with fail
            go_ret
            exact ⟨rfl, rfl⟩
      · go_wp2_with fail
        refine (c_plb _).mono ?_
        rintro e w' ⟨rfl, rfl⟩
        cases x_plb
        · go_wp2_with fail
          refine (c_pda _).mono ?_
          rintro e w' ⟨rfl, rfl⟩
          cases x_pda
          · go_wp2_with fail
            go_ret
            exact ⟨rfl, rfl⟩
          · go_wp2_with fail
            refine (c_pdb _).mono ?_
            rintro e w' ⟨rfl, rfl⟩
            cases x_pdb
            · go_wp2_with fail
              go_ret
              exact ⟨rfl, rfl⟩
            · go_wp2_with fail
              go_ret
              exact ⟨rfl, rfl⟩
        · go_wp2_with fail
          go_ret
          exact ⟨rfl, rfl⟩
    · go_wp2_with fail
      go_ret
      exact ⟨rfl, rfl⟩
  · go_wp2_with fail
    go_ret
    exact ⟨rfl, rfl⟩
set_option maxHeartbeats 4000000 in
theorem fit_7 (a b : Nat) (w : World) (ha : a ≤ 4) (hb : b ≤ 4) : Calls Try.prog 32 #[.int .i64 7, .int .i64 a, .int .i64 b] w fun e w' => e = .returned (.bool (fit 7 a b)) ∧ w = w' := by
  have c_pla := fun w => plP a w ha
  have c_pda := fun w => pdP a w ha
  have c_pdb := fun w => pdP b w hb
  have c_plb := fun w => plP b w hb
  have hr : fit 7 a b = (pl a && pl b || pd a && pd b) := rfl
  rw [hr]
  clear hr
  generalize pl a = x_pla at *
  generalize pd a = x_pda at *
  generalize pd b = x_pdb at *
  generalize pl b = x_plb at *
  go_enter Try.func32, Try.ntmps32
  go_wp2_with fail
  refine (c_pla _).mono ?_
  rintro e w' ⟨rfl, rfl⟩
  cases x_pla
  · go_wp2_with fail
    refine (c_pda _).mono ?_
    rintro e w' ⟨rfl, rfl⟩
    cases x_pda
    · go_wp2_with fail
      go_ret
      exact ⟨rfl, rfl⟩
    · go_wp2_with fail
      refine (c_pdb _).mono ?_
      rintro e w' ⟨rfl, rfl⟩
      cases x_pdb
      · go_wp2_with fail
        go_ret
        exact ⟨rfl, rfl⟩
      · go_wp2_with fail
        go_ret
        exact ⟨rfl, rfl⟩
  · go_wp2_with fail
    refine (c_plb _).mono ?_
    rintro e w' ⟨rfl, rfl⟩
    cases x_plb
    · go_wp2_with fail
      refine (c_pda _).mono ?_
      rintro e w' ⟨rfl, rfl⟩
      cases x_pda
      · go_wp2_with fail
        go_ret
        exact ⟨rfl, rfl⟩
      · go_wp2_with fail
        refine (c_pdb _).mono ?_
        rintro e w' ⟨rfl, rfl⟩
        cases x_pdb
        · go_wp2_with fail
          go_ret
          exact ⟨rfl, rfl⟩
        · go_wp2_with fail
          go_ret
          exact ⟨rfl, rfl⟩
    · go_wp2_with fail
      go_ret
      exact ⟨rfl, rfl⟩
set_option maxHeartbeats 4000000 in
theorem fit_8 (a b : Nat) (w : World) (ha : a ≤ 4) : Calls Try.prog 32 #[.int .i64 8, .int .i64 a, .int .i64 b] w fun e w' => e = .returned (.bool (fit 8 a b)) ∧ w = w' := by
  have c_pla := fun w => plP a w ha
  have hr : fit 8 a b = (pl a && (b == 1)) := rfl
  rw [hr]
  clear hr
  generalize pl a = x_pla at *
  have hi : ((b : Int) == 1) = (b == 1) := by rw [Bool.eq_iff_iff, beq_iff_eq, beq_iff_eq]; omega
  generalize (b == 1) = q at *
  cases q
  all_goals
    go_enter Try.func32, Try.ntmps32
    go_wp2_with fail
    refine (c_pla _).mono ?_
    rintro e w' ⟨rfl, rfl⟩
    cases x_pla
    · go_wp2_with fail
      go_ret
      exact ⟨rfl, rfl⟩
    · go_wp2_with fail
      go_ret
      exact ⟨rfl, rfl⟩
set_option maxHeartbeats 4000000 in
theorem fit_10 (a b : Nat) (w : World) (ha : a ≤ 4) : Calls Try.prog 32 #[.int .i64 10, .int .i64 a, .int .i64 b] w fun e w' => e = .returned (.bool (fit 10 a b)) ∧ w = w' := by
  have c_ona := fun w => onP a w ha
  have c_pla := fun w => plP a w ha
  have hr : fit 10 a b = (!on a && (pl a && (b == 1))) := rfl
  rw [hr]
  clear hr
  generalize on a = x_ona at *
  generalize pl a = x_pla at *
  have hi : ((b : Int) == 1) = (b == 1) := by rw [Bool.eq_iff_iff, beq_iff_eq, beq_iff_eq]; omega
  generalize (b == 1) = q at *
  cases q
  all_goals
    go_enter Try.func32, Try.ntmps32
    go_wp2_with fail
    refine (c_ona _).mono ?_
    rintro e w' ⟨rfl, rfl⟩
    cases x_ona
    · go_wp2_with fail
      refine (c_pla _).mono ?_
      rintro e w' ⟨rfl, rfl⟩
      cases x_pla
      · go_wp2_with fail
        go_ret
        exact ⟨rfl, rfl⟩
      · go_wp2_with fail
        go_ret
        exact ⟨rfl, rfl⟩
    · go_wp2_with fail
      go_ret
      exact ⟨rfl, rfl⟩
set_option maxHeartbeats 4000000 in
theorem fit_12 (a b : Nat) (w : World) (ha : a ≤ 4) : Calls Try.prog 32 #[.int .i64 12, .int .i64 a, .int .i64 b] w fun e w' => e = .returned (.bool (fit 12 a b)) ∧ w = w' := by
  have c_pla := fun w => plP a w ha
  have hr : fit 12 a b = (pl a && (b == 1)) := rfl
  rw [hr]
  clear hr
  generalize pl a = x_pla at *
  have hi : ((b : Int) == 1) = (b == 1) := by rw [Bool.eq_iff_iff, beq_iff_eq, beq_iff_eq]; omega
  generalize (b == 1) = q at *
  cases q
  all_goals
    go_enter Try.func32, Try.ntmps32
    go_wp2_with fail
    refine (c_pla _).mono ?_
    rintro e w' ⟨rfl, rfl⟩
    cases x_pla
    · go_wp2_with fail
      go_ret
      exact ⟨rfl, rfl⟩
    · go_wp2_with fail
      go_ret
      exact ⟨rfl, rfl⟩
set_option maxHeartbeats 4000000 in
theorem fit_13 (a b : Nat) (w : World) (ha : a ≤ 4) : Calls Try.prog 32 #[.int .i64 13, .int .i64 a, .int .i64 b] w fun e w' => e = .returned (.bool (fit 13 a b)) ∧ w = w' := by
  have c_pda := fun w => pdP a w ha
  have hr : fit 13 a b = (pd a && (b == 1)) := rfl
  rw [hr]
  clear hr
  generalize pd a = x_pda at *
  have hi : ((b : Int) == 1) = (b == 1) := by rw [Bool.eq_iff_iff, beq_iff_eq, beq_iff_eq]; omega
  generalize (b == 1) = q at *
  cases q
  all_goals
    go_enter Try.func32, Try.ntmps32
    go_wp2_with fail
    refine (c_pda _).mono ?_
    rintro e w' ⟨rfl, rfl⟩
    cases x_pda
    · go_wp2_with fail
      go_ret
      exact ⟨rfl, rfl⟩
    · go_wp2_with fail
      go_ret
      exact ⟨rfl, rfl⟩
theorem fit_any (k : Int) (a b : Nat) (w : World) (hk : 0 ≤ Rw.ar k) (ha : a ≤ 4) (hb : b ≤ 4) (h0 : Rw.ar k = 0 → a = 0) (h1 : Rw.ar k ≤ 1 → b = 0) : Calls Try.prog 32 #[.int .i64 k, .int .i64 a, .int .i64 b] w fun e w' => e = .returned (.bool (fit k a b)) ∧ w = w' := by
  rcases kinds hk with rfl | rfl | rfl | rfl | rfl | rfl | rfl | rfl | rfl | rfl | rfl | rfl | rfl | rfl
  case inr.inr.inr.inr.inl => exact fit_5 a b w ha hb
  case inr.inr.inr.inr.inr.inl => exact fit_6 a b w ha hb
  case inr.inr.inr.inr.inr.inr.inl => exact fit_7 a b w ha hb
  case inr.inr.inr.inr.inr.inr.inr.inl => exact fit_8 a b w ha
  case inr.inr.inr.inr.inr.inr.inr.inr.inl => obtain rfl := h1 (by decide); exact fit_9 a w ha
  case inr.inr.inr.inr.inr.inr.inr.inr.inr.inl => exact fit_10 a b w ha
  case inr.inr.inr.inr.inr.inr.inr.inr.inr.inr.inr.inl => exact fit_12 a b w ha
  case inr.inr.inr.inr.inr.inr.inr.inr.inr.inr.inr.inr.inl => exact fit_13 a b w ha
  case inr.inr.inr.inr.inr.inr.inr.inr.inr.inr.inr.inr.inr => obtain rfl := h1 (by decide); exact fit_14 a w ha
  all_goals
    obtain rfl := h0 (by decide)
    obtain rfl := h1 (by decide)
    exact fit_leaf _ w (by decide)
set_option maxHeartbeats 2000000 in
theorem made_two (k : Int) (a b : Nat) (w : World) (h : k = 5 ∨ k = 6 ∨ k = 7 ∨ k = 8) : Calls Try.prog 33 #[.int .i64 k, .int .i64 a, .int .i64 b] w fun e w' => e = .returned (.int .i64 (made k a b)) ∧ w = w' := by
  have hm : made k a b = max a b := by unfold made; rw [if_pos h]
  have HM : Hid (((max a b : Nat) : Int) = (made k a b : Nat)) := by show _ = _; rw [hm]
  clear hm
  rcases h with rfl | rfl | rfl | rfl
  all_goals
    go_enter Try.func33, Try.ntmps33
    go_wp2_with fail
  all_goals
    go_ret
    exact ⟨ret_int (by rw [← HM.out]; omega), rfl⟩
set_option maxHeartbeats 2000000 in
theorem made_9 (a b : Nat) (w : World) (ha : a ≤ 4) : Calls Try.prog 33 #[.int .i64 9, .int .i64 a, .int .i64 b] w fun e w' => e = .returned (.int .i64 (made 9 a b)) ∧ w = w' := by
  rcases five ha with rfl | rfl | rfl | rfl | rfl
  all_goals
    go_enter Try.func33, Try.ntmps33
    go_wp2_with fail
    go_ret
    exact ⟨rfl, rfl⟩
set_option maxHeartbeats 2000000 in
theorem made_other (k : Int) (a b : Nat) (w : World) (h : k = 1 ∨ k = 2 ∨ k = 3 ∨ k = 4 ∨ k = 10 ∨ k = 11 ∨ k = 12 ∨ k = 13 ∨ k = 14) : Calls Try.prog 33 #[.int .i64 k, .int .i64 a, .int .i64 b] w fun e w' => e = .returned (.int .i64 (made k a b)) ∧ w = w' := by
  rcases h with rfl | rfl | rfl | rfl | rfl | rfl | rfl | rfl | rfl
  all_goals
    go_enter Try.func33, Try.ntmps33
    go_wp2_with fail
    go_ret
    exact ⟨rfl, rfl⟩
theorem made_any (k : Int) (a b : Nat) (w : World) (hk : 0 ≤ Rw.ar k) (ha : a ≤ 4) : Calls Try.prog 33 #[.int .i64 k, .int .i64 a, .int .i64 b] w fun e w' => e = .returned (.int .i64 (made k a b)) ∧ w = w' := by
  by_cases h2 : k = 5 ∨ k = 6 ∨ k = 7 ∨ k = 8
  · exact made_two k a b w h2
  · by_cases h9 : k = 9
    · subst h9
      exact made_9 a b w ha
    · exact made_other k a b w (by have := kinds hk; omega)
end Go.Proofs.Ytpingbiibbmcaab.Sx

namespace Go.Proofs.Ytpingbiibbmcaab.Tr
open Go Go.RowKit
set_option maxRecDepth 20000

/-- One trace behind another. -/
def thn (p q : Tr) : Tr := if p.e = 1 then ⟨p.a ++ q.a, q.e⟩ else p

end Go.Proofs.Ytpingbiibbmcaab.Tr

namespace Go.Proofs.Ytpingbiibbmcaab.So
open Go Go.Proofs.Ytpingbiibbmcaab.Rw

theorem eq_1_1 {l : List Nd} (h : hd l = 1) : Is 1 l = true := by
  rw [Is_one]
  unfold plainB
  rw [h]
  rfl
theorem eq_1_2 {l : List Nd} (h : hd l = 1) : Is 2 l = false := by
  rw [Is_two]
  unfold pairedB
  rw [h]
  rfl
theorem eq_1_3 {l : List Nd} (h : hd l = 1) : Is 3 l = (true || false) := by
  rw [Is_three]
  unfold plainB plainOnB
  rw [h]
  rfl
theorem eq_1_4 {l : List Nd} (h : hd l = 1) : Is 4 l = (false || false) := by
  rw [Is_four]
  unfold pairedB pairedOnB
  rw [h]
  rfl
theorem eq_2_1 {l : List Nd} (h : hd l = 2) : Is 1 l = true := by
  rw [Is_one]
  unfold plainB
  rw [h]
  rfl
theorem eq_2_2 {l : List Nd} (h : hd l = 2) : Is 2 l = false := by
  rw [Is_two]
  unfold pairedB
  rw [h]
  rfl
theorem eq_2_3 {l : List Nd} (h : hd l = 2) : Is 3 l = (true || false) := by
  rw [Is_three]
  unfold plainB plainOnB
  rw [h]
  rfl
theorem eq_2_4 {l : List Nd} (h : hd l = 2) : Is 4 l = (false || false) := by
  rw [Is_four]
  unfold pairedB pairedOnB
  rw [h]
  rfl
theorem eq_3_1 {l : List Nd} (h : hd l = 3) : Is 1 l = true := by
  rw [Is_one]
  unfold plainB
  rw [h]
  rfl
theorem eq_3_2 {l : List Nd} (h : hd l = 3) : Is 2 l = false := by
  rw [Is_two]
  unfold pairedB
  rw [h]
  rfl
theorem eq_3_3 {l : List Nd} (h : hd l = 3) : Is 3 l = (true || false) := by
  rw [Is_three]
  unfold plainB plainOnB
  rw [h]
  rfl
theorem eq_3_4 {l : List Nd} (h : hd l = 3) : Is 4 l = (false || false) := by
  rw [Is_four]
  unfold pairedB pairedOnB
  rw [h]
  rfl
theorem eq_4_1 {l : List Nd} (h : hd l = 4) : Is 1 l = true := by
  rw [Is_one]
  unfold plainB
  rw [h]
  rfl
theorem eq_4_2 {l : List Nd} (h : hd l = 4) : Is 2 l = false := by
  rw [Is_two]
  unfold pairedB
  rw [h]
  rfl
theorem eq_4_3 {l : List Nd} (h : hd l = 4) : Is 3 l = (true || false) := by
  rw [Is_three]
  unfold plainB plainOnB
  rw [h]
  rfl
theorem eq_4_4 {l : List Nd} (h : hd l = 4) : Is 4 l = (false || false) := by
  rw [Is_four]
  unfold pairedB pairedOnB
  rw [h]
  rfl
theorem eq_5_1 {l : List Nd} (h : hd l = 5) : Is 1 l = (Is 1 (k0 l) && Is 1 (k1 l)) := by
  rw [Is_one]
  unfold plainB
  rw [h]
  rfl
theorem eq_5_2 {l : List Nd} (h : hd l = 5) : Is 2 l = (Is 2 (k0 l) && Is 2 (k1 l)) := by
  rw [Is_two]
  unfold pairedB
  rw [h]
  rfl
theorem eq_5_3 {l : List Nd} (h : hd l = 5) : Is 3 l = ((Is 1 (k0 l) && Is 1 (k1 l)) || (Is 3 (k0 l) && Is 1 (k1 l))) := by
  rw [Is_three]
  unfold plainB plainOnB
  rw [h]
  rfl
theorem eq_5_4 {l : List Nd} (h : hd l = 5) : Is 4 l = ((Is 2 (k0 l) && Is 2 (k1 l)) || (Is 4 (k0 l) && Is 2 (k1 l))) := by
  rw [Is_four]
  unfold pairedB pairedOnB
  rw [h]
  rfl
theorem eq_6_1 {l : List Nd} (h : hd l = 6) : Is 1 l = (Is 1 (k0 l) && Is 1 (k1 l)) := by
  rw [Is_one]
  unfold plainB
  rw [h]
  rfl
theorem eq_6_2 {l : List Nd} (h : hd l = 6) : Is 2 l = (Is 2 (k0 l) && Is 2 (k1 l)) := by
  rw [Is_two]
  unfold pairedB
  rw [h]
  rfl
theorem eq_6_3 {l : List Nd} (h : hd l = 6) : Is 3 l = ((Is 1 (k0 l) && Is 1 (k1 l)) || false) := by
  rw [Is_three]
  unfold plainB plainOnB
  rw [h]
  rfl
theorem eq_6_4 {l : List Nd} (h : hd l = 6) : Is 4 l = ((Is 2 (k0 l) && Is 2 (k1 l)) || false) := by
  rw [Is_four]
  unfold pairedB pairedOnB
  rw [h]
  rfl
theorem eq_7_1 {l : List Nd} (h : hd l = 7) : Is 1 l = (Is 1 (k0 l) && Is 1 (k1 l)) := by
  rw [Is_one]
  unfold plainB
  rw [h]
  rfl
theorem eq_7_2 {l : List Nd} (h : hd l = 7) : Is 2 l = (Is 2 (k0 l) && Is 2 (k1 l)) := by
  rw [Is_two]
  unfold pairedB
  rw [h]
  rfl
theorem eq_7_3 {l : List Nd} (h : hd l = 7) : Is 3 l = ((Is 1 (k0 l) && Is 1 (k1 l)) || (Is 3 (k0 l) && Is 3 (k1 l))) := by
  rw [Is_three]
  unfold plainB plainOnB
  rw [h]
  rfl
theorem eq_7_4 {l : List Nd} (h : hd l = 7) : Is 4 l = ((Is 2 (k0 l) && Is 2 (k1 l)) || (Is 4 (k0 l) && Is 4 (k1 l))) := by
  rw [Is_four]
  unfold pairedB pairedOnB
  rw [h]
  rfl
theorem eq_8_1 {l : List Nd} (h : hd l = 8) : Is 1 l = (Is 1 (k0 l) && Is 1 (k1 l)) := by
  rw [Is_one]
  unfold plainB
  rw [h]
  rfl
theorem eq_8_2 {l : List Nd} (h : hd l = 8) : Is 2 l = false := by
  rw [Is_two]
  unfold pairedB
  rw [h]
  rfl
theorem eq_8_3 {l : List Nd} (h : hd l = 8) : Is 3 l = ((Is 1 (k0 l) && Is 1 (k1 l)) || (Is 3 (k0 l) && Is 1 (k1 l))) := by
  rw [Is_three]
  unfold plainB plainOnB
  rw [h]
  rfl
theorem eq_8_4 {l : List Nd} (h : hd l = 8) : Is 4 l = (false || false) := by
  rw [Is_four]
  unfold pairedB pairedOnB
  rw [h]
  rfl
theorem eq_9_1 {l : List Nd} (h : hd l = 9) : Is 1 l = Is 2 (k0 l) := by
  rw [Is_one]
  unfold plainB
  rw [h]
  rfl
theorem eq_9_2 {l : List Nd} (h : hd l = 9) : Is 2 l = false := by
  rw [Is_two]
  unfold pairedB
  rw [h]
  rfl
theorem eq_9_3 {l : List Nd} (h : hd l = 9) : Is 3 l = (Is 2 (k0 l) || Is 4 (k0 l)) := by
  rw [Is_three]
  unfold plainB plainOnB
  rw [h]
  rfl
theorem eq_9_4 {l : List Nd} (h : hd l = 9) : Is 4 l = (false || false) := by
  rw [Is_four]
  unfold pairedB pairedOnB
  rw [h]
  rfl
theorem eq_10_1 {l : List Nd} (h : hd l = 10) : Is 1 l = false := by
  rw [Is_one]
  unfold plainB
  rw [h]
  rfl
theorem eq_10_2 {l : List Nd} (h : hd l = 10) : Is 2 l = (Is 1 (k0 l) && Is 1 (k1 l)) := by
  rw [Is_two]
  unfold pairedB
  rw [h]
  rfl
theorem eq_10_3 {l : List Nd} (h : hd l = 10) : Is 3 l = (false || false) := by
  rw [Is_three]
  unfold plainB plainOnB
  rw [h]
  rfl
theorem eq_10_4 {l : List Nd} (h : hd l = 10) : Is 4 l = ((Is 1 (k0 l) && Is 1 (k1 l)) || false) := by
  rw [Is_four]
  unfold pairedB pairedOnB
  rw [h]
  rfl
theorem eq_11_1 {l : List Nd} (h : hd l = 11) : Is 1 l = false := by
  rw [Is_one]
  unfold plainB
  rw [h]
  rfl
theorem eq_11_2 {l : List Nd} (h : hd l = 11) : Is 2 l = false := by
  rw [Is_two]
  unfold pairedB
  rw [h]
  rfl
theorem eq_11_3 {l : List Nd} (h : hd l = 11) : Is 3 l = (false || true) := by
  rw [Is_three]
  unfold plainB plainOnB
  rw [h]
  rfl
theorem eq_11_4 {l : List Nd} (h : hd l = 11) : Is 4 l = (false || false) := by
  rw [Is_four]
  unfold pairedB pairedOnB
  rw [h]
  rfl
theorem eq_12_1 {l : List Nd} (h : hd l = 12) : Is 1 l = false := by
  rw [Is_one]
  unfold plainB
  rw [h]
  rfl
theorem eq_12_2 {l : List Nd} (h : hd l = 12) : Is 2 l = false := by
  rw [Is_two]
  unfold pairedB
  rw [h]
  rfl
theorem eq_12_3 {l : List Nd} (h : hd l = 12) : Is 3 l = (false || false) := by
  rw [Is_three]
  unfold plainB plainOnB
  rw [h]
  rfl
theorem eq_12_4 {l : List Nd} (h : hd l = 12) : Is 4 l = (false || (Is 3 (k0 l) && Is 1 (k1 l))) := by
  rw [Is_four]
  unfold pairedB pairedOnB
  rw [h]
  rfl
theorem eq_13_1 {l : List Nd} (h : hd l = 13) : Is 1 l = false := by
  rw [Is_one]
  unfold plainB
  rw [h]
  rfl
theorem eq_13_2 {l : List Nd} (h : hd l = 13) : Is 2 l = false := by
  rw [Is_two]
  unfold pairedB
  rw [h]
  rfl
theorem eq_13_3 {l : List Nd} (h : hd l = 13) : Is 3 l = (false || false) := by
  rw [Is_three]
  unfold plainB plainOnB
  rw [h]
  rfl
theorem eq_13_4 {l : List Nd} (h : hd l = 13) : Is 4 l = (false || (Is 4 (k0 l) && Is 1 (k1 l))) := by
  rw [Is_four]
  unfold pairedB pairedOnB
  rw [h]
  rfl
theorem eq_14_1 {l : List Nd} (h : hd l = 14) : Is 1 l = false := by
  rw [Is_one]
  unfold plainB
  rw [h]
  rfl
theorem eq_14_2 {l : List Nd} (h : hd l = 14) : Is 2 l = false := by
  rw [Is_two]
  unfold pairedB
  rw [h]
  rfl
theorem eq_14_3 {l : List Nd} (h : hd l = 14) : Is 3 l = (false || false) := by
  rw [Is_three]
  unfold plainB plainOnB
  rw [h]
  rfl
theorem eq_14_4 {l : List Nd} (h : hd l = 14) : Is 4 l = (false || Is 1 (k0 l)) := by
  rw [Is_four]
  unfold pairedB pairedOnB
  rw [h]
  rfl
/-- How many nodes are of what goes on. -/
def on (l : List Nd) : Nat := cnt l [11, 12, 13, 14]
/-- A tree, by its first node. -/
theorem Tre.flat {l : List Nd} (h : Tre l) : ∃ x, hd l = x.k ∧ l = x :: (Rw.kids l).flatten := by
  have hs := h.size
  have hp := h.pos
  cases l with
  | nil => exact absurd hp (Nat.lt_irrefl 0)
  | cons x r =>
    refine ⟨x, rfl, ?_⟩
    have := kids_flat (n := x) (r := r) (by rw [hs]; omega)
    rw [hs, List.take_length] at this
    exact this.symm
end Go.Proofs.Ytpingbiibbmcaab.So

namespace Go.Proofs.Ytpingbiibbmcaab.So
open Go Go.RowKit Go.Proofs.Ytpingbiibbmcaab.Rw
set_option maxRecDepth 20000

end Go.Proofs.Ytpingbiibbmcaab.So
