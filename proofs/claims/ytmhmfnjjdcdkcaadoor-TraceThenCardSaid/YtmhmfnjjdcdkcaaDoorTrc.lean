/- Which of two traces comes ahead, by the document's own answer: the walk. -/
import Derived.Test.YtmhmfnjjdcdkcaaDoorTrw
namespace Go.Proofs.YtmhmfnjjdcdkcaaDoor.Tr
open Go Go.RowKit
set_option maxRecDepth 20000

set_option maxHeartbeats 2000000 in
theorem cmp_any (v1 v2 : Value) (p q : Tr) (w : World) (h1 : Strs w v1 p.a) (h2 : Strs w v2 q.a) (hl : p.a.length ≤ 1000000) (hm : q.a.length ≤ 1000000) :
    Calls Tryd.prog 15 #[.agg #[v1, .int .i64 p.e], .agg #[v2, .int .i64 q.e]] w fun e w' => e = .returned (.int .i64 (cmp p q)) ∧ Below w.heap.size w w' := by
  have HB : Hid (∀ x y : Obj, Below w.heap.size w ((w.alloc x).alloc y)) := fun x y => ((Below.refl _ _).alloc (Nat.le_refl _) x).alloc (by simp) y
  have H1 := Lib.hid h1
  have H2 := Lib.hid h2
  clear h1 h2
  obtain ⟨x, hx⟩ : ∃ x, row p.a q.a = x := ⟨_, rfl⟩
  have hbd := row_bd p.a q.a
  rw [hx] at hbd
  obtain ⟨c, hc⟩ : ∃ c, cmp p q = c := ⟨_, rfl⟩
  have hc' := hc
  unfold cmp at hc'
  rw [hx] at hc'
  rw [hc]
  have HX := Lib.hid hx
  clear hx hc
  by_cases c1 : x < 0
  · have b1 : (x == 0) = false := by rw [beq_eq_false_iff_ne]; omega
    rw [if_pos c1] at hc'
    subst hc'
    go_enter Tryd.func15, Tryd.ntmps15
    go_wp2_with fail
    refine (row_any _ _ p.a q.a _ (H1.out.below (HB.out _ _)) (H2.out.below (HB.out _ _)) hl hm).mono ?_
    rw [HX.out]
    rintro e w' ⟨rfl, n, rfl⟩
    go_wp2_with fail
    go_ret
    exact ⟨rfl, (HB.out _ _).trans (Below.drewN _ _ _)⟩
  rw [if_neg c1] at hc'
  by_cases c2 : 0 < x
  · have b1 : (x == 0) = false := by rw [beq_eq_false_iff_ne]; omega
    rw [if_pos c2] at hc'
    subst hc'
    go_enter Tryd.func15, Tryd.ntmps15
    go_wp2_with fail
    refine (row_any _ _ p.a q.a _ (H1.out.below (HB.out _ _)) (H2.out.below (HB.out _ _)) hl hm).mono ?_
    rw [HX.out]
    rintro e w' ⟨rfl, n, rfl⟩
    go_wp2_with fail
    go_ret
    exact ⟨rfl, (HB.out _ _).trans (Below.drewN _ _ _)⟩
  rw [if_neg c2] at hc'
  obtain rfl : x = 0 := by omega
  by_cases c3 : p.e < q.e
  · have d1 : decide (p.e < q.e) = true := by simpa using c3
    rw [if_pos c3] at hc'
    subst hc'
    go_enter Tryd.func15, Tryd.ntmps15
    go_wp2_with fail
    refine (row_any _ _ p.a q.a _ (H1.out.below (HB.out _ _)) (H2.out.below (HB.out _ _)) hl hm).mono ?_
    rw [HX.out]
    rintro e w' ⟨rfl, n, rfl⟩
    go_wp2_with fail
    go_ret
    exact ⟨rfl, (HB.out _ _).trans (Below.drewN _ _ _)⟩
  rw [if_neg c3] at hc'
  have d1 : decide (p.e < q.e) = false := by simpa using c3
  by_cases c4 : q.e < p.e
  · have d2 : decide (q.e < p.e) = true := by simpa using c4
    rw [if_pos c4] at hc'
    subst hc'
    go_enter Tryd.func15, Tryd.ntmps15
    go_wp2_with fail
    refine (row_any _ _ p.a q.a _ (H1.out.below (HB.out _ _)) (H2.out.below (HB.out _ _)) hl hm).mono ?_
    rw [HX.out]
    rintro e w' ⟨rfl, n, rfl⟩
    go_wp2_with fail
    go_ret
    exact ⟨rfl, (HB.out _ _).trans (Below.drewN _ _ _)⟩
  · rw [if_neg c4] at hc'
    have d2 : decide (q.e < p.e) = false := by simpa using c4
    subst hc'
    go_enter Tryd.func15, Tryd.ntmps15
    go_wp2_with fail
    refine (row_any _ _ p.a q.a _ (H1.out.below (HB.out _ _)) (H2.out.below (HB.out _ _)) hl hm).mono ?_
    rw [HX.out]
    rintro e w' ⟨rfl, n, rfl⟩
    go_wp2_with fail
    go_ret
    exact ⟨rfl, (HB.out _ _).trans (Below.drewN _ _ _)⟩
end Go.Proofs.YtmhmfnjjdcdkcaaDoor.Tr
