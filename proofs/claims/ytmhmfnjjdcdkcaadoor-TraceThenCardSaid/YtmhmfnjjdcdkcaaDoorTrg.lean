/- The laws of traces, walked from the contracts: TracePar and TraceMix. -/
import Derived.Test.YtmhmfnjjdcdkcaaDoorTrp
import Derived.Test.YtmhmfnjjdcdkcaaDoorTrq
namespace Go.Proofs.YtmhmfnjjdcdkcaaDoor.Tr
open Go Go.RowKit
set_option maxRecDepth 20000

/-- Two traces, boxed one behind the other, are still read. -/
theorem keep_box2 {w w' : World} {x y x' y' : Value} {ty ty' : TypeId} (hb : Below (w.heap.size + 1 + 1) ((w.alloc (.cells #[x, y] ty)).alloc (.cells #[x', y'] ty')) w') :
    w'.cell? ⟨w.heap.size, 0, none⟩ = some x ∧ w'.cell? ⟨w.heap.size, 1, none⟩ = some y ∧ w'.cell? ⟨w.heap.size + 1, 0, none⟩ = some x' ∧ w'.cell? ⟨w.heap.size + 1, 1, none⟩ = some y' := by
  refine ⟨?_, ?_, ?_, ?_⟩
  · rw [hb.cell (p := ⟨w.heap.size, 0, none⟩) (by show w.heap.size < w.heap.size + 1 + 1; omega)]; simp [go_sem]
  · rw [hb.cell (p := ⟨w.heap.size, 1, none⟩) (by show w.heap.size < w.heap.size + 1 + 1; omega)]; simp [go_sem]
  · rw [hb.cell (p := ⟨w.heap.size + 1, 0, none⟩) (by show w.heap.size + 1 < w.heap.size + 1 + 1; omega)]; simp [go_sem]
  · rw [hb.cell (p := ⟨w.heap.size + 1, 1, none⟩) (by show w.heap.size + 1 < w.heap.size + 1 + 1; omega)]; simp [go_sem]
theorem below_box2 {w w' : World} {x y : Obj} (hb : Below (w.heap.size + 1 + 1) ((w.alloc x).alloc y) w') : Below w.heap.size w w' := (below2 w x y).trans (hb.mono (by omega))
theorem box2_next {w w' w'' : World} {x y : Obj} (h1 : Below (w.heap.size + 1 + 1) ((w.alloc x).alloc y) w') (h2 : Below w'.heap.size w' w'') : Below (w.heap.size + 1 + 1) ((w.alloc x).alloc y) w'' :=
  h1.trans (h2.mono (by have := h1.size; simpa using this))

set_option maxHeartbeats 4000000 in
theorem par_law (C : Con) (v1 v2 : Value) (p q : Tr) (w : World) (h : Sg.Tab w) (hv1 : Strs w v1 p.a) (hv2 : Strs w v2 q.a) (hl1 : p.a.length ≤ 1125899906842624) (hl2 : q.a.length ≤ 1125899906842624) :
    Calls Tryd.prog 7 #[.agg #[v1, .int .i64 p.e], .agg #[v2, .int .i64 q.e]] w fun e w' => e = .returned (.bool true) ∧ Below w.heap.size w w' := by
  have HV1 := Lib.hid hv1
  have HV2 := Lib.hid hv2
  obtain ⟨_, a1, c1, rfl, -⟩ := hv1
  obtain ⟨_, a2, c2, rfl, -⟩ := hv2
  have B0 : Hid (Below (w.heap.size + 1 + 1) ((w.alloc (.cells #[.slice a1 p.a.length c1, .int .i64 p.e] 24)).alloc (.cells #[.slice a2 q.a.length c2, .int .i64 q.e] 24)) ((w.alloc (.cells #[.slice a1 p.a.length c1, .int .i64 p.e] 24)).alloc (.cells #[.slice a2 q.a.length c2, .int .i64 q.e] 24))) := Below.refl _ _
  by_cases hlt : 9 < p.a.length + q.a.length
  · have g : decide (9 < p.a.length + q.a.length) = true := by simpa using hlt
    go_enter Tryd.func7, Tryd.ntmps7
    go_wp2_with fail
    refine (alive_any C _ (Tab.below h (below_box2 B0.out))).mono ?_
    rintro e w2 ⟨rfl, hb2⟩
    have B2 := Lib.hid (box2_next B0.out hb2)
    clear hb2
    go_wp2_with fail
    go_ret
    exact ⟨rfl, below_box2 B2.out⟩
  · have g : decide (9 < p.a.length + q.a.length) = false := by simpa using hlt
    have hlen : p.a.length + q.a.length ≤ 9 := by omega
    have FE : Hid (Few (pr p q)) := ⟨by have := pr_len p q; omega, fun t ht => by rw [pr_row ht]; omega⟩
    have PC := Lib.hid (pr_comm p q (by omega))
    have hln := Lib.hid (pr_len p q)
    go_enter Tryd.func7, Tryd.ntmps7
    go_wp2_with fail
    refine (C.cPar _ _ p q _ (Tab.below h (below_box2 B0.out)) (HV1.out.below (below_box2 B0.out)) (HV2.out.below (below_box2 B0.out)) hlen).mono ?_
    rintro e w1 ⟨x1, rfl, ht1, hb1⟩
    have T1 := Lib.hid ht1
    have B1 := Lib.hid (box2_next B0.out hb1)
    clear ht1 hb1
    obtain ⟨k1, k2, k3, k4⟩ := keep_box2 B1.out
    go_wp2_with fail
    refine (C.cPar _ _ q p _ (Tab.below h (below_box2 B1.out)) (HV2.out.below (below_box2 B1.out)) (HV1.out.below (below_box2 B1.out)) (by omega)).mono ?_
    rintro e w2 ⟨x2, rfl, ht2, hb2⟩
    rw [← PC.out] at ht2
    have T2 := Lib.hid ht2
    have T1' := Lib.hid (T1.out.below hb2)
    have B2 := Lib.hid (box2_next B1.out hb2)
    clear ht2 hb2 k1 k2 k3 k4 T1
    have hsame : same (pr p q) (pr p q) = true := (same_iff _ _).2 rfl
    have kk := keep_box2 B2.out
    go_wp2_with fail
    go_region_held3 (fun w' => w'.cell? ⟨w.heap.size, 0, none⟩ = some (.slice a1 p.a.length c1) ∧ w'.cell? ⟨w.heap.size, 1, none⟩ = some (.int .i64 p.e) ∧ w'.cell? ⟨w.heap.size + 1, 0, none⟩ = some (.slice a2 q.a.length c2) ∧ w'.cell? ⟨w.heap.size + 1, 1, none⟩ = some (.int .i64 q.e))
      (first | exact kk | exact keep_box2 B3.out | exact keep_box2 B4.out | exact keep_box2 B5.out | exact keep_box2 B6.out | exact keep_box2 B7.out | exact keep_box2 B8.out | exact keep_box2 B9.out | fail) (first
      | (go_at_call 12
         refine (alive_any C _ (Tab.below h (below_box2 B2.out.drew))).mono ?_
         rintro e w3 ⟨rfl, hb3⟩
         have B3 := Lib.hid (box2_next B2.out.drew hb3)
         have T3 := Lib.hid (T1'.out.below ((Below.refl _ _).drew.trans hb3))
         have U3 := Lib.hid (T2.out.below ((Below.refl _ _).drew.trans hb3))
         clear hb3 T1' T2)
      | (go_at_call 20
         (with_reducible refine (olds_any x1 (pr p q) _ T3.out (Nat.le_trans hln.out (by omega))).mono ?_)
         rintro e w4 ⟨x4, rfl, ht4, hb4⟩
         have T4 := Lib.hid ht4
         have B4 := Lib.hid (box2_next B3.out hb4)
         have T34 := Lib.hid (T3.out.below hb4)
         have U4 := Lib.hid (U3.out.below hb4)
         clear ht4 hb4 T3 U3)
      | (go_at_call 32
         refine (par_any _ _ p q _ (HV1.out.below (below_box2 B4.out)) (HV2.out.below (below_box2 B4.out)) (by omega)).mono ?_
         rintro e w5 ⟨x5, rfl, ht5, hb5⟩
         have T5 : Hid (Trs w5 x5 (pr p q)) := ht5
         have B5 := Lib.hid (box2_next B4.out hb5)
         have T45 := Lib.hid (T4.out.below hb5)
         have T35 := Lib.hid (T34.out.below hb5)
         have U5 := Lib.hid (U4.out.below hb5)
         clear ht5 hb5 T4 T34 U4)
      | (go_at_call 19
         (with_reducible refine (same_any x4 x5 (pr p q) (pr p q) _ T45.out T5.out FE.out FE.out).mono ?_)
         rintro e w6 ⟨rfl, hb6⟩
         have B6 := Lib.hid (box2_next B5.out hb6)
         have T36 := Lib.hid (T35.out.below hb6)
         have U6 := Lib.hid (U5.out.below hb6)
         clear hb6 T35 U5 T45 T5)
      | (go_at_call 20
         (with_reducible refine (olds_any x1 (pr p q) _ T36.out (Nat.le_trans hln.out (by omega))).mono ?_)
         rintro e w7 ⟨x7, rfl, ht7, hb7⟩
         have T7 := Lib.hid ht7
         have B7 := Lib.hid (box2_next B6.out hb7)
         have U7 := Lib.hid (U6.out.below hb7)
         clear ht7 hb7 T36 U6)
      | (go_at_call 20
         (with_reducible refine (olds_any x2 (pr p q) _ U7.out (Nat.le_trans hln.out (by omega))).mono ?_)
         rintro e w8 ⟨x8, rfl, ht8, hb8⟩
         have T8 := Lib.hid ht8
         have B8 := Lib.hid (box2_next B7.out hb8)
         have T78 := Lib.hid (T7.out.below hb8)
         clear ht8 hb8 U7 T7)
      | (go_at_call 19
         (with_reducible refine (same_any x7 x8 (pr p q) (pr p q) _ T78.out T8.out FE.out FE.out).mono ?_)
         rintro e w9 ⟨rfl, hb9⟩
         have B9 := Lib.hid (box2_next B8.out hb9)
         clear hb9)
      | fail)
    go_wp2_with fail
    go_ret
    exact ⟨rfl, below_box2 B9.out⟩
end Go.Proofs.YtmhmfnjjdcdkcaaDoor.Tr
