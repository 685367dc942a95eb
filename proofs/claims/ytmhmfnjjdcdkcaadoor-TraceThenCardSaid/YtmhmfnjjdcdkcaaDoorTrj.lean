/- The laws of traces, walked from the contracts: TraceOrder. -/
import Derived.Test.YtmhmfnjjdcdkcaaDoorTri
namespace Go.Proofs.YtmhmfnjjdcdkcaaDoor.Tr
open Go Go.RowKit
set_option maxRecDepth 20000

set_option maxHeartbeats 400000 in
theorem sign_any (c : Int) (w : World) :
    Calls Tryd.prog 13 #[.int .i64 c] w fun e w' => e = .returned (.int .i64 (sgn c)) ∧ w = w' := by
  unfold sgn
  by_cases h1 : c < 0
  · rw [if_pos h1]
    go_enter Tryd.func13, Tryd.ntmps13
    go_wp2_with fail
    all_goals go_ret
    all_goals exact ⟨ret_int (by omega), rfl⟩
  · rw [if_neg h1]
    by_cases h2 : 0 < c
    · rw [if_pos h2]
      go_enter Tryd.func13, Tryd.ntmps13
      go_wp2_with fail
      all_goals go_ret
      all_goals exact ⟨ret_int (by omega), rfl⟩
    · rw [if_neg h2]
      go_enter Tryd.func13, Tryd.ntmps13
      go_wp2_with fail
      all_goals go_ret
      all_goals exact ⟨ret_int (by omega), rfl⟩

/-- What stays so while two boxed traces are looked at. -/
def TwoInv (w : World) (v1 v2 : Value) (p q : Tr) (ty : TypeId) (w' : World) : Prop :=
  Below (w.heap.size + 1 + 1) ((w.alloc (.cells #[v1, .int .i64 p.e] ty)).alloc (.cells #[v2, .int .i64 q.e] ty)) w' ∧ Strs w' v1 p.a ∧ Strs w' v2 q.a ∧ Sg.Tab w'
section
variable {w : World} {v1 v2 : Value} {p q : Tr} {ty : TypeId} {w' w'' : World}
theorem TwoInv.below (h : TwoInv w v1 v2 p q ty w') (hb : Below w'.heap.size w' w'') : TwoInv w v1 v2 p q ty w'' := ⟨box2_next h.1 hb, h.2.1.below hb, h.2.2.1.below hb, Tab.below h.2.2.2 hb⟩
theorem TwoInv.box (h : TwoInv w v1 v2 p q ty w') : Below (w.heap.size + 1 + 1) ((w.alloc (.cells #[v1, .int .i64 p.e] ty)).alloc (.cells #[v2, .int .i64 q.e] ty)) w' := h.1
theorem TwoInv.sa (h : TwoInv w v1 v2 p q ty w') : Strs w' v1 p.a := h.2.1
theorem TwoInv.sb (h : TwoInv w v1 v2 p q ty w') : Strs w' v2 q.a := h.2.2.1
theorem TwoInv.tab (h : TwoInv w v1 v2 p q ty w') : Sg.Tab w' := h.2.2.2
theorem TwoInv.start (h : Sg.Tab w) (h1 : Strs w v1 p.a) (h2 : Strs w v2 q.a) (ty : TypeId) : TwoInv w v1 v2 p q ty ((w.alloc (.cells #[v1, .int .i64 p.e] ty)).alloc (.cells #[v2, .int .i64 q.e] ty)) :=
  ⟨Below.refl _ _, h1.below (below2 _ _ _), h2.below (below2 _ _ _), Tab.below h (below2 _ _ _)⟩
end
theorem TwoInv.cells {w : World} {v1 v2 : Value} {p q : Tr} {ty : TypeId} {w' : World} (h : TwoInv w v1 v2 p q ty w') :
    w'.cell? ⟨w.heap.size, 0, none⟩ = some v1 ∧ w'.cell? ⟨w.heap.size, 1, none⟩ = some (.int .i64 p.e) ∧ w'.cell? ⟨w.heap.size + 1, 0, none⟩ = some v2 ∧ w'.cell? ⟨w.heap.size + 1, 1, none⟩ = some (.int .i64 q.e) := keep_box2 h.box
theorem few2 {p q : Tr} (h : fewB [p, q] = true) : p.a.length + q.a.length ≤ 1000 := by have := (few_of h).2; simpa [acts] using this

set_option maxHeartbeats 8000000 in
theorem order_law (C : Con) (v1 v2 : Value) (p q : Tr) (w : World) (h : Sg.Tab w) (hv1 : Strs w v1 p.a) (hv2 : Strs w v2 q.a) (r1 : p.a.length ≤ 1125899906842624) (r2 : q.a.length ≤ 1125899906842624) :
    Calls Tryd.prog 3 #[.agg #[v1, .int .i64 p.e], .agg #[v2, .int .i64 q.e]] w fun e w' => e = .returned (.bool true) ∧ Below w.heap.size w w' := by
  have I := Lib.hid (TwoInv.start h hv1 hv2 24)
  obtain ⟨_, a1, c1, rfl, -⟩ := hv1
  obtain ⟨_, a2, c2, rfl, -⟩ := hv2
  go_enter Tryd.func3, Tryd.ntmps3
  go_wp2_with fail
  refine (few_any _ [p, q] _ (new2 _ (by simp) I.out.sa I.out.sb _) (by simp [maxLen]) (by simp; omega)).mono ?_
  rintro e w1 ⟨rfl, hb1⟩
  replace I := Lib.hid ((I.out.below (Below.one _ _)).below hb1)
  clear hb1
  cases hf : fewB [p, q] with
  | false =>
    go_wp2_with fail
    refine (alive_any C _ I.out.tab).mono ?_
    rintro e w2 ⟨rfl, hb2⟩
    replace I := Lib.hid (I.out.below hb2)
    clear hb2
    go_wp2_with fail
    go_ret
    exact ⟨rfl, below_box2 I.out.box⟩
  | true =>
    have hl := few2 hf
    clear hf
    have kk := I.out.cells
    replace I := Lib.hid (I.out.below (Below.dr _))
    go_wp2_with fail
    go_region_held3 (fun w' => w'.cell? ⟨w.heap.size, 0, none⟩ = some (.slice a1 p.a.length c1) ∧ w'.cell? ⟨w.heap.size, 1, none⟩ = some (.int .i64 p.e) ∧ w'.cell? ⟨w.heap.size + 1, 0, none⟩ = some (.slice a2 q.a.length c2) ∧ w'.cell? ⟨w.heap.size + 1, 1, none⟩ = some (.int .i64 q.e)) (first | exact kk | exact I.out.cells | fail) (first
      | (go_at_call 14
         (with_reducible refine (C.cCmp (.slice a1 p.a.length c1) (.slice a2 q.a.length c2) p q _ I.out.tab I.out.sa I.out.sb (by omega) (by omega)).mono ?_)
         rintro e w2 ⟨x, rfl, x1, x2, hx, hb2⟩
         replace I := Lib.hid (I.out.below hb2)
         have HX := Lib.hid hx
         clear hb2 hx)
      | (go_at_call 14
         (with_reducible refine (C.cCmp (.slice a2 q.a.length c2) (.slice a1 p.a.length c1) q p _ I.out.tab I.out.sb I.out.sa (by omega) (by omega)).mono ?_)
         rintro e w3 ⟨y, rfl, y1, y2, hy, hb3⟩
         replace I := Lib.hid (I.out.below hb3)
         have HY := Lib.hid hy
         clear hb3 hy)
      | fail)
    have hbd := cmp_bd p q
    have han := Lib.hid (cmp_anti p q)
    obtain ⟨c, hc⟩ : ∃ c, cmp p q = c := ⟨_, rfl⟩
    rw [hc] at hbd
    have HC := Lib.hid hc
    clear hc kk
    have kk := I.out.cells
    replace I := Lib.hid (I.out.below (Below.dr _))
    have sx : Hid (sgn x = c) := HX.out.trans HC.out
    have sy : Hid (sgn y = - c) := by have := HY.out; rw [han.out, HC.out] at this; exact this
    go_wp2_with fail
    go_region_held3 (fun w' => w'.cell? ⟨w.heap.size, 0, none⟩ = some (.slice a1 p.a.length c1) ∧ w'.cell? ⟨w.heap.size, 1, none⟩ = some (.int .i64 p.e) ∧ w'.cell? ⟨w.heap.size + 1, 0, none⟩ = some (.slice a2 q.a.length c2) ∧ w'.cell? ⟨w.heap.size + 1, 1, none⟩ = some (.int .i64 q.e)) (first | exact kk | exact I.out.cells | fail) (first
      | (go_at_call 12
         (with_reducible refine (alive_any C _ I.out.tab).mono ?_)
         rintro e wn ⟨rfl, hbn⟩
         replace I := Lib.hid (I.out.below hbn)
         clear hbn)
      | (go_at_call 13
         (with_reducible refine (sign_any x _).mono ?_)
         rw [sx.out]
         rintro e wn ⟨rfl, rfl⟩)
      | (go_at_call 13
         (with_reducible refine (sign_any y _).mono ?_)
         rw [sy.out]
         rintro e wn ⟨rfl, rfl⟩)
      | (go_at_call 15
         (with_reducible refine (cmp_any (.slice a1 p.a.length c1) (.slice a2 q.a.length c2) p q _ I.out.sa I.out.sb (by omega) (by omega)).mono ?_)
         rw [HC.out]
         rintro e wn ⟨rfl, hbn⟩
         replace I := Lib.hid (I.out.below hbn)
         clear hbn)
      | fail)
    go_wp2_with fail
    go_ret
    exact ⟨ret_bool (by simp; exact (IntWalk.i64_in _ (by omega)).symm), below_box2 I.out.box⟩
end Go.Proofs.YtmhmfnjjdcdkcaaDoor.Tr
