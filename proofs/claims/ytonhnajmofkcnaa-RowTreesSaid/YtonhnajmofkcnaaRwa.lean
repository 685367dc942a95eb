/- The laws of rows from the contracts: RowTrees, RowNodes. -/
import Derived.Test.YtonhnajmofkcnaaRwl
import Derived.Deep.RegionHeld3
namespace Go.Proofs.Ytonhnajmofkcnaa.Rw
open Go Go.RowKit
set_option maxRecDepth 20000

set_option maxHeartbeats 1000000 in
theorem few_any (v : Value) (l : List Nd) (w : World) (h : Nds w v l) :
    Calls Try.prog 14 #[v] w fun e w' => e = .returned (.bool (decide (l.length ≤ 250))) ∧ w = w' := by
  obtain ⟨_, a, cap, rfl, -⟩ := h
  go_enter Try.func14, Try.ntmps14
  go_wp2_with fail
  go_ret
  exact ⟨ret_bool (decide_eq_decide.2 (by omega)), rfl⟩

/-- Nodes in memory, below which all is as it was. -/
structure Kp (w0 : World) (v : Value) (l : List Nd) (w : World) : Prop where
  bel : Below w0.heap.size w0 w
  nds : Nds w v l
theorem Kp.start {w : World} {v : Value} {l : List Nd} (h : Nds w v l) : Kp w v l w := ⟨Below.refl _ _, h⟩
theorem Kp.below {w0 w w' : World} {v : Value} {l : List Nd} (h : Kp w0 v l w) (hb : Below w.heap.size w w') : Kp w0 v l w' := ⟨h.bel.trans (hb.mono h.bel.size), h.nds.below hb⟩

set_option maxHeartbeats 4000000 in
theorem trees_law (C : Con) (v : Value) (l : List Nd) (w : World) (hv : Nds w v l) (hm : Nms l) :
    Calls Try.prog 4 #[v] w fun e w' => e = .returned (.bool true) ∧ Below w.heap.size w w' := by
  have I := Lib.hid (Kp.start hv)
  have HM := Lib.hid hm
  obtain ⟨_, a, cap, rfl, -⟩ := hv
  clear hm
  go_enter Try.func4, Try.ntmps4
  go_wp2_with fail
  refine (few_any _ l _ I.out.nds).mono ?_
  rintro e w' ⟨rfl, rfl⟩
  by_cases hf : l.length ≤ 250
  · rw [decide_eq_true hf]
    have z := size_le l
    obtain ⟨s, hs⟩ : ∃ s, size l = s := ⟨_, rfl⟩
    obtain ⟨d, hd⟩ : ∃ d, depth l = d := ⟨_, rfl⟩
    obtain ⟨h, hh⟩ : ∃ h, whole l = h := ⟨_, rfl⟩
    have HS := Lib.hid hs
    have HD := Lib.hid hd
    have HH := Lib.hid hh
    clear hs hd hh z
    go_wp2_with fail
    refine (alive_any C _).mono ?_
    rintro e wn ⟨rfl, hb⟩
    replace I := Lib.hid (I.out.below hb)
    clear hb
    go_wp2_with fail
    refine (C.cSize _ l _ I.out.nds (by omega)).mono ?_
    rw [HS.out]
    rintro e wn ⟨rfl, hb⟩
    replace I := Lib.hid (I.out.below hb)
    clear hb
    go_wp2_with fail
    refine (sizeR_any _ l _ I.out.nds (by omega)).mono ?_
    rw [HS.out]
    rintro e wn ⟨rfl, rfl⟩
    go_wp2_with fail
    refine (C.cDepth _ l _ I.out.nds (by omega)).mono ?_
    rw [HD.out]
    rintro e wn ⟨rfl, hb⟩
    replace I := Lib.hid (I.out.below hb)
    clear hb
    go_wp2_with fail
    refine (depthR_any _ l _ I.out.nds (by omega)).mono ?_
    rw [HD.out]
    rintro e wn ⟨rfl, rfl⟩
    go_wp2_with fail
    refine (C.cWhole _ l _ I.out.nds (by omega) HM.out).mono ?_
    rw [HH.out]
    rintro e wn ⟨rfl, hb⟩
    replace I := Lib.hid (I.out.below hb)
    clear hb
    go_wp2_with fail
    refine (wholeR_any _ l _ I.out.nds (by omega) HM.out).mono ?_
    rw [HH.out]
    rintro e wn ⟨rfl, hb⟩
    replace I := Lib.hid (I.out.below hb)
    clear hb
    go_wp2_with fail
    go_ret
    exact ⟨ret_bool (by simp), I.out.bel⟩
  · rw [decide_eq_false hf]
    go_wp2_with fail
    refine (alive_any C _).mono ?_
    rintro e wn ⟨rfl, hb⟩
    go_wp2_with fail
    go_ret
    exact ⟨rfl, hb⟩

set_option maxHeartbeats 4000000 in
theorem nodes_law (C : Con) (x : Nd) (w : World) :
    Calls Try.prog 3 #[.agg #[.int .i64 x.k, .string x.n, .int .i64 x.s]] w fun e w' => e = .returned (.bool true) ∧ Below w.heap.size w w' := by
  have I : Hid (Kp w (.slice (some ⟨w.heap.size, 0, none⟩) 1 1) [x] (w.alloc (nb x))) := ⟨below1 w _, nds_new w [x] _⟩
  have HC : Hid (∀ w', Kp w (.slice (some ⟨w.heap.size, 0, none⟩) 1 1) [x] w' → w'.cell? ⟨w.heap.size, 0, none⟩ = some (.int .i64 x.k) ∧ w'.cell? ⟨w.heap.size, 1, none⟩ = some (.string x.n) ∧ w'.cell? ⟨w.heap.size, 2, none⟩ = some (.int .i64 x.s)) := by
    intro w' h
    rcases h.nds.form with ⟨h0, _⟩ | ⟨b, o, c, he, _, hat⟩
    · cases h0
    · cases he
      exact hat 0 (Nat.succ_pos _)
  go_enter Try.func3, Try.ntmps3
  by_cases hn : 100 < x.n.size
  · go_wp2_with fail
    refine (alive_any C _).mono ?_
    rintro e wn ⟨rfl, hb⟩
    go_wp2_with fail
    go_ret
    exact ⟨rfl, (I.out.below hb).bel⟩
  · go_wp2_with fail
    obtain ⟨a, ha⟩ : ∃ a, ar x.k = a := ⟨_, rfl⟩
    obtain ⟨r, hr⟩ : ∃ r, rgt x = r := ⟨_, rfl⟩
    have HA := Lib.hid ha
    have HR := Lib.hid hr
    clear ha hr
    replace I := Lib.hid (I.out.below (Below.refl _ _).drew)
    have cc := HC.out _ I.out
    go_region_held3 (fun w' => w'.cell? ⟨w.heap.size, 0, none⟩ = some (.int .i64 x.k) ∧ w'.cell? ⟨w.heap.size, 1, none⟩ = some (.string x.n) ∧ w'.cell? ⟨w.heap.size, 2, none⟩ = some (.int .i64 x.s)) (first | exact cc | exact HC.out _ I.out | fail) (first
      | (go_at_call 9
         (with_reducible refine (alive_any C _).mono ?_)
         rintro e wn ⟨rfl, hbn⟩
         replace I := Lib.hid (I.out.below hbn)
         clear hbn)
      | (go_at_call 10
         (with_reducible refine (C.cAr x.k _).mono ?_)
         rw [HA.out]
         rintro e wn ⟨rfl, hbn⟩
         replace I := Lib.hid (I.out.below hbn)
         clear hbn)
      | (go_at_call 11
         (with_reducible refine (arR_any x.k _).mono ?_)
         rw [HA.out]
         rintro e wn ⟨rfl, rfl⟩)
      | (go_at_call 12
         (with_reducible refine (C.cRight x _ (by omega)).mono ?_)
         rw [HR.out]
         rintro e wn ⟨rfl, hbn⟩
         replace I := Lib.hid (I.out.below hbn)
         clear hbn)
      | (go_at_call 13
         (with_reducible refine (rightR_any x _ (by omega)).mono ?_)
         rw [HR.out]
         rintro e wn ⟨rfl, hbn⟩
         replace I := Lib.hid (I.out.below hbn)
         clear hbn)
      | fail)
    go_wp2_with fail
    go_ret
    exact ⟨ret_bool (by simp), I.out.bel⟩
end Go.Proofs.Ytonhnajmofkcnaa.Rw
