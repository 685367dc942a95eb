/- The laws of traces, walked from the contracts: TraceUnits. -/
import Derived.Test.YtmhmfnjjdcdkcaaDoorTrj
import Derived.Deep.DeepCutAuto
namespace Go.Proofs.YtmhmfnjjdcdkcaaDoor.Tr
open Go Go.RowKit
set_option maxRecDepth 20000

/-- One that does nothing, and a copy of the first trace, boxed somewhere. -/
def UInv (w : World) (v1 v2 : Value) (p q : Tr) (ty : TypeId) (b5 b6 : Nat) (w' : World) : Prop :=
  TwoInv w v1 v2 p q ty w' ∧ w'.cell? ⟨b5, 0, none⟩ = some (.slice none 0 0) ∧ w'.cell? ⟨b5, 1, none⟩ = some (.int .i64 1) ∧ w'.cell? ⟨b6, 0, none⟩ = some v1 ∧ w'.cell? ⟨b6, 1, none⟩ = some (.int .i64 p.e)
section
variable {w : World} {x1 x2 : Value} {p q : Tr} {ty : TypeId} {b5 b6 : Nat} {w' w'' : World}
theorem UInv.below (h : UInv w x1 x2 p q ty b5 b6 w') (hb : Below w'.heap.size w' w'') : UInv w x1 x2 p q ty b5 b6 w'' := by
  obtain ⟨h0, h1, h2, h3, h4⟩ := h
  refine ⟨h0.below hb, ?_, ?_, ?_, ?_⟩
  · rw [hb.cell (Ap.cell_lt h1)]; exact h1
  · rw [hb.cell (Ap.cell_lt h2)]; exact h2
  · rw [hb.cell (Ap.cell_lt h3)]; exact h3
  · rw [hb.cell (Ap.cell_lt h4)]; exact h4
theorem UInv.box (h : UInv w x1 x2 p q ty b5 b6 w') : Below w.heap.size w w' := below_box2 h.1.box
theorem UInv.sa (h : UInv w x1 x2 p q ty b5 b6 w') : Strs w' x1 p.a := h.1.sa
theorem UInv.sb (h : UInv w x1 x2 p q ty b5 b6 w') : Strs w' x2 q.a := h.1.sb
theorem UInv.tab (h : UInv w x1 x2 p q ty b5 b6 w') : Sg.Tab w' := h.1.tab
theorem UInv.cells (h : UInv w x1 x2 p q ty b5 b6 w') : w'.cell? ⟨w.heap.size, 1, none⟩ = some (.int .i64 p.e) ∧ w'.cell? ⟨w.heap.size + 1, 0, none⟩ = some x2 ∧ w'.cell? ⟨w.heap.size + 1, 1, none⟩ = some (.int .i64 q.e) ∧ w'.cell? ⟨b5, 0, none⟩ = some (.slice none 0 0) ∧ w'.cell? ⟨b5, 1, none⟩ = some (.int .i64 1) ∧ w'.cell? ⟨b6, 0, none⟩ = some x1 ∧ w'.cell? ⟨b6, 1, none⟩ = some (.int .i64 p.e) :=
  ⟨h.1.cells.2.1, h.1.cells.2.2.1, h.1.cells.2.2.2, h.2⟩
end
theorem uinv_a {w w1 : World} {x1 x2 : Value} {p q : Tr} {ty t1 t2 : TypeId} (I : TwoInv w x1 x2 p q ty w1) : UInv w x1 x2 p q ty w1.heap.size (w1.heap.size + 1) ((w1.alloc (.cells #[.slice none 0 0, .int .i64 1] t1)).alloc (.cells #[x1, .int .i64 p.e] t2)).drew :=
  ⟨I.below (below2 _ _ _).drew, by simp [go_sem], by simp [go_sem], by simp [go_sem], by simp [go_sem]⟩
theorem uinv_b {w w1 : World} {x1 x2 : Value} {p q : Tr} {ty t1 t2 : TypeId} (I : TwoInv w x1 x2 p q ty w1) : UInv w x1 x2 p q ty (w1.heap.size + 1) w1.heap.size ((w1.alloc (.cells #[x1, .int .i64 p.e] t2)).alloc (.cells #[.slice none 0 0, .int .i64 1] t1)).drew :=
  ⟨I.below (below2 _ _ _).drew, by simp [go_sem], by simp [go_sem], by simp [go_sem], by simp [go_sem]⟩
theorem strs_none (w : World) : Strs w (.slice none 0 0) [] := ⟨rfl, none, 0, rfl, Nat.le_refl _, fun _ => ⟨rfl, rfl⟩, fun h => absurd h (by simp)⟩
abbrev one : Tr := ⟨[], 1⟩
theorem pr_one (p : Tr) : pr p one = [⟨p.a, Sg.both p.e 1⟩] := by
  unfold pr
  cases h : p.a with
  | nil => simp [mx_nil, norm, ins]
  | cons x a => simp [mx_nil_r, norm, ins]
theorem thn_one_l (p : Tr) : thn one p = p := by simp [thn]
theorem thn_one_r (p : Tr) : thn p one = p := by
  unfold thn
  split
  · rename_i h
    cases p
    simp at h ⊢
    exact h.symm
  · rfl
theorem thn_other {p q : Tr} (h : ¬ p.e = 1) : thn p q = p := by simp [thn, h]
theorem sgn_zero {c : Int} {p : Tr} (h : sgn c = cmp p p) : c = 0 := by
  rw [cmp_self] at h
  unfold sgn at h
  split at h
  · omega
  · split at h <;> omega

set_option maxHeartbeats 8000000 in
theorem units_law (C : Con) (v1 v2 : Value) (p q : Tr) (w : World) (h : Sg.Tab w) (hv1 : Strs w v1 p.a) (hv2 : Strs w v2 q.a) (r1 : p.a.length ≤ 1125899906842624) (r2 : q.a.length ≤ 1125899906842624) :
    Calls Tryd.prog 10 #[.agg #[v1, .int .i64 p.e], .agg #[v2, .int .i64 q.e]] w fun e w' => e = .returned (.bool true) ∧ Below w.heap.size w w' := by
  have I := Lib.hid (TwoInv.start h hv1 hv2 24)
  obtain ⟨_, a1, c1, rfl, -⟩ := hv1
  obtain ⟨_, a2, c2, rfl, -⟩ := hv2
  go_enter Tryd.func10, Tryd.ntmps10
  go_wp2_with fail
  refine (few_any _ [p, q] _ (new2 _ (by simp) I.out.sa I.out.sb _) (by simp [maxLen]) (by simp; omega)).mono ?_
  rintro e w1 ⟨rfl, hb1⟩
  replace I := Lib.hid ((I.out.below (Below.one _ _)).below hb1)
  clear hb1
  cases hf : fewB [p, q] with
  | false =>
    go_wp2_with fail
    refine (alive_any C _ I.out.tab).mono ?_
    rintro e w2 ⟨rfl, hb2⟩
    replace I := Lib.hid (I.out.below hb2)
    clear hb2
    go_wp2_with fail
    go_ret
    exact ⟨rfl, below_box2 I.out.box⟩
  | true =>
    have hl := few2 hf
    clear hf
    obtain ⟨k1, k2, k3, k4⟩ := I.out.cells
    by_cases h9 : 9 < p.a.length
    · have g9 : decide (9 < p.a.length) = true := by simpa using h9
      go_wp2_with fail
      refine (alive_any C _ I.out.tab).mono ?_
      rintro e w2 ⟨rfl, hb2⟩
      replace I := Lib.hid (I.out.below hb2)
      clear hb2
      go_wp2_with fail
      go_ret
      exact ⟨rfl, below_box2 I.out.box⟩
    · have g9 : decide (9 < p.a.length) = false := by simpa using h9
      have lt1 : w.heap.size < w1.heap.size := Ap.cell_lt k1
      have lt2 : w.heap.size < w1.heap.size + 1 := by omega
      go_upto_region 3 with fail
      go_cut [5, 6] (fun s5 s6 wx => ∃ b5 b6 : Nat, s5 = .pointer (some ⟨b5, 0, none⟩) ∧ s6 = .pointer (some ⟨b6, 0, none⟩) ∧ UInv w (.slice a1 p.a.length c1) (.slice a2 q.a.length c2) p q 24 b5 b6 wx)
      case first =>
        go_region
        all_goals go_wp2_with fail
        all_goals go_meet
        all_goals first | exact ⟨_, _, rfl, rfl, uinv_a I.out⟩ | exact ⟨_, _, rfl, rfl, uinv_b I.out⟩
      case rest =>
        obtain ⟨b5, b6, rfl, rfl, hu⟩ := hcut
        have U := Lib.hid hu
        clear hu k1 k2 k3 k4 lt1 lt2 I
        obtain ⟨e1, e2, e3, e4, e5, e6, e7⟩ := U.out.cells
        go_wp2_with fail
        refine (C.cPar _ _ p one _ U.out.tab U.out.sa (strs_none _) (by simp; omega)).mono ?_
        rintro e w2 ⟨l, rfl, hl2, hb2⟩
        rw [pr_one] at hl2
        replace U := Lib.hid (U.out.below hb2)
        clear hb2 e1 e2 e3 e4 e5 e6 e7
        rcases hl2.form with ⟨hnil, _⟩ | ⟨bl, ol, cl, rfl, hc⟩
        · cases hnil
        obtain ⟨al, f1, f2, hal⟩ := hc 0 (by simp)
        simp only [Nat.mul_zero, Nat.add_zero, List.getElem_cons_zero, List.length_cons, List.length_nil, Nat.zero_add] at f1 f2 hal ⊢
        have AL := Lib.hid hal
        clear hc hal hl2
        have cc := U.out.cells
        obtain ⟨e1, e2, e3, e4, e5, e6, e7⟩ := U.out.cells
        go_upto_region 5 with fail
        go_cut [8] (fun s8 wx => s8 = .bool true ∧ UInv w (.slice a1 p.a.length c1) (.slice a2 q.a.length c2) p q 24 b5 b6 wx)
        case first =>
          by_cases q1 : p.e < 1
          · have g1 : decide (p.e < 1) = true := by simpa using q1
            go_quiet (fail)
            go_wp2_with fail
            go_meet
            exact ⟨rfl, U.out.below (Below.drewN _ _ _)⟩
          · have g1 : decide (p.e < 1) = false := by simpa using q1
            by_cases q2 : 3 < p.e
            · have g2 : decide (3 < p.e) = true := by simpa using q2
              go_quiet (fail)
              go_wp2_with fail
              go_meet
              exact ⟨rfl, U.out.below (Below.drewN _ _ _)⟩
            · have g2 : decide (3 < p.e) = false := by simpa using q2
              have hbo : Sg.both p.e 1 = p.e := Sg.both_one (by rcases (show p.e = 1 ∨ p.e = 2 ∨ p.e = 3 by omega) with h | h | h <;> rw [h] <;> rfl)
              rw [hbo] at f2
              clear hbo
              have AL' := Lib.hid (AL.out.below (Below.dr _))
              replace U := Lib.hid (U.out.below (Below.dr _))
              go_region_held3 (fun w' => (w'.cell? ⟨bl, ol, none⟩ = some al ∧ w'.cell? ⟨bl, ol + 1, none⟩ = some (.int .i64 p.e)) ∧ w'.cell? ⟨w.heap.size, 1, none⟩ = some (.int .i64 p.e) ∧ w'.cell? ⟨w.heap.size + 1, 0, none⟩ = some (.slice a2 q.a.length c2) ∧ w'.cell? ⟨w.heap.size + 1, 1, none⟩ = some (.int .i64 q.e) ∧ w'.cell? ⟨b5, 0, none⟩ = some (.slice none 0 0) ∧ w'.cell? ⟨b5, 1, none⟩ = some (.int .i64 1) ∧ w'.cell? ⟨b6, 0, none⟩ = some (.slice a1 p.a.length c1) ∧ w'.cell? ⟨b6, 1, none⟩ = some (.int .i64 p.e)) (first | exact ⟨⟨f1, f2⟩, cc⟩ | exact ⟨⟨n1, n2⟩, U.out.cells⟩ | fail) (first
                | (go_at_call 14
                   (with_reducible refine (C.cCmp al (.slice a1 p.a.length c1) p p _ U.out.tab AL'.out U.out.sa (by omega) (by omega)).mono ?_)
                   rintro e wn ⟨y, rfl, _, _, hy, hbn⟩
                   obtain rfl := sgn_zero hy
                   have n1 : wn.cell? ⟨bl, ol, none⟩ = some al := by rw [hbn.cell (Ap.cell_lt f1)]; exact f1
                   have n2 : wn.cell? ⟨bl, ol + 1, none⟩ = some (.int .i64 p.e) := by rw [hbn.cell (Ap.cell_lt f2)]; exact f2
                   replace U := Lib.hid (U.out.below hbn)
                   clear hbn hy)
                | fail)
              go_wp2_with fail
              go_meet
              exact ⟨rfl, U.out⟩
        case rest =>
          obtain ⟨rfl, hu⟩ := hcut
          replace U := Lib.hid hu
          clear hu e1 e2 e3 e4 e5 e6 e7 cc f1 f2 AL
          have cc := U.out.cells
          replace U := Lib.hid (U.out.below (Below.dr _))
          by_cases qe : p.e = 1
          · have ge : (p.e == 1) = true := by rw [beq_iff_eq]; exact qe
            have QE := Lib.hid qe
            clear qe
            go_wp2_with fail
            refine wp_region_noPanic ?_
            refine wp_region_held_drew (S := (fun w' => w'.cell? ⟨w.heap.size, 1, none⟩ = some (.int .i64 p.e) ∧ w'.cell? ⟨w.heap.size + 1, 0, none⟩ = some (.slice a2 q.a.length c2) ∧ w'.cell? ⟨w.heap.size + 1, 1, none⟩ = some (.int .i64 q.e) ∧ w'.cell? ⟨b5, 0, none⟩ = some (.slice none 0 0) ∧ w'.cell? ⟨b5, 1, none⟩ = some (.int .i64 1) ∧ w'.cell? ⟨b6, 0, none⟩ = some (.slice a1 p.a.length c1) ∧ w'.cell? ⟨b6, 1, none⟩ = some (.int .i64 p.e))) (by kernel_rfl) ?_ (fun hHeld => ?_)
            · first | exact cc | exact U.out.cells | fail
            refine wpAnyH_ready (rs := [0]) (by kernel_rfl) (by simp) ?_
            refine AllReadyH.cons (o := { dst := some 47, op := _, type := _, pos := _, after := _, guard := _ }) rfl (fun K hK => ?_) AllReadyH.nil
            go_simp
            go_at_call 12
            (with_reducible refine (alive_any C _ U.out.tab).mono ?_)
            rintro e wn ⟨rfl, hbn⟩
            replace U := Lib.hid (U.out.below hbn)
            clear hbn
            try go_wp2_with fail
            refine hK.out _ _ ?_ (fun hHeld => ?_)
            · first | exact cc | exact U.out.cells | fail
            clear hK K
            try simp only [Act.put, List.setIfInBounds_toArray, List.set_cons_zero, List.set_cons_succ]
            refine wpAnyH_take (i := 1) (oi := { dst := some 48, op := _, type := _, pos := _, after := _, guard := _ }) (v := ?vv1) rfl (by kernel_rfl) (by kernel_rfl) (by kernel_rfl) (fun _ _ _ h => h) (Or.inl ⟨by rfl, ?yy1⟩) (by assumption) ?rr1
            case yy1 => (intro w hSw; (try dsimp only at hSw); go_simp; try with_reducible rfl)
            try simp only [Act.put, List.setIfInBounds_toArray, List.set_cons_zero, List.set_cons_succ]
            refine wpAnyH_take (i := 2) (oi := { dst := some 49, op := _, type := _, pos := _, after := _, guard := _ }) (v := ?vv2) rfl (by kernel_rfl) (by kernel_rfl) (by kernel_rfl) (fun _ _ _ h => h) (Or.inl ⟨by rfl, ?yy2⟩) (by assumption) ?rr2
            case yy2 => (intro w hSw; (try dsimp only at hSw); go_simp; try with_reducible rfl)
            try simp only [Act.put, List.setIfInBounds_toArray, List.set_cons_zero, List.set_cons_succ]
            refine wpAnyH_take (i := 3) (oi := { dst := some 50, op := _, type := _, pos := _, after := _, guard := _ }) (v := ?vv3) rfl (by kernel_rfl) (by kernel_rfl) (by kernel_rfl) (fun _ _ _ h => h) (Or.inl ⟨by rfl, ?yy3⟩) (by assumption) ?rr3
            case yy3 => (intro w hSw; (try dsimp only at hSw); go_simp; try with_reducible rfl)
            try simp only [Act.put, List.setIfInBounds_toArray, List.set_cons_zero, List.set_cons_succ]
            refine wpAnyH_take (i := 5) (oi := { dst := some 52, op := _, type := _, pos := _, after := _, guard := _ }) (v := ?vv5) rfl (by kernel_rfl) (by kernel_rfl) (by kernel_rfl) (fun _ _ _ h => h) (Or.inl ⟨by rfl, ?yy5⟩) (by assumption) ?rr5
            case yy5 => (intro w hSw; (try dsimp only at hSw); go_simp; try with_reducible rfl)
            try simp only [Act.put, List.setIfInBounds_toArray, List.set_cons_zero, List.set_cons_succ]
            refine wpAnyH_ready (rs := [4]) (by kernel_rfl) (by simp) ?_
            refine AllReadyH.cons (o := { dst := some 51, op := _, type := _, pos := _, after := _, guard := _ }) rfl (fun K hK => ?_) AllReadyH.nil
            go_simp
            go_at_call 25
            (with_reducible refine (C.cThn (.slice none 0 0) (.slice a1 p.a.length c1) one p _ U.out.tab (strs_none _) U.out.sa (by simp; omega)).mono ?_)
            rw [thn_one_l]
            rintro e wn ⟨t1, rfl, hm, hbn⟩
            replace U := Lib.hid (U.out.below hbn)
            have M1 := Lib.hid hm.strs
            clear hbn hm
            try go_wp2_with fail
            refine hK.out _ _ ?_ (fun hHeld => ?_)
            · first | exact cc | exact U.out.cells | fail
            clear hK K
            try simp only [Act.put, List.setIfInBounds_toArray, List.set_cons_zero, List.set_cons_succ]
            refine wpAnyH_ready (rs := [6]) (by kernel_rfl) (by simp) ?_
            refine AllReadyH.cons (o := { dst := some 53, op := _, type := _, pos := _, after := _, guard := _ }) rfl (fun K hK => ?_) AllReadyH.nil
            go_simp
            go_at_call 14
            (with_reducible refine (C.cCmp t1 (.slice a1 p.a.length c1) p p _ U.out.tab M1.out U.out.sa (by omega) (by omega)).mono ?_)
            rintro e wn ⟨y1, rfl, _, _, hy, hbn⟩
            obtain rfl := sgn_zero hy
            replace U := Lib.hid (U.out.below hbn)
            clear hbn hy
            try go_wp2_with fail
            refine hK.out _ _ ?_ (fun hHeld => ?_)
            · first | exact cc | exact U.out.cells | fail
            clear hK K
            try simp only [Act.put, List.setIfInBounds_toArray, List.set_cons_zero, List.set_cons_succ]
            refine wpAnyH_take (i := 7) (oi := { dst := some 54, op := _, type := _, pos := _, after := _, guard := _ }) (v := ?vv7) rfl (by kernel_rfl) (by kernel_rfl) (by kernel_rfl) (fun _ _ _ h => h) (Or.inl ⟨by rfl, ?yy7⟩) (by assumption) ?rr7
            case yy7 => (intro w hSw; (try dsimp only at hSw); go_simp; try with_reducible rfl)
            try simp only [Act.put, List.setIfInBounds_toArray, List.set_cons_zero, List.set_cons_succ]
            refine wpAnyH_take (i := 8) (oi := { dst := some 55, op := _, type := _, pos := _, after := _, guard := _ }) (v := ?vv8) rfl (by kernel_rfl) (by kernel_rfl) (by kernel_rfl) (fun _ _ _ h => h) (Or.inl ⟨by rfl, ?yy8⟩) (by assumption) ?rr8
            case yy8 => (intro w hSw; (try dsimp only at hSw); go_simp; try with_reducible rfl)
            try simp only [Act.put, List.setIfInBounds_toArray, List.set_cons_zero, List.set_cons_succ]
            refine wpAnyH_take (i := 9) (oi := { dst := some 56, op := _, type := _, pos := _, after := _, guard := _ }) (v := ?vv9) rfl (by kernel_rfl) (by kernel_rfl) (by kernel_rfl) (fun _ _ _ h => h) (Or.inl ⟨by rfl, ?yy9⟩) (by assumption) ?rr9
            case yy9 => (intro w hSw; (try dsimp only at hSw); go_simp; try with_reducible rfl)
            try simp only [Act.put, List.setIfInBounds_toArray, List.set_cons_zero, List.set_cons_succ]
            refine wpAnyH_take (i := 10) (oi := { dst := some 57, op := _, type := _, pos := _, after := _, guard := _ }) (v := ?vv10) rfl (by kernel_rfl) (by kernel_rfl) (by kernel_rfl) (fun _ _ _ h => h) (Or.inl ⟨by rfl, ?yy10⟩) (by assumption) ?rr10
            case yy10 => (intro w hSw; (try dsimp only at hSw); go_simp; try with_reducible rfl)
            try simp only [Act.put, List.setIfInBounds_toArray, List.set_cons_zero, List.set_cons_succ]
            refine wpAnyH_take (i := 11) (oi := { dst := some 58, op := _, type := _, pos := _, after := _, guard := _ }) (v := ?vv11) rfl (by kernel_rfl) (by kernel_rfl) (by kernel_rfl) (fun _ _ _ h => h) (Or.inl ⟨by rfl, ?yy11⟩) (by assumption) ?rr11
            case yy11 => (intro w hSw; (try dsimp only at hSw); go_simp; try with_reducible rfl)
            try simp only [Act.put, List.setIfInBounds_toArray, List.set_cons_zero, List.set_cons_succ]
            refine wpAnyH_take (i := 13) (oi := { dst := some 60, op := _, type := _, pos := _, after := _, guard := _ }) (v := ?vv13) rfl (by kernel_rfl) (by kernel_rfl) (by kernel_rfl) (fun _ _ _ h => h) (Or.inl ⟨by rfl, ?yy13⟩) (by assumption) ?rr13
            case yy13 => (intro w hSw; (try dsimp only at hSw); go_simp; try with_reducible rfl)
            try simp only [Act.put, List.setIfInBounds_toArray, List.set_cons_zero, List.set_cons_succ]
            refine wpAnyH_ready (rs := [12]) (by kernel_rfl) (by simp) ?_
            refine AllReadyH.cons (o := { dst := some 59, op := _, type := _, pos := _, after := _, guard := _ }) rfl (fun K hK => ?_) AllReadyH.nil
            go_simp
            go_at_call 25
            (with_reducible refine (C.cThn (.slice a1 p.a.length c1) (.slice none 0 0) p one _ U.out.tab U.out.sa (strs_none _) (by simp; omega)).mono ?_)
            rw [thn_one_r]
            rintro e wn ⟨t2, rfl, hm, hbn⟩
            replace U := Lib.hid (U.out.below hbn)
            have M2 := Lib.hid hm.strs
            clear hbn hm
            try go_wp2_with fail
            refine hK.out _ _ ?_ (fun hHeld => ?_)
            · first | exact cc | exact U.out.cells | fail
            clear hK K
            try simp only [Act.put, List.setIfInBounds_toArray, List.set_cons_zero, List.set_cons_succ]
            refine wpAnyH_ready (rs := [14]) (by kernel_rfl) (by simp) ?_
            refine AllReadyH.cons (o := { dst := some 61, op := _, type := _, pos := _, after := _, guard := _ }) rfl (fun K hK => ?_) AllReadyH.nil
            go_simp
            go_at_call 14
            (with_reducible refine (C.cCmp t2 (.slice a1 p.a.length c1) p p _ U.out.tab M2.out U.out.sa (by omega) (by omega)).mono ?_)
            rintro e wn ⟨y2, rfl, _, _, hy, hbn⟩
            obtain rfl := sgn_zero hy
            replace U := Lib.hid (U.out.below hbn)
            clear hbn hy
            try go_wp2_with fail
            refine hK.out _ _ ?_ (fun hHeld => ?_)
            · first | exact cc | exact U.out.cells | fail
            clear hK K
            try simp only [Act.put, List.setIfInBounds_toArray, List.set_cons_zero, List.set_cons_succ]
            refine wpAnyH_take (i := 15) (oi := { dst := some 62, op := _, type := _, pos := _, after := _, guard := _ }) (v := ?vv15) rfl (by kernel_rfl) (by kernel_rfl) (by kernel_rfl) (fun _ _ _ h => h) (Or.inl ⟨by rfl, ?yy15⟩) (by assumption) ?rr15
            case yy15 => (intro w hSw; (try dsimp only at hSw); go_simp; try with_reducible rfl)
            try simp only [Act.put, List.setIfInBounds_toArray, List.set_cons_zero, List.set_cons_succ]
            refine wpAnyH_take (i := 16) (oi := { dst := some 63, op := _, type := _, pos := _, after := _, guard := _ }) (v := ?vv16) rfl (by kernel_rfl) (by kernel_rfl) (by kernel_rfl) (fun _ _ _ h => h) (Or.inl ⟨by rfl, ?yy16⟩) (by assumption) ?rr16
            case yy16 => (intro w hSw; (try dsimp only at hSw); go_simp; try with_reducible rfl)
            try simp only [Act.put, List.setIfInBounds_toArray, List.set_cons_zero, List.set_cons_succ]
            refine wpAnyH_take (i := 17) (oi := { dst := some 64, op := _, type := _, pos := _, after := _, guard := _ }) (v := ?vv17) rfl (by kernel_rfl) (by kernel_rfl) (by kernel_rfl) (fun _ _ _ h => h) (Or.inl ⟨by rfl, ?yy17⟩) (by assumption) ?rr17
            case yy17 => (intro w hSw; (try dsimp only at hSw); go_simp; try with_reducible rfl)
            try simp only [Act.put, List.setIfInBounds_toArray, List.set_cons_zero, List.set_cons_succ]
            refine wpAnyH_take (i := 18) (oi := { dst := some 65, op := _, type := _, pos := _, after := _, guard := _ }) (v := ?vv18) rfl (by kernel_rfl) (by kernel_rfl) (by kernel_rfl) (fun _ _ _ h => h) (Or.inl ⟨by rfl, ?yy18⟩) (by assumption) ?rr18
            case yy18 => (intro w hSw; (try dsimp only at hSw); go_simp; try with_reducible rfl)
            try simp only [Act.put, List.setIfInBounds_toArray, List.set_cons_zero, List.set_cons_succ]
            refine wpAnyH_take (i := 19) (oi := { dst := some 66, op := _, type := _, pos := _, after := _, guard := _ }) (v := ?vv19) rfl (by kernel_rfl) (by kernel_rfl) (by kernel_rfl) (fun _ _ _ h => h) (Or.inl ⟨by rfl, ?yy19⟩) (by assumption) ?rr19
            case yy19 => (intro w hSw; (try dsimp only at hSw); go_simp; try with_reducible rfl)
            try simp only [Act.put, List.setIfInBounds_toArray, List.set_cons_zero, List.set_cons_succ]
            refine wpAnyH_take (i := 20) (oi := { dst := some 67, op := _, type := _, pos := _, after := _, guard := _ }) (v := ?vv20) rfl (by kernel_rfl) (by kernel_rfl) (by kernel_rfl) (fun _ _ _ h => h) (Or.inl ⟨by rfl, ?yy20⟩) (by assumption) ?rr20
            case yy20 => (intro w hSw; (try dsimp only at hSw); go_simp; try with_reducible rfl)
            try simp only [Act.put, List.setIfInBounds_toArray, List.set_cons_zero, List.set_cons_succ]
            refine wpAnyH_take (i := 21) (oi := { dst := some 68, op := _, type := _, pos := _, after := _, guard := _ }) (v := ?vv21) rfl (by kernel_rfl) (by kernel_rfl) (by kernel_rfl) (fun _ _ _ h => h) (Or.inl ⟨by rfl, ?yy21⟩) (by assumption) ?rr21
            case yy21 => (intro w hSw; (try dsimp only at hSw); go_simp; try with_reducible rfl)
            try simp only [Act.put, List.setIfInBounds_toArray, List.set_cons_zero, List.set_cons_succ]
            refine wpAnyH_take (i := 22) (oi := { dst := some 69, op := _, type := _, pos := _, after := _, guard := _ }) (v := ?vv22) rfl (by kernel_rfl) (by kernel_rfl) (by kernel_rfl) (fun _ _ _ h => h) (Or.inl ⟨by rfl, ?yy22⟩) (by assumption) ?rr22
            case yy22 => (intro w hSw; (try dsimp only at hSw); go_simp; try with_reducible rfl)
            try simp only [Act.put, List.setIfInBounds_toArray, List.set_cons_zero, List.set_cons_succ]
            refine wpAnyH_take (i := 23) (oi := { dst := some 70, op := _, type := _, pos := _, after := _, guard := _ }) (v := ?vv23) rfl (by kernel_rfl) (by kernel_rfl) (by kernel_rfl) (fun _ _ _ h => h) (Or.inl ⟨by rfl, ?yy23⟩) (by assumption) ?rr23
            case yy23 => (intro w hSw; (try dsimp only at hSw); go_simp; try with_reducible rfl)
            try simp only [Act.put, List.setIfInBounds_toArray, List.set_cons_zero, List.set_cons_succ]
            refine wpAnyH_take (i := 24) (oi := { dst := some 71, op := _, type := _, pos := _, after := _, guard := _ }) (v := ?vv24) rfl (by kernel_rfl) (by kernel_rfl) (by kernel_rfl) (fun _ _ _ h => h) (Or.inl ⟨by rfl, ?yy24⟩) (by assumption) ?rr24
            case yy24 => (intro w hSw; (try dsimp only at hSw); go_simp; try with_reducible rfl)
            try simp only [Act.put, List.setIfInBounds_toArray, List.set_cons_zero, List.set_cons_succ]
            refine wpAnyH_take (i := 25) (oi := { dst := some 72, op := _, type := _, pos := _, after := _, guard := _ }) (v := undef) rfl (by kernel_rfl) (by kernel_rfl) (by kernel_rfl) (fun _ _ _ h => h) (Or.inr ⟨by rfl, rfl⟩) (by assumption) ?_
            try simp only [Act.put, List.setIfInBounds_toArray, List.set_cons_zero, List.set_cons_succ]
            refine wpAnyH_take (i := 26) (oi := { dst := some 73, op := _, type := _, pos := _, after := _, guard := _ }) (v := undef) rfl (by kernel_rfl) (by kernel_rfl) (by kernel_rfl) (fun _ _ _ h => h) (Or.inr ⟨by rfl, rfl⟩) (by assumption) ?_
            try simp only [Act.put, List.setIfInBounds_toArray, List.set_cons_zero, List.set_cons_succ]
            refine wpAnyH_take (i := 28) (oi := { dst := some 75, op := _, type := _, pos := _, after := _, guard := _ }) (v := undef) rfl (by kernel_rfl) (by kernel_rfl) (by kernel_rfl) (fun _ _ _ h => h) (Or.inr ⟨by rfl, rfl⟩) (by assumption) ?_
            try simp only [Act.put, List.setIfInBounds_toArray, List.set_cons_zero, List.set_cons_succ]
            refine wpAnyH_ready (rs := [27]) (by kernel_rfl) (by simp) ?_
            refine AllReadyH.cons (o := { dst := some 74, op := _, type := _, pos := _, after := _, guard := _ }) rfl (fun K hK => ?_) AllReadyH.nil
            go_simp
            refine hK.out _ _ ?_ (fun hHeld => ?_)
            · first | exact cc | exact U.out.cells | fail
            clear hK K
            try simp only [Act.put, List.setIfInBounds_toArray, List.set_cons_zero, List.set_cons_succ]
            refine wpAnyH_ready (rs := [29]) (by kernel_rfl) (by simp) ?_
            refine AllReadyH.cons (o := { dst := some 76, op := _, type := _, pos := _, after := _, guard := _ }) rfl (fun K hK => ?_) AllReadyH.nil
            go_simp
            refine hK.out _ _ ?_ (fun hHeld => ?_)
            · first | exact cc | exact U.out.cells | fail
            clear hK K
            try simp only [Act.put, List.setIfInBounds_toArray, List.set_cons_zero, List.set_cons_succ]
            refine wpAnyH_take (i := 30) (oi := { dst := some 77, op := _, type := _, pos := _, after := _, guard := _ }) (v := undef) rfl (by kernel_rfl) (by kernel_rfl) (by kernel_rfl) (fun _ _ _ h => h) (Or.inr ⟨by rfl, rfl⟩) (by assumption) ?_
            try simp only [Act.put, List.setIfInBounds_toArray, List.set_cons_zero, List.set_cons_succ]
            refine wpAnyH_take (i := 31) (oi := { dst := some 78, op := _, type := _, pos := _, after := _, guard := _ }) (v := ?vv31) rfl (by kernel_rfl) (by kernel_rfl) (by kernel_rfl) (fun _ _ _ h => h) (Or.inl ⟨by rfl, ?yy31⟩) (by assumption) ?rr31
            case yy31 => (intro w hSw; (try dsimp only at hSw); go_simp; try with_reducible rfl)
            try simp only [Act.put, List.setIfInBounds_toArray, List.set_cons_zero, List.set_cons_succ]
            refine wpAnyH_take (i := 32) (oi := { dst := some 79, op := _, type := _, pos := _, after := _, guard := _ }) (v := ?vv32) rfl (by kernel_rfl) (by kernel_rfl) (by kernel_rfl) (fun _ _ _ h => h) (Or.inl ⟨by rfl, ?yy32⟩) (by assumption) ?rr32
            case yy32 => (intro w hSw; (try dsimp only at hSw); go_simp; try with_reducible rfl)
            try simp only [Act.put, List.setIfInBounds_toArray, List.set_cons_zero, List.set_cons_succ]
            refine wpAnyH_take (i := 33) (oi := { dst := some 4, op := _, type := _, pos := _, after := _, guard := _ }) (v := ?vv33) rfl (by kernel_rfl) (by kernel_rfl) (by kernel_rfl) (fun _ _ _ h => h) (Or.inl ⟨by rfl, ?yy33⟩) (by assumption) ?rr33
            case yy33 => (intro w hSw; (try dsimp only at hSw); go_simp; try with_reducible rfl)
            try simp only [Act.put, List.setIfInBounds_toArray, List.set_cons_zero, List.set_cons_succ]
            refine wpAnyH_done (by kernel_rfl) ?_ _
            refine NoPanic.normal ?_
            go_wp2_with fail
            go_ret
            exact ⟨rfl, U.out.box⟩
          · have ge : (p.e == 1) = false := by rw [beq_eq_false_iff_ne]; exact qe
            go_wp2_with fail
            go_region_held3 (fun w' => w'.cell? ⟨w.heap.size, 1, none⟩ = some (.int .i64 p.e) ∧ w'.cell? ⟨w.heap.size + 1, 0, none⟩ = some (.slice a2 q.a.length c2) ∧ w'.cell? ⟨w.heap.size + 1, 1, none⟩ = some (.int .i64 q.e) ∧ w'.cell? ⟨b5, 0, none⟩ = some (.slice none 0 0) ∧ w'.cell? ⟨b5, 1, none⟩ = some (.int .i64 1) ∧ w'.cell? ⟨b6, 0, none⟩ = some (.slice a1 p.a.length c1) ∧ w'.cell? ⟨b6, 1, none⟩ = some (.int .i64 p.e)) (first | exact cc | exact U.out.cells | fail) (first
            | (go_at_call 12
               (with_reducible refine (alive_any C _ U.out.tab).mono ?_)
               rintro e wn ⟨rfl, hbn⟩
               replace U := Lib.hid (U.out.below hbn)
               clear hbn)
            | (go_at_call 25
               (with_reducible refine (C.cThn (.slice none 0 0) (.slice a1 p.a.length c1) one p _ U.out.tab (strs_none _) U.out.sa (by simp; omega)).mono ?_)
               rw [thn_one_l]
               rintro e wn ⟨t1, rfl, hm, hbn⟩
               replace U := Lib.hid (U.out.below hbn)
               have M1 := Lib.hid hm.strs
               clear hbn hm)
            | (go_at_call 14
               (with_reducible refine (C.cCmp t1 (.slice a1 p.a.length c1) p p _ U.out.tab M1.out U.out.sa (by omega) (by omega)).mono ?_)
               rintro e wn ⟨y1, rfl, _, _, hy, hbn⟩
               obtain rfl := sgn_zero hy
               replace U := Lib.hid (U.out.below hbn)
               clear hbn hy)
            | (go_at_call 25
               (with_reducible refine (C.cThn (.slice a1 p.a.length c1) (.slice none 0 0) p one _ U.out.tab U.out.sa (strs_none _) (by simp; omega)).mono ?_)
               rw [thn_one_r]
               rintro e wn ⟨t2, rfl, hm, hbn⟩
               replace U := Lib.hid (U.out.below hbn)
               have M2 := Lib.hid hm.strs
               clear hbn hm)
            | (go_at_call 14
               (with_reducible refine (C.cCmp t2 (.slice a1 p.a.length c1) p p _ U.out.tab M2.out U.out.sa (by omega) (by omega)).mono ?_)
               rintro e wn ⟨y2, rfl, _, _, hy, hbn⟩
               obtain rfl := sgn_zero hy
               replace U := Lib.hid (U.out.below hbn)
               clear hbn hy)
            | (go_at_call 25
               (with_reducible refine (C.cThn (.slice a1 p.a.length c1) (.slice a2 q.a.length c2) p q _ U.out.tab U.out.sa U.out.sb (by omega)).mono ?_)
               rw [thn_other qe]
               rintro e wn ⟨t3, rfl, hm, hbn⟩
               replace U := Lib.hid (U.out.below hbn)
               have M3 := Lib.hid hm.strs
               clear hbn hm)
            | (go_at_call 14
               (with_reducible refine (C.cCmp t3 (.slice a1 p.a.length c1) p p _ U.out.tab M3.out U.out.sa (by omega) (by omega)).mono ?_)
               rintro e wn ⟨y3, rfl, _, _, hy, hbn⟩
               obtain rfl := sgn_zero hy
               replace U := Lib.hid (U.out.below hbn)
               clear hbn hy)
            | fail)
            go_wp2_with fail
            go_ret
            exact ⟨rfl, U.out.box⟩
end Go.Proofs.YtmhmfnjjdcdkcaaDoor.Tr
