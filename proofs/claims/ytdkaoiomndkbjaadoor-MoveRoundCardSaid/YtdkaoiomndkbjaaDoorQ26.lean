/- MoveRound: the walk. -/
import Derived.Test.YtdkaoiomndkbjaaDoorQ24

namespace Go.Proofs.YtdkaoiomndkbjaaDoor.Me
open Go Go.RowKit Rw So Se Do
set_option maxRecDepth 20000
theorem step3 {w0 w1 w2 : World} {bM bA bB : Nat} {m x y : Mv} (xp xh : Int) (D1 : Below w0.heap.size w0 w1) (hM : Bm w1 bM m) (hA : Bm w1 bA x) (hB : Bm w1 bB y) (hb : Below w1.heap.size w1 w2) :
    Below w0.heap.size w0 (w2.alloc (.cells #[.int .i64 xp, .int .i64 xh] 23)) ∧ Bm (w2.alloc (.cells #[.int .i64 xp, .int .i64 xh] 23)) bM m ∧ Bm (w2.alloc (.cells #[.int .i64 xp, .int .i64 xh] 23)) bA x ∧ Bm (w2.alloc (.cells #[.int .i64 xp, .int .i64 xh] 23)) bB y ∧ Bm (w2.alloc (.cells #[.int .i64 xp, .int .i64 xh] 23)) w2.heap.size ⟨xp, xh⟩ :=
  ⟨(step1 xp xh D1 hM hb).1, (step1 xp xh D1 hM hb).2.1, (step1 xp xh D1 hA hb).2.1, (step1 xp xh D1 hB hb).2.1, (step1 xp xh D1 hM hb).2.2⟩
set_option maxHeartbeats 8000000 in
theorem round_law (C : Con) (A : Alive) (v : Value) (l : List Nd) (w0 : World) (hT : Tx w0) (hv : Nds w0 v l) (hm : Nms l) :
    Calls Tryd.prog 4 #[v] w0 fun e w' => e = .returned (.bool true) ∧ Below w0.heap.size w0 w' := by
  have HF := Lib.hid (few_any v l w0 hv)
  have HA := Lib.hid (fun w1 (hb : Below w0.heap.size w0 w1) => A w1 (hT.below hb))
  clear hT
  cases hf : Do.fewB l with
  | false =>
    rw [hf] at HF
    obtain ⟨_, a, c, rfl, -⟩ := id hv
    clear hv hm hf
    go_enter Tryd.func4, Tryd.ntmps4
    go_wp2_with fail
    refine HF.out.mono ?_
    rintro e w1 ⟨rfl, rfl⟩
    go_wp2_with fail
    refine (HA.out _ (Below.refl _ _)).mono ?_
    rintro e w2 ⟨rfl, hb2⟩
    have D2 := Lib.hid hb2
    clear hb2
    go_wp2_with fail
    go_ret
    exact ⟨rfl, D2.out⟩
  | true =>
    rw [hf] at HF
    have hl := Do.few_len hf
    have HC := Lib.hid (C.en v l w0 hv (by omega) hm)
    have HP := Lib.hid (fun n (hn : In64 n) w1 (hb : Below w0.heap.size w0 w1) => C.pk v l n w1 (hv.below hb) (by omega) hm hn)
    have hvl : (enR l).length ≤ 200 := Nat.le_trans (enR_len l) (by omega)
    have HPM := Lib.hid (fun n k (h : k < (enR l).length) (e : nr n (enR l).length = k) => pkM_at h e)
    have HPE : Hid (0 < (enR l).length → pkE l = 0) := Lib.hid fun h => if_neg (by omega)
    obtain ⟨_, a, c, rfl, -⟩ := id hv
    generalize enR l = V at HC hvl HPM HPE
    clear hv hm hf
    go_enter Tryd.func4, Tryd.ntmps4
    go_wp2_with fail
    refine HF.out.mono ?_
    rintro e w1 ⟨rfl, rfl⟩
    go_wp2_with fail
    refine HC.out.mono ?_
    rintro e w3 ⟨y, rfl, hi, hb3⟩
    have D3 := Lib.hid hb3
    have FM := Lib.hid hi.form
    have I3 := Lib.hid (fun w' (hb : Below w3.heap.size w3 w') => hi.below hb)
    obtain ⟨_, ay, cy, rfl, -⟩ := id hi
    clear hb3 hi HF HC
    go_wp2_with fail
    go_loopw [20] (fun i wr => ∃ k : Nat, k ≤ V.length ∧ i = .int .i64 k ∧ Hid (Below w3.heap.size w3 wr)) (fun i _ => V.length - (intOf i).toNat)
    case atStart => exact ⟨0, Nat.zero_le _, rfl, Lib.hid (Below.refl _ _)⟩
    case round =>
      obtain ⟨k, hk, rfl, HB⟩ := hrel
      have DR := Lib.hid (D3.out.trans (HB.out.mono D3.out.size))
      by_cases hlt : k < V.length
      · rcases FM.out with ⟨h0, _⟩ | ⟨b4, o4, c4, e4, _, hat4⟩
        · rw [h0] at hlt; simp at hlt
        injection e4 with e41 e42 e43
        subst e41; subst e43
        obtain ⟨q4, q5⟩ := hat4 k hlt
        have d4 : wr.cell? ⟨b4, o4 + k * 2, none⟩ = some (.int .i64 V[k].p) := by rw [HB.out.cell (Ap.cell_lt q4)]; exact q4
        have d5 : wr.cell? ⟨b4, o4 + k * 2 + 1, none⟩ = some (.int .i64 V[k].h) := by rw [HB.out.cell (Ap.cell_lt q5)]; exact q5
        have hpe := HPE.out (by omega)
        have p1 := HPM.out _ k hlt (nr_self hlt)
        have p2 := HPM.out _ k hlt (nr_up hlt)
        have p3 := HPM.out _ k hlt (nr_down hlt)
        have HP1 := Lib.hid (HP.out (k : Int) ⟨by omega, by omega⟩)
        have HP2 := Lib.hid (HP.out ((k : Int) + V.length) ⟨by omega, by omega⟩)
        have HP3 := Lib.hid (HP.out ((k : Int) - V.length) ⟨by omega, by omega⟩)
        rw [p1, hpe] at HP1
        rw [p2, hpe] at HP2
        rw [p3, hpe] at HP3
        obtain ⟨x, hx⟩ : ∃ x, V[k] = x := ⟨_, rfl⟩
        rw [hx] at d4 d5 HP1 HP2 HP3
        obtain ⟨xp, xh⟩ := x
        have hq : ∀ w, (binOp .neq 23 (.agg #[.int .i64 xp, .int .i64 xh]) (.agg #[.int .i64 xp, .int .i64 xh])).run Tryd.prog w = .ok (.bool false) w := fun w => (neq_mv ⟨xp, xh⟩ ⟨xp, xh⟩ w).trans (by rw [decide_eq_true rfl]; rfl)
        simp only at d4 d5
        obtain ⟨D5, M5⟩ := step0 xp xh DR.out
        clear hat4 q4 q5 hpe p1 p2 p3 hx HP HPM HPE FM
        go_wp2_with fail
        refine (HP1.out _ D5).mono ?_
        rintro e w5 ⟨rfl, hb5⟩
        obtain ⟨D6, M6, A6⟩ := step1 xp xh D5 M5 hb5
        clear D5 M5 d4 d5
        go_wp2_with fail
        refine (HP2.out _ D6).mono ?_
        rintro e w6 ⟨rfl, hb6⟩
        obtain ⟨D7, M7, A7, B7⟩ := step2 xp xh D6 M6 A6 hb6
        clear D6 M6 A6
        go_wp2_with fail
        refine (HP3.out _ D7).mono ?_
        rintro e w7 ⟨rfl, hb7⟩
        obtain ⟨D8, M8, A8, B8, C8⟩ := step3 xp xh D7 M7 A7 B7 hb7
        obtain ⟨m1, m2, -⟩ := M8.cells
        obtain ⟨a1, a2, -⟩ := A8.cells
        obtain ⟨b1, b2, -⟩ := B8.cells
        obtain ⟨c1, c2, -⟩ := C8.cells
        simp only at m1 m2 a1 a2 b1 b2 c1 c2
        have HB8 : Hid (Below w3.heap.size w3 (w7.alloc (.cells #[.int .i64 xp, .int .i64 xh] 23))) := Lib.hid (by
          have s1 := (HB.out.trans ((below1 wr _).mono HB.out.size)).trans (hb5.mono (by have := (HB.out.trans ((below1 wr (.cells #[.int .i64 xp, .int .i64 xh] 23)).mono HB.out.size)).size; exact this))
          have s2 := s1.trans ((below1 w5 (.cells #[.int .i64 xp, .int .i64 xh] 23)).mono s1.size)
          have s3 := s2.trans (hb6.mono s2.size)
          have s4 := s3.trans ((below1 w6 (.cells #[.int .i64 xp, .int .i64 xh] 23)).mono s3.size)
          have s5 := s4.trans (hb7.mono s4.size)
          exact s5.trans ((below1 w7 (.cells #[.int .i64 xp, .int .i64 xh] 23)).mono s5.size))
        clear D7 M7 A7 B7 D8 M8 A8 B8 C8 hb5 hb6 hb7 HP1 HP2 HP3
        go_wp2_with fail
        go_roundw
        case rel => exact ⟨k + 1, by omega, by go_num, HB8⟩
        case measure => simp [intOf]; omega
      · go_wp2_with fail
        refine (HA.out _ DR.out).mono ?_
        rintro e w9 ⟨rfl, hb9⟩
        have D9 := Lib.hid (DR.out.trans (hb9.mono DR.out.size))
        clear hb9
        go_wp2_with fail
        go_ret
        exact ⟨rfl, D9.out⟩
end Go.Proofs.YtdkaoiomndkbjaaDoor.Me
