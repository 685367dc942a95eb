/- RefuseMeans. -/
import Derived.Test.YtpkbpooiaddcaaaGreatQ27

namespace Go.Proofs.YtpkbpooiaddcaaaGreat.Rf
open Go Go.RowKit Go.Proofs.YtpkbpooiaddcaaaGreat.Rw Mn Tr
set_option maxRecDepth 20000

theorem trs_slice {w : World} {v : Value} {l : List Tr} (h : Trs w v l) : ∃ a c, v = .slice a l.length c := by
  obtain ⟨a, c, e, _⟩ := h.val
  exact ⟨a, c, e⟩
set_option maxHeartbeats 8000000 in
theorem means_law (v : Value) (l : List Nd) (s : ByteArray) (w : World) (hv : Nds w v l) (hm : Nms l) (hs : s.size ≤ maxLen) (hlen : l.length ≤ 300000) :
    Calls Tryz.prog 3 #[v, .string s] w fun e w' => e = .returned (.bool true) ∧ Below w.heap.size w w' := by
  have HM := Lib.hid hm
  have HV := Lib.hid hv
  have HS1 := Lib.hid (str_new w s 9)
  have HB1 := Lib.hid (below1 w (.cells #[.string s] 9))
  obtain ⟨_, a, cap, rfl, -⟩ := hv
  clear hm
  go_enter Tryz.func3, Tryz.ntmps3
  go_wp2_with fail
  refine (rewP_any _ _ l [s] _ (HV.out.below HB1.out) hlen HM.out HS1.out (by simp) (fun t ht => by rw [List.mem_singleton.1 ht]; exact hs)).mono ?_
  rw [inN_one]
  rintro e w1 ⟨y, rfl, hy, hb⟩
  have I := Lib.hid (Kx.mk (HB1.out.trans (hb.mono HB1.out.size)) ((HV.out.below HB1.out).below hb) hy)
  obtain ⟨_, ya, yc, rfl, -⟩ := hy
  clear hb HS1 HB1 HV
  have HSM := Lib.hid (sub_nms (f := isN s) HM.out)
  have HOF := Lib.hid (fun h => of_sub (isN s) l h)
  have HOR := Lib.hid (fun h => or_more (f := isN s) (l := l) h)
  have HEQ := Lib.hid (fun h => sub_zero (f := isN s) (l := l) h)
  have hs3 := (sub_le (isN s) l).2
  obtain ⟨q, hq⟩ : ∃ q, sub (isN s) l = q := ⟨_, rfl⟩
  rw [hq] at I HSM HOF HOR HEQ hs3
  rw [hq]
  clear hq
  go_wp2_with fail
  refine (few_any _ l _ I.out.nds).mono ?_
  cases hf : fewB l with
  | false =>
    rintro e w' ⟨rfl, rfl⟩
    go_wp2_with fail
    refine (alive_any _).mono ?_
    rintro e wn ⟨rfl, hb⟩
    go_wp2_with fail
    go_ret
    exact ⟨rfl, (I.out.below hb).bel⟩
  | true =>
    have hl := few_len hf
    clear hf
    rintro e w' ⟨rfl, rfl⟩
    go_wp2_with fail
    refine (Sx.termP_any l _ _ I.out.nds (by omega) HM.out).mono ?_
    cases hz : (So.of l == 1) with
    | false =>
      rintro e wn ⟨rfl, hb⟩
      replace I := Lib.hid (I.out.below hb)
      clear hb hz
      go_wp2_with fail
      refine (alive_any _).mono ?_
      rintro e wn ⟨rfl, hb⟩
      go_wp2_with fail
      go_ret
      exact ⟨rfl, (I.out.below hb).bel⟩
    | true =>
      have HZ := Lib.hid (eq_of_beq hz)
      clear hz
      rintro e wn ⟨rfl, hb⟩
      replace I := Lib.hid (I.out.below hb)
      clear hb
      go_wp2_with fail
      refine (small_any _ l _ I.out.nds (by omega)).mono ?_
      cases hsl : smallB l with
      | false =>
        rintro e wn ⟨rfl, hb⟩
        replace I := Lib.hid (I.out.below hb)
        clear hb hsl
        go_wp2_with fail
        refine (alive_any _).mono ?_
        rintro e wn ⟨rfl, hb⟩
        go_wp2_with fail
        go_ret
        exact ⟨rfl, (I.out.below hb).bel⟩
      | true =>
        have HW := Lib.hid (term_why HZ.out hsl)
        clear hsl
        rintro e wn ⟨rfl, hb⟩
        replace I := Lib.hid (I.out.below hb)
        clear hb
        go_wp2_with fail
        refine (small_any _ q _ I.out.xx (by omega)).mono ?_
        cases hsq : smallB q with
        | false =>
          rintro e wn ⟨rfl, hb⟩
          replace I := Lib.hid (I.out.below hb)
          clear hb hsq
          go_wp2_with fail
          refine (alive_any _).mono ?_
          rintro e wn ⟨rfl, hb⟩
          go_wp2_with fail
          go_ret
          exact ⟨rfl, (I.out.below hb).bel⟩
        | true =>
          have HX := Lib.hid (term_why ((HOF.out (by have := (small_of hsq).1; omega)).trans HZ.out) hsq)
          have hq24 := (small_of hsq).1
          clear hsq
          rintro e wn ⟨rfl, hb⟩
          replace I := Lib.hid (I.out.below hb)
          clear hb HZ HOF
          obtain ⟨hA, hB, hAB⟩ := few_two HW.out HX.out
          have FA := Lib.hid hA
          have FB := Lib.hid hB
          have FAB := Lib.hid hAB
          have HNO := Lib.hid (HOR.out (mt_up HX.out))
          have HEQ2 : Hid (l.countP (hit (isN s)) = 0 → Mt l = Mt q) := Lib.hid fun h => by rw [HEQ.out h]
          have PA := Lib.hid (fun w0 (h : Nds w0 (.slice a l.length cap) l) => plainP_any _ l w0 h (by omega) HM.out)
          have PB := Lib.hid (fun w0 (h : Nds w0 (.slice ya q.length yc) q) => plainP_any _ q w0 h (by omega) HSM.out)
          rw [mt_is HW.out, HW.out] at PA
          rw [mt_is HX.out, HX.out] at PB
          unfold TsPost at PA PB
          clear hA hB hAB HOR HEQ
          obtain ⟨A, hA⟩ : ∃ A, Mt l = A := ⟨_, rfl⟩
          obtain ⟨B, hB⟩ : ∃ B, Mt q = B := ⟨_, rfl⟩
          rw [hA] at FA FAB HNO HEQ2 PA
          rw [hB] at FB FAB HNO HEQ2 PB
          clear hA hB
          go_wp2_with fail
          refine (PA.out _ I.out.nds).mono ?_
          rintro e w5 ⟨aa, ac, rfl, ha, hb⟩
          replace I := Lib.hid (I.out.below hb)
          have TA := Lib.hid ha.trs
          clear hb ha PA
          go_wp2_with fail
          refine (PB.out _ I.out.xx).mono ?_
          rintro e w6 ⟨ba, bc, rfl, hb', hb⟩
          replace I := Lib.hid (I.out.below hb)
          replace TA := Lib.hid (TA.out.below hb)
          have TB := Lib.hid hb'.trs
          clear hb hb' PB
          go_wp2_with fail
          refine (olds_any _ A _ TA.out FA.out.1).mono ?_
          rintro e w7 ⟨o1, rfl, ho1, hb⟩
          replace I := Lib.hid (I.out.below hb)
          replace TA := Lib.hid (TA.out.below hb)
          replace TB := Lib.hid (TB.out.below hb)
          have O1 := Lib.hid ho1
          obtain ⟨oa, oc, rfl⟩ := trs_slice ho1
          clear hb ho1
          go_wp2_with fail
          refine (olds_any _ B _ TB.out FB.out.1).mono ?_
          rintro e w8 ⟨o2, rfl, ho2, hb⟩
          replace I := Lib.hid (I.out.below hb)
          replace TA := Lib.hid (TA.out.below hb)
          replace TB := Lib.hid (TB.out.below hb)
          replace O1 := Lib.hid (O1.out.below hb)
          have O2 := Lib.hid ho2
          obtain ⟨pa, pc, rfl⟩ := trs_slice ho2
          clear hb ho2
          go_wp2_with fail
          refine (or_any _ _ A B _ O1.out O2.out FAB.out).mono ?_
          rw [HNO.out]
          rintro e w9 ⟨o3, rfl, ho3, hb⟩
          replace I := Lib.hid (I.out.below hb)
          replace TA := Lib.hid (TA.out.below hb)
          replace TB := Lib.hid (TB.out.below hb)
          have O3 := Lib.hid ho3
          obtain ⟨ra, rc, rfl⟩ := trs_slice ho3
          clear hb ho3 O1 O2
          go_wp2_with fail
          refine (alive_any _).mono ?_
          rintro e w10 ⟨rfl, hb⟩
          replace I := Lib.hid (I.out.below hb)
          replace TA := Lib.hid (TA.out.below hb)
          replace TB := Lib.hid (TB.out.below hb)
          replace O3 := Lib.hid (O3.out.below hb)
          clear hb
          go_wp2_with fail
          refine (olds_any _ B _ TB.out FB.out.1).mono ?_
          rintro e w11 ⟨o4, rfl, ho4, hb⟩
          replace I := Lib.hid (I.out.below hb)
          replace TA := Lib.hid (TA.out.below hb)
          replace TB := Lib.hid (TB.out.below hb)
          replace O3 := Lib.hid (O3.out.below hb)
          have O4 := Lib.hid ho4
          obtain ⟨ta, tc, rfl⟩ := trs_slice ho4
          clear hb ho4
          go_wp2_with fail
          refine (same_any _ _ B B _ O3.out O4.out FB.out FB.out).mono ?_
          rw [sameT_self]
          rintro e w12 ⟨rfl, hb⟩
          replace I := Lib.hid (I.out.below hb)
          replace TA := Lib.hid (TA.out.below hb)
          replace TB := Lib.hid (TB.out.below hb)
          clear hb O3 O4
          go_wp2_with fail
          refine (placesP_any _ l s _ I.out.nds (by omega)).mono ?_
          rintro e w13 ⟨y, rfl, hy, hb⟩
          replace I := Lib.hid (I.out.below hb)
          replace TA := Lib.hid (TA.out.below hb)
          replace TB := Lib.hid (TB.out.below hb)
          obtain ⟨_, xa, xc, rfl, -⟩ := hy
          rw [plc_len]
          clear hb
          obtain ⟨c, hc⟩ : ∃ c, l.countP (hit (isN s)) = c := ⟨_, rfl⟩
          rw [hc] at HEQ2
          rw [hc]
          clear hc
          by_cases h0 : c = 0
          · have HE := Lib.hid (HEQ2.out h0)
            subst h0
            go_wp2_with fail
            refine (olds_any _ A _ TA.out FA.out.1).mono ?_
            rintro e w14 ⟨o5, rfl, ho5, hb⟩
            replace I := Lib.hid (I.out.below hb)
            replace TB := Lib.hid (TB.out.below hb)
            have O5 := Lib.hid ho5
            obtain ⟨sa, sc, rfl⟩ := trs_slice ho5
            clear hb ho5
            go_wp2_with fail
            refine (olds_any _ B _ TB.out FB.out.1).mono ?_
            rintro e w15 ⟨o6, rfl, ho6, hb⟩
            replace I := Lib.hid (I.out.below hb)
            replace O5 := Lib.hid (O5.out.below hb)
            have O6 := Lib.hid ho6
            obtain ⟨ua, uc, rfl⟩ := trs_slice ho6
            clear hb ho6
            go_wp2_with fail
            refine (same_any _ _ A B _ O5.out O6.out FA.out FB.out).mono ?_
            rw [HE.out, sameT_self]
            rintro e w16 ⟨rfl, hb⟩
            replace I := Lib.hid (I.out.below hb)
            clear hb
            go_wp2_with fail
            go_ret
            exact ⟨rfl, I.out.bel⟩
          · have hpos : 0 < c := by omega
            have hpos2 : (0 : Int) < (c : Int) := by omega
            clear h0
            go_wp2_with fail
            go_ret
            exact ⟨rfl, I.out.bel⟩
end Go.Proofs.YtpkbpooiaddcaaaGreat.Rf
