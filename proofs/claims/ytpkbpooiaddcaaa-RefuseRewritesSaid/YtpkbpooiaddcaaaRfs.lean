/- RefuseRewrites. -/
import Derived.Test.YtpkbpooiaddcaaaRfr
namespace Go.Proofs.Ytpkbpooiaddcaaa.Rf
open Go Go.RowKit Go.Proofs.Ytpkbpooiaddcaaa.Rw
set_option maxRecDepth 20000

/-- Nodes, names, the row rewritten, and what was given, in memory. -/
structure Kr (w0 : World) (v vn x g : Value) (l : List Nd) (names : List ByteArray) (w : World) : Prop where
  bel : Below w0.heap.size w0 w
  nds : Nds w v l
  strs : Strs w vn names
  xx : Nds w x (sub (inN names) l)
  gg : Nds w g l
theorem Kr.below {w0 w w' : World} {v vn x g : Value} {l : List Nd} {names : List ByteArray} (h : Kr w0 v vn x g l names w) (hb : Below w.heap.size w w') : Kr w0 v vn x g l names w' := ⟨h.bel.trans (hb.mono h.bel.size), h.nds.below hb, h.strs.below hb, h.xx.below hb, h.gg.below hb⟩
theorem strs_cell {w : World} {a : Option Addr} {n c : Nat} {P : List ByteArray} (h : Strs w (.slice a n c) P) {k : Nat} (hk : k < P.length) : ∃ b off, a = some ⟨b, off, none⟩ ∧ w.cell? ⟨b, off + k, none⟩ = some (.string P[k]) := by
  rcases h.form with ⟨rfl, _⟩ | ⟨b, off, cap, he, hat⟩
  · exact absurd hk (Nat.not_lt_zero _)
  · injection he with h1 _ _
    exact ⟨b, off, h1, hat k hk⟩
/-- A copy of a row: append onto an empty one. -/
theorem copy_run {w : World} {v : Value} {l : List Nd} (hv : Nds w v l) (hl : l.length ≤ 1000000) :
    ∃ v' w', (Builtin.append_ #[22, 22] 22 #[.slice (some ⟨w.heap.size, 0, none⟩) 0 0, v]).run Try.prog (w.alloc (.cells #[] 39)) = .ok v' w' ∧ Nds w' v' l ∧ Below w.heap.size w w' := by
  obtain ⟨i0, hi, hz, hs1, hb8⟩ := info_parts infoN
  have hB := below1 w (.cells #[] 39)
  obtain ⟨v', w', h1, h2, h3⟩ := Ap.run_append_full (P := Try.prog) (ty := 22) Try.underlying22 hi hz hs1 hb8 (by rfl) (by omega) (a := some ⟨w.heap.size, 0, none⟩) (n := 0) (cs := []) (w := w.alloc (.cells #[] 39))
    ⟨rfl, _, 0, rfl, Nat.le_refl _, fun h => (by cases h), fun h => absurd h (Nat.lt_irrefl 0)⟩ (hv.below hB) cls_one (by unfold maxLen; omega) (by omega)
  refine ⟨v', w', h1, ?_, hB.trans (h3.mono hB.size)⟩
  rw [Nat.zero_add, List.nil_append] at h2
  exact h2
theorem cnt_le (f : ByteArray → Bool) (l : List Nd) : l.countP (hit f) ≤ l.length := List.countP_le_length
set_option maxHeartbeats 8000000 in
theorem rewrites_law (v vn : Value) (l : List Nd) (names : List ByteArray) (w : World) (hv : Nds w v l) (hm : Nms l) (hn : Strs w vn names) (hns : ∀ s ∈ names, s.size ≤ maxLen) :
    Calls Try.prog 3 #[v, vn] w fun e w' => e = .returned (.bool true) ∧ Below w.heap.size w w' := by
  have I := Lib.hid (Kn.start hv hn)
  have HM := Lib.hid hm
  have HNS := Lib.hid hns
  have HV := Lib.hid hv
  obtain ⟨_, a, cap, rfl, -⟩ := hv
  obtain ⟨_, na, nc, rfl, -⟩ := hn
  clear hm hns
  go_enter Try.func3, Try.ntmps3
  go_wp2_with fail
  refine (few_any _ l _ I.out.nds).mono ?_
  cases hf : fewB l with
  | false =>
    rintro e w' ⟨rfl, rfl⟩
    go_wp2_with fail
    refine (alive_any _).mono ?_
    rintro e wn ⟨rfl, hb⟩
    go_wp2_with fail
    go_ret
    exact ⟨rfl, hb⟩
  | true =>
    have hl := few_len hf
    clear hf
    rintro e w' ⟨rfl, rfl⟩
    by_cases hnl : names.length ≤ 50
    · have hg : decide ((50 : Int) < (names.length : Int)) = false := by simp; omega
      obtain ⟨g, w1, hrun, hgn, hgb⟩ := copy_run HV.out (by omega)
      have R := Lib.hid hrun
      replace I := Lib.hid (I.out.below hgb)
      have HGN := Lib.hid hgn
      obtain ⟨_, ga, gc, rfl, -⟩ := hgn
      clear hrun hgb HV
      go_wp2_with (at_builtin; refine Ap.wpList_append_run (by rfl) (.tmp 22) (.tmp 23) _ _ rfl _ _ rfl rfl _ w1 R.out ?_)
      refine (rewP_any _ _ l names _ I.out.nds (by omega) HM.out I.out.strs (by omega) HNS.out).mono ?_
      rintro e w2 ⟨x, rfl, hx, hb⟩
      have HX := Lib.hid hx
      obtain ⟨_, xa, xc, rfl, -⟩ := hx
      have hsl := sub_len (inN names) l
      have hcl := cnt_le (inN names) l
      obtain ⟨m, hmm⟩ : ∃ m, (sub (inN names) l).length = m := ⟨_, rfl⟩
      rw [hmm] at HX hsl
      rw [hmm]
      have HSL := Lib.hid hsl
      have HMM := Lib.hid hmm
      clear hmm hsl
      have J : Hid (Kr w (.slice a l.length cap) (.slice na names.length nc) (.slice xa m xc) (.slice ga l.length gc) l names w2) := Lib.hid ⟨(I.out.below hb).bel, (I.out.below hb).nds, (I.out.below hb).strs, HX.out, HGN.out.below hb⟩
      clear hb HX HGN I R
      go_wp2_with fail
      go_loopw [7, 30] (fun cv i wr => ∃ k : Nat, k ≤ names.length ∧ i = .int .i64 k ∧ cv = .int .i64 (l.countP (hit (inN (names.take k))) : Nat) ∧ Hid (Kr w (.slice a l.length cap) (.slice na names.length nc) (.slice xa m xc) (.slice ga l.length gc) l names wr)) (fun _ i _ => names.length - (intOf i).toNat)
      case atStart => exact ⟨0, Nat.zero_le _, rfl, by rw [show names.take 0 = [] from rfl, cnt_zero]; rfl, J⟩
      case round =>
        obtain ⟨k, hk, rfl, rfl, HJ⟩ := hrel
        by_cases hlt : k < names.length
        · obtain ⟨b1, o1, h1, c1⟩ := strs_cell HJ.out.strs hlt
          have HTK := Lib.hid (List.take_succ_eq_append_getElem hlt)
          have HNEW := Lib.hid (fun (h : ¬ names[k] ∈ names.take k) => cnt_new h l)
          have HOLD := Lib.hid (fun (h : names[k] ∈ names.take k) => cnt_old h l)
          have hc0 := cnt_le (inN (names.take k)) l
          have hc1 := cnt_le (inN (names.take (k + 1))) l
          obtain ⟨s, hs⟩ : ∃ s, names[k] = s := ⟨_, rfl⟩
          rw [hs] at c1 HTK HNEW HOLD
          clear hs
          obtain ⟨c, hc⟩ : ∃ c, l.countP (hit (inN (names.take k))) = c := ⟨_, rfl⟩
          rw [hc] at HNEW HOLD hc0
          rw [hc]
          have hkc : k ≤ nc := by
            obtain ⟨_, _, _, he, hle, _⟩ := HJ.out.strs
            injection he with _ _ h3
            omega
          clear hc
          subst h1
          go_wp2_with fail
          obtain ⟨wo, hwo⟩ : ∃ wo : World, wo = wr := ⟨_, rfl⟩
          subst hwo
          clear c1
          go_loopw [10, 39] (fun fv i wr => ∃ j : Nat, j ≤ k ∧ i = .int .i64 j ∧ fv = .bool (!(inN (names.take j) s)) ∧ Hid (Kr w (.slice a l.length cap) (.slice (some ⟨b1, o1, none⟩) names.length nc) (.slice xa m xc) (.slice ga l.length gc) l names wr)) (fun _ i _ => k - (intOf i).toNat)
          case atStart => exact ⟨0, Nat.zero_le _, rfl, by rw [show names.take 0 = [] from rfl]; rfl, HJ⟩
          case round =>
            clear HJ
            obtain ⟨j, hj, rfl, rfl, HJ⟩ := hrel
            by_cases hlt2 : j < k
            · obtain ⟨b2, o2, h2, c2⟩ := strs_cell HJ.out.strs (k := j) (by omega)
              have HT := inN_take names s j (by omega)
              obtain ⟨t, ht⟩ : ∃ t, names[j]'(by omega) = t := ⟨_, rfl⟩
              rw [ht] at c2 HT
              cases h2
              clear ht
              cases hd : inN (names.take j) s with
              | true =>
                rw [hd, Bool.true_or] at HT
                have HT' := Lib.hid HT
                clear HT hd
                go_wp2_with fail
                go_roundw
                case rel => exact ⟨j + 1, by omega, by go_num, by rw [HT'.out]; rfl, HJ⟩
                case measure => simp [intOf]; omega
              | false =>
                rw [hd, Bool.false_or] at HT
                by_cases hts : t = s
                · have hq := bytes_eq hts
                  have hq2 : (t.toList != s.toList) = false := by rw [bne, hq]; rfl
                  rw [decide_eq_true hts] at HT
                  have HT' := Lib.hid HT
                  clear HT hd hts
                  go_wp2_with fail
                  go_roundw
                  case rel => exact ⟨j + 1, by omega, by go_num, by rw [HT'.out]; rfl, HJ⟩
                  case measure => simp [intOf]; omega
                · have hq := bytes_ne hts
                  have hq2 : (t.toList != s.toList) = true := by rw [bne, hq]; rfl
                  rw [decide_eq_false hts] at HT
                  have HT' := Lib.hid HT
                  clear HT hd hts
                  go_wp2_with fail
                  go_roundw
                  case rel => exact ⟨j + 1, by omega, by go_num, by rw [HT'.out]; rfl, HJ⟩
                  case measure => simp [intOf]; omega
            · obtain rfl : j = k := by omega
              have hcs := cnt_le (isN s) l
              have hpl := plc_len (isN s) l
              cases hd : inN (names.take j) s with
              | true =>
                have HC := Lib.hid (HOLD.out (inN_iff.1 hd))
                clear hd
                go_wp2_with fail
                go_roundw
                case rel => exact ⟨j + 1, by omega, by go_num, by rw [HTK.out, HC.out], HJ⟩
                case measure => simp [intOf]; omega
              | false =>
                have HC := Lib.hid (HNEW.out (fun h => by rw [inN_iff.2 h] at hd; cases hd))
                clear hd
                go_wp2_with fail
                refine (placesP_any _ l s _ HJ.out.nds (by omega)).mono ?_
                rintro e w4 ⟨y, rfl, hy, hb⟩
                replace HJ := Lib.hid (HJ.out.below hb)
                obtain ⟨_, ya, yc, rfl, -⟩ := hy
                rw [hpl]
                clear hb hpl
                obtain ⟨d, hd⟩ : ∃ d, l.countP (hit (isN s)) = d := ⟨_, rfl⟩
                rw [hd] at HC hcs
                rw [hd]
                clear hd
                go_wp2_with fail
                go_roundw
                case rel => exact ⟨j + 1, by omega, by go_num, by rw [HTK.out, HC.out]; go_num, HJ⟩
                case measure => simp [intOf]; omega
        · have HZ : Hid (l.countP (hit (inN (names.take k))) = l.countP (hit (inN names))) := Lib.hid (by rw [List.take_of_length_le (by omega)])
          rw [HZ.out]
          obtain ⟨c, hc⟩ : ∃ c, l.countP (hit (inN names)) = c := ⟨_, rfl⟩
          rw [hc] at HSL hcl
          rw [hc]
          clear hc HZ
          go_wp2_with fail
          refine (alive_any _).mono ?_
          rintro e w3 ⟨rfl, hb⟩
          replace HJ := Lib.hid (HJ.out.below hb)
          clear hb
          go_wp2_with fail
          refine (rewR_any _ l _ names _ HJ.out.nds (by omega) HJ.out.strs (by omega)).mono ?_
          rintro e w4 ⟨y, rfl, hy, hb⟩
          replace HJ := Lib.hid (HJ.out.below hb)
          have HY := Lib.hid hy
          obtain ⟨_, ya, yc, rfl, -⟩ := hy
          rw [HMM.out] at HY
          rw [HMM.out]
          clear hb
          go_wp2_with fail
          refine (sameR_any _ _ (sub (inN names) l) (sub (inN names) l) _ HJ.out.xx HY.out (by have hsl := HSL.out; rw [HMM.out]; omega)).mono ?_
          rw [sameN_self]
          rintro e w5 ⟨rfl, hb⟩
          replace HJ := Lib.hid (HJ.out.below hb)
          clear hb HY
          have g5 : ((m : Int) == (l.length : Int) + 2 * (c : Int)) = true := by
            have hsl := HSL.out
            rw [beq_iff_eq]
            omega
          go_wp2_with fail
          refine (sameR_any _ _ l l _ HJ.out.nds HJ.out.gg (by omega)).mono ?_
          rw [sameN_self]
          rintro e w6 ⟨rfl, hb⟩
          replace HJ := Lib.hid (HJ.out.below hb)
          clear hb
          go_wp2_with fail
          go_ret
          exact ⟨rfl, HJ.out.bel⟩
    · have hg : decide ((50 : Int) < (names.length : Int)) = true := by simp; omega
      go_wp2_with fail
      refine (alive_any _).mono ?_
      rintro e wn ⟨rfl, hb⟩
      go_wp2_with fail
      go_ret
      exact ⟨rfl, (I.out.below hb).bel⟩
end Go.Proofs.Ytpkbpooiaddcaaa.Rf
