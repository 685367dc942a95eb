/- PlotPoints and PlotAt. PlotOver. PlotLines. PlotApart. -/
import Derived.Test.YtlipkhmidgogdaaQ12
import Derived.BigQuiet

namespace Go.Proofs.Ytlipkhmidgogdaa.Pl
open Go Go.RowKit Go.Proofs.Ytlipkhmidgogdaa.Rw Go.Proofs.Ytlipkhmidgogdaa.So
set_option maxRecDepth 20000

theorem AtC.below {w w' : World} {b off : Nat} {P : List (Nat × Nat)} (h : AtC w b off P) (hb : Below w.heap.size w w') : AtC w' b off P := fun k hk => by
  rw [hb.cell (Ap.cell_lt (h k hk))]
  exact h k hk
/-- Each of its numbers is itself. -/
theorem small_same {P : List (Nat × Nat)} (hs : Small P) {k : Nat} (hk : k < P.length) : (FloatKind.f64.format.order (fo P[k].1) (fo P[k].1) == some .eq) = true ∧ (FloatKind.f64.format.order (fo P[k].2) (fo P[k].2) == some .eq) = true := by
  obtain ⟨h1, h2⟩ := hs _ (List.getElem_mem hk)
  exact ⟨order_same (by omega), order_same (by omega)⟩
theorem bxs_small {l : List Nd} (hl : l.length ≤ 4398046511104) : (bxs l).1 < 2 ^ 50 ∧ (bxs l).2 < 2 ^ 50 := by
  unfold bxs
  split
  · rename_i h
    have ht := one_tre.1 h
    constructor
    · show xl l l.length < _
      have : xl l l.length ≤ l.length := Nat.le_trans List.countP_le_length (by rw [List.length_take]; exact Nat.min_le_right _ _)
      omega
    · show Rw.depth l < _
      obtain ⟨d, hd⟩ := ht
      have h1 := T_bd hd
      have h2 : Rw.depth l = d := by unfold Rw.depth; rw [hd]
      omega
  · exact ⟨by decide, by decide⟩

set_option maxHeartbeats 4000000 in
theorem points_law (v : Value) (l : List Nd) (w : World) (hv : Nds w v l) :
    Calls Try.prog 3 #[v] w fun e w' => e = .returned (.bool true) ∧ Below w.heap.size w w' := by
  have HN := Lib.hid hv
  obtain ⟨_, a, cap, rfl, -⟩ := hv
  go_enter Try.func3, Try.ntmps3
  go_wp2_with fail
  refine (few_any _ l _ HN.out).mono ?_
  cases hf : fewB l with
  | false =>
    rintro e w1 ⟨rfl, rfl⟩
    go_wp2_with fail
    refine (alive_any _).mono ?_
    rintro e w2 ⟨rfl, hb⟩
    have HB := Lib.hid hb
    clear hb
    go_wp2_with fail
    go_ret
    exact ⟨rfl, HB.out⟩
  | true =>
    have hl : l.length ≤ 210 := of_decide_eq_true hf
    rintro e w1 ⟨rfl, rfl⟩
    go_wp2_with fail
    refine (pointsP_any _ l _ HN.out (by omega)).mono ?_
    rintro e w1 ⟨va, rfl, hva, hb1⟩
    have HB1 := Lib.hid hb1
    have HVA := Lib.hid hva
    have hsm := pts_small (l := l) (by omega)
    have hpl := pts_len l
    obtain ⟨bx, hbx⟩ : ∃ bx, bxs l = bx := ⟨_, rfl⟩
    have hbs := bxs_small (l := l) (by omega)
    rw [hbx] at hbs
    obtain ⟨P, hP⟩ : ∃ P, pts l = P := ⟨_, rfl⟩
    rw [hP] at HVA hsm hpl
    obtain ⟨m, hm⟩ : ∃ m, P.length = m := ⟨_, rfl⟩
    obtain ⟨aa, ca, rfl⟩ : ∃ aa ca, va = .slice aa m ca := by
      obtain ⟨_, aa, ca, e, -⟩ := HVA.out
      exact ⟨aa, ca, by rw [e, hm]⟩
    have HM := Lib.hid hm
    have HS := Lib.hid hsm
    have HPP := Lib.hid hP
    have HBX := Lib.hid hbx
    have hml : m ≤ 210 := by omega
    have g1 := order_same (n := (bx.1 : Int)) (by omega)
    have g2 := order_same (n := (bx.2 : Int)) (by omega)
    clear hva hb1 hf hP hm hsm hbs hbx
    go_wp2_with fail
    refine (pointsR_any _ l _ (HN.out.below HB1.out) (by omega)).mono ?_
    rw [HPP.out]
    rintro e w2 ⟨vb, rfl, hvb, hb2⟩
    have HVB := Lib.hid hvb
    replace HVA := Lib.hid (HVA.out.below hb2)
    replace HB1 := Lib.hid (HB1.out.trans (hb2.mono HB1.out.size))
    obtain ⟨ab, cb, rfl⟩ : ∃ ab cb, vb = .slice ab m cb := by
      obtain ⟨_, ab, cb, e, -⟩ := hvb
      exact ⟨ab, cb, by rw [e, HM.out]⟩
    clear hvb hb2
    go_wp2_with fail
    refine (boxP_any _ l _ (HN.out.below HB1.out) (by omega)).mono ?_
    rw [HBX.out]
    unfold cx
    rintro e w3 ⟨rfl, hb⟩
    replace HVA := Lib.hid (HVA.out.below hb)
    replace HVB := Lib.hid (HVB.out.below hb)
    replace HB1 := Lib.hid (HB1.out.trans (hb.mono HB1.out.size))
    clear hb
    go_wp2_with fail
    refine (boxR_any _ l _ (HN.out.below HB1.out) (by omega)).mono ?_
    rw [HBX.out]
    unfold cx
    rintro e w4 ⟨rfl, hb⟩
    replace HVA := Lib.hid (HVA.out.below hb)
    replace HVB := Lib.hid (HVB.out.below hb)
    replace HB1 := Lib.hid (HB1.out.trans (hb.mono HB1.out.size))
    clear hb
    have HCA : Hid (∀ wx, Below w4.heap.size w4 wx → ∀ k, (h : k < P.length) → ∃ b1 o1 b2 o2, aa = some ⟨b1, o1, none⟩ ∧ ab = some ⟨b2, o2, none⟩ ∧ wx.cell? ⟨b1, o1 + k, none⟩ = some (.complex .f64 (fo P[k].1) (fo P[k].2)) ∧ wx.cell? ⟨b2, o2 + k, none⟩ = some (.complex .f64 (fo P[k].1) (fo P[k].2))) := Lib.hid fun wx hb k hk => by
      rcases (HVA.out.below hb).form with ⟨h0, _⟩ | ⟨b1, o1, c1, e1, h1⟩
      · rw [h0] at hk; exact absurd hk (Nat.not_lt_zero k)
      · rcases (HVB.out.below hb).form with ⟨h0, _⟩ | ⟨b2, o2, c2, e2, h2⟩
        · rw [h0] at hk; exact absurd hk (Nat.not_lt_zero k)
        · cases e1; cases e2
          exact ⟨b1, o1, b2, o2, rfl, rfl, h1 k hk, h2 k hk⟩
    go_wp2_with fail
    go_loopw [28] (fun iv wr => ∃ k : Nat, k ≤ m ∧ iv = .int .i64 k ∧ Hid (Below w4.heap.size w4 wr)) (fun iv _ => m - (intOf iv).toNat)
    case atStart => exact ⟨0, Nat.zero_le _, rfl, Lib.hid (Below.refl _ _)⟩
    case round =>
      obtain ⟨k, hk, rfl, HB⟩ := hrel
      by_cases hlt : k < m
      · obtain ⟨b1, o1, b2, o2, rfl, rfl, c1, c2⟩ := HCA.out wr HB.out k (by rw [HM.out]; exact hlt)
        obtain ⟨q1, q2⟩ := small_same HS.out (k := k) (by rw [HM.out]; exact hlt)
        obtain ⟨p, hp⟩ : ∃ p, P[k]'(by rw [HM.out]; exact hlt) = p := ⟨_, rfl⟩
        rw [hp] at c1 c2 q1 q2
        obtain ⟨f1, hf1⟩ : ∃ f, fo p.1 = f := ⟨_, rfl⟩
        obtain ⟨f2, hf2⟩ : ∃ f, fo p.2 = f := ⟨_, rfl⟩
        rw [hf1, hf2] at c1 c2
        rw [hf1] at q1
        rw [hf2] at q2
        clear hf1 hf2 hp
        have i1 : (k : Int) < (m : Int) := by omega
        go_wp2_with fail
        go_quiet (fail)
        have HB' := Lib.hid (HB.out.trans ((Below.drewN w4.heap.size nq wr)))
        go_wp2_with fail
        go_roundw
        case rel => exact ⟨k + 1, by omega, by go_num, HB'⟩
        case measure => simp [intOf]; omega
      · go_wp2_with fail
        refine (alive_any _).mono ?_
        rintro e w5 ⟨rfl, hb⟩
        have HB2 := Lib.hid (HB.out.trans (hb.mono HB.out.size))
        clear hb
        go_wp2_with fail
        go_ret
        exact ⟨rfl, HB1.out.trans (HB2.out.mono HB1.out.size)⟩

set_option maxHeartbeats 4000000 in
theorem at_law (v : Value) (l : List Nd) (z0 z1 : Int) (w : World) (hv : Nds w v l) :
    Calls Try.prog 5 #[v, .agg #[.int .i64 z0, .int .i64 z1]] w fun e w' => e = .returned (.bool true) ∧ Below w.heap.size w w' := by
  have HN := Lib.hid hv
  obtain ⟨_, a, cap, rfl, -⟩ := hv
  have hb0 := below1 w (.cells #[.int .i64 z0, .int .i64 z1] 33)
  have HB0 := Lib.hid hb0
  clear hb0
  go_enter Try.func5, Try.ntmps5
  go_wp2_with fail
  refine (few_any _ l _ (HN.out.below HB0.out)).mono ?_
  cases hf : fewB l with
  | false =>
    rintro e w1 ⟨rfl, rfl⟩
    go_wp2_with fail
    refine (alive_any _).mono ?_
    rintro e w2 ⟨rfl, hb⟩
    have HB := Lib.hid (HB0.out.trans (hb.mono HB0.out.size))
    clear hb
    go_wp2_with fail
    go_ret
    exact ⟨rfl, HB.out⟩
  | true =>
    have hl : l.length ≤ 210 := of_decide_eq_true hf
    rintro e w1 ⟨rfl, rfl⟩
    obtain ⟨mx, hmx⟩ : ∃ mx, (if z0 < z1 then z1 else z0) = mx := ⟨_, rfl⟩
    obtain ⟨mn, hmn⟩ : ∃ mn, (if z1 < z0 then z1 else z0) = mn := ⟨_, rfl⟩
    clear hf
    by_cases hA : 1099511627776 < mx
    · go_wp2_with fail
      refine (alive_any _).mono ?_
      rintro e w2 ⟨rfl, hb⟩
      have HB := Lib.hid (HB0.out.trans (hb.mono HB0.out.size))
      clear hb
      go_wp2_with fail
      go_ret
      exact ⟨rfl, HB.out⟩
    · by_cases hB : mn < -1099511627776
      · go_wp2_with fail
        refine (alive_any _).mono ?_
        rintro e w2 ⟨rfl, hb⟩
        have HB := Lib.hid (HB0.out.trans (hb.mono HB0.out.size))
        clear hb
        go_wp2_with fail
        go_ret
        exact ⟨rfl, HB.out⟩
      · have hz0 : z0.natAbs < 2 ^ 50 := by split at hmx <;> split at hmn <;> omega
        have hz1 : z1.natAbs < 2 ^ 50 := by split at hmx <;> split at hmn <;> omega
        have HAP := Lib.hid (fun wx (h : Nds wx (.slice a l.length cap) l) => atP_any _ l z0 z1 wx h (by omega) (by omega) (by omega))
        have HAR := Lib.hid (fun wx (h : Nds wx (.slice a l.length cap) l) => atR_any _ l z0 z1 wx h (by omega) (by omega) (by omega))
        obtain ⟨o, ho⟩ : ∃ o, find z0 z1 (pts l) = o := ⟨_, rfl⟩
        have HO := Lib.hid ho
        rw [ho] at HAP HAR
        have HQ : Hid (∀ p : Nat × Nat, p.1 < 2 ^ 53 → p.2 < 2 ^ 53 → hit z0 z1 p = true → ∀ w, (binOp .eql 27 (.complex .f64 (fo p.1) (fo p.2)) (.complex .f64 (fo z0) (fo z1))).run Try.prog w = .ok (.bool true) w) := Lib.hid fun p h1 h2 h3 w => by
          rw [eq_run' (by omega) (by omega) h1 h2 w, h3]
        obtain ⟨f0, hf0⟩ : ∃ f, fo z0 = f := ⟨_, rfl⟩
        obtain ⟨f1, hf1⟩ : ∃ f, fo z1 = f := ⟨_, rfl⟩
        rw [hf0, hf1] at HAP HAR HQ
        have hcv0 : ∀ w, (convert 3 32 (.int .i64 z0)).run Try.prog w = .ok (.float .f64 f0) w := fun w => by
          rw [← hf0]
          exact run_convert_int_float w _ _ _ _ _ (by kernel_rfl) Try.underlying32
        have hcv1 : ∀ w, (convert 3 32 (.int .i64 z1)).run Try.prog w = .ok (.float .f64 f1) w := fun w => by
          rw [← hf1]
          exact run_convert_int_float w _ _ _ _ _ (by kernel_rfl) Try.underlying32
        have hF0 : floatOfInt .f64 z0 = f0 := hf0
        have hF1 : floatOfInt .f64 z1 = f1 := hf1
        clear hz0 hz1 ho hf0 hf1
        go_wp2_with fail
        refine (HAP.out _ (HN.out.below HB0.out)).mono ?_
        rintro e w2 ⟨rfl, hb⟩
        replace HB0 := Lib.hid (HB0.out.trans (hb.mono HB0.out.size))
        clear hb
        cases o with
        | none =>
          unfold atV
          go_wp2_with fail
          refine (HAR.out _ (HN.out.below HB0.out)).mono ?_
          rintro e w3 ⟨rfl, hb⟩
          replace HB0 := Lib.hid (HB0.out.trans (hb.mono HB0.out.size))
          clear hb
          unfold atV
          go_wp2_with fail
          refine (pointsP_any _ l _ (HN.out.below HB0.out) (by omega)).mono ?_
          rintro e w4 ⟨va, rfl, hva, hb⟩
          replace HB0 := Lib.hid (HB0.out.trans (hb.mono HB0.out.size))
          obtain ⟨_, aa, ca, rfl, -⟩ := hva
          clear hb
          go_wp2_with fail
          refine (alive_any _).mono ?_
          rintro e w5 ⟨rfl, hb⟩
          have HB := Lib.hid (HB0.out.trans (hb.mono HB0.out.size))
          clear hb
          go_wp2_with fail
          go_ret
          exact ⟨rfl, HB.out⟩
        | some k =>
          obtain ⟨hkl, hh⟩ := find_is HO.out
          obtain ⟨hs1, hs2⟩ := pts_small (l := l) (by omega) _ (List.getElem_mem hkl)
          have hq := HQ.out _ hs1 hs2 hh
          obtain ⟨m, hm⟩ : ∃ m, (pts l).length = m := ⟨_, rfl⟩
          have HM := Lib.hid hm
          rw [hm] at hkl
          have i1 : (k : Int) < (m : Int) := by omega
          clear hs1 hs2 hh hm
          unfold atV
          go_wp2_with fail
          refine (HAR.out _ (HN.out.below HB0.out)).mono ?_
          rintro e w3 ⟨rfl, hb⟩
          replace HB0 := Lib.hid (HB0.out.trans (hb.mono HB0.out.size))
          clear hb
          unfold atV
          go_wp2_with fail
          refine (pointsP_any _ l _ (HN.out.below HB0.out) (by omega)).mono ?_
          rintro e w4 ⟨va, rfl, hva, hb⟩
          replace HB0 := Lib.hid (HB0.out.trans (hb.mono HB0.out.size))
          have HV := Lib.hid hva
          obtain ⟨b, off, ca, rfl, hat⟩ : ∃ b off ca, va = .slice (some ⟨b, off, none⟩) m ca ∧ AtC w4 b off (pts l) := by
            rcases hva.form with ⟨h0, _⟩ | ⟨b, off, ca, e, h⟩
            · rw [← HM.out, h0] at hkl; exact absurd hkl (Nat.not_lt_zero k)
            · exact ⟨b, off, ca, by rw [e, HM.out], h⟩
          have c1 := hat k (by rw [HM.out]; exact hkl)
          obtain ⟨p, hp⟩ : ∃ p, (pts l)[k]'(by rw [HM.out]; exact hkl) = p := ⟨_, rfl⟩
          rw [hp] at c1 hq
          obtain ⟨p1, hp1⟩ : ∃ f, fo p.1 = f := ⟨_, rfl⟩
          obtain ⟨p2, hp2⟩ : ∃ f, fo p.2 = f := ⟨_, rfl⟩
          rw [hp1, hp2] at c1 hq
          clear hb hva hat hp hp1 hp2
          go_wp2_with fail
          refine (alive_any _).mono ?_
          rintro e w5 ⟨rfl, hb⟩
          have HB := Lib.hid (HB0.out.trans (hb.mono HB0.out.size))
          have c2 : w5.cell? ⟨b, off + k, none⟩ = some (.complex .f64 p1 p2) := by rw [hb.cell (Ap.cell_lt c1)]; exact c1
          clear hb c1
          go_wp2_with fail
          go_ret
          exact ⟨rfl, HB.out⟩
end Go.Proofs.Ytlipkhmidgogdaa.Pl

namespace Go.Proofs.Ytlipkhmidgogdaa.Pl
open Go Go.RowKit Go.Proofs.Ytlipkhmidgogdaa.Rw Go.Proofs.Ytlipkhmidgogdaa.So
set_option maxRecDepth 20000

theorem plc_at {w : World} {v : Value} {P : List Nat} (h : Rf.Plc w v P) {k : Nat} (hk : k < P.length) : ∃ b off c, v = .slice (some ⟨b, off, none⟩) P.length c ∧ w.cell? ⟨b, off + k, none⟩ = some (.int .i64 (P[k] : Int)) := by
  rcases h.form with ⟨rfl, _⟩ | ⟨b, off, c, e, hat⟩
  · exact absurd hk (Nat.not_lt_zero k)
  · exact ⟨b, off, c, e, hat k hk⟩
theorem ovI_mem {l : List Nd} {kk : Int} {j : Nat} (hj : j < (ovI l kk).length) : ∃ k : Nat, kk = (k : Int) ∧ k < l.length ∧ one l = true ∧ (ovI l kk)[j] < k ∧ k < (ovI l kk)[j] + zz l (ovI l kk)[j] := by
  have hm := List.getElem_mem hj
  obtain ⟨x, hx⟩ : ∃ x, (ovI l kk)[j] = x := ⟨_, rfl⟩
  rw [hx] at hm ⊢
  unfold ovI at hm
  split at hm
  · rename_i h
    have h1 : one l = true := by
      cases h1 : one l with
      | true => rfl
      | false =>
        have h2 := h.2
        unfold rounds at h2
        rw [h1] at h2
        have : kk < ((0 : Nat) : Int) := h2
        omega
    have hr := rounds_le l
    obtain ⟨a, b⟩ := mem_ov.1 hm
    exact ⟨kk.toNat, by omega, by omega, h1, a, b⟩
  · cases hm

set_option maxHeartbeats 4000000 in
theorem over_law (v : Value) (l : List Nd) (kk : Int) (w : World) (hv : Nds w v l) :
    Calls Try.prog 6 #[v, .int .i64 kk] w fun e w' => e = .returned (.bool true) ∧ Below w.heap.size w w' := by
  have HN := Lib.hid hv
  have hform := hv.form
  obtain ⟨_, a, cap, rfl, -⟩ := hv
  go_enter Try.func6, Try.ntmps6
  go_wp2_with fail
  refine (few_any _ l _ HN.out).mono ?_
  cases hf : fewB l with
  | false =>
    rintro e w1 ⟨rfl, rfl⟩
    go_wp2_with fail
    refine (alive_any _).mono ?_
    rintro e w2 ⟨rfl, hb⟩
    have HB := Lib.hid hb
    clear hb
    go_wp2_with fail
    go_ret
    exact ⟨rfl, HB.out⟩
  | true =>
    have hl : l.length ≤ 210 := of_decide_eq_true hf
    rintro e w1 ⟨rfl, rfl⟩
    obtain ⟨O, hO⟩ : ∃ O, ovI l kk = O := ⟨_, rfl⟩
    have HOE := Lib.hid hO
    obtain ⟨m, hm⟩ : ∃ m, O.length = m := ⟨_, rfl⟩
    have HM := Lib.hid hm
    have hmb : m ≤ 210 := by
      rw [← hm, ← hO]
      unfold ovI
      split
      · unfold ov
        rename_i h
        have := rounds_le l
        exact Nat.le_trans (List.length_filter_le _ _) (by simp; omega)
      · exact Nat.zero_le _
    have HF := Lib.hid hform
    clear hf hO hm hform
    go_wp2_with fail
    refine (overP_any _ l kk _ HN.out (by omega)).mono ?_
    rw [HOE.out]
    rintro e w1 ⟨va, rfl, hva, hb1⟩
    have HB1 := Lib.hid hb1
    have HVA := Lib.hid hva
    obtain ⟨aa, ca, rfl⟩ : ∃ aa ca, va = .slice aa m ca := by
      obtain ⟨_, aa, ca, e, -⟩ := hva
      exact ⟨aa, ca, by rw [e, HM.out]⟩
    clear hva hb1
    go_wp2_with fail
    refine (overR_any _ l kk _ (HN.out.below HB1.out) (by omega)).mono ?_
    rw [HOE.out]
    rintro e w2 ⟨vb, rfl, hvb, hb2⟩
    have HVB := Lib.hid hvb
    replace HVA := Lib.hid (HVA.out.below hb2)
    replace HB1 := Lib.hid (HB1.out.trans (hb2.mono HB1.out.size))
    obtain ⟨ab, cb, rfl⟩ : ∃ ab cb, vb = .slice ab m cb := by
      obtain ⟨_, ab, cb, e, -⟩ := hvb
      exact ⟨ab, cb, by rw [e, HM.out]⟩
    clear hvb hb2
    go_wp2_with fail
    go_loopw [26] (fun iv wr => ∃ j : Nat, j ≤ m ∧ iv = .int .i64 j ∧ Hid (Below w2.heap.size w2 wr)) (fun iv _ => m - (intOf iv).toNat)
    case atStart => exact ⟨0, Nat.zero_le _, rfl, Lib.hid (Below.refl _ _)⟩
    case round =>
      obtain ⟨j, hj, rfl, HB⟩ := hrel
      by_cases hlt : j < m
      · have hjo : j < O.length := by rw [HM.out]; exact hlt
        obtain ⟨b1, o1, c1, e1, q1⟩ := plc_at (HVA.out.below HB.out) hjo
        obtain ⟨b2, o2, c2, e2, q2⟩ := plc_at (HVB.out.below HB.out) hjo
        simp only [Value.slice.injEq] at e1 e2
        obtain ⟨rfl, _, _⟩ := e1
        obtain ⟨rfl, _, _⟩ := e2
        obtain ⟨k, hkk, hkl, h1, hx1, hx2⟩ : ∃ k : Nat, kk = (k : Int) ∧ k < l.length ∧ one l = true ∧ O[j] < k ∧ k < O[j] + zz l O[j] := by
          have h := HOE.out
          have hj' : j < (ovI l kk).length := by rw [h]; exact hjo
          obtain ⟨k, a1, a2, a3, a4, a5⟩ := ovI_mem hj'
          have he : (ovI l kk)[j] = O[j] := by simp only [h]
          rw [he] at a4 a5
          exact ⟨k, a1, a2, a3, a4, a5⟩
        subst hkk
        obtain ⟨x, hx⟩ : ∃ x, O[j] = x := ⟨_, rfl⟩
        rw [hx] at q1 q2 hx1 hx2
        obtain ⟨b, off, rfl, hcap, hat⟩ : ∃ b off, a = some ⟨b, off, none⟩ ∧ l.length ≤ cap ∧ At w b off l := by
          rcases HF.out with ⟨rfl, _⟩ | ⟨b, off, c, e, hcap, hat⟩
          · exact absurd hkl (Nat.not_lt_zero k)
          · cases e; exact ⟨b, off, rfl, hcap, hat⟩
        have hbw := HB1.out.trans (HB.out.mono HB1.out.size)
        obtain ⟨lx, hlx⟩ : ∃ lx, l.drop x = lx := ⟨_, rfl⟩
        obtain ⟨q, hq⟩ : ∃ q, zz l x = q := ⟨_, rfl⟩
        have hqs : Rw.size lx = q := by rw [← hlx]; exact hq
        have hqb : q ≤ l.length := by
          have := size_le lx
          rw [hqs, ← hlx, List.length_drop] at this
          omega
        have HSz : Hid (∀ n, Calls Try.prog 21 #[.slice (some ⟨b, off + x * 3, none⟩) (l.length - x) (cap - x)] (wr.drewN n) fun e w' => e = .returned (.int .i64 (q : Nat)) ∧ w' = wr.drewN n) := Lib.hid fun n => by
          have hd := Rf.drop_nds (fun k hk => by
            obtain ⟨e1, e2, e3⟩ := hat k hk
            have hbn := hbw.trans ((Below.drewN w.heap.size n wr))
            exact ⟨by rw [hbn.cell (Ap.cell_lt e1)]; exact e1, by rw [hbn.cell (Ap.cell_lt e2)]; exact e2, by rw [hbn.cell (Ap.cell_lt e3)]; exact e3⟩) hcap x (by omega) (w := wr.drewN n) (b := b) (off := off)
          rw [hlx] at hd
          refine (sizeR_any _ lx _ hd (by rw [← hlx, List.length_drop]; omega)).mono ?_
          rw [hqs]
          rintro e w' ⟨rfl, rfl⟩
          exact ⟨rfl, rfl⟩
        rw [hq] at hx2
        have i1 : (j : Int) < (m : Int) := by omega
        have i2 : (x : Int) ≤ (l.length : Int) := by omega
        have i3 : cap - x ≠ 0 := by omega
        have i4 : x < cap := by omega
        have d1 : ((x : Int) != (x : Int)) = false := by rw [bne_eq_false_iff_eq]
        have d2 : decide ((x : Int) < 0) = false := decide_eq_false (by omega)
        have d3 : decide ((k : Int) ≤ (x : Int)) = false := decide_eq_false (by omega)
        have d3' : decide (k ≤ x) = false := decide_eq_false (by omega)
        have d4 : decide ((x : Int) + (q : Int) ≤ (k : Int)) = false := decide_eq_false (by omega)
        clear hat hcap hlx hq hqs hx hjo hkl h1 hbw
        go_wp2_with fail
        go_quiet (first | (refine Calls.quiet_of_same (HSz.out _)))
        have HB' := Lib.hid (HB.out.trans ((Below.drewN w2.heap.size nq wr)))
        go_wp2_with fail
        go_roundw
        case rel => exact ⟨j + 1, by omega, by go_num, HB'⟩
        case measure => simp [intOf]; omega
      · have hbw := HB1.out.trans (HB.out.mono HB1.out.size)
        have HBW := Lib.hid hbw
        obtain ⟨np, hnp⟩ : ∃ np, (pts l).length = np := ⟨_, rfl⟩
        have hrd : rounds l = np := by rw [← hnp]; unfold pts; rw [ptsN_len]
        have HNP := Lib.hid hnp
        have HRD := Lib.hid hrd
        clear hbw hnp hrd
        go_wp2_with fail
        refine (pointsP_any _ l _ (HN.out.below HBW.out) (by omega)).mono ?_
        rintro e w3 ⟨vp, rfl, hvp, hb⟩
        replace HBW := Lib.hid (HBW.out.trans (hb.mono HBW.out.size))
        have HVP := Lib.hid hvp
        obtain ⟨ap, cp, rfl⟩ : ∃ ap cp, vp = .slice ap np cp := by
          obtain ⟨_, ap, cp, e, -⟩ := hvp
          exact ⟨ap, cp, by rw [e, HNP.out]⟩
        clear hvp hb
        go_wp2_with fail
        refine (alive_any _).mono ?_
        rintro e w4 ⟨rfl, hb⟩
        replace HBW := Lib.hid (HBW.out.trans (hb.mono HBW.out.size))
        replace HVP := Lib.hid (HVP.out.below hb)
        clear hb
        by_cases hk0 : kk < 0
        · have d0 : decide (kk < 0) = true := decide_eq_true hk0
          go_wp2_with fail
          go_ret
          exact ⟨rfl, HBW.out⟩
        · by_cases hk1 : (np : Int) ≤ kk
          · go_wp2_with fail
            go_ret
            exact ⟨rfl, HBW.out⟩
          · obtain ⟨k, rfl⟩ : ∃ k : Nat, kk = (k : Int) := ⟨kk.toNat, by omega⟩
            have hkn : k < np := by omega
            have hkp : k < (pts l).length := by rw [HNP.out]; exact hkn
            have he : (pts l)[k] = pt l k := by
              have : (pts l)[k]? = some (pt l k) := by
                unfold pts ptsN
                rw [List.getElem?_map, List.getElem?_range (by rw [HRD.out]; exact hkn)]
                rfl
              rw [List.getElem?_eq_getElem hkp] at this
              exact Option.some.inj this
            have hom : (ov l k).length = m := by
              rw [← HM.out, ← HOE.out]
              unfold ovI
              rw [if_pos ⟨by omega, by rw [HRD.out]; omega⟩, Int.toNat_natCast]
            obtain ⟨b, off, rfl, hc⟩ : ∃ b off, ap = some ⟨b, off, none⟩ ∧ w4.cell? ⟨b, off + k, none⟩ = some (.complex .f64 (fo (xl l k)) (fo m)) := by
              rcases HVP.out.form with ⟨h0, _⟩ | ⟨b, off, c, e, h⟩
              · rw [h0] at hkp; exact absurd hkp (Nat.not_lt_zero k)
              · simp only [Value.slice.injEq] at e
                obtain ⟨rfl, _, _⟩ := e
                have h2 := h k hkp
                rw [he] at h2
                unfold pt at h2
                rw [hom] at h2
                exact ⟨b, off, rfl, h2⟩
            have g1 := order_same (n := (m : Int)) (by omega)
            obtain ⟨f1, hf1⟩ : ∃ f, fo (xl l k) = f := ⟨_, rfl⟩
            have hcv : ∀ w, (convert 3 32 (.int .i64 (m : Int))).run Try.prog w = .ok (.float .f64 (fo m)) w := fun w => run_convert_int_float w _ _ _ _ _ (by kernel_rfl) Try.underlying32
            rw [hf1] at hc
            have d2 : decide ((k : Int) < 0) = false := decide_eq_false (by omega)
            have d3 : decide (np ≤ k) = false := decide_eq_false (by omega)
            have d3' : decide ((np : Int) ≤ (k : Int)) = false := decide_eq_false (by omega)
            have i1 : (k : Int) < (np : Int) := by omega
            clear he hom hf1 hkp hk0 hk1
            go_wp2_with fail
            go_ret
            exact ⟨rfl, HBW.out⟩
end Go.Proofs.Ytlipkhmidgogdaa.Pl

namespace Go.Proofs.Ytlipkhmidgogdaa.Pl
open Go Go.RowKit Go.Proofs.Ytlipkhmidgogdaa.Rw Go.Proofs.Ytlipkhmidgogdaa.So
set_option maxRecDepth 20000

theorem addf_run {t : TypeId} {P : Program} {a b : Int} (ha : a.natAbs < 2 ^ 52) (hb : b.natAbs < 2 ^ 52) (w : World) :
    (binOp .add t (.float .f64 (fo a)) (.float .f64 (fo b))).run P w = .ok (.float .f64 (fo (a + b))) w :=
  run_float_arith w .add t .f64 _ _ _ (Fl.add_fl (by omega) (by omega) (by omega))
theorem lt_fo {a b : Int} (ha : a.natAbs < 2 ^ 53) (hb : b.natAbs < 2 ^ 53) : (FloatKind.f64.format.order (fo a) (fo b) == some .lt) = decide (a < b) := by
  have h : FloatKind.f64.format.order (fo a) (fo b) = some (compare a b) := Fl.order_fl ha hb
  rw [h]
  rcases Int.lt_trichotomy a b with h | h | h
  · rw [Int.compare_eq_lt.2 h, decide_eq_true h]; rfl
  · subst h; rw [decide_eq_false (by omega)]; simp
  · rw [Int.compare_eq_gt.2 h, decide_eq_false (by omega)]; rfl
theorem gt_fo {a b : Int} (ha : a.natAbs < 2 ^ 53) (hb : b.natAbs < 2 ^ 53) : (FloatKind.f64.format.order (fo a) (fo b) == some .gt) = decide (b < a) := by
  have h : FloatKind.f64.format.order (fo a) (fo b) = some (compare a b) := Fl.order_fl ha hb
  rw [h]
  rcases Int.lt_trichotomy a b with h | h | h
  · rw [Int.compare_eq_lt.2 h, decide_eq_false (by omega)]; rfl
  · subst h; rw [decide_eq_false (by omega)]; simp
  · rw [Int.compare_eq_gt.2 h, decide_eq_true h]; rfl
theorem lns_cell {w : World} {v : Value} {L : List (Pnt × Pnt)} (h : Lns w v L) {k : Nat} (hk : k < L.length) : ∃ b off c, v = .slice (some ⟨b, off, none⟩) L.length c ∧
    w.cell? ⟨b, off + k * 2, none⟩ = some (.complex .f64 (fo L[k].1.1) (fo L[k].1.2)) ∧ w.cell? ⟨b, off + k * 2 + 1, none⟩ = some (.complex .f64 (fo L[k].2.1) (fo L[k].2.2)) := by
  obtain ⟨_, a, cap, rfl, hle, _, hcell⟩ := h
  obtain ⟨b, off, rfl, hj⟩ := hcell (by omega)
  obtain ⟨h1, h2⟩ := lcs_at L k hk
  exact ⟨b, off, cap, rfl, hj _ _ h1, by rw [Nat.add_assoc]; exact hj _ _ h2⟩
theorem lns_at {l : List Nd} {k : Nat} (hk : k < (lns l).length) (hl : l.length ≤ 210) : ∃ p1 p2 : Pnt, (lns l)[k] = (p1, p2) ∧ p2.2 = p1.2 + 1 ∧ p1.1 ≤ p2.1 ∧ p2.1 ≤ 210 ∧ p2.2 ≤ 210 := by
  have hlen : (lns l).length = rounds l - 1 := by unfold lns; rw [lnsN_len]
  have hr := rounds_le l
  have h1 : one l = true := by
    cases h1 : one l with
    | true => rfl
    | false =>
      have : rounds l = 0 := by unfold rounds; rw [h1]; rfl
      omega
  have hrl : rounds l = l.length := by unfold rounds; rw [h1]; rfl
  have hkl : k + 1 < l.length := by omega
  obtain ⟨ha, hb, hc, hd, he⟩ := par_is (one_tre.1 h1) (k := k + 1) (by omega) hkl
  refine ⟨pt l (par l (k + 1)), pt l (k + 1), ?_, hd, he, ?_, ?_⟩
  · have : (lns l)[k]? = some (ln l (k + 1)) := by
      unfold lns lnsN
      rw [List.getElem?_map, List.getElem?_range (by omega)]
      rfl
    rw [List.getElem?_eq_getElem hk] at this
    exact Option.some.inj this
  · show xl l (k + 1) ≤ 210
    exact Nat.le_trans (Nat.le_trans List.countP_le_length (by rw [List.length_take]; exact Nat.min_le_right _ _)) hl
  · show (ov l (k + 1)).length ≤ 210
    unfold ov
    exact Nat.le_trans (List.length_filter_le _ _) (by simp; omega)

set_option maxHeartbeats 4000000 in
theorem lines_law (v : Value) (l : List Nd) (w : World) (hv : Nds w v l) :
    Calls Try.prog 4 #[v] w fun e w' => e = .returned (.bool true) ∧ Below w.heap.size w w' := by
  have HN := Lib.hid hv
  obtain ⟨_, a, cap, rfl, -⟩ := hv
  go_enter Try.func4, Try.ntmps4
  go_wp2_with fail
  refine (few_any _ l _ HN.out).mono ?_
  cases hf : fewB l with
  | false =>
    rintro e w1 ⟨rfl, rfl⟩
    go_wp2_with fail
    refine (alive_any _).mono ?_
    rintro e w2 ⟨rfl, hb⟩
    have HB := Lib.hid hb
    clear hb
    go_wp2_with fail
    go_ret
    exact ⟨rfl, HB.out⟩
  | true =>
    have hl : l.length ≤ 210 := of_decide_eq_true hf
    rintro e w1 ⟨rfl, rfl⟩
    have HAt := Lib.hid (fun k hk => lns_at (l := l) (k := k) hk hl)
    have hlen : (lns l).length ≤ 210 := by unfold lns; rw [lnsN_len]; have := rounds_le l; omega
    obtain ⟨L, hL⟩ : ∃ L, lns l = L := ⟨_, rfl⟩
    have HLE := Lib.hid hL
    rw [hL] at hlen
    have HAt2 : Hid (∀ k, (hk : k < L.length) → ∃ p1 p2 : Pnt, L[k] = (p1, p2) ∧ p2.2 = p1.2 + 1 ∧ p1.1 ≤ p2.1 ∧ p2.1 ≤ 210 ∧ p2.2 ≤ 210) := Lib.hid (by subst hL; exact HAt.out)
    obtain ⟨m, hm⟩ : ∃ m, L.length = m := ⟨_, rfl⟩
    have HM := Lib.hid hm
    rw [hm] at hlen
    clear hf hL hm HAt
    go_wp2_with fail
    refine (linesP_any _ l _ HN.out (by omega)).mono ?_
    rw [HLE.out]
    rintro e w1 ⟨va, rfl, hva, hb1⟩
    have HB1 := Lib.hid hb1
    have HVA := Lib.hid hva
    obtain ⟨aa, ca, rfl⟩ : ∃ aa ca, va = .slice aa m ca := by
      obtain ⟨_, aa, ca, e, -⟩ := hva
      exact ⟨aa, ca, by rw [e, HM.out]⟩
    clear hva hb1
    go_wp2_with fail
    refine (linesR_any _ l _ (HN.out.below HB1.out) (by omega)).mono ?_
    rw [HLE.out]
    rintro e w2 ⟨vb, rfl, hvb, hb2⟩
    have HVB := Lib.hid hvb
    replace HVA := Lib.hid (HVA.out.below hb2)
    replace HB1 := Lib.hid (HB1.out.trans (hb2.mono HB1.out.size))
    obtain ⟨ab, cb, rfl⟩ : ∃ ab cb, vb = .slice ab m cb := by
      obtain ⟨_, ab, cb, e, -⟩ := hvb
      exact ⟨ab, cb, by rw [e, HM.out]⟩
    clear hvb hb2
    go_wp2_with fail
    go_loopw [21] (fun iv wr => ∃ k : Nat, k ≤ m ∧ iv = .int .i64 k ∧ Hid (Below w2.heap.size w2 wr)) (fun iv _ => m - (intOf iv).toNat)
    case atStart => exact ⟨0, Nat.zero_le _, rfl, Lib.hid (Below.refl _ _)⟩
    case round =>
      obtain ⟨k, hk, rfl, HB⟩ := hrel
      by_cases hlt : k < m
      · have hkl : k < L.length := by rw [HM.out]; exact hlt
        obtain ⟨b1, o1, c1, e1, q1, q2⟩ := lns_cell (HVA.out.below HB.out) hkl
        obtain ⟨b2, o2, c2, e2, q3, q4⟩ := lns_cell (HVB.out.below HB.out) hkl
        simp only [Value.slice.injEq] at e1 e2
        obtain ⟨rfl, _, _⟩ := e1
        obtain ⟨rfl, _, _⟩ := e2
        obtain ⟨p1, p2, hp, h1, h2, h3, h4⟩ := HAt2.out k hkl
        rw [hp] at q1 q2 q3 q4
        have hq := fun w => neq_l (f1 := fo p1.1) (f2 := fo p1.2) (f3 := fo p2.1) (f4 := fo p2.2) w (order_same (by omega)) (order_same (by omega)) (order_same (by omega)) (order_same (by omega))
        have ha : ∀ w, (binOp .add 32 (.float .f64 (fo p1.2)) (.float .f64 4607182418800017408)).run Try.prog w = .ok (.float .f64 (fo p2.2)) w := fun w => by
          rw [← fo_one, addf_run (by omega) (by omega), h1]
          rfl
        have hs2 : (FloatKind.f64.format.order (fo p2.2) (fo p2.2) != some .eq) = false := by
          have h := order_same (n := (p2.2 : Int)) (by omega)
          rw [bne, h]
          rfl
        have hlts := lt_fo (a := (p2.1 : Int)) (b := (p1.1 : Int)) (by omega) (by omega)
        rw [decide_eq_false (by omega)] at hlts
        obtain ⟨f1, hf1⟩ : ∃ f, fo p1.1 = f := ⟨_, rfl⟩
        obtain ⟨f2, hf2⟩ : ∃ f, fo p1.2 = f := ⟨_, rfl⟩
        obtain ⟨f3, hf3⟩ : ∃ f, fo p2.1 = f := ⟨_, rfl⟩
        obtain ⟨f4, hf4⟩ : ∃ f, fo p2.2 = f := ⟨_, rfl⟩
        simp only [hf1, hf2, hf3, hf4] at q1 q2 q3 q4 hq ha hs2 hlts
        have i1 : (k : Int) < (m : Int) := by omega
        clear hf1 hf2 hf3 hf4 hp h1 h2 h3 h4 hkl
        go_wp2_with fail
        go_quiet (fail)
        have HB' := Lib.hid (HB.out.trans ((Below.drewN w2.heap.size nq wr)))
        go_wp2_with fail
        go_roundw
        case rel => exact ⟨k + 1, by omega, by go_num, HB'⟩
        case measure => simp [intOf]; omega
      · go_wp2_with fail
        refine (alive_any _).mono ?_
        rintro e w5 ⟨rfl, hb⟩
        have HB2 := Lib.hid (HB.out.trans (hb.mono HB.out.size))
        clear hb
        go_wp2_with fail
        go_ret
        exact ⟨rfl, HB1.out.trans (HB2.out.mono HB1.out.size)⟩
end Go.Proofs.Ytlipkhmidgogdaa.Pl

namespace Go.Proofs.Ytlipkhmidgogdaa.Pl
open Go Go.RowKit Go.Proofs.Ytlipkhmidgogdaa.Rw Go.Proofs.Ytlipkhmidgogdaa.So
set_option maxRecDepth 20000

theorem pts_at {l : List Nd} {k : Nat} (hk : k < (pts l).length) : (pts l)[k] = pt l k ∧ one l = true ∧ k < l.length := by
  have hlen : (pts l).length = rounds l := by unfold pts; rw [ptsN_len]
  have h1 : one l = true := by
    cases h1 : one l with
    | true => rfl
    | false =>
      have : rounds l = 0 := by unfold rounds; rw [h1]; rfl
      omega
  have hrl : rounds l = l.length := by unfold rounds; rw [h1]; rfl
  refine ⟨?_, h1, by omega⟩
  have : (pts l)[k]? = some (pt l k) := by
    unfold pts ptsN
    rw [List.getElem?_map, List.getElem?_range (by omega)]
    rfl
  rw [List.getElem?_eq_getElem hk] at this
  exact Option.some.inj this
/-- Within the box. -/
theorem pts_in {l : List Nd} {k : Nat} (hk : k < (pts l).length) : (pts l)[k].1 < (bxs l).1 ∧ (pts l)[k].2 < (bxs l).2 := by
  obtain ⟨he, h1, hkl⟩ := pts_at hk
  have ht := one_tre.1 h1
  have e : bxs l = (xl l l.length, Rw.depth l) := by unfold bxs; rw [h1]; rfl
  rw [he, e]
  exact ⟨in_box ht hkl, below_box ht hkl⟩
theorem pts_ne {l : List Nd} {j k : Nat} (hj : j < k) (hk : k < (pts l).length) : ¬ ((pts l)[k].1 = ((pts l)[j]'(by omega)).1 ∧ (pts l)[k].2 = ((pts l)[j]'(by omega)).2) := by
  obtain ⟨he, h1, hkl⟩ := pts_at hk
  obtain ⟨he', _, _⟩ := pts_at (l := l) (k := j) (by omega)
  rw [he, he']
  rintro ⟨a, b⟩
  exact apart (one_tre.1 h1) hj hkl ⟨a.symm, b.symm⟩
theorem ge_fo {a b : Int} (ha : a.natAbs < 2 ^ 53) (hb : b.natAbs < 2 ^ 53) (h : a < b) : (FloatKind.f64.format.order (fo a) (fo b) == some .gt) = false ∧ (FloatKind.f64.format.order (fo a) (fo b) == some .eq) = false := by
  rw [gt_fo ha hb, eq_fo ha hb]
  exact ⟨decide_eq_false (by omega), decide_eq_false (by omega)⟩

set_option maxHeartbeats 4000000 in
theorem apart_law (v : Value) (l : List Nd) (w : World) (hv : Nds w v l) :
    Calls Try.prog 7 #[v] w fun e w' => e = .returned (.bool true) ∧ Below w.heap.size w w' := by
  have HN := Lib.hid hv
  obtain ⟨_, a, cap, rfl, -⟩ := hv
  go_enter Try.func7, Try.ntmps7
  go_wp2_with fail
  refine (few_any _ l _ HN.out).mono ?_
  cases hf : fewB l with
  | false =>
    rintro e w1 ⟨rfl, rfl⟩
    go_wp2_with fail
    refine (alive_any _).mono ?_
    rintro e w2 ⟨rfl, hb⟩
    have HB := Lib.hid hb
    clear hb
    go_wp2_with fail
    go_ret
    exact ⟨rfl, HB.out⟩
  | true =>
    have hl : l.length ≤ 210 := of_decide_eq_true hf
    rintro e w1 ⟨rfl, rfl⟩
    obtain ⟨P, hP⟩ : ∃ P, pts l = P := ⟨_, rfl⟩
    obtain ⟨bx, hbx⟩ : ∃ bx, bxs l = bx := ⟨_, rfl⟩
    have hbs := bxs_small (l := l) (by omega)
    have HIN : Hid (∀ k, (hk : k < P.length) → P[k].1 < bx.1 ∧ P[k].2 < bx.2) := Lib.hid (by subst hP; subst hbx; exact fun k hk => pts_in hk)
    have HNE : Hid (∀ j k, (hj : j < k) → (hk : k < P.length) → ¬ (P[k].1 = (P[j]'(by omega)).1 ∧ P[k].2 = (P[j]'(by omega)).2)) := Lib.hid (by subst hP; exact fun j k hj hk => pts_ne hj hk)
    have HPE := Lib.hid hP
    have HBX := Lib.hid hbx
    rw [hbx] at hbs
    obtain ⟨m, hm⟩ : ∃ m, P.length = m := ⟨_, rfl⟩
    have HM := Lib.hid hm
    have hmr : rounds l = m := by rw [← hm, ← hP]; unfold pts; rw [ptsN_len]
    have HMR := Lib.hid hmr
    have hml : m ≤ 210 := by rw [← hmr]; exact Nat.le_trans (rounds_le l) hl
    have HBS := Lib.hid hbs
    clear hf hP hbx hm hmr hbs
    go_wp2_with fail
    refine (pointsP_any _ l _ HN.out (by omega)).mono ?_
    rw [HPE.out]
    rintro e w1 ⟨va, rfl, hva, hb1⟩
    have HB1 := Lib.hid hb1
    have HVA := Lib.hid hva
    obtain ⟨aa, ca, rfl, hmc⟩ : ∃ aa ca, va = .slice aa m ca ∧ m ≤ ca := by
      obtain ⟨_, aa, ca, e, hle, -⟩ := hva
      rw [HM.out] at e hle
      exact ⟨aa, ca, e, hle⟩
    clear hva hb1
    go_wp2_with fail
    refine (boxP_any _ l _ (HN.out.below HB1.out) (by omega)).mono ?_
    rw [HBX.out]
    unfold cx
    rintro e w2 ⟨rfl, hb⟩
    replace HVA := Lib.hid (HVA.out.below hb)
    replace HB1 := Lib.hid (HB1.out.trans (hb.mono HB1.out.size))
    have HAT : Hid (∀ k, (h : k < P.length) → ∃ b o, aa = some ⟨b, o, none⟩ ∧ ∀ j, (hj : j < P.length) → w2.cell? ⟨b, o + j, none⟩ = some (.complex .f64 (fo P[j].1) (fo P[j].2))) := Lib.hid fun k hk => by
      rcases HVA.out.form with ⟨h0, _⟩ | ⟨b, o, c, e, h⟩
      · rw [h0] at hk; exact absurd hk (Nat.not_lt_zero k)
      · simp only [Value.slice.injEq] at e
        obtain ⟨rfl, _, _⟩ := e
        exact ⟨b, o, rfl, h⟩
    obtain ⟨b1, b2⟩ := bx
    have HT1 : Hid (∀ x y : Nat, x < b1 → ∀ w, Calls Try.prog 22 #[.complex .f64 (fo x) (fo y), .complex .f64 (fo b1) (fo b2)] w fun e w' => e = .returned (.complex .f64 (fo ((b1 - 1 - x : Nat) : Int)) (fo y)) ∧ w = w') := Lib.hid fun x y hx w => by
      have h := turnP_any x y b1 b2 w (by have := HBS.out.1; simp only at this; omega) (by have := HBS.out.1; simp only at this; omega)
      rw [show ((b1 : Int) - 1 - (x : Int)) = ((b1 - 1 - x : Nat) : Int) by omega] at h
      exact h
    have HT2 : Hid (∀ x y : Nat, x < b1 → ∀ w, Calls Try.prog 23 #[.complex .f64 (fo x) (fo y), .complex .f64 (fo b1) (fo b2)] w fun e w' => e = .returned (.complex .f64 (fo ((b1 - 1 - x : Nat) : Int)) (fo y)) ∧ w = w') := Lib.hid fun x y hx w => by
      have h := turnR_any x y b1 b2 w (by have := HBS.out.1; simp only at this; omega) (by have := HBS.out.1; simp only at this; omega)
      rw [show ((b1 : Int) - 1 - (x : Int)) = ((b1 - 1 - x : Nat) : Int) by omega] at h
      exact h
    obtain ⟨g1, hg1⟩ : ∃ f, fo (b1 : Int) = f := ⟨_, rfl⟩
    obtain ⟨g2, hg2⟩ : ∃ f, fo (b2 : Int) = f := ⟨_, rfl⟩
    simp only [hg1, hg2] at HT1 HT2 ⊢
    have HG1 := Lib.hid hg1
    have HG2 := Lib.hid hg2
    clear hb hg1 hg2 HVA
    go_wp2_with fail
    go_loopw [20] (fun iv wr => w2 = wr ∧ ∃ k : Nat, k ≤ m ∧ iv = .int .i64 k) (fun iv _ => m - (intOf iv).toNat)
    case atStart => exact ⟨rfl, 0, Nat.zero_le _, rfl⟩
    case round =>
      obtain ⟨rfl, k, hk, rfl⟩ := hrel
      by_cases hlt : k < m
      · have hkl : k < P.length := by rw [HM.out]; exact hlt
        obtain ⟨b, o, rfl, hat⟩ := HAT.out k hkl
        have c1 := hat k hkl
        obtain ⟨x1, x2⟩ := HIN.out k hkl
        have HNk := Lib.hid (fun j hj => HNE.out j k hj hkl)
        have HSM : Hid (∀ j, (hj : j < P.length) → P[j].1 < 2 ^ 50 ∧ P[j].2 < 2 ^ 50) := Lib.hid fun j hj => by
          have h1 : P[j].1 < b1 ∧ P[j].2 < b2 := HIN.out j hj
          have h2 : b1 < 2 ^ 50 ∧ b2 < 2 ^ 50 := HBS.out
          omega
        have HA := Lib.hid hat
        obtain ⟨p, hp⟩ : ∃ p, P[k] = p := ⟨_, rfl⟩
        have hb50 := HBS.out
        rw [hp] at c1 x1 x2
        obtain ⟨x, y⟩ := p
        simp only at c1 x1 x2 hb50
        have HC1 := Lib.hid (HT1.out x y x1)
        have HC2 := Lib.hid (HT1.out (b1 - 1 - x) y (by omega))
        have HC3 := Lib.hid (HT2.out x y x1)
        rw [show b1 - 1 - (b1 - 1 - x) = x by omega] at HC2
        have s1 := order_same (n := (x : Int)) (by omega)
        have s2 := order_same (n := (y : Int)) (by omega)
        have s3 := order_same (n := ((b1 - 1 - x : Nat) : Int)) (by omega)
        have l1 := lt_fo (a := (x : Int)) (b := 0) (by omega) (by omega)
        have l2 := lt_fo (a := (y : Int)) (b := 0) (by omega) (by omega)
        have l3 := lt_fo (a := ((b1 - 1 - x : Nat) : Int)) (b := 0) (by omega) (by omega)
        rw [decide_eq_false (by omega), fo_zero] at l1 l2 l3
        obtain ⟨r1, r2⟩ := ge_fo (a := (x : Int)) (b := (b1 : Int)) (by omega) (by omega) (by omega)
        obtain ⟨r3, r4⟩ := ge_fo (a := (y : Int)) (b := (b2 : Int)) (by omega) (by omega) (by omega)
        have HEQ : Hid (∀ j, (hj : j < k) → ((FloatKind.f64.format.order (fo x) (fo (P[j]'(by omega)).1) == some .eq) && (FloatKind.f64.format.order (fo y) (fo (P[j]'(by omega)).2) == some .eq)) = false) := Lib.hid fun j hj => by
          have hs := HSM.out j (by omega)
          rw [eq_fo (by omega) (by omega), eq_fo (by omega) (by omega)]
          have hn := HNk.out j hj
          rw [hp] at hn
          rw [Bool.and_eq_false_iff, decide_eq_false_iff_not, decide_eq_false_iff_not]
          simp only at hn
          by_cases h : (x : Int) = ((P[j]'(by omega)).1 : Nat)
          · right
            intro h2
            exact hn ⟨by omega, by omega⟩
          · exact .inl h
        rw [HG1.out] at r1 r2
        rw [HG2.out] at r3 r4
        obtain ⟨f1, hf1⟩ : ∃ f, fo (x : Int) = f := ⟨_, rfl⟩
        obtain ⟨f2, hf2⟩ : ∃ f, fo (y : Int) = f := ⟨_, rfl⟩
        obtain ⟨f3, hf3⟩ : ∃ f, fo ((b1 - 1 - x : Nat) : Int) = f := ⟨_, rfl⟩
        simp only [hf1, hf2, hf3] at c1 HC1 HC2 HC3 s1 s2 s3 l1 l2 l3 r1 r2 r3 r4 HEQ
        have i1 : (k : Int) < (m : Int) := by omega
        have i2 : (k : Int) ≤ (ca : Int) := by omega
        have i3 : k ≤ ca := by omega
        clear hat hp hf1 hf2 hf3 x1 x2 hb50
        go_wp2_with fail
        refine (HC1.out _).mono ?_
        rintro e w3 ⟨rfl, rfl⟩
        go_wp2_with fail
        refine (HC2.out _).mono ?_
        rintro e w3 ⟨rfl, rfl⟩
        go_wp2_with fail
        refine (HC3.out _).mono ?_
        rintro e w3 ⟨rfl, rfl⟩
        go_wp2_with fail
        go_loopw [73] (fun jv wy => w2 = wy ∧ ∃ j : Nat, j ≤ k ∧ jv = .int .i64 j) (fun jv _ => k - (intOf jv).toNat)
        case atStart => exact ⟨rfl, 0, Nat.zero_le _, rfl⟩
        case round =>
          obtain ⟨rfl, j, hj, rfl⟩ := hrel
          by_cases hjk : j < k
          · have cj := HA.out j (by omega)
            have qj := HEQ.out j hjk
            obtain ⟨pj, hpj⟩ : ∃ pj, P[j]'(by omega) = pj := ⟨_, rfl⟩
            rw [hpj] at cj qj
            obtain ⟨f5, hf5⟩ : ∃ f, fo (pj.1 : Int) = f := ⟨_, rfl⟩
            obtain ⟨f6, hf6⟩ : ∃ f, fo (pj.2 : Int) = f := ⟨_, rfl⟩
            rw [hf5, hf6] at cj qj
            clear hpj hf5 hf6
            go_wp2_with fail
            go_roundw
            case rel => exact ⟨trivial, j + 1, by omega, by go_num⟩
            case measure => simp [intOf]; omega
          · go_wp2_with fail
            go_roundw
            case rel => exact ⟨trivial, k + 1, by omega, by go_num⟩
            case measure => simp [intOf]; omega
      · clear HT1 HT2
        go_wp2_with fail
        refine (alive_any _).mono ?_
        rintro e w5 ⟨rfl, hb⟩
        replace HB1 := Lib.hid (HB1.out.trans (hb.mono HB1.out.size))
        clear hb
        obtain ⟨z, hz⟩ : ∃ z, Rw.size l = z := ⟨_, rfl⟩
        have HZ := Lib.hid hz
        cases h1 : one l with
        | true =>
          have hml : m = l.length := by rw [← HMR.out]; unfold rounds; rw [h1]; rfl
          have hp : 0 < l.length := (one_tre.1 h1).pos
          have hzl : z = l.length := by
            rw [one_of hz hp] at h1
            exact of_decide_eq_true h1
          have d1 : decide ((0 : Int) < (m : Int)) = true := decide_eq_true (by omega)
          have d1' : decide (0 < m) = true := decide_eq_true (by omega)
          have d2 : ((z : Int) == (l.length : Int)) = true := by rw [beq_iff_eq]; omega
          have d3 : decide ((0 : Int) < (l.length : Int)) = true := decide_eq_true (by omega)
          have d3' : decide (0 < l.length) = true := decide_eq_true hp
          clear h1 hz hml hp hzl
          go_wp2_with fail
          refine (Rx.sizeP_big _ l _ (HN.out.below HB1.out) (by omega)).mono ?_
          rw [HZ.out]
          rintro e w6 ⟨rfl, hb⟩
          replace HB1 := Lib.hid (HB1.out.trans (hb.mono HB1.out.size))
          clear hb
          go_wp2_with fail
          go_ret
          exact ⟨rfl, HB1.out⟩
        | false =>
          have hml : m = 0 := by rw [← HMR.out]; unfold rounds; rw [h1]; rfl
          have d1 : decide ((0 : Int) < (m : Int)) = false := decide_eq_false (by omega)
          have d1' : decide (0 < m) = false := decide_eq_false (by omega)
          by_cases hp : 0 < l.length
          · have hzl : z ≠ l.length := by
              rw [one_of hz hp] at h1
              exact of_decide_eq_false h1
            have d2 : ((z : Int) == (l.length : Int)) = false := by rw [beq_eq_false_iff_ne]; omega
            clear h1 hz hml hp hzl
            go_wp2_with fail
            refine (Rx.sizeP_big _ l _ (HN.out.below HB1.out) (by omega)).mono ?_
            rw [HZ.out]
            rintro e w6 ⟨rfl, hb⟩
            replace HB1 := Lib.hid (HB1.out.trans (hb.mono HB1.out.size))
            clear hb
            go_wp2_with fail
            go_ret
            exact ⟨rfl, HB1.out⟩
          · have hzl : z ≤ l.length := by rw [← hz]; exact size_le l
            have d2 : ((z : Int) == (l.length : Int)) = true := by rw [beq_iff_eq]; omega
            have d3 : decide ((0 : Int) < (l.length : Int)) = false := decide_eq_false (by omega)
            have d3' : decide (0 < l.length) = false := decide_eq_false hp
            clear h1 hz hml hp hzl
            go_wp2_with fail
            refine (Rx.sizeP_big _ l _ (HN.out.below HB1.out) (by omega)).mono ?_
            rw [HZ.out]
            rintro e w6 ⟨rfl, hb⟩
            replace HB1 := Lib.hid (HB1.out.trans (hb.mono HB1.out.size))
            clear hb
            go_wp2_with fail
            go_ret
            exact ⟨rfl, HB1.out⟩
end Go.Proofs.Ytlipkhmidgogdaa.Pl
