/- DoomPar: the walk. -/
import Derived.Test.YtekblibhaipioaaQ33
import Derived.Test.YtekblibhaipioaaQ11

namespace Go.Proofs.Ytekblibhaipioaa.Do
open Go Go.RowKit Go.Proofs.Ytekblibhaipioaa.Rw Go.Proofs.Ytekblibhaipioaa.So Go.Proofs.Ytekblibhaipioaa.Se
set_option maxRecDepth 20000

theorem noB_stuck : ∀ u : Tm, noB u = true → Se.stuck u = false := by
  intro u
  induction u with
  | block a ia => intro h; simp [noB] at h
  | par a b ia ib => intro h; simp only [noB, Bool.and_eq_true] at h; simp [Se.stuck, ia h.1, ib h.2]
  | seq a b ia ib => intro h; simp only [noB, Bool.and_eq_true] at h; exact ia h.1
  | hand a b ia ib => intro h; simp only [noB, Bool.and_eq_true] at h; exact ia h.1
  | going a b ia ib => intro h; simp only [noB, Bool.and_eq_true] at h; exact ia h.1
  | stack a b ia ib => intro h; simp only [noB, Bool.and_eq_true] at h; exact ia h.1
  | _ => intro _; rfl
/-- In a block of what has thrown, and of another one. -/
def thr (c a : List Nd) : List Nd := nOf 9 :: (nOf 7 :: ((nEnd 2 :: c) ++ a))
theorem thrown {c u : Tm} (hr : rg c = true) (hc : is c 1 = true) (hg : Goes u) (h4 : is u 4 = true) (hn : Nf u) (hl : sz c + sz u ≤ 190) (hb : noB u = true) (hk : kd u ≠ 14) :
    (∀ z ∈ av (st (thr (flat c) (flat u))), fr (st (thr (flat c) (flat u))) z = true) ∧ (av (st (thr (flat c) (flat u)))).length = (av (flat u)).length ∧ 0 < (av (flat u)).length := by
  have hf : isFin u = false := by cases u <;> first | rfl | exact absurd rfl hk
  have e : thr (flat c) (flat u) = flat (.block (.par (.fin 2 c) u)) := rfl
  have hG : Goes (.block (.par (.fin 2 c) u)) := by
    refine ⟨?_, ?_, .inl ?_⟩
    · rw [rg_block, rg_par, rg_fin, hr, hg.1]; decide +kernel
    · simp only [sz]; omega
    · simp [is, hc, h4]
  have hS := S_thrown (c := c) hn hf
  have hN : Nf (.block (.par (.fin 2 c) u)) := hS ▸ S_nf _
  rw [e, st_go hG, hS, av_go hG hN, av_go hg hn, List.length_map, List.length_map]
  refine ⟨fun z hz => ?_, ?_, ?_⟩
  · obtain ⟨k, hk, rfl⟩ := List.mem_map.1 hz
    obtain ⟨h1, h2⟩ := pth_thrown hb hk
    rw [show Int.ofNat k = ((k : Nat) : Int) from rfl, fr_go hG hN hk, h1, Bool.not_true, Bool.false_or, List.any_eq_true]
    exact ⟨_, h2, rfl⟩
  · rw [show wt (.block (.par (.fin 2 c) u)) 0 = wt u (0 + 1 + 1 + sz (.fin 2 c)) from by simp [wt], wt_len u]
  · refine List.length_pos_iff.2 fun e => ?_
    have hw := (wt_waits u 0).1 e
    rcases nf_ends u hn hg.1 hg.2.2 with h | h | h | h
    · rw [hw] at h; cases h
    · rw [over_is h] at h4; cases h4
    · rw [hf] at h; cases h
    · rw [noB_stuck u hb] at h; cases h
theorem all9 {m : List Nd} {k : Nat} (h : k < m.length) : (m.take (k + 1)).all (fun x => decide (x.k ≠ 9)) = ((m.take k).all (fun x => decide (x.k ≠ 9)) && decide (m[k].k ≠ 9)) := by
  rw [List.take_succ_eq_append_getElem h, List.all_append]
  simp
theorem noB_all {u : Tm} (h : (flat u).all (fun x => decide (x.k ≠ 9)) = true) : noB u = true := by
  rw [cnt9, List.countP_eq_zero]
  intro x hx hk
  have := List.all_eq_true.1 h x hx
  simp at this hk
  exact this hk
set_option maxHeartbeats 8000000 in
theorem par_law (C : Con) (A : Alive) (v vc : Value) (l c : List Nd) (w0 : World) (hv : Nds w0 v l) (hvc : Nds w0 vc c) (hm : Nms l) (hmc : Nms c) :
    Calls Try.prog 7 #[v, vc] w0 fun e w' => e = .returned (.bool true) ∧ Below w0.heap.size w0 w' := by
  have HF1 := Lib.hid (few_any v l w0 hv)
  have HF2 := Lib.hid (few_any vc c w0 hvc)
  have HA := Lib.hid A
  unfold Alive at HA
  by_cases hf1 : fewB l = false
  · rw [hf1] at HF1
    obtain ⟨_, a, ca, rfl, -⟩ := id hv
    obtain ⟨_, ac, cc, rfl, -⟩ := id hvc
    clear hv hm hf1 hvc hmc
    go_enter Try.func7, Try.ntmps7
    go_wp2_with fail
    refine HF1.out.mono ?_
    rintro e w1 ⟨rfl, rfl⟩
    go_wp2_with fail
    refine (HA.out _).mono ?_
    rintro e w2 ⟨rfl, hb2⟩
    have D2 := Lib.hid hb2
    clear hb2
    go_wp2_with fail
    go_ret
    exact ⟨rfl, D2.out⟩
  have hf1 : fewB l = true := by simpa using hf1
  rw [hf1] at HF1
  by_cases hf2 : fewB c = false
  · rw [hf2] at HF2
    obtain ⟨_, a, ca, rfl, -⟩ := id hv
    obtain ⟨_, ac, cc, rfl, -⟩ := id hvc
    clear hv hm hf1 hf2 hvc hmc
    go_enter Try.func7, Try.ntmps7
    go_wp2_with fail
    refine HF1.out.mono ?_
    rintro e w1 ⟨rfl, rfl⟩
    go_wp2_with fail
    refine HF2.out.mono ?_
    rintro e w1 ⟨rfl, rfl⟩
    go_wp2_with fail
    refine (HA.out _).mono ?_
    rintro e w2 ⟨rfl, hb2⟩
    have D2 := Lib.hid hb2
    clear hb2
    go_wp2_with fail
    go_ret
    exact ⟨rfl, D2.out⟩
  have hf2 : fewB c = true := by simpa using hf2
  rw [hf2] at HF2
  have hl1 := few_len hf1
  have hl2 := few_len hf2
  have HO1 := Lib.hid (Sx.onP_any l true v w0 hv (by omega) hm)
  have HO2 := Lib.hid (fun w1 (hb : Below w0.heap.size w0 w1) => Sx.ofP_any c vc w1 (hvc.below hb) (by omega) hmc)
  by_cases ho1 : onB l true = false
  · rw [ho1] at HO1
    obtain ⟨_, a, ca, rfl, -⟩ := id hv
    obtain ⟨_, ac, cc, rfl, -⟩ := id hvc
    clear hv hm hf1 hf2 hvc hmc ho1
    go_enter Try.func7, Try.ntmps7
    go_wp2_with fail
    refine HF1.out.mono ?_
    rintro e w1 ⟨rfl, rfl⟩
    go_wp2_with fail
    refine HF2.out.mono ?_
    rintro e w1 ⟨rfl, rfl⟩
    go_wp2_with fail
    refine HO1.out.mono ?_
    rintro e w1 ⟨rfl, hb1⟩
    have D1 := Lib.hid hb1
    clear hb1
    go_wp2_with fail
    refine (HA.out _).mono ?_
    rintro e w2 ⟨rfl, hb2⟩
    have D2 := Lib.hid (D1.out.trans (hb2.mono D1.out.size))
    clear hb2
    go_wp2_with fail
    go_ret
    exact ⟨rfl, D2.out⟩
  have ho1 : onB l true = true := by simpa using ho1
  rw [ho1] at HO1
  by_cases ho2 : of c ≠ 1
  · have ho3 : ((of c : Int) == 1) = false := beq_eq_false_iff_ne.2 (by omega)
    have ho4 : ((of c : Int) != 1) = true := by rw [bne, ho3]; rfl
    have ho5 : ¬ ((of c : Int) = 1) := by omega
    obtain ⟨_, a, ca, rfl, -⟩ := id hv
    obtain ⟨_, ac, cc, rfl, -⟩ := id hvc
    generalize of c = oc at HO2 ho3 ho4 ho5
    clear hv hm hf1 hf2 hvc hmc ho1 ho2
    go_enter Try.func7, Try.ntmps7
    go_wp2_with fail
    refine HF1.out.mono ?_
    rintro e w1 ⟨rfl, rfl⟩
    go_wp2_with fail
    refine HF2.out.mono ?_
    rintro e w1 ⟨rfl, rfl⟩
    go_wp2_with fail
    refine HO1.out.mono ?_
    rintro e w1 ⟨rfl, hb1⟩
    have D1 := Lib.hid hb1
    clear hb1
    go_wp2_with fail
    refine (HO2.out _ D1.out).mono ?_
    rintro e w2 ⟨rfl, hb2⟩
    have D2 := Lib.hid (D1.out.trans (hb2.mono D1.out.size))
    clear hb2
    go_wp2_with fail
    refine (HA.out _).mono ?_
    rintro e w3 ⟨rfl, hb3⟩
    have D3 := Lib.hid (D2.out.trans (hb3.mono D2.out.size))
    clear hb3
    go_wp2_with fail
    go_ret
    exact ⟨rfl, D3.out⟩
  have ho2 : of c = 1 := by simpa using ho2
  rw [ho2, show ((1 : Nat) : Int) = 1 from rfl] at HO2
  by_cases h90 : l.length + c.length > 90
  · have h90' : (90 : Int) < (l.length : Int) + (c.length : Int) := by omega
    obtain ⟨_, a, ca, rfl, -⟩ := id hv
    obtain ⟨_, ac, cc, rfl, -⟩ := id hvc
    clear hv hm hf1 hf2 hvc hmc ho1 ho2 h90
    go_enter Try.func7, Try.ntmps7
    go_wp2_with fail
    refine HF1.out.mono ?_
    rintro e w1 ⟨rfl, rfl⟩
    go_wp2_with fail
    refine HF2.out.mono ?_
    rintro e w1 ⟨rfl, rfl⟩
    go_wp2_with fail
    refine HO1.out.mono ?_
    rintro e w1 ⟨rfl, hb1⟩
    have D1 := Lib.hid hb1
    clear hb1
    go_wp2_with fail
    refine (HO2.out _ D1.out).mono ?_
    rintro e w2 ⟨rfl, hb2⟩
    have D2 := Lib.hid (D1.out.trans (hb2.mono D1.out.size))
    clear hb2
    go_wp2_with fail
    refine (HA.out _).mono ?_
    rintro e w3 ⟨rfl, hb3⟩
    have D3 := Lib.hid (D2.out.trans (hb3.mono D2.out.size))
    clear hb3
    go_wp2_with fail
    go_ret
    exact ⟨rfl, D3.out⟩
  -- the one of which it speaks
  have h90' : ¬ (90 : Int) < (l.length : Int) + (c.length : Int) := by omega
  have ⟨t, htl, htg, ht4⟩ : ∃ t, flat t = l ∧ Goes t ∧ is t 4 = true := by
    have h0 : of l ≠ 0 := by unfold onB at ho1; intro h; rw [h] at ho1; simp at ho1
    obtain ⟨t, rfl, hg⟩ := goes_of h0
    rw [on_flat hg.1 hg.2.1] at ho1
    exact ⟨t, rfl, hg, by simpa using ho1⟩
  have ⟨cc, hcl, hcg, hc1⟩ : ∃ t, flat t = c ∧ Goes t ∧ is t 1 = true := by
    obtain ⟨t, rfl, hg⟩ := goes_of (l := c) (by rw [ho2]; decide)
    rw [of_flat hg.1 hg.2.1] at ho2
    refine ⟨t, rfl, hg, ?_⟩
    cases h1 : is t 1 with
    | true => rfl
    | false => rw [h1] at ho2; cases h2 : is t 2 <;> cases h3 : is t 3 <;> cases h4 : is t 4 <;> simp_all
  have est : st l = flat (S t) := by rw [← htl]; exact st_go htg
  have hSs : sz (S t) ≤ l.length := by rw [← htl, Se.flat_len]; exact S_sz t
  have hszc : sz cc = c.length := by rw [← hcl, Se.flat_len]
  have HS := Lib.hid (fun w1 (hb : Below w0.heap.size w0 w1) => settleP_any v l w1 (hv.below hb) (by omega) hm)
  rw [est] at HS
  have hg := htg.S
  have hlu : (flat (S t)).length ≤ 100 := by rw [Se.flat_len]; omega
  have HVC := Lib.hid (fun w1 (hb : Below w0.heap.size w0 w1) => hvc.below hb)
  have HON1 := Lib.hid (fun y w1 (h : Nds w1 y c) => (oneR_any (nEnd 2) y c w1 h (by omega)).mono fun (e : Ending) (w' : World) ⟨y', he, ho, hb⟩ => (⟨y', he, Ap.Rd.owned ho, hb⟩ : OutL (nEnd 2 :: c) w1 e w'))
  have HTW := Lib.hid (fun y y' w1 (h : Nds w1 y (nEnd 2 :: c)) (h' : Nds w1 y' (flat (S t))) => twoR_any (nOf 7) y y' (nEnd 2 :: c) (flat (S t)) w1 h h' (by simp; omega) (by omega))
  have HON2 := Lib.hid (fun y w1 (h : Nds w1 y (nOf 7 :: ((nEnd 2 :: c) ++ flat (S t)))) => (oneR_any (nOf 9) y _ w1 h (by simp; omega)).mono fun (e : Ending) (w' : World) ⟨y', he, ho, hb⟩ => (⟨y', he, Ap.Rd.owned ho, hb⟩ : OutL (thr c (flat (S t))) w1 e w'))
  have hmt : Nms (thr c (flat (S t))) := fun z hz => by
    unfold thr at hz
    simp only [List.mem_cons, List.mem_append] at hz
    rcases hz with rfl | rfl | (rfl | hz) | hz
    · exact Nat.zero_le _
    · exact Nat.zero_le _
    · exact Nat.zero_le _
    · exact hmc z hz
    · exact nms_goes hg.1 z hz
  have hlt : (thr c (flat (S t))).length ≤ 250 := by unfold thr; simp; omega
  have HSM := Lib.hid (fun y w1 (h : Nds w1 y (thr c (flat (S t)))) => settleP_any y _ w1 h (by omega) hmt)
  have hMl := st_len (thr c (flat (S t)))
  have HCM := Lib.hid (fun y w1 (h : Nds w1 y (st (thr c (flat (S t))))) => C.act y _ w1 h (by omega) (nms_st _))
  have HFM := Lib.hid (fun y z w1 (h : Nds w1 y (st (thr c (flat (S t))))) => C.free y _ z w1 h (by omega) (nms_st _))
  have HCA := Lib.hid (fun y w1 (h : Nds w1 y (flat (S t))) => C.act y _ w1 h (by omega) (nms_goes hg.1))
  have HY : Hid ((flat (S t)).all (fun x => decide (x.k ≠ 9)) = true → kd (S t) ≠ 14 → (∀ z ∈ av (st (thr c (flat (S t)))), fr (st (thr c (flat (S t)))) z = true) ∧ (av (st (thr c (flat (S t))))).length = (av (flat (S t))).length ∧ 0 < (av (flat (S t))).length) := Lib.hid fun h1 h2 => by
    rw [← hcl]
    exact thrown hcg.1 hc1 hg ((S_is t).2 ht4) (S_nf t) (by omega) (noB_all h1) h2
  have hVl : (av (st (thr c (flat (S t))))).length ≤ 250 := Nat.le_trans (av_len _) (by omega)
  have hposl : 0 < (flat (S t)).length := by rw [Se.flat_len]; exact sz_pos _
  have HKD : Hid ((h : 0 < (flat (S t)).length) → (flat (S t))[0].k = kd (S t)) := Lib.hid fun h => (at0 h).1
  obtain ⟨kk, hkk⟩ : ∃ kk, kd (S t) = kk := ⟨_, rfl⟩
  rw [hkk] at HKD HY
  obtain ⟨m, hmu⟩ : ∃ m, m = flat (S t) := ⟨_, rfl⟩
  rw [← hmu] at HS hlu HTW HON2 HSM HCM HFM HCA HY hVl hposl HKD
  obtain ⟨M, hM⟩ : ∃ M, M = st (thr c m) := ⟨_, rfl⟩
  rw [← hM] at HSM HCM HFM HY hVl
  generalize av M = VM at HCM HY hVl
  generalize av m = Vm at HCA HY
  have HT := Lib.hid (fun k (h : k < m.length) => all9 h)
  obtain ⟨_, a, ca, rfl, -⟩ := id hv
  obtain ⟨_, ac, cq, rfl, -⟩ := id hvc
  unfold OutL at HON1
  generalize thr c m = R3 at HON2 HSM
  generalize nOf 7 :: ((nEnd 2 :: c) ++ m) = R2 at HTW HON2
  generalize nEnd 2 :: c = R1 at HON1 HTW
  clear hv hm hf1 hf2 hvc hmc ho1 ho2 h90 htl htg ht4 hcl hcg hc1 est hSs hszc hg hmt hlt hMl hkk hmu hM
  go_enter Try.func7, Try.ntmps7
  go_wp2_with fail
  refine HF1.out.mono ?_
  rintro e w1 ⟨rfl, rfl⟩
  go_wp2_with fail
  refine HF2.out.mono ?_
  rintro e w1 ⟨rfl, rfl⟩
  go_wp2_with fail
  refine HO1.out.mono ?_
  rintro e w1 ⟨rfl, hb1⟩
  have D1 := Lib.hid hb1
  clear hb1
  go_wp2_with fail
  refine (HO2.out _ D1.out).mono ?_
  rintro e w2 ⟨rfl, hb2⟩
  have D2 := Lib.hid (D1.out.trans (hb2.mono D1.out.size))
  clear hb2
  go_wp2_with fail
  refine (HS.out _ D2.out).mono ?_
  rintro e w3 ⟨y, rfl, hn, hb3⟩
  have N3 := Lib.hid (fun w' (hb : Below w3.heap.size w3 w') => hn.below hb)
  have D3 := Lib.hid (D2.out.trans (hb3.mono D2.out.size))
  rcases hn.form with ⟨h0, _⟩ | ⟨b, o, c3, rfl, hc3, hat⟩
  · rw [h0] at hposl; simp at hposl
  have AT := Lib.hid hat
  clear hb3 hn hat
  go_wp2_with fail
  go_loopw [43] (fun i wr => ∃ k : Nat, k ≤ m.length ∧ i = .int .i64 k ∧ Hid ((m.take k).all (fun x => decide (x.k ≠ 9)) = true) ∧ Hid (Below w3.heap.size w3 wr)) (fun i _ => m.length - (intOf i).toNat)
  case atStart => exact ⟨0, Nat.zero_le _, rfl, Lib.hid rfl, Lib.hid (Below.refl _ _)⟩
  case round =>
    obtain ⟨k, hk, rfl, HK9, HB⟩ := hrel
    by_cases hlt : k < m.length
    · obtain ⟨e1, e2, e3⟩ := AT.out k hlt
      have c1 : wr.cell? ⟨b, o + k * 3, none⟩ = some (.int .i64 m[k].k) := by rw [HB.out.cell (Ap.cell_lt e1)]; exact e1
      have c2' : wr.cell? ⟨b, o + k * 3 + 1, none⟩ = some (.string m[k].n) := by rw [HB.out.cell (Ap.cell_lt e2)]; exact e2
      have c3' : wr.cell? ⟨b, o + k * 3 + 2, none⟩ = some (.int .i64 m[k].s) := by rw [HB.out.cell (Ap.cell_lt e3)]; exact e3
      have HK := Lib.hid (HT.out k hlt)
      obtain ⟨x, hx⟩ : ∃ x, m[k] = x := ⟨_, rfl⟩
      rw [hx] at c1 c2' c3' HK
      obtain ⟨xk, xn, xs⟩ := x
      simp only at c1 c2' c3'
      clear e1 e2 e3 hx
      by_cases h9 : xk = 9
      · have h9' : (xk == 9) = true := by simpa using h9
        have DW := Lib.hid (D3.out.trans (HB.out.mono D3.out.size))
        have DW1 := Lib.hid (DW.out.trans ((below1 wr (.cells #[.int .i64 xk, .string xn, .int .i64 xs] 34)).mono DW.out.size))
        clear h9
        go_wp2_with fail
        refine (HA.out _).mono ?_
        rintro e w4 ⟨rfl, hb4⟩
        have D4 := Lib.hid (DW1.out.trans (hb4.mono DW1.out.size))
        clear hb4
        go_wp2_with fail
        go_ret
        exact ⟨rfl, D4.out⟩
      · have h9' : (xk == 9) = false := beq_eq_false_iff_ne.2 h9
        have HG : Hid ((m.take (k + 1)).all (fun x => decide (x.k ≠ 9)) = true) := Lib.hid (by rw [HK.out, HK9.out]; simpa using h9)
        clear h9
        go_wp2_with fail
        go_roundw
        case rel => exact ⟨k + 1, by omega, by go_num, HG, Lib.hid (HB.out.trans ((below1 wr _).mono HB.out.size))⟩
        case measure => simp [intOf]; omega
    · have hall : m.take k = m := List.take_of_length_le (by omega)
      rw [hall] at HK9
      have D4 := Lib.hid (D3.out.trans (HB.out.mono D3.out.size))
      have HV4 := Lib.hid (HVC.out _ D4.out)
      have NX := Lib.hid (fun w' (hb : Below wr.heap.size wr w') => (N3.out _ HB.out).below hb)
      obtain ⟨e1, -, -⟩ := AT.out 0 hposl
      have e1' : wr.cell? ⟨b, o, none⟩ = some (.int .i64 kk) := by
        have := HKD.out hposl
        rw [this, Nat.zero_mul, Nat.add_zero] at e1
        rw [HB.out.cell (p := ⟨b, o, none⟩) (Ap.cell_lt e1)]; exact e1
      have EX : Hid (∀ w', Below wr.heap.size wr w' → w'.cell? ⟨b, o, none⟩ = some (.int .i64 kk)) := Lib.hid fun w' hb => by rw [hb.cell (p := ⟨b, o, none⟩) (Ap.cell_lt e1')]; exact e1'
      clear e1 e1' hall
      go_wp2_with fail
      refine (HON1.out _ _ HV4.out).mono ?_
      rintro e w5 ⟨y5, rfl, hn5, hb5⟩
      have D5 := Lib.hid (D4.out.trans (hb5.mono D4.out.size))
      have F5 := Lib.hid hb5
      have N5 := Lib.hid hn5
      obtain ⟨_, a5, c5, rfl, -⟩ := id hn5
      clear hb5 hn5
      go_wp2_with fail
      refine (HTW.out _ _ _ N5.out (NX.out _ F5.out)).mono ?_
      rintro e w6 ⟨y6, rfl, hn6, hb6⟩
      have D6 := Lib.hid (D5.out.trans (hb6.mono D5.out.size))
      have F6 := Lib.hid (F5.out.trans (hb6.mono F5.out.size))
      have N6 := Lib.hid hn6
      obtain ⟨_, a6, c6, rfl, -⟩ := id hn6
      clear hb6 hn6
      go_wp2_with fail
      refine (HON2.out _ _ N6.out).mono ?_
      rintro e w7 ⟨y7, rfl, hn7, hb7⟩
      have D7 := Lib.hid (D6.out.trans (hb7.mono D6.out.size))
      have F7 := Lib.hid (F6.out.trans (hb7.mono F6.out.size))
      have N7 := Lib.hid hn7
      obtain ⟨_, a7, c7, rfl, -⟩ := id hn7
      clear hb7 hn7
      go_wp2_with fail
      refine (HSM.out _ _ N7.out).mono ?_
      rintro e w8 ⟨y8, rfl, hn8, hb8⟩
      have D8 := Lib.hid (D7.out.trans (hb8.mono D7.out.size))
      have F8 := Lib.hid (F7.out.trans (hb8.mono F7.out.size))
      have N8 := Lib.hid (fun w' (hb : Below w8.heap.size w8 w') => hn8.below hb)
      have M8 := Lib.hid hn8
      obtain ⟨_, a8, c8, rfl, -⟩ := id hn8
      clear hb8 hn8
      go_wp2_with fail
      refine (HCM.out _ _ M8.out).mono ?_
      rintro e w9 ⟨y9, rfl, hi9, hb9⟩
      have D9 := Lib.hid (D8.out.trans (hb9.mono D8.out.size))
      have F9 := Lib.hid (F8.out.trans (hb9.mono F8.out.size))
      have G9 := Lib.hid hb9
      have I9 := Lib.hid (fun w' (hb : Below w9.heap.size w9 w') => hi9.below hb)
      have e9 := EX.out _ F9.out
      obtain ⟨_, a9, c9, rfl, -⟩ := id hi9
      clear hb9 hi9
      have gne : ((m.length : Int) == 0) = false := beq_eq_false_iff_ne.2 (by omega)
      have gpos : ((0 : Int) < (m.length : Int)) = True := by simp; omega
      by_cases h14 : kk = 14
      · have h14' : (kk == 14) = true := by simpa using h14
        clear h14
        go_wp2_with fail
        refine (HA.out _).mono ?_
        rintro e w10 ⟨rfl, hb10⟩
        have D10 := Lib.hid (D9.out.trans (hb10.mono D9.out.size))
        clear hb10
        go_wp2_with fail
        go_ret
        exact ⟨rfl, D10.out⟩
      · have h14' : (kk == 14) = false := beq_eq_false_iff_ne.2 h14
        obtain ⟨hy1, hy2, hy3⟩ := HY.out HK9.out h14
        have HY1 := Lib.hid hy1
        have HY2 := Lib.hid hy2
        have gl : (0 : Int) < (VM.length : Int) := by omega
        clear hy1 hy2 hy3 h14
        go_wp2_with fail
        go_loopw [81] (fun i wq => ∃ j : Nat, j ≤ VM.length ∧ i = .int .i64 j ∧ Hid (Below w9.heap.size w9 wq)) (fun i _ => VM.length - (intOf i).toNat)
        case atStart => exact ⟨0, Nat.zero_le _, rfl, Lib.hid (Below.refl _ _)⟩
        case round =>
          obtain ⟨j, hj, rfl, HQ⟩ := hrel
          by_cases hjl : j < VM.length
          · rcases Ints.form (I9.out _ HQ.out) with ⟨h0, _⟩ | ⟨b4, o4, c4, e4, _, hat4⟩
            · rw [h0] at hjl; simp at hjl
            injection e4 with e41 e42 e43
            subst e41; subst e43
            have q4 := hat4 j hjl
            have hfr := HY1.out VM[j] (List.getElem_mem hjl)
            have G1 := Lib.hid (fun y w1 (h : Nds w1 y M) => HFM.out y VM[j] w1 h)
            rw [hfr] at G1
            generalize VM[j] = z at q4 G1
            have F10 := Lib.hid (G9.out.trans (HQ.out.mono G9.out.size))
            clear hat4 hfr
            go_wp2_with fail
            refine (G1.out _ _ (N8.out _ F10.out)).mono ?_
            rintro e w10 ⟨rfl, hb10⟩
            have HQ10 := Lib.hid (HQ.out.trans (hb10.mono HQ.out.size))
            clear hb10
            go_wp2_with fail
            go_roundw
            case rel => exact ⟨j + 1, by omega, by go_num, HQ10⟩
            case measure => simp [intOf]; omega
          · have D10 := Lib.hid (D9.out.trans (HQ.out.mono D9.out.size))
            have F10 := Lib.hid (F9.out.trans (HQ.out.mono F9.out.size))
            go_wp2_with fail
            refine (HA.out _).mono ?_
            rintro e w11 ⟨rfl, hb11⟩
            have D11 := Lib.hid (D10.out.trans (hb11.mono D10.out.size))
            have F11 := Lib.hid (F10.out.trans (hb11.mono F10.out.size))
            clear hb11
            go_wp2_with fail
            refine (HCA.out _ _ (NX.out _ F11.out)).mono ?_
            rintro e w12 ⟨y12, rfl, hi12, hb12⟩
            have D12 := Lib.hid (D11.out.trans (hb12.mono D11.out.size))
            obtain ⟨_, a12, c12, rfl, -⟩ := id hi12
            have geq : ((VM.length : Int) == (Vm.length : Int)) = true := by rw [HY2.out]; simp
            clear hb12 hi12
            go_wp2_with fail
            go_ret
            exact ⟨ret_bool (decide_eq_true (by omega)), D12.out⟩
end Go.Proofs.Ytekblibhaipioaa.Do
