/- MeanUnits: the walk. -/
import Derived.Test.YtghnonbcojbohaaGreatDoorQ37

namespace Go.Proofs.YtghnonbcojbohaaGreatDoor.Mn
open Go Go.RowKit Tr
open Rw (Nd Nds)
set_option maxRecDepth 20000

set_option maxHeartbeats 8000000 in
theorem units_law (va : Value) (a : List Nd) (w : World) (hT : Sg.Tab w) (hva : Nds w va a) (hma : Rw.Nms a) :
    Calls Tryz.prog 7 #[va] w fun e w' => e = .returned (.bool true) ∧ Below w.heap.size w w' := by
  have AL := Lib.hid (fun w1 (hb : Below w.heap.size w w1) => alive_any w1 (Tab.below hT hb))
  have NA := Lib.hid (fun w1 (hb : Below w.heap.size w w1) => hva.below hb)
  have MA := Lib.hid hma
  obtain ⟨xa, ca, rfl⟩ : ∃ x y, va = .slice x a.length y := by obtain ⟨_, x, y, rfl, -⟩ := hva; exact ⟨x, y, rfl⟩
  have TB := Lib.hid hT
  clear hva hma hT
  have AL0 := Lib.hid (fun w1 (hb : Below w.heap.size w w1) => (AL.out w1 hb).mono fun e w' (h : e = .returned (.bool true) ∧ Below w1.heap.size w1 w') => (⟨h.1, hb.trans (h.2.mono hb.size)⟩ : e = .returned (.bool true) ∧ Below w.heap.size w w'))
  go_enter Tryz.func7, Tryz.ntmps7
  go_wp2_with fail
  refine (few_any _ a _ (NA.out _ (Below.refl _ _))).mono ?_
  cases hfa : fewB a with
  | false =>
    rintro e w' ⟨rfl, rfl⟩
    go_wp2_with fail
    refine (AL0.out _ (Below.refl _ _)).mono ?_
    rintro e wn ⟨rfl, hb⟩
    go_wp2_with fail
    go_ret
    exact ⟨rfl, hb⟩
  | true =>
  have hla := few_len hfa
  rintro e w' ⟨rfl, rfl⟩
  clear hfa
  go_wp2_with fail
  refine (Sx.termP_any a _ _ (NA.out _ (Below.refl _ _)) (by omega) MA.out).mono ?_
  cases hta : (So.of a == 1) with
  | false =>
    rintro e w1 ⟨rfl, hb1⟩
    have B1 := Lib.hid (hb1)
    clear hb1
    go_wp2_with fail
    refine (AL0.out _ B1.out).mono ?_
    rintro e wn ⟨rfl, hb⟩
    go_wp2_with fail
    go_ret
    exact ⟨rfl, hb⟩
  | true =>
  rintro e w1 ⟨rfl, hb1⟩
  have B1 := Lib.hid (hb1)
  clear hb1
  have oa : So.of a = 1 := by simpa using hta
  clear hta
  by_cases hlen : a.length ≤ 22
  · have g1 : decide ((a.length : Int) > 22) = false := decide_eq_false (by omega)
    have g2 : decide ((22 : Int) < (a.length : Int)) = false := decide_eq_false (by omega)
    have P0 := Lib.hid (fun w1 (hb : Below w.heap.size w w1) => plain_any _ a w1 (NA.out w1 hb) MA.out (by omega))
    unfold PlPost at P0
    cases hs : smallB a with
    | false =>
      have his : isB a = false := by rw [isB_of oa, hs]
      rw [his] at P0
      go_wp2_with fail
      refine (P0.out _ B1.out).mono ?_
      rintro e w2 ⟨a2, c2, rfl, ht2, hb2⟩
      have B2 := Lib.hid (B1.out.trans (hb2.mono B1.out.size))
      clear ht2 hb2
      have S1 := Lib.hid (B2.out.alloc B2.out.size (.cells #[.int .i64 2, .string ⟨#[]⟩, .int .i64 0] 48))
      have S2 := Lib.hid (S1.out.alloc S1.out.size (.cells #[.int .i64 3, .string ⟨#[]⟩, .int .i64 0] 48))
      go_wp2_with fail
      refine (AL0.out _ S2.out).mono ?_
      rintro e wn ⟨rfl, hb⟩
      go_wp2_with fail
      go_ret
      exact ⟨rfl, hb⟩
    | true =>
      have his : isB a = true := by rw [isB_of oa, hs]
      rw [his] at P0
      have U0 := units oa hs
      have UL0 := ums_len (a := a) (by omega)
      have UN0 := ums_nms MA.out
      have UB := unit_bang oa hs (by omega)
      have FZ := Lib.hid (mtr_few a)
      have CM := Lib.hid (fun (m : List Nd) (hl : m.length ≤ 45) x y w1 (h : Nds w1 x m) (hy : Rw.Ints w1 y [1]) => Rx.countP_any x y m [1] w1 h hy (by omega) (by simp))
      have I1 := Lib.hid (fun w1 ty => ints_one w1 1 ty)
      have PM := Lib.hid (fun (m : List Nd) (hn : Rw.Nms m) (hl : m.length ≤ 45) v w1 h => plain_any v m w1 h hn (by omega))
      have PB := Lib.hid (fun v w1 (h : Nds w1 v (mk 5 lth a)) => plain_any v (mk 5 lth a) w1 h (nms_mk nms_th MA.out) (by simp; omega))
      unfold PlPost at PM PB
      rw [UB] at PB
      have SM := Lib.hid (fun x y w1 h1 h2 => same_law x y (MtR a) (MtR a) w1 h1 h2 FZ.out FZ.out)
      rw [same_self] at SM
      obtain ⟨Z, hZ⟩ : ∃ Z, MtR a = Z := ⟨_, rfl⟩
      rw [hZ] at P0 U0 SM
      clear hZ FZ UB his
      go_wp2_with fail
      refine (P0.out _ B1.out).mono ?_
      rintro e w2 ⟨a2, c2, rfl, ht2, hb2⟩
      have B2 := Lib.hid (B1.out.trans (hb2.mono B1.out.size))
      have T2 := Lib.hid ht2
      clear ht2 hb2 P0 B1
      go_wp2_with fail
      obtain ⟨W0, hW0⟩ : ∃ W0, (w2.alloc (.cells #[.int .i64 2, .string ⟨#[]⟩, .int .i64 0] 48)).alloc (.cells #[.int .i64 3, .string ⟨#[]⟩, .int .i64 0] 48) = W0 := ⟨_, rfl⟩
      have BS : Below w2.heap.size w2 (w2.alloc (.cells #[.int .i64 2, .string ⟨#[]⟩, .int .i64 0] 48)) := bel1 _ _
      have BH : Below (w2.alloc (.cells #[.int .i64 2, .string ⟨#[]⟩, .int .i64 0] 48)).heap.size (w2.alloc (.cells #[.int .i64 2, .string ⟨#[]⟩, .int .i64 0] 48)) W0 := by rw [← hW0]; exact bel1 _ _
      have zS : (w2.alloc (.cells #[.int .i64 2, .string ⟨#[]⟩, .int .i64 0] 48)).heap.size = w2.heap.size + 1 := by simp
      have zW : W0.heap.size = w2.heap.size + 1 + 1 := by rw [← hW0]; simp
      have BW := Lib.hid (show Below w2.heap.size w2 W0 from BS.trans (BH.mono BS.size))
      have nS : Nds W0 (.slice (some ⟨w2.heap.size, 0, none⟩) 1 1) lsk := (nds_new w2 lsk 48).below BH
      have nH : Nds W0 (.slice (some ⟨w2.heap.size + 1, 0, none⟩) 1 1) lth := by
        have h := nds_new (w2.alloc (.cells #[.int .i64 2, .string ⟨#[]⟩, .int .i64 0] 48)) lth 48
        rw [zS] at h
        rw [← hW0]
        exact h
      have B0 := Lib.hid (B2.out.trans (BW.out.mono B2.out.size))
      have T0 := Lib.hid (T2.out.below BW.out)
      have NS := Lib.hid (fun w1 (hb : Below W0.heap.size W0 w1) => nS.below hb)
      have NH := Lib.hid (fun w1 (hb : Below W0.heap.size W0 w1) => nH.below hb)
      have WA := Lib.hid (fun w1 (hb : Below W0.heap.size W0 w1) => NA.out w1 (B0.out.trans (hb.mono B0.out.size)))
      rw [hW0, ← zW]
      clear hW0 BS BH zS zW nS nH BW B2 T2
      obtain ⟨vS, hvS⟩ : ∃ v, Value.slice (some ⟨w2.heap.size, 0, none⟩) 1 1 = v := ⟨_, rfl⟩
      obtain ⟨vH, hvH⟩ : ∃ v, Value.slice (some ⟨w2.heap.size + 1, 0, none⟩) 1 1 = v := ⟨_, rfl⟩
      have SF := Lib.hid hvS
      have HF := Lib.hid hvH
      clear hvS hvH
      have A0 := Lib.hid (fun w1 (hb : Below W0.heap.size W0 w1) ty => make2 5 (NS.out w1 hb) (WA.out w1 hb) (by first | omega | (simp; omega)) ty)
      have A1 := Lib.hid (fun w1 (hb : Below W0.heap.size W0 w1) ty => make2 5 (WA.out w1 hb) (NS.out w1 hb) (by first | omega | (simp; omega)) ty)
      have A2 := Lib.hid (fun w1 (hb : Below W0.heap.size W0 w1) ty => make2 7 (WA.out w1 hb) (NS.out w1 hb) (by first | omega | (simp; omega)) ty)
      have A3 := Lib.hid (fun w1 (hb : Below W0.heap.size W0 w1) ty => make2 7 (NS.out w1 hb) (WA.out w1 hb) (by first | omega | (simp; omega)) ty)
      have A4 := Lib.hid (fun w1 (hb : Below W0.heap.size W0 w1) ty => make2 6 (WA.out w1 hb) (WA.out w1 hb) (by first | omega | (simp; omega)) ty)
      have A5 := Lib.hid (fun w1 (hb : Below W0.heap.size W0 w1) ty => make2 8 (NH.out w1 hb) (WA.out w1 hb) (by first | omega | (simp; omega)) ty)
      have A9 := Lib.hid (fun w1 (hb : Below W0.heap.size W0 w1) ty => make2 5 (NH.out w1 hb) (WA.out w1 hb) (by first | omega | (simp; omega)) ty)
      unfold MkPost at A0 A1 A2 A3 A4 A5 A9
      unfold ums at U0 UL0 UN0
      generalize mk 5 lsk a = r0 at A0 U0 UL0 UN0
      generalize mk 5 a lsk = r1 at A1 U0 UL0 UN0
      generalize mk 7 a lsk = r2 at A2 U0 UL0 UN0
      generalize mk 7 lsk a = r3 at A3 U0 UL0 UN0
      generalize mk 6 a a = r4 at A4 U0 UL0 UN0
      generalize mk 8 lth a = r5 at A5 U0 UL0 UN0
      generalize mk 5 lth a = r9 at A9 PB
      have UF := Lib.hid (fun m (hm : m ∈ [r0, r1, r2, r3, r4, r5]) => (⟨UL0 m hm, UN0 m hm, U0 m hm⟩ : m.length ≤ 45 ∧ Rw.Nms m ∧ (m.length ≤ 24 → acs m ≤ 6 → isB m = true ∧ MtR m = Z)))
      clear U0 UL0 UN0 NS NH WA NA MA SF HF
      refine (A0.out _ (Below.refl _ _) _).mono ?_
      rintro e x0 ⟨a10, c10, rfl, hn, hb⟩
      have D0 := Lib.hid (hb)
      have N0 := Lib.hid hn
      clear hn hb A0
      go_wp2_with fail
      refine (A1.out _ D0.out _).mono ?_
      rintro e x1 ⟨a11, c11, rfl, hn, hb⟩
      have D1 := Lib.hid (D0.out.trans (hb.mono D0.out.size))
      replace N0 := Lib.hid (N0.out.below hb)
      have N1 := Lib.hid hn
      clear hn hb A1 D0
      go_wp2_with fail
      refine (A2.out _ D1.out _).mono ?_
      rintro e x2 ⟨a12, c12, rfl, hn, hb⟩
      have D2 := Lib.hid (D1.out.trans (hb.mono D1.out.size))
      replace N0 := Lib.hid (N0.out.below hb)
      replace N1 := Lib.hid (N1.out.below hb)
      have N2 := Lib.hid hn
      clear hn hb A2 D1
      go_wp2_with fail
      refine (A3.out _ D2.out _).mono ?_
      rintro e x3 ⟨a13, c13, rfl, hn, hb⟩
      have D3 := Lib.hid (D2.out.trans (hb.mono D2.out.size))
      replace N0 := Lib.hid (N0.out.below hb)
      replace N1 := Lib.hid (N1.out.below hb)
      replace N2 := Lib.hid (N2.out.below hb)
      have N3 := Lib.hid hn
      clear hn hb A3 D2
      go_wp2_with fail
      refine (A4.out _ D3.out _).mono ?_
      rintro e x4 ⟨a14, c14, rfl, hn, hb⟩
      have D4 := Lib.hid (D3.out.trans (hb.mono D3.out.size))
      replace N0 := Lib.hid (N0.out.below hb)
      replace N1 := Lib.hid (N1.out.below hb)
      replace N2 := Lib.hid (N2.out.below hb)
      replace N3 := Lib.hid (N3.out.below hb)
      have N4 := Lib.hid hn
      clear hn hb A4 D3
      go_wp2_with fail
      refine (A5.out _ D4.out _).mono ?_
      rintro e x5 ⟨a15, c15, rfl, hn, hb⟩
      have D5 := Lib.hid (D4.out.trans (hb.mono D4.out.size))
      replace N0 := Lib.hid (N0.out.below hb)
      replace N1 := Lib.hid (N1.out.below hb)
      replace N2 := Lib.hid (N2.out.below hb)
      replace N3 := Lib.hid (N3.out.below hb)
      replace N4 := Lib.hid (N4.out.below hb)
      have N5 := Lib.hid hn
      clear hn hb A5 D4
      go_wp2_with fail
      obtain ⟨WL, hWL⟩ : ∃ WL, x5.alloc (.cells #[.slice a10 r0.length c10, .slice a11 r1.length c11, .slice a12 r2.length c12, .slice a13 r3.length c13, .slice a14 r4.length c14, .slice a15 r5.length c15] 22) = WL := ⟨_, rfl⟩
      have z0 : WL.heap.size = x5.heap.size + 1 := by rw [← hWL]; simp
      have BL : Below x5.heap.size x5 WL := by rw [← hWL]; exact bel1 _ _
      have KX : Hid (∀ q, q < 6 → ∃ (m : List Nd) (aq : Option Addr) (cq : Nat), m ∈ [r0, r1, r2, r3, r4, r5] ∧ ∀ w1, Below WL.heap.size WL w1 → w1.cell? ⟨x5.heap.size, q, none⟩ = some (.slice aq m.length cq) ∧ Nds w1 (.slice aq m.length cq) m) := Lib.hid fun q hq => by
        have h6 : q = 0 ∨ q = 1 ∨ q = 2 ∨ q = 3 ∨ q = 4 ∨ q = 5 := by omega
        have hcell : ∀ (q : Nat) v, (x5.alloc (.cells #[.slice a10 r0.length c10, .slice a11 r1.length c11, .slice a12 r2.length c12, .slice a13 r3.length c13, .slice a14 r4.length c14, .slice a15 r5.length c15] 22)).cell? ⟨x5.heap.size, q, none⟩ = some v → ∀ w1, Below WL.heap.size WL w1 → w1.cell? ⟨x5.heap.size, q, none⟩ = some v := fun q v hv w1 hb => by
          rw [hb.cell (p := ⟨x5.heap.size, q, none⟩) (by rw [z0]; exact Nat.lt_succ_self _), ← hWL]; exact hv
        have hnd : ∀ (m : List Nd) v, Nds x5 v m → ∀ w1, Below WL.heap.size WL w1 → Nds w1 v m := fun m v h w1 hb => (h.below BL).below hb
        rcases h6 with rfl | rfl | rfl | rfl | rfl | rfl
        · exact ⟨r0, a10, c10, by simp, fun w1 hb => ⟨hcell 0 _ (by simp) w1 hb, hnd _ _ N0.out w1 hb⟩⟩
        · exact ⟨r1, a11, c11, by simp, fun w1 hb => ⟨hcell 1 _ (by simp) w1 hb, hnd _ _ N1.out w1 hb⟩⟩
        · exact ⟨r2, a12, c12, by simp, fun w1 hb => ⟨hcell 2 _ (by simp) w1 hb, hnd _ _ N2.out w1 hb⟩⟩
        · exact ⟨r3, a13, c13, by simp, fun w1 hb => ⟨hcell 3 _ (by simp) w1 hb, hnd _ _ N3.out w1 hb⟩⟩
        · exact ⟨r4, a14, c14, by simp, fun w1 hb => ⟨hcell 4 _ (by simp) w1 hb, hnd _ _ N4.out w1 hb⟩⟩
        · exact ⟨r5, a15, c15, by simp, fun w1 hb => ⟨hcell 5 _ (by simp) w1 hb, hnd _ _ N5.out w1 hb⟩⟩
      rw [hWL]
      have D6 := Lib.hid (D5.out.trans (BL.mono D5.out.size))
      have T6 := Lib.hid (T0.out.below D6.out)
      clear hWL z0 BL N0 N1 N2 N3 N4 N5 D5 T0
      go_loopw [71] (fun i wr => ∃ (q : Nat), q ≤ 6 ∧ i = .int .i64 q ∧ Below WL.heap.size WL wr) (fun i _ => 6 - (intOf i).toNat)
      case atStart => exact ⟨0, by omega, rfl, Below.refl _ _⟩
      case round =>
        obtain ⟨q, hq, rfl, hb⟩ := hrel
        have LB := Lib.hid hb
        clear hb
        by_cases hlq : q < 6
        · obtain ⟨m, aq, cq, hm, hc⟩ := KX.out q hlq
          obtain ⟨q0, n0⟩ := hc _ LB.out
          obtain ⟨f1, f2, f3⟩ := UF.out m hm
          have NM := Lib.hid n0
          have F3 := Lib.hid f3
          have PX := Lib.hid (PM.out m f2 f1)
          have CX := Lib.hid (CM.out m f1)
          rw [← acs_cnt m] at CX
          clear hm hc n0 f2 f3
          by_cases h24 : m.length ≤ 24
          · have k1 : decide ((m.length : Int) > 24) = false := decide_eq_false (by omega)
            have k2 : decide ((24 : Int) < (m.length : Int)) = false := decide_eq_false (by omega)
            have LA := Lib.hid ((Below.refl wr.heap.size wr).alloc (Nat.le_refl _) (.cells #[.int .i64 1] 3))
            have LC := Lib.hid (LB.out.trans (LA.out.mono LB.out.size))
            have NM1 := Lib.hid (NM.out.below LA.out)
            have hna : acs m ≤ 45 := Nat.le_trans (show acs m ≤ m.length from List.countP_le_length) f1
            obtain ⟨n, hn⟩ : ∃ n, acs m = n := ⟨_, rfl⟩
            rw [hn] at CX F3 hna
            clear hn LA f1
            go_wp2_with fail
            refine (CX.out _ _ _ NM1.out (I1.out _ _)).mono ?_
            rintro e y1 ⟨rfl, hb1⟩
            have L1 := Lib.hid (LC.out.trans (hb1.mono LC.out.size))
            have NM2 := Lib.hid (NM1.out.below hb1)
            clear hb1 CX NM NM1 LC
            by_cases h6 : n ≤ 6
            · have k3 : decide ((n : Int) > 6) = false := decide_eq_false (by omega)
              have k4 : decide ((6 : Int) < (n : Int)) = false := decide_eq_false (by omega)
              obtain ⟨e1, e2⟩ := F3.out h24 h6
              rw [e1, e2] at PX
              clear e1 e2 F3
              go_wp2_with fail
              refine (PX.out _ _ NM2.out).mono ?_
              rintro e y2 ⟨a3, c3, rfl, ht, hb2⟩
              have L2 := Lib.hid (L1.out.trans (hb2.mono L1.out.size))
              have TX := Lib.hid ht
              have TZ := Lib.hid ((T6.out.below L1.out).below hb2)
              clear ht hb2 L1 NM2 PX
              go_wp2_with fail
              refine (SM.out _ _ _ TX.out TZ.out).mono ?_
              rintro e y3 ⟨rfl, hb3⟩
              have L3 := Lib.hid (L2.out.trans (hb3.mono L2.out.size))
              clear hb3 L2 TX TZ
              go_wp2_with fail
              go_roundw
              case rel => exact ⟨q + 1, by omega, by go_num, L3.out⟩
              case measure => simp [intOf]; omega
            · have k3 : decide ((n : Int) > 6) = true := decide_eq_true (by omega)
              have k4 : decide ((6 : Int) < (n : Int)) = true := decide_eq_true (by omega)
              go_wp2_with fail
              go_roundw
              case rel => exact ⟨q + 1, by omega, by go_num, L1.out⟩
              case measure => simp [intOf]; omega
          · have k1 : decide ((m.length : Int) > 24) = true := decide_eq_true (by omega)
            have k2 : decide ((24 : Int) < (m.length : Int)) = true := decide_eq_true (by omega)
            go_wp2_with fail
            go_roundw
            case rel => exact ⟨q + 1, by omega, by go_num, LB.out⟩
            case measure => simp [intOf]; omega
        · have hq6 : q = 6 := by omega
          subst hq6
          have D7 := Lib.hid (D6.out.trans (LB.out.mono D6.out.size))
          clear KX UF PM CM SM T6 D6 LB
          have TXT : Hid (∀ (a6 : Option Addr) (n6 : Nat) (w1 : World), Below w.heap.size w w1 → Strs w1 (.slice a6 0 n6) [] → Calls Tryz.prog 30 #[.agg #[.slice a6 0 n6, .int .i64 2]] w1 fun e w' => e = .returned (.string ⟨#[33]⟩) ∧ Below w1.heap.size w1 w') := Lib.hid fun a6 n6 w1 hb h => by
            have h2 := textT_any (.slice a6 0 n6) bang w1 (Tab.below TB.out hb) h (by decide) (by decide +kernel)
            rw [show txt bang = ⟨#[33]⟩ by decide +kernel] at h2
            exact h2
          go_wp2_with fail
          refine (A9.out _ D7.out _).mono ?_
          rintro e y1 ⟨a3, c3, rfl, hn, hb1⟩
          have D8 := Lib.hid (D7.out.trans (hb1.mono D7.out.size))
          have N8 := Lib.hid hn
          clear hn hb1 D7 A9
          go_wp2_with fail
          refine (PB.out _ _ N8.out).mono ?_
          rintro e y2 ⟨a4, c4, rfl, ht, hb2⟩
          have D9 := Lib.hid (B0.out.trans ((D8.out.trans (hb2.mono D8.out.size)).mono B0.out.size))
          have T9 := Lib.hid ht
          clear ht hb2 D8 N8 PB
          go_wp2_with fail
          refine (AL.out _ D9.out).mono ?_
          rintro e y3 ⟨rfl, hb3⟩
          have D10 := Lib.hid (D9.out.trans (hb3.mono D9.out.size))
          obtain ⟨_, _, hv, _, hc⟩ := (T9.out.below hb3).val
          cases hv
          obtain ⟨b1, o1, va1, rfl, _, e1, e2, s1⟩ := hc 0 (by simp)
          obtain ⟨_, a6, n6, rfl, _⟩ := id s1
          have ST1 : Hid (Strs y3 (.slice a6 0 n6) []) := Lib.hid (so_strs s1)
          have q0 : y3.cell? ⟨b1, o1, none⟩ = some (.slice a6 0 n6) := e1
          have q1 : y3.cell? ⟨b1, o1 + 1, none⟩ = some (.int .i64 2) := e2
          clear hb3 D9 T9 hc s1 e1 e2
          go_wp2_with fail
          refine (TXT.out _ _ _ D10.out ST1.out).mono ?_
          rintro e y4 ⟨rfl, hb4⟩
          have D11 := Lib.hid (D10.out.trans (hb4.mono D10.out.size))
          clear hb4
          go_wp2_with fail
          go_ret
          exact ⟨rfl, D11.out⟩
  · have g1 : decide ((a.length : Int) > 22) = true := decide_eq_true (by omega)
    have g2 : decide ((22 : Int) < (a.length : Int)) = true := decide_eq_true (by omega)
    go_wp2_with fail
    refine (AL0.out _ B1.out).mono ?_
    rintro e wn ⟨rfl, hb⟩
    go_wp2_with fail
    go_ret
    exact ⟨rfl, hb⟩
end Go.Proofs.YtghnonbcojbohaaGreatDoor.Mn
