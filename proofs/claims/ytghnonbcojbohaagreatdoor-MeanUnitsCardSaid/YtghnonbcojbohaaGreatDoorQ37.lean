/- MeanThree: the walk. What does nothing beside a term, and a block of a pair of terms; plain. MeanBlocks: the walk. -/
import Derived.Test.YtghnonbcojbohaaGreatDoorQ36

namespace Go.Proofs.YtghnonbcojbohaaGreatDoor.Mn
open Go Go.RowKit Tr
open Rw (Nd Nds)
set_option maxRecDepth 20000

set_option maxHeartbeats 8000000 in
theorem three_law (va vb vc : Value) (a b c : List Nd) (w : World) (hT : Sg.Tab w) (hva : Nds w va a) (hvb : Nds w vb b) (hvc : Nds w vc c) (hma : Rw.Nms a) (hmb : Rw.Nms b) (hmc : Rw.Nms c) :
    Calls Tryz.prog 6 #[va, vb, vc] w fun e w' => e = .returned (.bool true) ∧ Below w.heap.size w w' := by
  have AL := Lib.hid (fun w1 (hb : Below w.heap.size w w1) => alive_any w1 (Tab.below hT hb))
  have NA := Lib.hid (fun w1 (hb : Below w.heap.size w w1) => hva.below hb)
  have NB := Lib.hid (fun w1 (hb : Below w.heap.size w w1) => hvb.below hb)
  have NC := Lib.hid (fun w1 (hb : Below w.heap.size w w1) => hvc.below hb)
  have MA := Lib.hid hma
  have MB := Lib.hid hmb
  have MC := Lib.hid hmc
  obtain ⟨xa, ca, rfl⟩ : ∃ x y, va = .slice x a.length y := by obtain ⟨_, x, y, rfl, -⟩ := hva; exact ⟨x, y, rfl⟩
  obtain ⟨xb, cb, rfl⟩ : ∃ x y, vb = .slice x b.length y := by obtain ⟨_, x, y, rfl, -⟩ := hvb; exact ⟨x, y, rfl⟩
  obtain ⟨xc, cc, rfl⟩ : ∃ x y, vc = .slice x c.length y := by obtain ⟨_, x, y, rfl, -⟩ := hvc; exact ⟨x, y, rfl⟩
  clear hva hvb hvc hma hmb hmc hT
  have AL0 := Lib.hid (fun w1 (hb : Below w.heap.size w w1) => (AL.out w1 hb).mono fun e w' (h : e = .returned (.bool true) ∧ Below w1.heap.size w1 w') => (⟨h.1, hb.trans (h.2.mono hb.size)⟩ : e = .returned (.bool true) ∧ Below w.heap.size w w'))
  go_enter Tryz.func6, Tryz.ntmps6
  go_wp2_with fail
  refine (few_any _ a _ (NA.out _ (Below.refl _ _))).mono ?_
  cases hfa : fewB a with
  | false =>
    rintro e w' ⟨rfl, rfl⟩
    go_wp2_with fail
    refine (AL0.out _ (Below.refl _ _)).mono ?_
    rintro e wn ⟨rfl, hb⟩
    go_wp2_with fail
    go_ret
    exact ⟨rfl, hb⟩
  | true =>
  have hla := few_len hfa
  rintro e w' ⟨rfl, rfl⟩
  go_wp2_with fail
  refine (few_any _ b _ (NB.out _ (Below.refl _ _))).mono ?_
  cases hfb : fewB b with
  | false =>
    rintro e w' ⟨rfl, rfl⟩
    go_wp2_with fail
    refine (AL0.out _ (Below.refl _ _)).mono ?_
    rintro e wn ⟨rfl, hb⟩
    go_wp2_with fail
    go_ret
    exact ⟨rfl, hb⟩
  | true =>
  have hlb := few_len hfb
  rintro e w' ⟨rfl, rfl⟩
  go_wp2_with fail
  refine (few_any _ c _ (NC.out _ (Below.refl _ _))).mono ?_
  cases hfc : fewB c with
  | false =>
    rintro e w' ⟨rfl, rfl⟩
    go_wp2_with fail
    refine (AL0.out _ (Below.refl _ _)).mono ?_
    rintro e wn ⟨rfl, hb⟩
    go_wp2_with fail
    go_ret
    exact ⟨rfl, hb⟩
  | true =>
  have hlc := few_len hfc
  rintro e w' ⟨rfl, rfl⟩
  clear hfa hfb hfc
  go_wp2_with fail
  refine (Sx.termP_any a _ _ (NA.out _ (Below.refl _ _)) (by omega) MA.out).mono ?_
  cases hta : (So.of a == 1) with
  | false =>
    rintro e w1 ⟨rfl, hb1⟩
    have B1 := Lib.hid hb1
    clear hb1
    go_wp2_with fail
    refine (AL0.out _ B1.out).mono ?_
    rintro e wn ⟨rfl, hb⟩
    go_wp2_with fail
    go_ret
    exact ⟨rfl, hb⟩
  | true =>
  rintro e w1 ⟨rfl, hb1⟩
  have B1 := Lib.hid hb1
  clear hb1
  go_wp2_with fail
  refine (Sx.termP_any b _ _ (NB.out _ B1.out) (by omega) MB.out).mono ?_
  cases htb : (So.of b == 1) with
  | false =>
    rintro e w2 ⟨rfl, hb2⟩
    have B2 := Lib.hid (B1.out.trans (hb2.mono B1.out.size))
    clear hb2
    go_wp2_with fail
    refine (AL0.out _ B2.out).mono ?_
    rintro e wn ⟨rfl, hb⟩
    go_wp2_with fail
    go_ret
    exact ⟨rfl, hb⟩
  | true =>
  rintro e w2 ⟨rfl, hb2⟩
  have B2 := Lib.hid (B1.out.trans (hb2.mono B1.out.size))
  clear hb2 B1
  go_wp2_with fail
  refine (Sx.termP_any c _ _ (NC.out _ B2.out) (by omega) MC.out).mono ?_
  cases htc : (So.of c == 1) with
  | false =>
    rintro e w3 ⟨rfl, hb3⟩
    have B3 := Lib.hid (B2.out.trans (hb3.mono B2.out.size))
    clear hb3
    go_wp2_with fail
    refine (AL0.out _ B3.out).mono ?_
    rintro e wn ⟨rfl, hb⟩
    go_wp2_with fail
    go_ret
    exact ⟨rfl, hb⟩
  | true =>
  rintro e w3 ⟨rfl, hb3⟩
  have B3 := Lib.hid (B2.out.trans (hb3.mono B2.out.size))
  clear hb3 B2
  have oa : So.of a = 1 := by simpa using hta
  have ob : So.of b = 1 := by simpa using htb
  have oc : So.of c = 1 := by simpa using htc
  clear hta htb htc
  by_cases hlen : a.length + b.length + c.length ≤ 22
  · have g1 : decide ((a.length : Int) + b.length + c.length > 22) = false := decide_eq_false (by omega)
    have g2 : decide ((22 : Int) < (a.length : Int) + b.length + c.length) = false := decide_eq_false (by omega)
    go_wp2_with fail
    obtain ⟨WL, hWL⟩ : ∃ WL, w3.alloc (.cells #[.int .i64 5, .int .i64 6, .int .i64 7, .int .i64 8] 3) = WL := ⟨_, rfl⟩
    rw [hWL]
    have BL := Lib.hid (show Below w.heap.size w WL by rw [← hWL]; exact B3.out.alloc B3.out.size _)
    have z0 : WL.heap.size = w3.heap.size + 1 := by rw [← hWL]; simp
    have KX : Hid (∀ q, q < 4 → ∃ k, K4 k ∧ ∀ w1, Below WL.heap.size WL w1 → w1.cell? ⟨w3.heap.size, q, none⟩ = some (.int .i64 k)) := Lib.hid fun q hq => by
      have h4 : q = 0 ∨ q = 1 ∨ q = 2 ∨ q = 3 := by omega
      rcases h4 with rfl | rfl | rfl | rfl
      · exact ⟨5, by omega, fun w1 hb => by rw [hb.cell (p := ⟨w3.heap.size, 0, none⟩) (by rw [z0]; exact Nat.lt_succ_self _), ← hWL]; simp⟩
      · exact ⟨6, by omega, fun w1 hb => by rw [hb.cell (p := ⟨w3.heap.size, 1, none⟩) (by rw [z0]; exact Nat.lt_succ_self _), ← hWL]; simp⟩
      · exact ⟨7, by omega, fun w1 hb => by rw [hb.cell (p := ⟨w3.heap.size, 2, none⟩) (by rw [z0]; exact Nat.lt_succ_self _), ← hWL]; simp⟩
      · exact ⟨8, by omega, fun w1 hb => by rw [hb.cell (p := ⟨w3.heap.size, 3, none⟩) (by rw [z0]; exact Nat.lt_succ_self _), ← hWL]; simp⟩
    clear hWL z0
    go_loopw [56] (fun i wr => ∃ (q : Nat), q ≤ 4 ∧ i = .int .i64 q ∧ Below WL.heap.size WL wr) (fun i _ => 4 - (intOf i).toNat)
    case atStart => exact ⟨0, by omega, rfl, Below.refl _ _⟩
    case round =>
      obtain ⟨q, hq, rfl, hb⟩ := hrel
      have LB := Lib.hid hb
      clear hb
      by_cases hlq : q < 4
      · skip
        obtain ⟨k, hk, hkc⟩ := KX.out q hlq
        have q0 := hkc _ LB.out
        have K := Lib.hid hk
        clear hkc hk
        obtain ⟨wo, hwo⟩ : ∃ wo, wo = wr := ⟨_, rfl⟩
        subst hwo
        go_wp2_with fail
        obtain ⟨W0, hW0⟩ : ∃ W0, wo.alloc (.cells #[.int .i64 k, .string ⟨#[]⟩, .int .i64 0] 48) = W0 := ⟨_, rfl⟩
        rw [hW0]
        have LW := Lib.hid (show Below WL.heap.size WL W0 by rw [← hW0]; exact LB.out.alloc LB.out.size _)
        have BW := Lib.hid (BL.out.trans (LW.out.mono BL.out.size))
        have z0 : W0.heap.size = wo.heap.size + 1 := by rw [← hW0]; simp
        have BX := Lib.hid (fun w1 (hb : Below W0.heap.size W0 w1) => show w1.cell? ⟨wo.heap.size, 0, none⟩ = some (.int .i64 k) ∧ w1.cell? ⟨wo.heap.size, 1, none⟩ = some (.string ⟨#[]⟩) ∧ w1.cell? ⟨wo.heap.size, 2, none⟩ = some (.int .i64 0) from
          ⟨by rw [hb.cell (p := ⟨wo.heap.size, 0, none⟩) (by rw [z0]; exact Nat.lt_succ_self _), ← hW0]; simp, by rw [hb.cell (p := ⟨wo.heap.size, 1, none⟩) (by rw [z0]; exact Nat.lt_succ_self _), ← hW0]; simp, by rw [hb.cell (p := ⟨wo.heap.size, 2, none⟩) (by rw [z0]; exact Nat.lt_succ_self _), ← hW0]; simp⟩)
        clear hW0 z0 q0
        have WA := Lib.hid (fun w1 (hb : Below W0.heap.size W0 w1) => NA.out w1 (BW.out.trans (hb.mono BW.out.size)))
        have WB := Lib.hid (fun w1 (hb : Below W0.heap.size W0 w1) => NB.out w1 (BW.out.trans (hb.mono BW.out.size)))
        have WC := Lib.hid (fun w1 (hb : Below W0.heap.size W0 w1) => NC.out w1 (BW.out.trans (hb.mono BW.out.size)))
        have hE3 := three_eq K.out oa ob oc hlen
        have hE2 := comm_eq K.out oa ob (by omega)
        have ma := nms_mk (k := k) MA.out MB.out
        have mb := nms_mk (k := k) MB.out MC.out
        have P1 := Lib.hid (fun v w1 h => plain_any v (mk k (mk k a b) c) w1 h (nms_mk ma MC.out) (by simp; omega))
        have P2 := Lib.hid (fun v w1 h => plain_any v (mk k a (mk k b c)) w1 h (nms_mk MA.out mb) (by simp; omega))
        have P3 := Lib.hid (fun v w1 h => plain_any v (mk k a b) w1 h ma (by simp; omega))
        have P4 := Lib.hid (fun v w1 h => plain_any v (mk k b a) w1 h (nms_mk MB.out MA.out) (by simp; omega))
        unfold PlPost at P1 P2 P3 P4
        rw [hE3.1, hE3.2] at P1
        rw [hE2.2] at P3
        have F1 := mtr_few (mk k a (mk k b c))
        have F2 := mtr_few (mk k a b)
        have HE := Lib.hid hE2.1
        generalize MtR (mk k a (mk k b c)) = X at P1 P2 F1
        generalize isB (mk k a (mk k b c)) = i at P1 P2
        generalize MtR (mk k a b) = Z at P3 F2 HE
        generalize MtR (mk k b a) = Z' at P4 HE
        generalize isB (mk k b a) = j at P3 P4
        have SX := Lib.hid (fun x y w1 h1 h2 => same_law x y X X w1 h1 h2 F1 F1)
        have SZ := Lib.hid (fun (e : Z = Z') x y w1 h1 (h2 : TsO any w1 y Z') => same_law x y Z Z' w1 h1 h2 F2 (e ▸ F2))
        rw [same_self] at SX
        have A1 := Lib.hid (fun w1 (hb : Below W0.heap.size W0 w1) ty => make2d k (WA.out w1 hb) (WB.out w1 hb) (by omega) ty)
        have A2 := Lib.hid (fun y w1 (hb : Below W0.heap.size W0 w1) (h : Nds w1 y (mk k a b)) ty => make2 k h (WC.out w1 hb) (by simp; omega) ty)
        have A3 := Lib.hid (fun w1 (hb : Below W0.heap.size W0 w1) ty => make2d k (WB.out w1 hb) (WC.out w1 hb) (by omega) ty)
        have A4 := Lib.hid (fun y w1 (hb : Below W0.heap.size W0 w1) (h : Nds w1 y (mk k b c)) ty => make2 k (WA.out w1 hb) h (by simp; omega) ty)
        have A5 := Lib.hid (fun w1 (hb : Below W0.heap.size W0 w1) ty => make2 k (WA.out w1 hb) (WB.out w1 hb) (by omega) ty)
        have A6 := Lib.hid (fun w1 (hb : Below W0.heap.size W0 w1) ty => make2 k (WB.out w1 hb) (WA.out w1 hb) (by omega) ty)
        unfold MkPost at A1 A2 A3 A4 A5 A6
        generalize mk k (mk k a b) c = r1 at A2 P1
        generalize mk k a (mk k b c) = r2 at A4 P2
        generalize mk k a b = r3 at A1 A2 A5 P3
        generalize mk k b c = r4 at A3 A4
        generalize mk k b a = r5 at A6 P4
        clear hE3 hE2 ma mb F1 F2 NA NB NC MA MB MC oa ob oc WA WB WC
        go_region_held3 (fun w' => w'.cell? ⟨wo.heap.size, 0, none⟩ = some (.int .i64 k) ∧ w'.cell? ⟨wo.heap.size, 1, none⟩ = some (.string ⟨#[]⟩) ∧ w'.cell? ⟨wo.heap.size, 2, none⟩ = some (.int .i64 0)) (first | exact BX.out _ (Below.refl _ _).drew | exact BX.out _ ((Below.refl W0.heap.size W0).alloc (Nat.le_refl _) _).drew | exact BX.out _ D4.out | exact BX.out _ (D4.out.alloc D4.out.size _) | exact BX.out _ D5.out | exact BX.out _ D6.out | fail) (first
          | (go_at_call 27
             (with_reducible refine (A1.out _ (Below.refl _ _) _).mono ?_)
             rintro e w4 ⟨a4, c4, rfl, hn4, hb4⟩
             have D4 := Lib.hid hb4
             have N4 := Lib.hid hn4
             clear hn4 hb4)
          | (go_at_call 27
             (with_reducible refine (A2.out _ _ D4.out N4.out _).mono ?_)
             rintro e w5 ⟨a5, c5, rfl, hn5, hb5⟩
             have D5 := Lib.hid (D4.out.trans (hb5.mono D4.out.size))
             have N5 := Lib.hid hn5
             clear hn5 hb5)
          | (go_at_call 24
             (with_reducible refine (P1.out _ _ N5.out).mono ?_)
             rintro e w6 ⟨a6, c6, rfl, ht6, hb6⟩
             have D6 := Lib.hid (D5.out.trans (hb6.mono D5.out.size))
             have T6 := Lib.hid ht6
             clear ht6 hb6)
          | fail)
        clear A1 A2 P1 D4 D5 N4 N5
        go_wp2_with fail
        go_region_held3 (fun w' => w'.cell? ⟨wo.heap.size, 0, none⟩ = some (.int .i64 k) ∧ w'.cell? ⟨wo.heap.size, 1, none⟩ = some (.string ⟨#[]⟩) ∧ w'.cell? ⟨wo.heap.size, 2, none⟩ = some (.int .i64 0)) (first | exact BX.out _ D6.out.drew | exact BX.out _ (D6.out.alloc D6.out.size _).drew | exact BX.out _ D7.out | exact BX.out _ (D7.out.alloc D7.out.size _) | exact BX.out _ D8.out | exact BX.out _ D9.out | fail) (first
          | (go_at_call 27
             (with_reducible refine (A3.out _ D6.out _).mono ?_)
             rintro e w7 ⟨a7, c7, rfl, hn7, hb7⟩
             have D7 := Lib.hid (D6.out.trans (hb7.mono D6.out.size))
             have N7 := Lib.hid hn7
             have T7 := Lib.hid (T6.out.below hb7)
             clear hn7 hb7)
          | (go_at_call 27
             (with_reducible refine (A4.out _ _ D7.out N7.out _).mono ?_)
             rintro e w8 ⟨a8, c8, rfl, hn8, hb8⟩
             have D8 := Lib.hid (D7.out.trans (hb8.mono D7.out.size))
             have N8 := Lib.hid hn8
             have T8 := Lib.hid (T7.out.below hb8)
             clear hn8 hb8)
          | (go_at_call 24
             (with_reducible refine (P2.out _ _ N8.out).mono ?_)
             rintro e w9 ⟨a9, c9, rfl, ht9, hb9⟩
             have D9 := Lib.hid (D8.out.trans (hb9.mono D8.out.size))
             have T9 := Lib.hid ht9
             have S9 := Lib.hid (T8.out.below hb9)
             clear ht9 hb9)
          | fail)
        clear A3 A4 P2 D6 D7 D8 N7 N8 T6 T7 T8
        by_cases h8 : k = 8
        · subst h8
          obtain ⟨y0, y1, y2⟩ := BX.out _ D9.out
          go_wp2_with fail
          refine (A5.out _ D9.out _).mono ?_
          rintro e wb ⟨ab, cb', rfl, hnb, hbb⟩
          have Db := Lib.hid (D9.out.trans (hbb.mono D9.out.size))
          have Nb := Lib.hid hnb
          clear hnb hbb y0 y1 y2
          go_wp2_with fail
          refine (P3.out _ _ Nb.out).mono ?_
          rintro e wc ⟨ac, cc', rfl, htc, hbc⟩
          have Dc := Lib.hid (Db.out.trans (hbc.mono Db.out.size))
          have Tc := Lib.hid htc
          clear htc hbc Db Nb
          obtain ⟨y0, y1, y2⟩ := BX.out _ Dc.out
          go_wp2_with fail
          refine (A6.out _ Dc.out _).mono ?_
          rintro e wd ⟨ad, cd', rfl, hnd, hbd⟩
          have Dd := Lib.hid (Dc.out.trans (hbd.mono Dc.out.size))
          have Nd' := Lib.hid hnd
          have Td := Lib.hid (Tc.out.below hbd)
          clear hnd hbd y0 y1 y2 Dc Tc
          go_wp2_with fail
          refine (P4.out _ _ Nd'.out).mono ?_
          rintro e we ⟨ae, ce', rfl, hte, hbe⟩
          have De := Lib.hid (Dd.out.trans (hbe.mono Dd.out.size))
          have Te := Lib.hid hte
          have Ue := Lib.hid (Td.out.below hbe)
          clear hte hbe Dd Nd' Td
          go_wp2_with fail
          go_roundw
          case rel => exact ⟨q + 1, by omega, by go_num, LW.out.trans (De.out.mono LW.out.size)⟩
          case measure => simp [intOf]; omega
        · have e8 : (k != 8) = true := by simp [h8]
          have e8' : (k == 8) = false := by simp [h8]
          go_wp2_with fail
          refine (SX.out _ _ _ S9.out T9.out).mono ?_
          rintro e wa ⟨rfl, hba⟩
          have Da := Lib.hid (D9.out.trans (hba.mono D9.out.size))
          clear hba D9 S9 T9
          obtain ⟨y0, y1, y2⟩ := BX.out _ Da.out
          go_wp2_with fail
          refine (A5.out _ Da.out _).mono ?_
          rintro e wb ⟨ab, cb', rfl, hnb, hbb⟩
          have Db := Lib.hid (Da.out.trans (hbb.mono Da.out.size))
          have Nb := Lib.hid hnb
          clear hnb hbb y0 y1 y2
          go_wp2_with fail
          refine (P3.out _ _ Nb.out).mono ?_
          rintro e wc ⟨ac, cc', rfl, htc, hbc⟩
          have Dc := Lib.hid (Db.out.trans (hbc.mono Db.out.size))
          have Tc := Lib.hid htc
          clear htc hbc Db Nb
          obtain ⟨y0, y1, y2⟩ := BX.out _ Dc.out
          go_wp2_with fail
          refine (A6.out _ Dc.out _).mono ?_
          rintro e wd ⟨ad, cd', rfl, hnd, hbd⟩
          have Dd := Lib.hid (Dc.out.trans (hbd.mono Dc.out.size))
          have Nd' := Lib.hid hnd
          have Td := Lib.hid (Tc.out.below hbd)
          clear hnd hbd y0 y1 y2 Dc Tc
          go_wp2_with fail
          refine (P4.out _ _ Nd'.out).mono ?_
          rintro e we ⟨ae, ce', rfl, hte, hbe⟩
          have De := Lib.hid (Dd.out.trans (hbe.mono Dd.out.size))
          have Te := Lib.hid hte
          have Ue := Lib.hid (Td.out.below hbe)
          clear hte hbe Dd Nd' Td
          by_cases h6 : k = 6
          · subst h6
            have HZ := Lib.hid (HE.out (.inl rfl))
            clear HE
            go_wp2_with fail
            refine (SZ.out HZ.out _ _ _ Ue.out Te.out).mono ?_
            rw [(same_iff Z Z').2 HZ.out]
            rintro e wf ⟨rfl, hbf⟩
            have Df := Lib.hid (De.out.trans (hbf.mono De.out.size))
            clear hbf
            go_wp2_with fail
            go_roundw
            case rel => exact ⟨q + 1, by omega, by go_num, LW.out.trans (Df.out.mono LW.out.size)⟩
            case measure => simp [intOf]; omega
          · by_cases h7 : k = 7
            · subst h7
              have HZ := Lib.hid (HE.out (.inr rfl))
              clear HE
              go_wp2_with fail
              refine (SZ.out HZ.out _ _ _ Ue.out Te.out).mono ?_
              rw [(same_iff Z Z').2 HZ.out]
              rintro e wf ⟨rfl, hbf⟩
              have Df := Lib.hid (De.out.trans (hbf.mono De.out.size))
              clear hbf
              go_wp2_with fail
              go_roundw
              case rel => exact ⟨q + 1, by omega, by go_num, LW.out.trans (Df.out.mono LW.out.size)⟩
              case measure => simp [intOf]; omega
            · have e6 : (k == 6) = false := by simp [h6]
              have e7 : (k == 7) = false := by simp [h7]
              go_wp2_with fail
              go_roundw
              case rel => exact ⟨q + 1, by omega, by go_num, LW.out.trans (De.out.mono LW.out.size)⟩
              case measure => simp [intOf]; omega
      · have hq4 : q = 4 := by omega
        subst hq4
        have BQ := Lib.hid (BL.out.trans (LB.out.mono BL.out.size))
        go_wp2_with fail
        refine (AL0.out _ BQ.out).mono ?_
        rintro e wn ⟨rfl, hb⟩
        go_wp2_with fail
        go_ret
        exact ⟨rfl, hb⟩
  · have g1 : decide ((a.length : Int) + b.length + c.length > 22) = true := decide_eq_true (by omega)
    have g2 : decide ((22 : Int) < (a.length : Int) + b.length + c.length) = true := decide_eq_true (by omega)
    go_wp2_with fail
    refine (AL0.out _ B3.out).mono ?_
    rintro e wn ⟨rfl, hb⟩
    go_wp2_with fail
    go_ret
    exact ⟨rfl, hb⟩
end Go.Proofs.YtghnonbcojbohaaGreatDoor.Mn

namespace Go.Proofs.YtghnonbcojbohaaGreatDoor.Mn
open Go Go.RowKit Tr
open Rw (Nd Nds)
set_option maxRecDepth 20000

/-- What MeanUnits makes. -/
def ums (a : List Nd) : List (List Nd) := [mk 5 lsk a, mk 5 a lsk, mk 7 a lsk, mk 7 lsk a, mk 6 a a, mk 8 lth a]
theorem small_mk24 {k : Int} {p q : List Nd} (hl : (mk k p q).length ≤ 24) (h6 : acs (mk k p q) ≤ 6) : smallB (mk k p q) = true := by
  unfold smallB
  rw [show decide ((mk k p q).length ≤ 24) = true from decide_eq_true hl, show decide (acs (mk k p q) ≤ 6) = true from decide_eq_true h6]
  rfl
theorem unit_one {k : Int} (hk : K4 k) {p q a : List Nd} (hp : So.of p = 1) (hq : So.of q = 1) (ha : So.of a = 1) (hl : (mk k p q).length ≤ 24) (h6 : acs (mk k p q) ≤ 6) (hA : smallB a = true)
    (he : norm (two k (Mt p) (Mt q)) = Mt a) : isB (mk k p q) = true ∧ MtR (mk k p q) = MtR a := by
  have hlen : p.length + q.length < 200 := by simp at hl; omega
  have hx := ofmk hk hp hq hlen
  have hs := small_mk24 hl h6
  exact ⟨by rw [isB_of hx, hs], by rw [mtr_of hx, mtr_of ha, hs, hA, if_pos rfl, if_pos rfl, mt_mk hk hp hq, he]⟩
theorem st_of {a : List Nd} (ha : So.of a = 1) : ST (Mt a) := (gt_of ha).sg (So.whole_rgt (So.of_one ha).1)
theorem units {a : List Nd} (ha : So.of a = 1) (hA : smallB a = true) : ∀ m ∈ ums a, m.length ≤ 24 → acs m ≤ 6 → isB m = true ∧ MtR m = MtR a := by
  have g := gt_of ha
  have h6 := (small_of hA).2
  intro m hm hl h
  unfold ums at hm
  simp only [List.mem_cons, List.not_mem_nil, or_false] at hm
  rcases hm with rfl | rfl | rfl | rfl | rfl | rfl
  · exact unit_one (by omega) of_sk ha ha hl h hA (by rw [mt_sk]; exact unit_l g.up)
  · exact unit_one (by omega) ha of_sk ha hl h hA (by rw [mt_sk]; exact unit_r g.up)
  · exact unit_one (by omega) ha of_sk ha hl h hA (by rw [mt_sk]; exact unit_par g.up (st_of ha) (g.cnt all) (by unfold acs at h6; omega))
  · exact unit_one (by omega) of_sk ha ha hl h hA (by rw [mt_sk]; exact unit_par' g.up (st_of ha) (g.cnt all) (by unfold acs at h6; omega))
  · exact unit_one (by omega) ha ha ha hl h hA (unit_alt g.up)
  · exact unit_one (by omega) of_th ha ha hl h hA (by rw [mt_th]; exact unit_hand g.up)
theorem mt_ne {a : List Nd} (ha : So.of a = 1) (h6 : acs a ≤ 6) : Mt a ≠ [] := (live1 (tre_of ha) (by omega) (So.of_one ha).2).ne
theorem unit_bang {a : List Nd} (ha : So.of a = 1) (hA : smallB a = true) (hl : a.length ≤ 22) : MtR (mk 5 lth a) = [bang] := by
  have h6 := (small_of hA).2
  have hx := ofmk (k := 5) (by omega) of_th ha (by simp; omega)
  have hs : smallB (mk 5 lth a) = true := small_mk24 (by simp; omega) (by rw [acs_mk (by decide), acs_th]; omega)
  rw [mtr_of hx, hs, if_pos rfl, mt_mk (by omega) of_th ha, mt_th, bang_first (mt_ne ha h6)]
theorem ums_len {a : List Nd} (hl : a.length ≤ 22) : ∀ m ∈ ums a, m.length ≤ 45 := fun m hm => by
  unfold ums at hm
  simp only [List.mem_cons, List.not_mem_nil, or_false] at hm
  rcases hm with rfl | rfl | rfl | rfl | rfl | rfl <;> simp <;> omega
theorem ums_nms {a : List Nd} (h : Rw.Nms a) : ∀ m ∈ ums a, Rw.Nms m := fun m hm => by
  unfold ums at hm
  simp only [List.mem_cons, List.not_mem_nil, or_false] at hm
  rcases hm with rfl | rfl | rfl | rfl | rfl | rfl
  · exact nms_mk nms_sk h
  · exact nms_mk h nms_sk
  · exact nms_mk h nms_sk
  · exact nms_mk nms_sk h
  · exact nms_mk h h
  · exact nms_mk nms_th h

/-- A block of a pair of terms. -/
abbrev bp (a b : List Nd) : List Nd := So.nOf 9 :: mk 10 a b
theorem bp_eq {a b : List Nd} (ha : So.of a = 1) (hb : So.of b = 1) (hl : a.length + b.length ≤ 22) (h6 : acs a + acs b ≤ 6) :
    isB (bp a b) = true ∧ MtR (bp a b) = norm (want (MtR a)) ∧ isB a = true := by
  have hp : So.of (mk 10 a b) = 2 := So.mk_10_11 ha hb (by omega)
  have hx : So.of (bp a b) = 1 := by
    show So.of (So.nBlk :: mk 10 a b) = 1
    rw [So.of_blk (by simp; omega), if_pos hp]
  have hs : smallB (bp a b) = true := by
    unfold smallB
    rw [show decide ((bp a b).length ≤ 24) = true from decide_eq_true (by simp; omega)]
    have : acs (bp a b) = acs a + acs b := by
      have h1 := acs_mk (k := 10) (by decide) a b
      rw [← h1]
      unfold acs
      exact acF_cons all _ _ (by decide)
    rw [this, show decide (acs a + acs b ≤ 6) = true from decide_eq_true h6]
    rfl
  have hsa : smallB a = true := by
    unfold smallB
    rw [show decide (a.length ≤ 24) = true from decide_eq_true (by omega), show decide (acs a ≤ 6) = true from decide_eq_true (by omega)]
    rfl
  refine ⟨by rw [isB_of hx, hs], ?_, by rw [isB_of ha, hsa]⟩
  rw [mtr_of hx, mtr_of ha, hs, hsa, if_pos rfl, if_pos rfl]
  obtain ⟨tp, kp⟩ := So.kids_mk (k := 10) rfl (tre_of ha) (tre_of hb)
  have tb : So.Tre (bp a b) := So.tre_blk.2 tp
  have kb : Rw.kids (bp a b) = [mk 10 a b] := So.kids_blk tp
  have e1 : So.k0 (bp a b) = mk 10 a b := by unfold So.k0; rw [kb]; rfl
  have e2 : So.k0 (mk 10 a b) = a := by unfold So.k0; rw [kp]; rfl
  have e3 : So.k1 (mk 10 a b) = b := by unfold So.k1; rw [kp]; rfl
  rw [(M_eq tb.pos).1, stepT_9 (l := bp a b) rfl, e1, (M_eq tp.pos).2, stepP_10 (l := mk 10 a b) rfl, e2, e3]
  exact block_pair (st_of ha) (mt_ne hb (by omega))
theorem make_bp {a b : List Nd} {w : World} {y : Value} (h : Nds w y (mk 10 a b)) (hl : (mk 10 a b).length ≤ 1000) (ty : TypeId) :
    Calls Tryz.prog 27 #[.agg #[.int .i64 9, .string ⟨#[]⟩, .int .i64 0], .slice (some ⟨w.heap.size, 0, none⟩) 1 1] (w.alloc (.cells #[y] ty)) (MkPost (bp a b) w) := make1 9 h hl ty
theorem nms_bp {a b : List Nd} (ha : Rw.Nms a) (hb : Rw.Nms b) : Rw.Nms (bp a b) := fun x hx => by
  rcases List.mem_cons.1 hx with rfl | hx
  · exact Nat.zero_le _
  · exact nms_mk ha hb x hx
theorem want_take {L : List Tr} {k : Nat} (h : k < L.length) : want (L.take (k + 1)) = want (L.take k) ++ if L[k].e = 3 then [] else [⟨L[k].a, 1⟩] := by
  rw [List.take_succ_eq_append_getElem h]
  unfold want
  rw [List.flatMap_append]
  simp
theorem want_len : ∀ L : List Tr, (want L).length ≤ L.length
  | [] => Nat.le_refl _
  | p :: L => by
    have h := want_len L
    have e : want (p :: L) = (if p.e = 3 then [] else [⟨p.a, 1⟩]) ++ want L := by unfold want; rw [List.flatMap_cons]
    have h1 : (if p.e = 3 then ([] : List Tr) else [⟨p.a, 1⟩]).length ≤ 1 := by split <;> simp
    rw [e, List.length_append, List.length_cons]
    omega
theorem want_few {L : List Tr} (h : Few L) : Few (want L) := ⟨Nat.le_trans (want_len L) h.1, fun t ht => by
  obtain ⟨p, hp, _, rfl⟩ := mem_want.1 ht
  exact h.2 p hp⟩
theorem norm_few {L : List Tr} (h : Few L) : Few (norm L) := ⟨Nat.le_trans (length_norm L) h.1, fun t ht => h.2 t ((mem_norm t L).1 ht)⟩
end Go.Proofs.YtghnonbcojbohaaGreatDoor.Mn

namespace Go.Proofs.YtghnonbcojbohaaGreatDoor.Mn
open Go Go.RowKit Tr
open Rw (Nd Nds)
set_option maxRecDepth 20000

set_option maxHeartbeats 8000000 in
theorem blocks_law (va vb : Value) (a b : List Nd) (w : World) (hT : Sg.Tab w) (hva : Nds w va a) (hvb : Nds w vb b) (hma : Rw.Nms a) (hmb : Rw.Nms b) :
    Calls Tryz.prog 8 #[va, vb] w fun e w' => e = .returned (.bool true) ∧ Below w.heap.size w w' := by
  have AL := Lib.hid (fun w1 (hb : Below w.heap.size w w1) => alive_any w1 (Tab.below hT hb))
  have NA := Lib.hid (fun w1 (hb : Below w.heap.size w w1) => hva.below hb)
  have NB := Lib.hid (fun w1 (hb : Below w.heap.size w w1) => hvb.below hb)
  have MA := Lib.hid hma
  have MB := Lib.hid hmb
  obtain ⟨xa, ca, rfl⟩ : ∃ x y, va = .slice x a.length y := by obtain ⟨_, x, y, rfl, -⟩ := hva; exact ⟨x, y, rfl⟩
  obtain ⟨xb, cb, rfl⟩ : ∃ x y, vb = .slice x b.length y := by obtain ⟨_, x, y, rfl, -⟩ := hvb; exact ⟨x, y, rfl⟩
  have TB := Lib.hid hT
  clear hva hvb hma hmb hT
  have AL0 := Lib.hid (fun w1 (hb : Below w.heap.size w w1) => (AL.out w1 hb).mono fun e w' (h : e = .returned (.bool true) ∧ Below w1.heap.size w1 w') => (⟨h.1, hb.trans (h.2.mono hb.size)⟩ : e = .returned (.bool true) ∧ Below w.heap.size w w'))
  go_enter Tryz.func8, Tryz.ntmps8
  go_wp2_with fail
  refine (few_any _ a _ (NA.out _ (Below.refl _ _))).mono ?_
  cases hfa : fewB a with
  | false =>
    rintro e w' ⟨rfl, rfl⟩
    go_wp2_with fail
    refine (AL0.out _ (Below.refl _ _)).mono ?_
    rintro e wn ⟨rfl, hb⟩
    go_wp2_with fail
    go_ret
    exact ⟨rfl, hb⟩
  | true =>
  have hla := few_len hfa
  rintro e w' ⟨rfl, rfl⟩
  clear hfa
  go_wp2_with fail
  refine (few_any _ b _ (NB.out _ (Below.refl _ _))).mono ?_
  cases hfb : fewB b with
  | false =>
    rintro e w' ⟨rfl, rfl⟩
    go_wp2_with fail
    refine (AL0.out _ (Below.refl _ _)).mono ?_
    rintro e wn ⟨rfl, hb⟩
    go_wp2_with fail
    go_ret
    exact ⟨rfl, hb⟩
  | true =>
  have hlb := few_len hfb
  rintro e w' ⟨rfl, rfl⟩
  clear hfb
  go_wp2_with fail
  refine (Sx.termP_any a _ _ (NA.out _ (Below.refl _ _)) (by omega) MA.out).mono ?_
  cases hta : (So.of a == 1) with
  | false =>
    rintro e w1 ⟨rfl, hb1⟩
    have B1 := Lib.hid (hb1)
    clear hb1
    go_wp2_with fail
    refine (AL0.out _ B1.out).mono ?_
    rintro e wn ⟨rfl, hb⟩
    go_wp2_with fail
    go_ret
    exact ⟨rfl, hb⟩
  | true =>
  rintro e w1 ⟨rfl, hb1⟩
  have B1 := Lib.hid (hb1)
  clear hb1
  have oa : So.of a = 1 := by simpa using hta
  clear hta
  go_wp2_with fail
  refine (Sx.termP_any b _ _ (NB.out _ B1.out) (by omega) MB.out).mono ?_
  cases htb : (So.of b == 1) with
  | false =>
    rintro e w2 ⟨rfl, hb2⟩
    have B2 := Lib.hid (B1.out.trans (hb2.mono B1.out.size))
    clear hb2
    go_wp2_with fail
    refine (AL0.out _ B2.out).mono ?_
    rintro e wn ⟨rfl, hb⟩
    go_wp2_with fail
    go_ret
    exact ⟨rfl, hb⟩
  | true =>
  rintro e w2 ⟨rfl, hb2⟩
  have B2 := Lib.hid (B1.out.trans (hb2.mono B1.out.size))
  clear hb2 B1
  have ob : So.of b = 1 := by simpa using htb
  clear htb
  by_cases hlen : a.length + b.length ≤ 22
  · have g1 : decide ((a.length : Int) + b.length > 22) = false := decide_eq_false (by omega)
    have g2 : decide ((22 : Int) < (a.length : Int) + b.length) = false := decide_eq_false (by omega)
    have CA := Lib.hid (fun y w1 (hb : Below w.heap.size w w1) hy => Rx.countP_any (.slice xa a.length ca) y a [1] w1 (NA.out w1 hb) hy (by omega) (by simp))
    have CB := Lib.hid (fun y w1 (hb : Below w.heap.size w w1) hy => Rx.countP_any (.slice xb b.length cb) y b [1] w1 (NB.out w1 hb) hy (by omega) (by simp))
    rw [← acs_cnt a] at CA
    rw [← acs_cnt b] at CB
    have I1 := Lib.hid (fun w1 ty => ints_one w1 1 ty)
    have PA := Lib.hid (fun w1 (hb : Below w.heap.size w w1) => plain_any (.slice xa a.length ca) a w1 (NA.out w1 hb) MA.out (by omega))
    have PB := Lib.hid (fun v w1 (h : Nds w1 v (bp a b)) => plain_any v (bp a b) w1 h (nms_bp MA.out MB.out) (by simp; omega))
    have A1 := Lib.hid (fun w1 (hb : Below w.heap.size w w1) ty => make2 10 (NA.out w1 hb) (NB.out w1 hb) (by omega) ty)
    have A2 := Lib.hid (fun y w1 (h : Nds w1 y (mk 10 a b)) ty => make_bp h (by simp; omega) ty)
    unfold MkPost at A1 A2
    unfold PlPost at PA PB
    have EQ := Lib.hid (fun h6 => bp_eq oa ob hlen h6)
    have FZ := Lib.hid (mtr_few a)
    have FW := Lib.hid (norm_few (want_few (mtr_few a)))
    have hnab : acs a + acs b ≤ 100 := by
      have h1 : acs a ≤ a.length := List.countP_le_length
      have h2 : acs b ≤ b.length := List.countP_le_length
      omega
    generalize acs a = na at CA EQ hnab
    generalize acs b = nb at CB EQ hnab
    generalize bp a b = ll at A2 PB EQ
    generalize mk 10 a b = l2 at A1 A2
    generalize MtR a = Z at PA EQ FZ FW
    generalize isB a = ia at PA EQ
    clear NA NB MA MB hla hlb oa ob
    go_wp2_with fail
    refine (CA.out _ _ (B2.out.alloc B2.out.size _) (I1.out _ _)).mono ?_
    rintro e w3 ⟨rfl, hb3⟩
    have B3 := Lib.hid ((B2.out.alloc B2.out.size _).trans (hb3.mono (B2.out.alloc B2.out.size _).size))
    clear hb3 B2 CA
    go_wp2_with fail
    refine (CB.out _ _ (B3.out.alloc B3.out.size _) (I1.out _ _)).mono ?_
    rintro e w4 ⟨rfl, hb4⟩
    have B4 := Lib.hid ((B3.out.alloc B3.out.size _).trans (hb4.mono (B3.out.alloc B3.out.size _).size))
    clear hb4 B3 CB I1
    by_cases h6 : na + nb ≤ 6
    · have k1 : decide ((na : Int) + nb > 6) = false := decide_eq_false (by omega)
      have k2 : decide ((6 : Int) < (na : Int) + nb) = false := decide_eq_false (by omega)
      obtain ⟨e1, e2, e3⟩ := EQ.out h6
      subst e3
      rw [e1, e2] at PB
      clear EQ e1 e2
      go_wp2_with fail
      refine (PA.out _ B4.out).mono ?_
      rintro e w5 ⟨a5, c5, rfl, ht5, hb5⟩
      have B5 := Lib.hid (B4.out.trans (hb5.mono B4.out.size))
      have Z5 := Lib.hid ht5
      clear hb5 ht5 B4 PA
      go_wp2_with fail
      refine (A1.out _ B5.out _).mono ?_
      rintro e w6 ⟨a6, c6, rfl, hn6, hb6⟩
      have B6 := Lib.hid (B5.out.trans (hb6.mono B5.out.size))
      have Z6 := Lib.hid (Z5.out.below hb6)
      have N6 := Lib.hid hn6
      clear hb6 hn6 B5 Z5 A1
      go_wp2_with fail
      refine (A2.out _ _ N6.out _).mono ?_
      rintro e w7 ⟨a7, c7, rfl, hn7, hb7⟩
      have B7 := Lib.hid (B6.out.trans (hb7.mono B6.out.size))
      have Z7 := Lib.hid (Z6.out.below hb7)
      have N7 := Lib.hid hn7
      clear hb7 hn7 B6 Z6 N6 A2
      go_wp2_with fail
      refine (PB.out _ _ N7.out).mono ?_
      rintro e w8 ⟨a8, c8, rfl, ht8, hb8⟩
      have B8 := Lib.hid (B7.out.trans (hb8.mono B7.out.size))
      have Z8 := Lib.hid (Z7.out.below hb8)
      have X8 := Lib.hid ht8
      clear hb8 ht8 B7 Z7 N7 PB
      have TV := Lib.hid (show ∀ k, (hk : k < Z.length) → ∃ b off x, a5 = some ⟨b, off, none⟩ ∧ w8.cell? ⟨b, off + k * 2, none⟩ = some x ∧ w8.cell? ⟨b, off + k * 2 + 1, none⟩ = some (.int .i64 Z[k].e) ∧ StrsO any w8 x Z[k].a from fun k hk => by
        obtain ⟨_, _, hv, _, hc⟩ := Z8.out.val
        cases hv
        obtain ⟨b, off, x, h1, _, h2⟩ := hc k hk
        exact ⟨b, off, x, h1, h2⟩)
      have SET := Lib.hid (fun y w1 (h : Trs w1 y (want Z)) => setT_any y (want Z) w1 h (want_few FZ.out).1 (want_few FZ.out).2)
      have SM := Lib.hid (fun x y w1 h1 h2 => same_law x y (norm (want Z)) (norm (want Z)) w1 h1 h2 FW.out FW.out)
      rw [same_self] at SM
      unfold SetPost at SET
      have hZ := FZ.out.1
      obtain ⟨Wt, hWt⟩ : ∃ Wt, norm (want Z) = Wt := ⟨_, rfl⟩
      rw [hWt] at SET SM X8 ⊢
      clear hWt Z8 FW FZ h6 k1 k2
      go_wp2_with fail
      go_loopw [9, 74] (fun v i wr => ∃ (k : Nat) (cs : List Value), k ≤ Z.length ∧ i = .int .i64 k ∧ Below w8.heap.size w8 wr ∧ wr.ownsRow w8.heap.size 46 2 v (want (Z.take k)).length cs ∧ Cl (ET (Apart (New any w8) v) wr) 2 (want (Z.take k)) cs) (fun _ i _ => Z.length - (intOf i).toNat)
      case atStart => exact ⟨0, [], Nat.zero_le _, rfl, Below.refl _ _, ⟨rfl, .inl ⟨rfl, rfl⟩⟩, rfl⟩
      case round =>
        obtain ⟨k, cs, hk, rfl, hb, hown, hcs⟩ := hrel
        have WB := Lib.hid hb
        have WO := Lib.hid hown
        have WC := Lib.hid hcs
        clear hb hown hcs
        by_cases hlt : k < Z.length
        · obtain ⟨b1, o1, va1, rfl, e1, e2, s1⟩ := TV.out k hlt
          have HSK0 := want_take hlt
          have hPL : (want (Z.take k)).length ≤ 1000000000000 := Nat.le_trans (want_len _) (by rw [List.length_take]; omega)
          generalize Z[k] = p at *
          obtain ⟨PP, hPP⟩ : ∃ PP, want (Z.take k) = PP := ⟨_, rfl⟩
          rw [hPP] at WO WC HSK0 hPL
          clear hPP
          have HA1 := Lib.hid s1
          obtain ⟨_, a3, n3, rfl, _⟩ := id s1
          have q0 : wr.cell? ⟨b1, o1 + k * 2, none⟩ = some (.slice a3 p.a.length n3) := by rw [WB.out.cell (Ap.cell_lt e1)]; exact e1
          have q1 : wr.cell? ⟨b1, o1 + k * 2 + 1, none⟩ = some (.int .i64 p.e) := by rw [WB.out.cell (Ap.cell_lt e2)]; exact e2
          clear e1 e2 s1
          have B1 : Hid (Below wr.heap.size wr (wr.alloc (.cells #[.slice a3 p.a.length n3, .int .i64 p.e] 46))) := (Below.refl _ _).alloc (Nat.le_refl _) _
          have S1 := WB.out.trans (B1.out.mono WB.out.size)
          by_cases h3 : p.e = 3
          · rw [if_pos h3, List.append_nil] at HSK0
            have HSK := Lib.hid HSK0
            have gg1 : (p.e != 3) = false := by simp [h3]
            have gg2 : (p.e == 3) = true := by simp [h3]
            have O2 := Lib.hid (Ap.own_below WO.out B1.out)
            have C2 := Lib.hid (Cl.imp (ET.map fun _ _ h => so_below h B1.out) WC.out)
            have B2' := Lib.hid S1
            clear h3 HSK0 S1
            go_wp2_with fail
            go_roundw
            case rel => exact ⟨k + 1, cs, by omega, by go_num, B2'.out, by rw [HSK.out]; exact O2.out, by rw [HSK.out]; exact C2.out⟩
            case measure => simp [intOf]; omega
          · rw [if_neg h3] at HSK0
            have HSK := Lib.hid HSK0
            have gg1 : (p.e != 3) = true := by simp [h3]
            have gg2 : (p.e == 3) = false := by simp [h3]
            clear h3 HSK0
            obtain ⟨v2, w9, hrun, hown2, hg2, hb2, hf2⟩ := run_append_news (t := ⟨p.a, 1⟩) (Ap.own_below WO.out B1.out) S1.size (so_strs (so_below HA1.out S1)) (by omega)
            rw [show (wr.alloc (.cells #[.slice a3 p.a.length n3, .int .i64 p.e] _)).heap.size = wr.heap.size + 1 by simp] at hrun
            have RUN := Lib.hid hrun
            have O2 := Lib.hid hown2
            have B2' := Lib.hid (S1.trans hb2)
            have C2 := Lib.hid (accT (M := [⟨p.a, 1⟩]) WB.out WO.out WC.out B1.out (Cl.one ⟨_, rfl, so_imp (so_below (so_old HA1.out) S1) fun b _ h => .inl h⟩ rfl) hg2 hf2)
            clear hrun hown2 hg2 hb2 hf2 S1
            go_wp2_with (at_builtin; refine Ap.wpList_append_run (by rfl) _ _ _ _ rfl _ _ rfl rfl v2 w9 RUN.out ?_)
            go_roundw
            case rel => exact ⟨k + 1, _, by omega, by go_num, B2'.out, by rw [HSK.out]; exact O2.out, by rw [HSK.out]; exact C2.out⟩
            case measure => simp [intOf]; omega
        · have hkl : k = Z.length := by omega
          subst hkl
          have O := WO.out
          have C := WC.out
          rw [List.take_length] at O C
          have TT := Lib.hid ((tellT O C).imp (ok' := any) fun _ _ _ => trivial)
          have X9 := Lib.hid (X8.out.below WB.out)
          have B9 := Lib.hid (B8.out.trans (WB.out.mono B8.out.size))
          obtain ⟨_, a9, c9, hv, _⟩ := Ap.Rd.owned O
          subst hv
          clear O C WO WC X8 B8
          go_wp2_with fail
          refine (AL.out _ B9.out).mono ?_
          rintro e w10 ⟨rfl, hb10⟩
          have B10 := Lib.hid (B9.out.trans (hb10.mono B9.out.size))
          have X10 := Lib.hid (X9.out.below hb10)
          have T10 := Lib.hid (TT.out.below hb10)
          clear hb10 X9 TT B9
          go_wp2_with fail
          refine (SET.out _ _ T10.out.trs).mono ?_
          rintro e w11 ⟨v11, rfl, ht11, hb11⟩
          have B11 := Lib.hid (B10.out.trans (hb11.mono B10.out.size))
          have X11 := Lib.hid (X10.out.below hb11)
          have T11 := Lib.hid (TsO.of ht11)
          clear hb11 ht11 X10 T10 B10
          go_wp2_with fail
          refine (SM.out _ _ _ X11.out T11.out).mono ?_
          rintro e w12 ⟨rfl, hb12⟩
          have B12 := Lib.hid (B11.out.trans (hb12.mono B11.out.size))
          clear hb12
          go_wp2_with fail
          go_ret
          exact ⟨rfl, B12.out⟩
    · have k1 : decide ((na : Int) + nb > 6) = true := decide_eq_true (by omega)
      have k2 : decide ((6 : Int) < (na : Int) + nb) = true := decide_eq_true (by omega)
      go_wp2_with fail
      refine (AL0.out _ B4.out).mono ?_
      rintro e wn ⟨rfl, hb⟩
      go_wp2_with fail
      go_ret
      exact ⟨rfl, hb⟩
  · have g1 : decide ((a.length : Int) + b.length > 22) = true := decide_eq_true (by omega)
    have g2 : decide ((22 : Int) < (a.length : Int) + b.length) = true := decide_eq_true (by omega)
    go_wp2_with fail
    refine (AL0.out _ B2.out).mono ?_
    rintro e wn ⟨rfl, hb⟩
    go_wp2_with fail
    go_ret
    exact ⟨rfl, hb⟩
end Go.Proofs.YtghnonbcojbohaaGreatDoor.Mn
