/- The document's going: the walk. The document's two: the walks. The document's two: the walks. The document's two: the walks. -/
import Derived.Test.YtghnonbcojbohaaGreatDoorQ20

namespace Go.Proofs.YtghnonbcojbohaaGreatDoor.Mn
open Go Go.RowKit Tr
set_option maxRecDepth 20000

def gG (p q : Tr) : List Pr := [⟨p, q⟩]
theorem and2 {a b c : Prop} (h : a ∧ b) (h' : c) : a ∧ b ∧ c := ⟨h.1, h.2, h'⟩
theorem and4 {a b c d e : Prop} (h : a ∧ b ∧ c ∧ d) (h' : e) : a ∧ b ∧ c ∧ d ∧ e := ⟨h.1, h.2.1, h.2.2.1, h.2.2.2, h'⟩
theorem goingR_own_f1 (B : List Tr) (p : Tr) (h : p.e = 1) : going1 B p = B.flatMap (gG p) := by
  unfold going1
  rw [if_pos h, map_flat]
  rfl
theorem goingR_own_f2 (B : List Tr) (p : Tr) (h : ¬ p.e = 1) : going1 B p = [⟨p, tick⟩] := by
  unfold going1
  rw [if_neg h]
set_option maxHeartbeats 400000 in
theorem endsR_any (s : Int) (w : World) : Calls Tryz.prog 66 #[.int .i64 s] w fun e w' => e = .returned (.agg #[.slice none 0 0, .int .i64 s]) ∧ Below w.heap.size w w' := by
  go_enter Tryz.func66, Tryz.ntmps66
  go_wp2_with fail
  refine bodyPost_ret (v := .agg #[.slice none 0 0, .int .i64 s]) (by simp [results, Tryz.results66, go_sem]) rfl ⟨rfl, ?_⟩
  exact bel1 w _
/-- A call that tells a row of its own. -/
def OwnRP (ok : Nat → Prop) (L : List Pr) (w : World) (e : Ending) (w' : World) : Prop := ∃ a c cs, e = .returned (.slice a L.length c) ∧ w'.ownsRow w.heap.size 75 4 (.slice a L.length c) L.length cs ∧ Cl (EP (Apart (New ok w) (.slice a L.length c)) w') 4 L cs ∧ Below w.heap.size w w'

set_option maxHeartbeats 4000000 in
theorem goingR_own (ok : Nat → Prop) (x y : Value) (A : List Tr) (B : List Tr) (w : World) (hx : TsO ok w x A) (hy : TsO ok w y B) (hA : A.length ≤ 1000000000000) (hB : B.length ≤ 1000000000000) (hout : (going A B).length ≤ 1000000000000) :
    Calls Tryz.prog 76 #[x, y] w (OwnRP ok (going A B) w) := by
  obtain ⟨ax, cx, rfl, _, hvx⟩ := hx.val
  obtain ⟨ay, cy, rfl, _, hvy⟩ := hy.val
  have HX := Lib.hid hvx
  have HY := Lib.hid hvy
  have HT := Lib.hid (flat_take (going1 B) A)
  have HS := Lib.hid (flat_snoc (going1 B) A)
  have HS2 := Lib.hid (fun p => flat_snoc (gG p) B)
  have HT2 := Lib.hid (fun p => flat_take (gG p) B)
  have HF1 := Lib.hid (goingR_own_f1 B)
  have HF2 := Lib.hid (goingR_own_f2 B)
  obtain ⟨L, hL⟩ : ∃ L, going A B = L := ⟨_, rfl⟩
  have hL' : A.flatMap (going1 B) = L := hL
  obtain ⟨F, hF⟩ : ∃ F, (going1 B) = F := ⟨_, rfl⟩
  rw [hL'] at HT
  rw [hF] at hL' HT HS HF1 HF2
  rw [hL] at hout ⊢
  have HL := Lib.hid hL'
  unfold OwnRP
  clear hvx hvy hx hy hL hL' hF
  go_enter Tryz.func76, Tryz.ntmps76
  go_wp2_with fail
  go_loopw [5, 6] (fun v i wr => ∃ (k : Nat) (cs : List Value), k ≤ A.length ∧ i = .int .i64 k ∧ Below w.heap.size w wr ∧ wr.ownsRow w.heap.size 75 4 v ((A.take k).flatMap F).length cs ∧ Cl (EP (Apart (New ok w) v) wr) 4 ((A.take k).flatMap F) cs) (fun _ i _ => A.length - (intOf i).toNat)
  case atStart => exact ⟨0, [], Nat.zero_le _, rfl, Below.refl _ _, ⟨rfl, .inl ⟨rfl, rfl⟩⟩, rfl⟩
  case round =>
    obtain ⟨k, cs, hk, rfl, hb, hown, hcs⟩ := hrel
    have WB := Lib.hid hb
    have WO := Lib.hid hown
    have WC := Lib.hid hcs
    clear hb hown hcs
    by_cases hlt : k < A.length
    · skip
      obtain ⟨b1, o1, va1, rfl, _, e1, e2, s1⟩ := HX.out k hlt
      have HTK := HT.out (k + 1)
      have HSK := Lib.hid (HS.out k hlt)
      rw [HSK.out, List.length_append] at HTK
      generalize A[k] = p at *
      obtain ⟨PP, hPP⟩ : ∃ PP, (A.take k).flatMap F = PP := ⟨_, rfl⟩
      rw [hPP] at WO WC HSK HTK
      clear hPP
      have HA1 := Lib.hid s1
      obtain ⟨_, a1, n1, rfl, _⟩ := id s1
      have SA : Hid (∀ w1, Below w.heap.size w w1 → w1.cell? ⟨b1, o1 + k * 2, none⟩ = some (.slice a1 p.a.length n1) ∧ w1.cell? ⟨b1, o1 + k * 2 + 1, none⟩ = some (.int .i64 p.e)) := Lib.hid fun w1 hb => ⟨by rw [hb.cell (Ap.cell_lt e1)]; exact e1, by rw [hb.cell (Ap.cell_lt e2)]; exact e2⟩
      by_cases hp1 : p.e = 1
      · skip
        have HFP := HF1.out p hp1
        rw [HFP] at HTK
        have HPQ := Lib.hid (HT2.out p)
        have HFPH := Lib.hid HFP
        clear HFP
        have gp0 : (p.e != 1) = false := by simp [hp1]
        clear hp1
        have hcell0 := SA.out _ WB.out
        obtain ⟨q0, q1⟩ := hcell0
        go_wp2_with fail
        go_loopw [5, 7] (fun v j wr => ∃ (q : Nat) (cs : List Value), q ≤ B.length ∧ j = .int .i64 q ∧ Below w.heap.size w wr ∧ wr.ownsRow w.heap.size 75 4 v (PP ++ (B.take q).flatMap (gG p)).length cs ∧ Cl (EP (Apart (New ok w) v) wr) 4 (PP ++ (B.take q).flatMap (gG p)) cs) (fun _ j _ => B.length - (intOf j).toNat)
        case atStart => exact ⟨0, cs, Nat.zero_le _, rfl, WB.out, by simpa using WO.out, by simpa using WC.out⟩
        case round =>
          obtain ⟨q, cs, hq, rfl, hb, hown, hcs⟩ := hrel
          have VB := Lib.hid hb
          have VO := Lib.hid hown
          have VC := Lib.hid hcs
          clear hb hown hcs q0 q1
          by_cases hlq : q < B.length
          · skip
            obtain ⟨b2, o2, vb1, rfl, _, f1, f2, t1⟩ := HY.out q hlq
            have HS2K := Lib.hid (HS2.out p q hlq)
            have HPQ' := HPQ.out (q + 1)
            rw [HS2K.out, List.length_append] at HPQ'
            generalize B[q] = u at *
            have EQ := Lib.hid (show PP ++ (B.take (q + 1)).flatMap (gG p) = (PP ++ (B.take q).flatMap (gG p)) ++ gG p u by rw [HS2K.out, List.append_assoc])
            obtain ⟨QQ, hQQ⟩ : ∃ QQ, PP ++ (B.take q).flatMap (gG p) = QQ := ⟨_, rfl⟩
            have hQL : QQ.length ≤ 1000000000000 := by rw [← hQQ, List.length_append]; omega
            rw [hQQ] at VO VC EQ
            have HQ2 := Lib.hid (show QQ.length + (gG p u).length ≤ 1000000000000 by rw [← hQQ, List.length_append]; omega)
            clear hQQ HPQ'
            have HB1 := Lib.hid t1
            obtain ⟨_, d1, m1, rfl, _⟩ := id t1
            have SB : Hid (∀ w1, Below w.heap.size w w1 → w1.cell? ⟨b2, o2 + q * 2, none⟩ = some (.slice d1 u.a.length m1) ∧ w1.cell? ⟨b2, o2 + q * 2 + 1, none⟩ = some (.int .i64 u.e)) := Lib.hid fun w1 hb => ⟨by rw [hb.cell (Ap.cell_lt f1)]; exact f1, by rw [hb.cell (Ap.cell_lt f2)]; exact f2⟩
            have VO1 := Ap.own_below VO.out (Below.refl wr.heap.size wr).drew
            obtain ⟨v2, w2, hrun, hown2, hg2, hb2, hf2⟩ := app1P (x := ⟨p, u⟩) VO1 VB.out.drew.size (so_below (so_old HA1.out) VB.out.drew) (so_below (so_old HB1.out) VB.out.drew) (by omega)
            have RUN := Lib.hid hrun
            have O2 := Lib.hid hown2
            have B2 := Lib.hid (VB.out.drew.trans hb2)
            have C2 := Lib.hid (accP (M := [⟨p, u⟩]) VB.out VO.out VC.out (Below.refl wr.heap.size wr).drew (Cl.one ⟨_, _, rfl, so_imp (so_below (so_old HA1.out) VB.out.drew) fun b _ h => .inl h, so_imp (so_below (so_old HB1.out) VB.out.drew) fun b _ h => .inl h⟩ rfl) hg2 hf2)
            clear hrun hown2 hg2 hb2 hf2 VO1
            go_wp2_with fail
            go_region_held3 (fun w' => w'.cell? ⟨b1, o1 + k * 2, none⟩ = some (.slice a1 p.a.length n1) ∧ w'.cell? ⟨b1, o1 + k * 2 + 1, none⟩ = some (.int .i64 p.e) ∧ w'.cell? ⟨b2, o2 + q * 2, none⟩ = some (.slice d1 u.a.length m1) ∧ w'.cell? ⟨b2, o2 + q * 2 + 1, none⟩ = some (.int .i64 u.e)) (first | exact and2 (SA.out _ VB.out.drew) (SB.out _ VB.out.drew) | exact and2 (SA.out _ (VB.out.drew.alloc VB.out.drew.size _)) (SB.out _ (VB.out.drew.alloc VB.out.drew.size _)) | exact and2 (SA.out _ B2.out) (SB.out _ B2.out) | fail) (first
              | (refine Ap.step_append_run (by rfl) _ _ _ _ rfl _ _ rfl rfl v2 w2 RUN.out ?_)
              | fail)
            go_wp2_with fail
            go_roundw
            case rel => exact ⟨q + 1, _, by omega, by go_num, B2.out, by rw [EQ.out]; exact O2.out, by rw [EQ.out]; exact C2.out⟩
            case measure => simp [intOf]; omega
          · have hql : q = B.length := by omega
            subst hql
            have O := VO.out
            have C := VC.out
            rw [List.take_length, ← HFPH.out, ← HSK.out] at O C
            have OO := Lib.hid O
            have CC := Lib.hid C
            clear O C
            go_wp2_with fail
            go_roundw
            case rel => exact ⟨k + 1, cs, by omega, by go_num, VB.out, OO.out, CC.out⟩
            case measure => simp [intOf]; omega
      · skip
        have hFP : F p = [⟨p, tick⟩] := HF2.out p hp1
        rw [hFP] at HTK HSK
        have gp1 : (p.e != 1) = true := by simp [hp1]
        clear hFP
        have SS := SA
        obtain ⟨q0, q1⟩ := SA.out _ WB.out
        go_wp2_with fail
        go_region_held3 (fun w' => w'.cell? ⟨b1, o1 + k * 2, none⟩ = some (.slice a1 p.a.length n1) ∧ w'.cell? ⟨b1, o1 + k * 2 + 1, none⟩ = some (.int .i64 p.e)) (first | exact SS.out _ WB.out.drew | exact SS.out _ B1.out | exact SS.out _ (B1.out.alloc B1.out.size _) | exact SS.out _ B2.out | fail) (first
          | (go_at_call 66
             (with_reducible refine (endsR_any 1 _).mono ?_)
             rintro e w1 ⟨rfl, hb1⟩
             have B1 := Lib.hid (WB.out.drew.trans (hb1.mono WB.out.drew.size))
             have VO1 := Ap.own_below WO.out ((Below.refl _ _).drew.trans hb1)
             obtain ⟨v2, w2, hrun, hown2, hg2, hb2, hf2⟩ := app1P (x := ⟨p, tick⟩) VO1 B1.out.size (so_below (so_old HA1.out) B1.out) (so_nil _ w1) (by omega)
             have RUN := Lib.hid hrun
             have O2 := Lib.hid hown2
             have B2 := Lib.hid (B1.out.trans hb2)
             have C2 := Lib.hid (accP (M := [⟨p, tick⟩]) WB.out WO.out WC.out ((Below.refl _ _).drew.trans hb1) (Cl.one ⟨_, _, rfl, so_imp (so_below (so_old HA1.out) B1.out) fun b _ h => .inl h, so_nil _ _⟩ rfl) hg2 hf2)
             clear hrun hown2 hg2 hb2 hf2 hb1 VO1)
          | (refine Ap.step_append_run (by rfl) _ _ _ _ rfl _ _ rfl rfl v2 w2 RUN.out ?_)
          | fail)
        go_wp2_with fail
        go_roundw
        case rel => exact ⟨k + 1, _, by omega, by go_num, B2.out, by rw [HSK.out]; exact O2.out, by rw [HSK.out]; exact C2.out⟩
        case measure => simp [intOf]; omega
    · have hkl : k = A.length := by omega
      subst hkl
      have O := WO.out
      have C := WC.out
      rw [List.take_length, HL.out] at O C
      obtain ⟨_, a9, c9, hv, _⟩ := Ap.Rd.owned O
      subst hv
      have O9 := Lib.hid O
      have C9 := Lib.hid C
      clear O C
      go_wp2_with fail
      go_ret
      exact ⟨_, _, _, rfl, O9.out, C9.out, WB.out⟩

theorem goingR_any (ok : Nat → Prop) (x y : Value) (A : List Tr) (B : List Tr) (w : World) (hx : TsO ok w x A) (hy : TsO ok w y B) (hA : A.length ≤ 1000000000000) (hB : B.length ≤ 1000000000000) (hout : (going A B).length ≤ 1000000000000) :
    Calls Tryz.prog 76 #[x, y] w (OutP ok (going A B) w) :=
  (goingR_own ok x y A B w hx hy hA hB hout).mono fun e w' h => by
    obtain ⟨a, c, cs, rfl, ho, hc, hb⟩ := h
    exact ⟨a, c, rfl, tellP ho hc, hb⟩
end Go.Proofs.YtghnonbcojbohaaGreatDoor.Mn

namespace Go.Proofs.YtghnonbcojbohaaGreatDoor.Mn
open Go Go.RowKit Tr
set_option maxRecDepth 20000

set_option maxHeartbeats 4000000 in
theorem twoR7_any (ok : Nat → Prop) (x y : Value) (A B : List Tr) (w : World) (hx : TsO ok w x A) (hy : TsO ok w y B) (hA : A.length ≤ 1000000000000) (hB : B.length ≤ 1000000000000) (hrow : ∀ p ∈ A, ∀ q ∈ B, p.a.length + q.a.length ≤ 9) (hout : (A.flatMap fun p => B.flatMap (one 7 p)).length ≤ 1000000000000) :
    Calls Tryz.prog 68 #[.int .i64 7, x, y] w (OutT ok (A.flatMap fun p => B.flatMap (one 7 p)) w) := by
  obtain ⟨ax, cx, rfl, _, hvx⟩ := hx.val
  obtain ⟨ay, cy, rfl, _, hvy⟩ := hy.val
  have HX := Lib.hid hvx
  have HY := Lib.hid hvy
  have HR := Lib.hid hrow
  have HP := Lib.hid (flat_part (one 7) A B)
  have HS := Lib.hid (flat_snoc (fun p => B.flatMap (one 7 p)) A)
  have HS2 := Lib.hid (fun p => flat_snoc (one 7 p) B)
  have HONE := Lib.hid one7
  obtain ⟨L, hL⟩ : ∃ L, (A.flatMap fun p => B.flatMap (one 7 p)) = L := ⟨_, rfl⟩
  obtain ⟨F, hF⟩ : ∃ F, one 7 = F := ⟨_, rfl⟩
  rw [hF] at hL hout HP HS HS2 HONE ⊢
  rw [hL] at hout HP ⊢
  have HL := Lib.hid hL
  unfold OutT
  clear hvx hvy hx hy hrow hL hF
  go_enter Tryz.func68, Tryz.ntmps68
  go_wp2_with fail
  go_loopw [7, 8] (fun v i wr => ∃ (k : Nat) (cs : List Value), k ≤ A.length ∧ i = .int .i64 k ∧ Below w.heap.size w wr ∧ wr.ownsRow w.heap.size 67 2 v ((A.take k).flatMap fun p => B.flatMap (F p)).length cs ∧ Cl (ET (Apart (New ok w) v) wr) 2 ((A.take k).flatMap fun p => B.flatMap (F p)) cs) (fun _ i _ => A.length - (intOf i).toNat)
  case atStart => exact ⟨0, [], Nat.zero_le _, rfl, Below.refl _ _, ⟨rfl, .inl ⟨rfl, rfl⟩⟩, rfl⟩
  case round =>
    obtain ⟨k, cs, hk, rfl, hb, hown, hcs⟩ := hrel
    have WB := Lib.hid hb
    have WO := Lib.hid hown
    have WC := Lib.hid hcs
    clear hb hown hcs
    by_cases hlt : k < A.length
    · obtain ⟨b1, o1, a, rfl, _, e1, e2, hs⟩ := HX.out k hlt
      have HA := Lib.hid hs
      have HPK := Lib.hid (fun q => HP.out k q hlt)
      have HSK := Lib.hid (HS.out k hlt)
      have HRK := Lib.hid (HR.out _ (List.getElem_mem hlt))
      generalize A[k] = p at *
      obtain ⟨PP, hPP⟩ : ∃ PP, ((A.take k).flatMap fun p => B.flatMap (F p)) = PP := ⟨_, rfl⟩
      rw [hPP] at WO WC HPK HSK
      obtain ⟨_, a', c', rfl, _⟩ := id hs
      clear hs hPP
      go_wp2_with fail
      go_loopw [7, 9] (fun v j wr => ∃ (q : Nat) (cs : List Value), q ≤ B.length ∧ j = .int .i64 q ∧ Below w.heap.size w wr ∧ wr.ownsRow w.heap.size 67 2 v (PP ++ (B.take q).flatMap (F p)).length cs ∧ Cl (ET (Apart (New ok w) v) wr) 2 (PP ++ (B.take q).flatMap (F p)) cs) (fun _ j _ => B.length - (intOf j).toNat)
      case atStart => exact ⟨0, cs, Nat.zero_le _, rfl, WB.out, by simpa using WO.out, by simpa using WC.out⟩
      case round =>
        obtain ⟨q, cs, hq, rfl, hb, hown, hcs⟩ := hrel
        have VB := Lib.hid hb
        have VO := Lib.hid hown
        have VC := Lib.hid hcs
        clear hb hown hcs
        by_cases hlq : q < B.length
        · obtain ⟨b2, o2, d, rfl, _, f1, f2, ht⟩ := HY.out q hlq
          have c1 : wr.cell? ⟨b1, o1 + k * 2, none⟩ = some (.slice a' p.a.length c') := by rw [VB.out.cell (Ap.cell_lt e1)]; exact e1
          have c2 : wr.cell? ⟨b1, o1 + k * 2 + 1, none⟩ = some (.int .i64 p.e) := by rw [VB.out.cell (Ap.cell_lt e2)]; exact e2
          have c3 : wr.cell? ⟨b2, o2 + q * 2, none⟩ = some d := by rw [VB.out.cell (Ap.cell_lt f1)]; exact f1
          have c4 : wr.cell? ⟨b2, o2 + q * 2 + 1, none⟩ = some (.int .i64 B[q].e) := by rw [VB.out.cell (Ap.cell_lt f2)]; exact f2
          have HD := Lib.hid ht
          have HS2K := Lib.hid (HS2.out p q hlq)
          have HRQ := Lib.hid (HRK.out _ (List.getElem_mem hlq))
          have HPQ := HPK.out (q + 1)
          rw [HS2K.out, HONE.out] at HPQ
          generalize B[q] = t at *
          obtain ⟨_, d', g', rfl, _⟩ := id ht
          rw [HONE.out] at HS2K
          have hpq := HRQ.out
          rw [← List.append_assoc] at HPQ
          have EQ := Lib.hid (show PP ++ (B.take (q + 1)).flatMap (F p) = (PP ++ (B.take q).flatMap (F p)) ++ pr p t by rw [HS2K.out, List.append_assoc])
          obtain ⟨QQ, hQQ⟩ : ∃ QQ, PP ++ (B.take q).flatMap (F p) = QQ := ⟨_, rfl⟩
          rw [hQQ] at VO VC HPQ EQ
          rw [List.length_append] at HPQ
          clear ht hQQ
          have SS : Hid (∀ w1, Below w.heap.size w w1 → w1.cell? ⟨b1, o1 + k * 2, none⟩ = some (.slice a' p.a.length c') ∧ w1.cell? ⟨b1, o1 + k * 2 + 1, none⟩ = some (.int .i64 p.e) ∧ w1.cell? ⟨b2, o2 + q * 2, none⟩ = some (.slice d' t.a.length g') ∧ w1.cell? ⟨b2, o2 + q * 2 + 1, none⟩ = some (.int .i64 t.e)) := Lib.hid fun w1 hb => ⟨by rw [hb.cell (Ap.cell_lt e1)]; exact e1, by rw [hb.cell (Ap.cell_lt e2)]; exact e2, by rw [hb.cell (Ap.cell_lt f1)]; exact f1, by rw [hb.cell (Ap.cell_lt f2)]; exact f2⟩
          have CT := Lib.hid (fun w1 (hb : Below w.heap.size w w1) => parR_any (Old ok w) _ _ p t w1 (so_below (so_old HA.out) hb) (so_below (so_old HD.out) hb) (by omega))
          generalize pr p t = M at *
          go_wp2_with fail
          go_region_held3 (fun w' => w'.cell? ⟨b1, o1 + k * 2, none⟩ = some (.slice a' p.a.length c') ∧ w'.cell? ⟨b1, o1 + k * 2 + 1, none⟩ = some (.int .i64 p.e) ∧ w'.cell? ⟨b2, o2 + q * 2, none⟩ = some (.slice d' t.a.length g') ∧ w'.cell? ⟨b2, o2 + q * 2 + 1, none⟩ = some (.int .i64 t.e)) (first | exact SS.out _ VB.out.drew | exact SS.out _ B1.out | exact SS.out _ BA.out | exact SS.out _ B2.out | fail) (first
            | (go_at_call 114
               (with_reducible refine (CT.out _ VB.out.drew).mono ?_)
               rintro e w1 ⟨a3, n3, rfl, hs3, hb1⟩
               have B1 := Lib.hid (VB.out.drew.trans (hb1.mono VB.out.drew.size))
               have VO1 := Ap.own_below VO.out ((Below.refl _ _).drew.trans hb1)
               obtain ⟨ds, hr3, hc3⟩ := hs3
               obtain ⟨v2, w2, hrun, hown2, hg2, hb2, hf2⟩ := appTR VO1 B1.out.size (Ap.RdO.rd hr3) (Cl.cells _ ET.one hc3) (by omega)
               have RUN := Lib.hid hrun
               rw [← List.length_append] at hown2
               have O2 := Lib.hid hown2
               have B2 := Lib.hid (B1.out.trans hb2)
               have C2 := Lib.hid (accT VB.out VO.out VC.out ((Below.refl _ _).drew.trans hb1) hc3 hg2 hf2)
               clear hrun hown2 hg2 hb2 hf2 hr3 hc3 hb1 VO1)
            | (refine Ap.step_append_run (by rfl) _ _ _ _ rfl _ _ rfl rfl v2 w2 RUN.out ?_)
            | fail)
          go_wp2_with fail
          go_roundw
          case rel => exact ⟨q + 1, _, by omega, by go_num, B2.out, by rw [EQ.out]; exact O2.out, by rw [EQ.out]; exact C2.out⟩
          case measure => simp [intOf]; omega
        · have hql : q = B.length := by omega
          subst hql
          have O := VO.out
          have C := VC.out
          rw [List.take_length, ← HSK.out] at O C
          have OO := Lib.hid O
          have CC := Lib.hid C
          clear O C
          go_wp2_with fail
          go_roundw
          case rel => exact ⟨k + 1, cs, by omega, by go_num, VB.out, OO.out, CC.out⟩
          case measure => simp [intOf]; omega
    · have hkl : k = A.length := by omega
      subst hkl
      have O := WO.out
      have C := WC.out
      rw [List.take_length, HL.out] at O C
      have TT := Lib.hid (tellT O C)
      obtain ⟨_, a1, c1', hv, _⟩ := Ap.Rd.owned O
      subst hv
      clear O C
      go_wp2_with fail
      go_ret
      exact ⟨_, _, rfl, TT.out, WB.out⟩
end Go.Proofs.YtghnonbcojbohaaGreatDoor.Mn

namespace Go.Proofs.YtghnonbcojbohaaGreatDoor.Mn
open Go Go.RowKit Tr
set_option maxRecDepth 20000

set_option maxHeartbeats 4000000 in
theorem twoR8_any (ok : Nat → Prop) (x y : Value) (A B : List Tr) (w : World) (hx : TsO ok w x A) (hy : TsO ok w y B) (hA : A.length ≤ 1000000000000) (hB : B.length ≤ 1000000000000) (hrow : ∀ p ∈ A, ∀ q ∈ B, p.a.length + q.a.length ≤ 9) (hout : (A.flatMap fun p => B.flatMap (one 8 p)).length ≤ 1000000000000) :
    Calls Tryz.prog 68 #[.int .i64 8, x, y] w (OutT ok (A.flatMap fun p => B.flatMap (one 8 p)) w) := by
  obtain ⟨ax, cx, rfl, _, hvx⟩ := hx.val
  obtain ⟨ay, cy, rfl, _, hvy⟩ := hy.val
  have HX := Lib.hid hvx
  have HY := Lib.hid hvy
  have HR := Lib.hid hrow
  have HP := Lib.hid (flat_part (one 8) A B)
  have HS := Lib.hid (flat_snoc (fun p => B.flatMap (one 8 p)) A)
  have HS2 := Lib.hid (fun p => flat_snoc (one 8 p) B)
  have HONE := Lib.hid one8
  obtain ⟨L, hL⟩ : ∃ L, (A.flatMap fun p => B.flatMap (one 8 p)) = L := ⟨_, rfl⟩
  obtain ⟨F, hF⟩ : ∃ F, one 8 = F := ⟨_, rfl⟩
  rw [hF] at hL hout HP HS HS2 HONE ⊢
  rw [hL] at hout HP ⊢
  have HL := Lib.hid hL
  unfold OutT
  clear hvx hvy hx hy hrow hL hF
  go_enter Tryz.func68, Tryz.ntmps68
  go_wp2_with fail
  go_loopw [7, 8] (fun v i wr => ∃ (k : Nat) (cs : List Value), k ≤ A.length ∧ i = .int .i64 k ∧ Below w.heap.size w wr ∧ wr.ownsRow w.heap.size 67 2 v ((A.take k).flatMap fun p => B.flatMap (F p)).length cs ∧ Cl (ET (Apart (New ok w) v) wr) 2 ((A.take k).flatMap fun p => B.flatMap (F p)) cs) (fun _ i _ => A.length - (intOf i).toNat)
  case atStart => exact ⟨0, [], Nat.zero_le _, rfl, Below.refl _ _, ⟨rfl, .inl ⟨rfl, rfl⟩⟩, rfl⟩
  case round =>
    obtain ⟨k, cs, hk, rfl, hb, hown, hcs⟩ := hrel
    have WB := Lib.hid hb
    have WO := Lib.hid hown
    have WC := Lib.hid hcs
    clear hb hown hcs
    by_cases hlt : k < A.length
    · obtain ⟨b1, o1, a, rfl, _, e1, e2, hs⟩ := HX.out k hlt
      have HA := Lib.hid hs
      have HPK := Lib.hid (fun q => HP.out k q hlt)
      have HSK := Lib.hid (HS.out k hlt)
      have HRK := Lib.hid (HR.out _ (List.getElem_mem hlt))
      generalize A[k] = p at *
      obtain ⟨PP, hPP⟩ : ∃ PP, ((A.take k).flatMap fun p => B.flatMap (F p)) = PP := ⟨_, rfl⟩
      rw [hPP] at WO WC HPK HSK
      obtain ⟨_, a', c', rfl, _⟩ := id hs
      clear hs hPP
      go_wp2_with fail
      go_loopw [7, 9] (fun v j wr => ∃ (q : Nat) (cs : List Value), q ≤ B.length ∧ j = .int .i64 q ∧ Below w.heap.size w wr ∧ wr.ownsRow w.heap.size 67 2 v (PP ++ (B.take q).flatMap (F p)).length cs ∧ Cl (ET (Apart (New ok w) v) wr) 2 (PP ++ (B.take q).flatMap (F p)) cs) (fun _ j _ => B.length - (intOf j).toNat)
      case atStart => exact ⟨0, cs, Nat.zero_le _, rfl, WB.out, by simpa using WO.out, by simpa using WC.out⟩
      case round =>
        obtain ⟨q, cs, hq, rfl, hb, hown, hcs⟩ := hrel
        have VB := Lib.hid hb
        have VO := Lib.hid hown
        have VC := Lib.hid hcs
        clear hb hown hcs
        by_cases hlq : q < B.length
        · obtain ⟨b2, o2, d, rfl, _, f1, f2, ht⟩ := HY.out q hlq
          have c1 : wr.cell? ⟨b1, o1 + k * 2, none⟩ = some (.slice a' p.a.length c') := by rw [VB.out.cell (Ap.cell_lt e1)]; exact e1
          have c2 : wr.cell? ⟨b1, o1 + k * 2 + 1, none⟩ = some (.int .i64 p.e) := by rw [VB.out.cell (Ap.cell_lt e2)]; exact e2
          have c3 : wr.cell? ⟨b2, o2 + q * 2, none⟩ = some d := by rw [VB.out.cell (Ap.cell_lt f1)]; exact f1
          have c4 : wr.cell? ⟨b2, o2 + q * 2 + 1, none⟩ = some (.int .i64 B[q].e) := by rw [VB.out.cell (Ap.cell_lt f2)]; exact f2
          have HD := Lib.hid ht
          have HS2K := Lib.hid (HS2.out p q hlq)
          have HRQ := Lib.hid (HRK.out _ (List.getElem_mem hlq))
          have HPQ := HPK.out (q + 1)
          rw [HS2K.out, HONE.out] at HPQ
          generalize B[q] = t at *
          obtain ⟨_, d', g', rfl, _⟩ := id ht
          rw [HONE.out] at HS2K
          have hpq := HRQ.out
          rw [← List.append_assoc] at HPQ
          have EQ := Lib.hid (show PP ++ (B.take (q + 1)).flatMap (F p) = (PP ++ (B.take q).flatMap (F p)) ++ [hnd p t] by rw [HS2K.out, List.append_assoc])
          obtain ⟨QQ, hQQ⟩ : ∃ QQ, PP ++ (B.take q).flatMap (F p) = QQ := ⟨_, rfl⟩
          rw [hQQ] at VO VC HPQ EQ
          rw [List.length_append] at HPQ
          clear ht hQQ
          by_cases h2 : p.e = 2
          · have hh : hnd p t = ⟨p.a ++ t.a, t.e⟩ := by unfold hnd; rw [if_pos h2]
            rw [hh] at EQ HPQ
            rw [h2] at c2 e2
            have SS : Hid (∀ w1, Below w.heap.size w w1 → w1.cell? ⟨b1, o1 + k * 2, none⟩ = some (.slice a' p.a.length c') ∧ w1.cell? ⟨b1, o1 + k * 2 + 1, none⟩ = some (.int .i64 2) ∧ w1.cell? ⟨b2, o2 + q * 2, none⟩ = some (.slice d' t.a.length g') ∧ w1.cell? ⟨b2, o2 + q * 2 + 1, none⟩ = some (.int .i64 t.e)) := Lib.hid fun w1 hb => ⟨by rw [hb.cell (Ap.cell_lt e1)]; exact e1, by rw [hb.cell (Ap.cell_lt e2)]; exact e2, by rw [hb.cell (Ap.cell_lt f1)]; exact f1, by rw [hb.cell (Ap.cell_lt f2)]; exact f2⟩
            have CT := Lib.hid (fun w1 (hb : Below w.heap.size w w1) => behindR_any _ _ p t w1 (so_strs (so_below HA.out hb)) (so_strs (so_below HD.out hb)) (by omega))
            rw [h2] at CT
            clear h2 hh
            generalize (⟨p.a ++ t.a, t.e⟩ : Tr) = t' at *
            go_wp2_with fail
            go_region_held3 (fun w' => w'.cell? ⟨b1, o1 + k * 2, none⟩ = some (.slice a' p.a.length c') ∧ w'.cell? ⟨b1, o1 + k * 2 + 1, none⟩ = some (.int .i64 2) ∧ w'.cell? ⟨b2, o2 + q * 2, none⟩ = some (.slice d' t.a.length g') ∧ w'.cell? ⟨b2, o2 + q * 2 + 1, none⟩ = some (.int .i64 t.e)) (first | exact SS.out _ VB.out.drew | exact SS.out _ B1.out | exact SS.out _ BA.out | exact SS.out _ B2.out | fail) (first
              | (go_at_call 112
                 (with_reducible refine (CT.out _ VB.out.drew).mono ?_)
                 rintro e w1 ⟨a3, n3, rfl, hs3, hb1⟩
                 have B1 := Lib.hid (VB.out.drew.trans (hb1.mono VB.out.drew.size))
                 have BA := Lib.hid (B1.out.alloc B1.out.size (.cells #[.slice a3 t'.a.length n3, .int .i64 t'.e] 67))
                 have VO1 := Ap.own_below VO.out ((Below.refl _ _).drew.trans hb1)
                 obtain ⟨v2, w2, hrun, hown2, hg2, hb2, hf2⟩ := app1T (x := t') VO1 B1.out.size hs3 (by omega)
                 have RUN := Lib.hid hrun
                 have O2 := Lib.hid hown2
                 have B2 := Lib.hid (B1.out.trans hb2)
                 have C2 := Lib.hid (accT (M := [t']) VB.out VO.out VC.out ((Below.refl _ _).drew.trans hb1) (Cl.one ⟨_, rfl, so_imp hs3 fun b _ h => h.elim (fun h => h.elim) fun h => .inr h⟩ rfl) hg2 hf2)
                 clear hrun hown2 hg2 hb2 hf2 hs3 hb1 VO1)
              | (refine Ap.step_append_run (by rfl) _ _ _ _ rfl _ _ rfl rfl v2 w2 RUN.out ?_)
              | fail)
            go_wp2_with fail
            go_roundw
            case rel => exact ⟨q + 1, _, by omega, by go_num, B2.out, by rw [EQ.out]; exact O2.out, by rw [EQ.out]; exact C2.out⟩
            case measure => simp [intOf]; omega
          · have hh : hnd p t = p := by unfold hnd; rw [if_neg h2]
            rw [hh] at EQ HPQ
            have g2 : (p.e == 2) = false := by simp [h2]
            obtain ⟨v2, w2, hrun, hown2, hg2, hb2, hf2⟩ := app1T (x := p) VO.out VB.out.size (so_below (so_old HA.out) VB.out) (by omega)
            have RUN := Lib.hid hrun
            have O2 := Lib.hid hown2
            have B2 := Lib.hid (VB.out.trans hb2)
            have C2 := Lib.hid (accT (M := [p]) VB.out VO.out VC.out (Below.refl _ _) (Cl.one ⟨_, rfl, so_imp (so_below (so_old HA.out) VB.out) fun b _ h => .inl h⟩ rfl) hg2 hf2)
            clear hrun hown2 hg2 hb2 hf2 h2 hh
            go_wp2_with (at_builtin; refine Ap.wpList_append_run (by rfl) _ _ _ _ rfl _ _ rfl rfl v2 w2 RUN.out ?_)
            go_roundw
            case rel => exact ⟨q + 1, _, by omega, by go_num, B2.out, by rw [EQ.out]; exact O2.out, by rw [EQ.out]; exact C2.out⟩
            case measure => simp [intOf]; omega
        · have hql : q = B.length := by omega
          subst hql
          have O := VO.out
          have C := VC.out
          rw [List.take_length, ← HSK.out] at O C
          have OO := Lib.hid O
          have CC := Lib.hid C
          clear O C
          go_wp2_with fail
          go_roundw
          case rel => exact ⟨k + 1, cs, by omega, by go_num, VB.out, OO.out, CC.out⟩
          case measure => simp [intOf]; omega
    · have hkl : k = A.length := by omega
      subst hkl
      have O := WO.out
      have C := WC.out
      rw [List.take_length, HL.out] at O C
      have TT := Lib.hid (tellT O C)
      obtain ⟨_, a1, c1', hv, _⟩ := Ap.Rd.owned O
      subst hv
      clear O C
      go_wp2_with fail
      go_ret
      exact ⟨_, _, rfl, TT.out, WB.out⟩
end Go.Proofs.YtghnonbcojbohaaGreatDoor.Mn

namespace Go.Proofs.YtghnonbcojbohaaGreatDoor.Mn
open Go Go.RowKit Tr
set_option maxRecDepth 20000

set_option maxHeartbeats 4000000 in
theorem twoR5_any (ok : Nat → Prop) (x y : Value) (A B : List Tr) (w : World) (hx : TsO ok w x A) (hy : TsO ok w y B) (hA : A.length ≤ 1000000000000) (hB : B.length ≤ 1000000000000) (hrow : ∀ p ∈ A, ∀ q ∈ B, p.a.length + q.a.length ≤ 9) (hout : (A.flatMap fun p => B.flatMap (one 5 p)).length ≤ 1000000000000) :
    Calls Tryz.prog 68 #[.int .i64 5, x, y] w (OutT ok (A.flatMap fun p => B.flatMap (one 5 p)) w) := by
  obtain ⟨ax, cx, rfl, _, hvx⟩ := hx.val
  obtain ⟨ay, cy, rfl, _, hvy⟩ := hy.val
  have HX := Lib.hid hvx
  have HY := Lib.hid hvy
  have HR := Lib.hid hrow
  have HP := Lib.hid (flat_part (one 5) A B)
  have HS := Lib.hid (flat_snoc (fun p => B.flatMap (one 5 p)) A)
  have HS2 := Lib.hid (fun p => flat_snoc (one 5 p) B)
  have HONE := Lib.hid one5
  obtain ⟨L, hL⟩ : ∃ L, (A.flatMap fun p => B.flatMap (one 5 p)) = L := ⟨_, rfl⟩
  obtain ⟨F, hF⟩ : ∃ F, one 5 = F := ⟨_, rfl⟩
  rw [hF] at hL hout HP HS HS2 HONE ⊢
  rw [hL] at hout HP ⊢
  have HL := Lib.hid hL
  unfold OutT
  clear hvx hvy hx hy hrow hL hF
  go_enter Tryz.func68, Tryz.ntmps68
  go_wp2_with fail
  go_loopw [7, 8] (fun v i wr => ∃ (k : Nat) (cs : List Value), k ≤ A.length ∧ i = .int .i64 k ∧ Below w.heap.size w wr ∧ wr.ownsRow w.heap.size 67 2 v ((A.take k).flatMap fun p => B.flatMap (F p)).length cs ∧ Cl (ET (Apart (New ok w) v) wr) 2 ((A.take k).flatMap fun p => B.flatMap (F p)) cs) (fun _ i _ => A.length - (intOf i).toNat)
  case atStart => exact ⟨0, [], Nat.zero_le _, rfl, Below.refl _ _, ⟨rfl, .inl ⟨rfl, rfl⟩⟩, rfl⟩
  case round =>
    obtain ⟨k, cs, hk, rfl, hb, hown, hcs⟩ := hrel
    have WB := Lib.hid hb
    have WO := Lib.hid hown
    have WC := Lib.hid hcs
    clear hb hown hcs
    by_cases hlt : k < A.length
    · obtain ⟨b1, o1, a, rfl, _, e1, e2, hs⟩ := HX.out k hlt
      have HA := Lib.hid hs
      have HPK := Lib.hid (fun q => HP.out k q hlt)
      have HSK := Lib.hid (HS.out k hlt)
      have HRK := Lib.hid (HR.out _ (List.getElem_mem hlt))
      generalize A[k] = p at *
      obtain ⟨PP, hPP⟩ : ∃ PP, ((A.take k).flatMap fun p => B.flatMap (F p)) = PP := ⟨_, rfl⟩
      rw [hPP] at WO WC HPK HSK
      obtain ⟨_, a', c', rfl, _⟩ := id hs
      clear hs hPP
      go_wp2_with fail
      go_loopw [7, 9] (fun v j wr => ∃ (q : Nat) (cs : List Value), q ≤ B.length ∧ j = .int .i64 q ∧ Below w.heap.size w wr ∧ wr.ownsRow w.heap.size 67 2 v (PP ++ (B.take q).flatMap (F p)).length cs ∧ Cl (ET (Apart (New ok w) v) wr) 2 (PP ++ (B.take q).flatMap (F p)) cs) (fun _ j _ => B.length - (intOf j).toNat)
      case atStart => exact ⟨0, cs, Nat.zero_le _, rfl, WB.out, by simpa using WO.out, by simpa using WC.out⟩
      case round =>
        obtain ⟨q, cs, hq, rfl, hb, hown, hcs⟩ := hrel
        have VB := Lib.hid hb
        have VO := Lib.hid hown
        have VC := Lib.hid hcs
        clear hb hown hcs
        by_cases hlq : q < B.length
        · obtain ⟨b2, o2, d, rfl, _, f1, f2, ht⟩ := HY.out q hlq
          have c1 : wr.cell? ⟨b1, o1 + k * 2, none⟩ = some (.slice a' p.a.length c') := by rw [VB.out.cell (Ap.cell_lt e1)]; exact e1
          have c2 : wr.cell? ⟨b1, o1 + k * 2 + 1, none⟩ = some (.int .i64 p.e) := by rw [VB.out.cell (Ap.cell_lt e2)]; exact e2
          have c3 : wr.cell? ⟨b2, o2 + q * 2, none⟩ = some d := by rw [VB.out.cell (Ap.cell_lt f1)]; exact f1
          have c4 : wr.cell? ⟨b2, o2 + q * 2 + 1, none⟩ = some (.int .i64 B[q].e) := by rw [VB.out.cell (Ap.cell_lt f2)]; exact f2
          have HD := Lib.hid ht
          have HS2K := Lib.hid (HS2.out p q hlq)
          have HRQ := Lib.hid (HRK.out _ (List.getElem_mem hlq))
          have HPQ := HPK.out (q + 1)
          rw [HS2K.out, HONE.out] at HPQ
          generalize B[q] = t at *
          obtain ⟨_, d', g', rfl, _⟩ := id ht
          rw [HONE.out] at HS2K
          have hpq := HRQ.out
          rw [← List.append_assoc] at HPQ
          have EQ := Lib.hid (show PP ++ (B.take (q + 1)).flatMap (F p) = (PP ++ (B.take q).flatMap (F p)) ++ [thn p t] by rw [HS2K.out, List.append_assoc])
          obtain ⟨QQ, hQQ⟩ : ∃ QQ, PP ++ (B.take q).flatMap (F p) = QQ := ⟨_, rfl⟩
          rw [hQQ] at VO VC HPQ EQ
          rw [List.length_append] at HPQ
          clear ht hQQ
          have SS : Hid (∀ w1, Below w.heap.size w w1 → w1.cell? ⟨b1, o1 + k * 2, none⟩ = some (.slice a' p.a.length c') ∧ w1.cell? ⟨b1, o1 + k * 2 + 1, none⟩ = some (.int .i64 p.e) ∧ w1.cell? ⟨b2, o2 + q * 2, none⟩ = some (.slice d' t.a.length g') ∧ w1.cell? ⟨b2, o2 + q * 2 + 1, none⟩ = some (.int .i64 t.e)) := Lib.hid fun w1 hb => ⟨by rw [hb.cell (Ap.cell_lt e1)]; exact e1, by rw [hb.cell (Ap.cell_lt e2)]; exact e2, by rw [hb.cell (Ap.cell_lt f1)]; exact f1, by rw [hb.cell (Ap.cell_lt f2)]; exact f2⟩
          have CT := Lib.hid (fun w1 (hb : Below w.heap.size w w1) => thenR_any (Old ok w) _ _ p t w1 (so_below (so_old HA.out) hb) (so_strs (so_below HD.out hb)) (by omega))
          generalize thn p t = t' at *
          go_wp2_with fail
          go_region_held3 (fun w' => w'.cell? ⟨b1, o1 + k * 2, none⟩ = some (.slice a' p.a.length c') ∧ w'.cell? ⟨b1, o1 + k * 2 + 1, none⟩ = some (.int .i64 p.e) ∧ w'.cell? ⟨b2, o2 + q * 2, none⟩ = some (.slice d' t.a.length g') ∧ w'.cell? ⟨b2, o2 + q * 2 + 1, none⟩ = some (.int .i64 t.e)) (first | exact SS.out _ VB.out.drew | exact SS.out _ B1.out | exact SS.out _ BA.out | exact SS.out _ B2.out | fail) (first
            | (go_at_call 113
               (with_reducible refine (CT.out _ VB.out.drew).mono ?_)
               rintro e w1 ⟨a3, n3, rfl, hs3, hb1⟩
               have B1 := Lib.hid (VB.out.drew.trans (hb1.mono VB.out.drew.size))
               have BA := Lib.hid (B1.out.alloc B1.out.size (.cells #[.slice a3 t'.a.length n3, .int .i64 t'.e] 67))
               have VO1 := Ap.own_below VO.out ((Below.refl _ _).drew.trans hb1)
               obtain ⟨v2, w2, hrun, hown2, hg2, hb2, hf2⟩ := app1T (x := t') VO1 B1.out.size hs3 (by omega)
               have RUN := Lib.hid hrun
               have O2 := Lib.hid hown2
               have B2 := Lib.hid (B1.out.trans hb2)
               have C2 := Lib.hid (accT (M := [t']) VB.out VO.out VC.out ((Below.refl _ _).drew.trans hb1) (Cl.one ⟨_, rfl, so_imp hs3 fun b _ h => h.elim (fun h => .inl h) fun h => .inr h⟩ rfl) hg2 hf2)
               clear hrun hown2 hg2 hb2 hf2 hs3 hb1 VO1)
            | (refine Ap.step_append_run (by rfl) _ _ _ _ rfl _ _ rfl rfl v2 w2 RUN.out ?_)
            | fail)
          go_wp2_with fail
          go_roundw
          case rel => exact ⟨q + 1, _, by omega, by go_num, B2.out, by rw [EQ.out]; exact O2.out, by rw [EQ.out]; exact C2.out⟩
          case measure => simp [intOf]; omega
        · have hql : q = B.length := by omega
          subst hql
          have O := VO.out
          have C := VC.out
          rw [List.take_length, ← HSK.out] at O C
          have OO := Lib.hid O
          have CC := Lib.hid C
          clear O C
          go_wp2_with fail
          go_roundw
          case rel => exact ⟨k + 1, cs, by omega, by go_num, VB.out, OO.out, CC.out⟩
          case measure => simp [intOf]; omega
    · have hkl : k = A.length := by omega
      subst hkl
      have O := WO.out
      have C := WC.out
      rw [List.take_length, HL.out] at O C
      have TT := Lib.hid (tellT O C)
      obtain ⟨_, a1, c1', hv, _⟩ := Ap.Rd.owned O
      subst hv
      clear O C
      go_wp2_with fail
      go_ret
      exact ⟨_, _, rfl, TT.out, WB.out⟩
end Go.Proofs.YtghnonbcojbohaaGreatDoor.Mn
