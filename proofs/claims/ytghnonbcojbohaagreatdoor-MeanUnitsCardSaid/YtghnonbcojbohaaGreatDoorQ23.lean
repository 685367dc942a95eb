/- The document's seq: the walk. -/
import Derived.Test.YtghnonbcojbohaaGreatDoorQ21

namespace Go.Proofs.YtghnonbcojbohaaGreatDoor.Mn
open Go Go.RowKit Tr
set_option maxRecDepth 20000

def gQ (x y : Pr) : List Pr := [⟨thn x.p y.p, thn y.q x.q⟩]
theorem seqR_any_f1 (B : List Pr) (p : Pr) (h : p.p.e = 1) : seq1 B p = B.flatMap (gQ p) := by
  unfold seq1
  rw [if_pos h, map_flat]
  rfl
theorem seqR_any_f2 (B : List Pr) (p : Pr) (h : ¬ p.p.e = 1) : seq1 B p = [p] := by
  unfold seq1
  rw [if_neg h]

set_option maxHeartbeats 4000000 in
theorem seqR_any (ok : Nat → Prop) (x y : Value) (A : List Pr) (B : List Pr) (w : World) (hx : PsO ok w x A) (hy : PsO ok w y B) (hA : A.length ≤ 1000000000000) (hB : B.length ≤ 1000000000000) (hrow : ∀ x ∈ A, ∀ y ∈ B, x.p.a.length + y.p.a.length ≤ 1000000 ∧ y.q.a.length + x.q.a.length ≤ 1000000) (hout : (seq A B).length ≤ 1000000000000) :
    Calls Tryz.prog 77 #[x, y] w (OutP ok (seq A B) w) := by
  obtain ⟨ax, cx, rfl, _, hvx⟩ := hx.val
  obtain ⟨ay, cy, rfl, _, hvy⟩ := hy.val
  have HX := Lib.hid hvx
  have HY := Lib.hid hvy
  have HR := Lib.hid hrow
  have HT := Lib.hid (flat_take (seq1 B) A)
  have HS := Lib.hid (flat_snoc (seq1 B) A)
  have HS2 := Lib.hid (fun p => flat_snoc (gQ p) B)
  have HT2 := Lib.hid (fun p => flat_take (gQ p) B)
  have HF1 := Lib.hid (seqR_any_f1 B)
  have HF2 := Lib.hid (seqR_any_f2 B)
  obtain ⟨L, hL⟩ : ∃ L, seq A B = L := ⟨_, rfl⟩
  have hL' : A.flatMap (seq1 B) = L := hL
  obtain ⟨F, hF⟩ : ∃ F, (seq1 B) = F := ⟨_, rfl⟩
  rw [hL'] at HT
  rw [hF] at hL' HT HS HF1 HF2
  rw [hL] at hout ⊢
  have HL := Lib.hid hL'
  unfold OutP
  clear hvx hvy hx hy hL hL' hF hrow
  go_enter Tryz.func77, Tryz.ntmps77
  go_wp2_with fail
  go_loopw [5, 6] (fun v i wr => ∃ (k : Nat) (cs : List Value), k ≤ A.length ∧ i = .int .i64 k ∧ Below w.heap.size w wr ∧ wr.ownsRow w.heap.size 75 4 v ((A.take k).flatMap F).length cs ∧ Cl (EP (Apart (New ok w) v) wr) 4 ((A.take k).flatMap F) cs) (fun _ i _ => A.length - (intOf i).toNat)
  case atStart => exact ⟨0, [], Nat.zero_le _, rfl, Below.refl _ _, ⟨rfl, .inl ⟨rfl, rfl⟩⟩, rfl⟩
  case round =>
    obtain ⟨k, cs, hk, rfl, hb, hown, hcs⟩ := hrel
    have WB := Lib.hid hb
    have WO := Lib.hid hown
    have WC := Lib.hid hcs
    clear hb hown hcs
    by_cases hlt : k < A.length
    · skip
      obtain ⟨b1, o1, va1, va2, rfl, _, e1, e2, e3, e4, s1, s2⟩ := HX.out k hlt
      have HTK := HT.out (k + 1)
      have HSK := Lib.hid (HS.out k hlt)
      rw [HSK.out, List.length_append] at HTK
      have HRK := Lib.hid (HR.out _ (List.getElem_mem hlt))
      generalize A[k] = p at *
      obtain ⟨PP, hPP⟩ : ∃ PP, (A.take k).flatMap F = PP := ⟨_, rfl⟩
      rw [hPP] at WO WC HSK HTK
      clear hPP
      have HA1 := Lib.hid s1
      have HA2 := Lib.hid s2
      obtain ⟨_, a1, n1, rfl, _⟩ := id s1
      obtain ⟨_, a2, n2, rfl, _⟩ := id s2
      have SA : Hid (∀ w1, Below w.heap.size w w1 → w1.cell? ⟨b1, o1 + k * 4, none⟩ = some (.slice a1 p.p.a.length n1) ∧ w1.cell? ⟨b1, o1 + k * 4 + 1, none⟩ = some (.int .i64 p.p.e) ∧ w1.cell? ⟨b1, o1 + k * 4 + 2, none⟩ = some (.slice a2 p.q.a.length n2) ∧ w1.cell? ⟨b1, o1 + k * 4 + 3, none⟩ = some (.int .i64 p.q.e)) := Lib.hid fun w1 hb => ⟨by rw [hb.cell (Ap.cell_lt e1)]; exact e1, by rw [hb.cell (Ap.cell_lt e2)]; exact e2, by rw [hb.cell (Ap.cell_lt e3)]; exact e3, by rw [hb.cell (Ap.cell_lt e4)]; exact e4⟩
      by_cases hp1 : p.p.e = 1
      · skip
        have HFP := HF1.out p hp1
        rw [HFP] at HTK
        have HPQ := Lib.hid (HT2.out p)
        have HFPH := Lib.hid HFP
        clear HFP
        have gp0 : (p.p.e != 1) = false := by simp [hp1]
        clear hp1
        have hcell0 := SA.out _ WB.out
        obtain ⟨q0, q1, q2, q3⟩ := hcell0
        go_wp2_with fail
        go_loopw [5, 7] (fun v j wr => ∃ (q : Nat) (cs : List Value), q ≤ B.length ∧ j = .int .i64 q ∧ Below w.heap.size w wr ∧ wr.ownsRow w.heap.size 75 4 v (PP ++ (B.take q).flatMap (gQ p)).length cs ∧ Cl (EP (Apart (New ok w) v) wr) 4 (PP ++ (B.take q).flatMap (gQ p)) cs) (fun _ j _ => B.length - (intOf j).toNat)
        case atStart => exact ⟨0, cs, Nat.zero_le _, rfl, WB.out, by simpa using WO.out, by simpa using WC.out⟩
        case round =>
          obtain ⟨q, cs, hq, rfl, hb, hown, hcs⟩ := hrel
          have VB := Lib.hid hb
          have VO := Lib.hid hown
          have VC := Lib.hid hcs
          clear hb hown hcs q0 q1 q2 q3
          by_cases hlq : q < B.length
          · skip
            obtain ⟨b2, o2, vb1, vb2, rfl, _, f1, f2, f3, f4, t1, t2⟩ := HY.out q hlq
            have HS2K := Lib.hid (HS2.out p q hlq)
            have HPQ' := HPQ.out (q + 1)
            rw [HS2K.out, List.length_append] at HPQ'
            have HRQ := Lib.hid (HRK.out _ (List.getElem_mem hlq))
            generalize B[q] = u at *
            have EQ := Lib.hid (show PP ++ (B.take (q + 1)).flatMap (gQ p) = (PP ++ (B.take q).flatMap (gQ p)) ++ gQ p u by rw [HS2K.out, List.append_assoc])
            obtain ⟨QQ, hQQ⟩ : ∃ QQ, PP ++ (B.take q).flatMap (gQ p) = QQ := ⟨_, rfl⟩
            have hQL : QQ.length ≤ 1000000000000 := by rw [← hQQ, List.length_append]; omega
            rw [hQQ] at VO VC EQ
            have HQ2 := Lib.hid (show QQ.length + (gQ p u).length ≤ 1000000000000 by rw [← hQQ, List.length_append]; omega)
            clear hQQ HPQ'
            have HB1 := Lib.hid t1
            have HB2 := Lib.hid t2
            obtain ⟨_, d1, m1, rfl, _⟩ := id t1
            obtain ⟨_, d2, m2, rfl, _⟩ := id t2
            have SB : Hid (∀ w1, Below w.heap.size w w1 → w1.cell? ⟨b2, o2 + q * 4, none⟩ = some (.slice d1 u.p.a.length m1) ∧ w1.cell? ⟨b2, o2 + q * 4 + 1, none⟩ = some (.int .i64 u.p.e) ∧ w1.cell? ⟨b2, o2 + q * 4 + 2, none⟩ = some (.slice d2 u.q.a.length m2) ∧ w1.cell? ⟨b2, o2 + q * 4 + 3, none⟩ = some (.int .i64 u.q.e)) := Lib.hid fun w1 hb => ⟨by rw [hb.cell (Ap.cell_lt f1)]; exact f1, by rw [hb.cell (Ap.cell_lt f2)]; exact f2, by rw [hb.cell (Ap.cell_lt f3)]; exact f3, by rw [hb.cell (Ap.cell_lt f4)]; exact f4⟩
            have EQ' := Lib.hid (show PP ++ (B.take (q + 1)).flatMap (gQ p) = QQ ++ [⟨thn p.p u.p, thn u.q p.q⟩] from EQ.out)
            clear EQ
            have CT := Lib.hid (fun w1 (hb : Below w.heap.size w w1) => thenR_any (Old ok w) _ _ p.p u.p w1 (so_below (so_old HA1.out) hb) (so_strs (so_below HB1.out hb)) (by have := HRQ.out; omega))
            have CT2 := Lib.hid (fun w1 (hb : Below w.heap.size w w1) => thenR_any (Old ok w) _ _ u.q p.q w1 (so_below (so_old HB2.out) hb) (so_strs (so_below HA2.out hb)) (by have := HRQ.out; omega))
            generalize thn p.p u.p = s1 at *
            generalize thn u.q p.q = s2 at *
            go_wp2_with fail
            go_region_held3 (fun w' => w'.cell? ⟨b1, o1 + k * 4, none⟩ = some (.slice a1 p.p.a.length n1) ∧ w'.cell? ⟨b1, o1 + k * 4 + 1, none⟩ = some (.int .i64 p.p.e) ∧ w'.cell? ⟨b1, o1 + k * 4 + 2, none⟩ = some (.slice a2 p.q.a.length n2) ∧ w'.cell? ⟨b1, o1 + k * 4 + 3, none⟩ = some (.int .i64 p.q.e) ∧ w'.cell? ⟨b2, o2 + q * 4, none⟩ = some (.slice d1 u.p.a.length m1) ∧ w'.cell? ⟨b2, o2 + q * 4 + 1, none⟩ = some (.int .i64 u.p.e) ∧ w'.cell? ⟨b2, o2 + q * 4 + 2, none⟩ = some (.slice d2 u.q.a.length m2) ∧ w'.cell? ⟨b2, o2 + q * 4 + 3, none⟩ = some (.int .i64 u.q.e)) (first | exact and4 (SA.out _ VB.out.drew) (SB.out _ VB.out.drew) | exact and4 (SA.out _ B1.out) (SB.out _ B1.out) | exact and4 (SA.out _ (B1.out.alloc B1.out.size _)) (SB.out _ (B1.out.alloc B1.out.size _)) | exact and4 (SA.out _ B2.out) (SB.out _ B2.out) | exact and4 (SA.out _ (B2.out.alloc B2.out.size _)) (SB.out _ (B2.out.alloc B2.out.size _)) | exact and4 (SA.out _ B9.out) (SB.out _ B9.out) | fail) (first
              | (go_at_call 113
                 (with_reducible refine (CT.out _ VB.out.drew).mono ?_)
                 rintro e w1 ⟨a3, n3, rfl, hs3, hb1⟩
                 have B1 := Lib.hid (VB.out.drew.trans (hb1.mono VB.out.drew.size))
                 have HS3 := Lib.hid (so_imp hs3 (ok' := fun b => Old ok w b ∨ wr.heap.size ≤ b) fun b _ h => h.elim (fun h => .inl h) fun h => .inr h)
                 have W1 := Lib.hid ((Below.refl wr.heap.size wr).drew.trans hb1)
                 clear hs3 hb1)
              | (go_at_call 113
                 (with_reducible refine (CT2.out _ B1.out).mono ?_)
                 rintro e w2 ⟨a4, n4, rfl, hs4, hb2⟩
                 have B2 := Lib.hid (B1.out.trans (hb2.mono B1.out.size))
                 have HS4 := Lib.hid (so_imp hs4 (ok' := fun b => Old ok w b ∨ wr.heap.size ≤ b) fun b _ h => h.elim (fun h => .inl h) fun h => .inr (Nat.le_trans W1.out.size h))
                 have HS5 := Lib.hid (so_below HS3.out hb2)
                 have W2 := Lib.hid (W1.out.trans (hb2.mono W1.out.size))
                 have VO1 := Ap.own_below VO.out W2.out
                 obtain ⟨v2, w9, hrun, hown2, hg2, hb9, hf2⟩ := app1P (x := ⟨s1, s2⟩) VO1 B2.out.size HS5.out HS4.out (by omega)
                 have RUN := Lib.hid hrun
                 have O2 := Lib.hid hown2
                 have B9 := Lib.hid (B2.out.trans hb9)
                 have C2 := Lib.hid (accP (M := [⟨s1, s2⟩]) VB.out VO.out VC.out W2.out (Cl.one ⟨_, _, rfl, HS5.out, HS4.out⟩ rfl) hg2 hf2)
                 clear hrun hown2 hg2 hb9 hf2 VO1
                 clear hs4 hb2)
              | (refine Ap.step_append_run (by rfl) _ _ _ _ rfl _ _ rfl rfl v2 w9 RUN.out ?_)
              | fail)
            go_wp2_with fail
            go_roundw
            case rel => exact ⟨q + 1, _, by omega, by go_num, B9.out, by rw [EQ'.out]; exact O2.out, by rw [EQ'.out]; exact C2.out⟩
            case measure => simp [intOf]; omega
          · have hql : q = B.length := by omega
            subst hql
            have O := VO.out
            have C := VC.out
            rw [List.take_length, ← HFPH.out, ← HSK.out] at O C
            have OO := Lib.hid O
            have CC := Lib.hid C
            clear O C
            go_wp2_with fail
            go_roundw
            case rel => exact ⟨k + 1, cs, by omega, by go_num, VB.out, OO.out, CC.out⟩
            case measure => simp [intOf]; omega
      · skip
        have hFP : F p = [p] := HF2.out p hp1
        rw [hFP] at HTK HSK
        have gp1 : (p.p.e != 1) = true := by simp [hp1]
        clear hFP
        obtain ⟨q0, q1, q2, q3⟩ := SA.out _ WB.out
        obtain ⟨v2, w2, hrun, hown2, hg2, hb2, hf2⟩ := app1P (x := p) WO.out WB.out.size (so_below (so_old HA1.out) WB.out) (so_below (so_old HA2.out) WB.out) (by omega)
        have RUN := Lib.hid hrun
        have O2 := Lib.hid hown2
        have B2 := Lib.hid (WB.out.trans hb2)
        have C2 := Lib.hid (accP (M := [p]) WB.out WO.out WC.out (Below.refl _ _) (Cl.one ⟨_, _, rfl, so_imp (so_below (so_old HA1.out) WB.out) fun b _ h => .inl h, so_imp (so_below (so_old HA2.out) WB.out) fun b _ h => .inl h⟩ rfl) hg2 hf2)
        clear hrun hown2 hg2 hb2 hf2 hp1
        go_wp2_with (at_builtin; refine Ap.wpList_append_run (by rfl) _ _ _ _ rfl _ _ rfl rfl v2 w2 RUN.out ?_)
        go_roundw
        case rel => exact ⟨k + 1, _, by omega, by go_num, B2.out, by rw [HSK.out]; exact O2.out, by rw [HSK.out]; exact C2.out⟩
        case measure => simp [intOf]; omega
    · have hkl : k = A.length := by omega
      subst hkl
      have O := WO.out
      have C := WC.out
      rw [List.take_length, HL.out] at O C
      have TT := Lib.hid (tellP O C)
      obtain ⟨_, a9, c9, hv, _⟩ := Ap.Rd.owned O
      subst hv
      clear O C
      go_wp2_with fail
      go_ret
      exact ⟨_, _, rfl, TT.out, WB.out⟩
end Go.Proofs.YtghnonbcojbohaaGreatDoor.Mn
