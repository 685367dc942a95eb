/- The document's end, block, and two of kind 6: the walks. The document's par: the walk. The document's stack: the walk. -/
import Derived.Test.YtghnonbcojbohaaGreatDoorQ21

namespace Go.Proofs.YtghnonbcojbohaaGreatDoor.Mn
open Go Go.RowKit Tr
set_option maxRecDepth 20000

def gE (s : Int) (p : Tr) : List Pr := [⟨⟨[], s⟩, p⟩]
set_option maxHeartbeats 4000000 in
theorem endR_any (ok : Nat → Prop) (s : Int) (x : Value) (A : List Tr) (w : World) (hx : TsO ok w x A) (hA : A.length ≤ 1000000000000) :
    Calls Tryz.prog 80 #[.int .i64 s, x] w (OutP ok (fin s A) w) := by
  have ef : fin s A = A.flatMap (gE s) := by unfold fin; rw [map_flat]; rfl
  have hout : (A.flatMap (gE s)).length ≤ 1000000000000 := by rw [← ef]; unfold fin; rw [List.length_map]; exact hA
  rw [ef]
  obtain ⟨ax, cx, rfl, _, hvx⟩ := hx.val
  have HX := Lib.hid hvx
  have HT := Lib.hid (flat_take (gE s) A)
  have HS := Lib.hid (flat_snoc (gE s) A)
  obtain ⟨L, hL⟩ : ∃ L, A.flatMap (gE s) = L := ⟨_, rfl⟩
  rw [hL] at hout HT ⊢
  have HL := Lib.hid hL
  unfold OutP
  clear hvx hx hL ef
  go_enter Tryz.func80, Tryz.ntmps80
  go_wp2_with fail
  go_loopw [5, 6] (fun v i wr => ∃ (k : Nat) (cs : List Value), k ≤ A.length ∧ i = .int .i64 k ∧ Below w.heap.size w wr ∧ wr.ownsRow w.heap.size 75 4 v ((A.take k).flatMap (gE s)).length cs ∧ Cl (EP (Apart (New ok w) v) wr) 4 ((A.take k).flatMap (gE s)) cs) (fun _ i _ => A.length - (intOf i).toNat)
  case atStart => exact ⟨0, [], Nat.zero_le _, rfl, Below.refl _ _, ⟨rfl, .inl ⟨rfl, rfl⟩⟩, rfl⟩
  case round =>
    obtain ⟨k, cs, hk, rfl, hb, hown, hcs⟩ := hrel
    have WB := Lib.hid hb
    have WO := Lib.hid hown
    have WC := Lib.hid hcs
    clear hb hown hcs
    by_cases hlt : k < A.length
    · obtain ⟨b1, o1, va1, rfl, _, e1, e2, s1⟩ := HX.out k hlt
      have HTK := HT.out k
      have HSK := Lib.hid (HS.out k hlt)
      generalize A[k] = p at *
      obtain ⟨PP, hPP⟩ : ∃ PP, (A.take k).flatMap (gE s) = PP := ⟨_, rfl⟩
      rw [hPP] at WO WC HSK HTK
      clear hPP
      have HSK' := Lib.hid (show (A.take (k + 1)).flatMap (gE s) = PP ++ [⟨⟨[], s⟩, p⟩] from HSK.out)
      clear HSK
      have HA1 := Lib.hid s1
      obtain ⟨_, a1, n1, rfl, _⟩ := id s1
      have SA : Hid (∀ w1, Below w.heap.size w w1 → w1.cell? ⟨b1, o1 + k * 2, none⟩ = some (.slice a1 p.a.length n1) ∧ w1.cell? ⟨b1, o1 + k * 2 + 1, none⟩ = some (.int .i64 p.e)) := Lib.hid fun w1 hb => ⟨by rw [hb.cell (Ap.cell_lt e1)]; exact e1, by rw [hb.cell (Ap.cell_lt e2)]; exact e2⟩
      go_wp2_with fail
      go_region_held3 (fun w' => w'.cell? ⟨b1, o1 + k * 2, none⟩ = some (.slice a1 p.a.length n1) ∧ w'.cell? ⟨b1, o1 + k * 2 + 1, none⟩ = some (.int .i64 p.e)) (first | exact SA.out _ WB.out.drew | exact SA.out _ B1.out | exact SA.out _ (B1.out.alloc B1.out.size _) | exact SA.out _ B2.out | fail) (first
        | (go_at_call 66
           (with_reducible refine (endsR_any s _).mono ?_)
           rintro e w1 ⟨rfl, hb1⟩
           have B1 := Lib.hid (WB.out.drew.trans (hb1.mono WB.out.drew.size))
           have VO1 := Ap.own_below WO.out ((Below.refl _ _).drew.trans hb1)
           obtain ⟨v2, w2, hrun, hown2, hg2, hb2, hf2⟩ := app1P (x := ⟨⟨[], s⟩, p⟩) VO1 B1.out.size (so_nil _ w1) (so_below (so_old HA1.out) B1.out) (by omega)
           have RUN := Lib.hid hrun
           have O2 := Lib.hid hown2
           have B2 := Lib.hid (B1.out.trans hb2)
           have C2 := Lib.hid (accP (M := [⟨⟨[], s⟩, p⟩]) WB.out WO.out WC.out ((Below.refl _ _).drew.trans hb1) (Cl.one ⟨_, _, rfl, so_nil _ _, so_imp (so_below (so_old HA1.out) B1.out) fun b _ h => .inl h⟩ rfl) hg2 hf2)
           clear hrun hown2 hg2 hb2 hf2 hb1 VO1)
        | (refine Ap.step_append_run (by rfl) _ _ _ _ rfl _ _ rfl rfl v2 w2 RUN.out ?_)
        | fail)
      go_wp2_with fail
      go_roundw
      case rel => exact ⟨k + 1, _, by omega, by go_num, B2.out, by rw [HSK'.out]; exact O2.out, by rw [HSK'.out]; exact C2.out⟩
      case measure => simp [intOf]; omega
    · have hkl : k = A.length := by omega
      subst hkl
      have O := WO.out
      have C := WC.out
      rw [List.take_length, HL.out] at O C
      have TT := Lib.hid (tellP O C)
      obtain ⟨_, a9, c9, hv, _⟩ := Ap.Rd.owned O
      subst hv
      clear O C
      go_wp2_with fail
      go_ret
      exact ⟨_, _, rfl, TT.out, WB.out⟩

theorem blk1_1 (p : Pr) (h : p.p.e = 1) : blk1 p = [p.p] := by unfold blk1; rw [if_pos h]
theorem blk1_2 (p : Pr) (h : p.p.e = 2) : blk1 p = [⟨p.p.a ++ p.q.a, p.q.e⟩] := by unfold blk1; rw [if_neg (by omega), if_pos h]
theorem blk1_3 (p : Pr) (h1 : ¬ p.p.e = 1) (h : ¬ p.p.e = 2) : blk1 p = [] := by unfold blk1; rw [if_neg h1, if_neg h]
set_option maxHeartbeats 4000000 in
theorem blockR_any (ok : Nat → Prop) (x : Value) (A : List Pr) (w : World) (hx : PsO ok w x A) (hA : A.length ≤ 1000000000000) (hrow : ∀ x ∈ A, x.p.a.length + x.q.a.length ≤ 1000000) (hout : (blk A).length ≤ 1000000000000) :
    Calls Tryz.prog 67 #[x] w (OutT ok (blk A) w) := by
  obtain ⟨ax, cx, rfl, _, hvx⟩ := hx.val
  have HX := Lib.hid hvx
  have HR := Lib.hid hrow
  have HT := Lib.hid (flat_take blk1 A)
  have HS := Lib.hid (flat_snoc blk1 A)
  obtain ⟨L, hL⟩ : ∃ L, blk A = L := ⟨_, rfl⟩
  have hL' : A.flatMap blk1 = L := hL
  rw [hL'] at HT
  rw [hL] at hout ⊢
  have HL := Lib.hid hL'
  unfold OutT
  clear hvx hx hL hL' hrow
  go_enter Tryz.func67, Tryz.ntmps67
  go_wp2_with fail
  go_loopw [3, 4] (fun v i wr => ∃ (k : Nat) (cs : List Value), k ≤ A.length ∧ i = .int .i64 k ∧ Below w.heap.size w wr ∧ wr.ownsRow w.heap.size 67 2 v ((A.take k).flatMap blk1).length cs ∧ Cl (ET (Apart (New ok w) v) wr) 2 ((A.take k).flatMap blk1) cs) (fun _ i _ => A.length - (intOf i).toNat)
  case atStart => exact ⟨0, [], Nat.zero_le _, rfl, Below.refl _ _, ⟨rfl, .inl ⟨rfl, rfl⟩⟩, rfl⟩
  case round =>
    obtain ⟨k, cs, hk, rfl, hb, hown, hcs⟩ := hrel
    have WB := Lib.hid hb
    have WO := Lib.hid hown
    have WC := Lib.hid hcs
    clear hb hown hcs
    by_cases hlt : k < A.length
    · obtain ⟨b1, o1, va1, va2, rfl, _, e1, e2, e3, e4, s1, s2⟩ := HX.out k hlt
      have HTK := HT.out k
      have HSK := Lib.hid (HS.out k hlt)
      have HRK := HR.out _ (List.getElem_mem hlt)
      generalize A[k] = p at *
      obtain ⟨PP, hPP⟩ : ∃ PP, (A.take k).flatMap blk1 = PP := ⟨_, rfl⟩
      rw [hPP] at WO WC HSK HTK
      clear hPP
      have HA1 := Lib.hid s1
      have HA2 := Lib.hid s2
      obtain ⟨_, a1, n1, rfl, _⟩ := id s1
      obtain ⟨_, a2, n2, rfl, _⟩ := id s2
      have SA : Hid (∀ w1, Below w.heap.size w w1 → w1.cell? ⟨b1, o1 + k * 4, none⟩ = some (.slice a1 p.p.a.length n1) ∧ w1.cell? ⟨b1, o1 + k * 4 + 1, none⟩ = some (.int .i64 p.p.e) ∧ w1.cell? ⟨b1, o1 + k * 4 + 2, none⟩ = some (.slice a2 p.q.a.length n2) ∧ w1.cell? ⟨b1, o1 + k * 4 + 3, none⟩ = some (.int .i64 p.q.e)) := Lib.hid fun w1 hb => ⟨by rw [hb.cell (Ap.cell_lt e1)]; exact e1, by rw [hb.cell (Ap.cell_lt e2)]; exact e2, by rw [hb.cell (Ap.cell_lt e3)]; exact e3, by rw [hb.cell (Ap.cell_lt e4)]; exact e4⟩
      by_cases h1 : p.p.e = 1
      · have hone := blk1_1 p h1
        rw [hone] at HSK
        rw [h1] at SA
        have ET1 := Lib.hid h1
        obtain ⟨q0, q1, q2, q3⟩ := SA.out _ WB.out
        obtain ⟨v2, w2, hrun, hown2, hg2, hb2, hf2⟩ := app1T (x := p.p) WO.out WB.out.size (so_below (so_old HA1.out) WB.out) (by omega)
        rw [h1] at hrun
        have RUN := Lib.hid hrun
        have O2 := Lib.hid hown2
        have B2 := Lib.hid (WB.out.trans hb2)
        have C2 := Lib.hid (accT (M := [p.p]) WB.out WO.out WC.out (Below.refl _ _) (Cl.one ⟨_, rfl, so_imp (so_below (so_old HA1.out) WB.out) fun b _ h => .inl h⟩ rfl) hg2 hf2)
        obtain ⟨r0, r1, r2, r3⟩ := SA.out _ B2.out
        rw [h1] at O2 C2
        clear hrun hown2 hg2 hb2 hf2 h1 hone
        go_wp2_with (at_builtin; refine Ap.wpList_append_run (by rfl) _ _ _ _ rfl _ _ rfl rfl v2 w2 RUN.out ?_)
        go_roundw
        case rel => exact ⟨k + 1, _, by omega, by go_num, B2.out, by rw [HSK.out]; exact O2.out, by rw [HSK.out]; exact C2.out⟩
        case measure => simp [intOf]; omega
      · by_cases h2 : p.p.e = 2
        · have hone := blk1_2 p h2
          rw [hone] at HSK
          have CT := Lib.hid (fun w1 (hb : Below w.heap.size w w1) => behindR_any _ _ p.p p.q w1 (so_strs (so_below HA1.out hb)) (so_strs (so_below HA2.out hb)) (by omega))
          rw [h2] at SA CT
          generalize (⟨p.p.a ++ p.q.a, p.q.e⟩ : Tr) = t' at *
          have gg1 : (p.p.e == 1) = false := by simp [h1]
          clear h1 h2 hone
          obtain ⟨q0, q1, q2, q3⟩ := SA.out _ WB.out
          go_wp2_with fail
          go_region_held3 (fun w' => w'.cell? ⟨b1, o1 + k * 4, none⟩ = some (.slice a1 p.p.a.length n1) ∧ w'.cell? ⟨b1, o1 + k * 4 + 1, none⟩ = some (.int .i64 2) ∧ w'.cell? ⟨b1, o1 + k * 4 + 2, none⟩ = some (.slice a2 p.q.a.length n2) ∧ w'.cell? ⟨b1, o1 + k * 4 + 3, none⟩ = some (.int .i64 p.q.e)) (first | exact SA.out _ WB.out.drew | exact SA.out _ B1.out | exact SA.out _ (B1.out.alloc B1.out.size _) | exact SA.out _ B2.out | fail) (first
            | (go_at_call 112
               (with_reducible refine (CT.out _ WB.out.drew).mono ?_)
               rintro e w1 ⟨a3, n3, rfl, hs3, hb1⟩
               have B1 := Lib.hid (WB.out.drew.trans (hb1.mono WB.out.drew.size))
               have VO1 := Ap.own_below WO.out ((Below.refl _ _).drew.trans hb1)
               obtain ⟨v2, w2, hrun, hown2, hg2, hb2, hf2⟩ := app1T (x := t') VO1 B1.out.size hs3 (by omega)
               have RUN := Lib.hid hrun
               have O2 := Lib.hid hown2
               have B2 := Lib.hid (B1.out.trans hb2)
               have C2 := Lib.hid (accT (M := [t']) WB.out WO.out WC.out ((Below.refl _ _).drew.trans hb1) (Cl.one ⟨_, rfl, so_imp hs3 fun b _ h => h.elim (fun h => h.elim) fun h => .inr h⟩ rfl) hg2 hf2)
               clear hrun hown2 hg2 hb2 hf2 hs3 hb1 VO1)
            | (refine Ap.step_append_run (by rfl) _ _ _ _ rfl _ _ rfl rfl v2 w2 RUN.out ?_)
            | fail)
          go_wp2_with fail
          go_roundw
          case rel => exact ⟨k + 1, _, by omega, by go_num, B2.out, by rw [HSK.out]; exact O2.out, by rw [HSK.out]; exact C2.out⟩
          case measure => simp [intOf]; omega
        · have hone := blk1_3 p h1 h2
          rw [hone, List.append_nil] at HSK
          have gg1 : (p.p.e == 1) = false := by simp [h1]
          have gg2 : (p.p.e == 2) = false := by simp [h2]
          clear h1 h2 hone
          obtain ⟨q0, q1, q2, q3⟩ := SA.out _ WB.out
          go_wp2_with fail
          go_roundw
          case rel => exact ⟨k + 1, _, by omega, by go_num, WB.out, by rw [HSK.out]; exact WO.out, by rw [HSK.out]; exact WC.out⟩
          case measure => simp [intOf]; omega
    · have hkl : k = A.length := by omega
      subst hkl
      have O := WO.out
      have C := WC.out
      rw [List.take_length, HL.out] at O C
      have TT := Lib.hid (tellT O C)
      obtain ⟨_, a9, c9, hv, _⟩ := Ap.Rd.owned O
      subst hv
      clear O C
      go_wp2_with fail
      go_ret
      exact ⟨_, _, rfl, TT.out, WB.out⟩

set_option maxHeartbeats 2000000 in
theorem twoR6_any (ok : Nat → Prop) (x y : Value) (A B : List Tr) (w : World) (hx : TsO ok w x A) (hy : TsO ok w y B) (hout : A.length + B.length ≤ 1000000000000) :
    Calls Tryz.prog 68 #[.int .i64 6, x, y] w (OutT ok (A ++ B) w) := by
  obtain ⟨ca, hra, hca⟩ := id hx
  obtain ⟨cb, hrb, hcb⟩ := id hy
  obtain ⟨v2, w2, hrun2, hown2, hg2, hb2, hf2⟩ := appTR (w := w) (base := w.heap.size) (n := 0) (v := .slice none 0 0) (cs := []) ⟨rfl, .inl ⟨rfl, rfl⟩⟩ (Nat.le_refl _) (x := x) (m := A.length) (ds := ca) (Ap.RdO.rd hra) (Cl.cells _ ET.one hca) (by omega)
  rw [Nat.zero_add, List.nil_append] at hown2
  obtain ⟨v3, w3, hrun3, hown3, hg3, hb3, hf3⟩ := appTR hown2 hb2.size (x := y) (m := B.length) (ds := cb) ((Ap.RdO.rd hrb).below hb2) (Cl.cells _ ET.one hcb) (by omega)
  have B3 := Lib.hid (hb2.trans hb3)
  rw [show A.length + B.length = (A ++ B).length by simp] at hown3
  have hcl : Cl (ET ok w3) 2 (A ++ B) (ca ++ cb) := Cl.append ET.len (Cl.imp (ET.map fun _ _ h => so_below h (hb2.trans hb3)) hcb) (Cl.imp (ET.map fun _ _ h => so_below h (hb2.trans hb3)) hca)
  have TT := Lib.hid (show TsO (New ok w) w3 v3 (A ++ B) from ⟨_, Ap.RdO.imp (Ap.RdO.fresh hown3) fun _ _ h => .inr h, hcl.imp (ET.map fun _ _ h => so_imp h fun _ _ h => .inl h)⟩)
  generalize A ++ B = L at *
  have R2 := Lib.hid hrun2
  have R3 := Lib.hid hrun3
  obtain ⟨_, ⟨_, ax, cx, rfl, _⟩, _⟩ := hx
  obtain ⟨_, ⟨_, ay, cy, rfl, _⟩, _⟩ := hy
  obtain ⟨_, a6, n6, rfl, _⟩ := Ap.Rd.owned hown3
  unfold OutT
  clear hrun2 hrun3 hown2 hown3 hb2 hb3 hg2 hg3 hf2 hf3 hcl hca hcb hra hrb
  go_enter Tryz.func68, Tryz.ntmps68
  go_wp2_with (first
    | (at_builtin; refine Ap.wpList_append_run (by rfl) _ _ _ _ rfl _ _ rfl rfl v2 w2 R2.out ?_)
    | (at_builtin; refine Ap.wpList_append_run (by rfl) _ _ _ _ rfl _ _ rfl rfl _ w3 R3.out ?_))
  go_ret
  exact ⟨_, _, rfl, TT.out, B3.out⟩
end Go.Proofs.YtghnonbcojbohaaGreatDoor.Mn

namespace Go.Proofs.YtghnonbcojbohaaGreatDoor.Mn
open Go Go.RowKit Tr
set_option maxRecDepth 20000

def gG2 (B : List Tr) (s : Tr) : List Pr := B.flatMap (gG s)
def par2 (B : List Pr) (x : Pr) : List Pr := B.flatMap (par1 x)
theorem pr_short (p q : Tr) : (pr p q).length ≤ 524288 := by
  unfold pr
  exact Nat.le_trans (length_norm _) (by rw [List.length_map]; exact Nat.le_trans (mx_len _ _ _) (by decide))
theorem par1_eq (p u : Pr) : par1 p u = (pr p.p u.p).flatMap (gG2 (pr p.q u.q)) := by
  unfold par1 gG2
  congr 1
  funext s
  rw [map_flat]
  rfl
theorem parP_any_f1 (B : List Pr) (p : Pr) : par2 B p = B.flatMap (par1 p) := rfl
theorem TsO.grow {no : Nat → Prop} {w w' : World} {v v' x : Value} {l : List Tr} (h : TsO (Apart no v) w x l) (hg : w.grownBy w' v.ownBlock) (hf : Ap.Fresh w v v') : TsO (Apart no v') w' x l := by
  obtain ⟨cs, h1, h2⟩ := h
  exact ⟨cs, Ap.RdO.grow h1 hg hf, h2.imp (ET.map fun _ _ h => Ap.RdO.grow h hg hf)⟩
theorem TsO.apart {ok : Nat → Prop} {w wr w1 : World} {e : TypeId} {size n : Nat} {v x : Value} {cs : List Value} {l : List Tr} (hb : Below w.heap.size w wr) (hown : wr.ownsRow w.heap.size e size v n cs) (h : TsO (fun b => Old ok w b ∨ wr.heap.size ≤ b) w1 x l) : TsO (Apart (New ok w) v) w1 x l :=
  h.imp fun b _ ho => by
    have h2 := hb.size
    refine ⟨ho.elim (fun h => .inl h.1) fun h => .inr (by omega), fun e => ?_⟩
    have h1 := own_old hown b e
    rcases ho with ho | ho
    · have := ho.2; omega
    · omega
/-- One of a row that lies apart: its cells, also when the other row has grown. -/
theorem TsO.nth {no : Nat → Prop} {w : World} {v : Value} {a : Option Addr} {c : Nat} {l : List Tr} (h : TsO (Apart no v) w (.slice a l.length c) l) (k : Nat) (hk : k < l.length) : ∃ b off a' c', a = some ⟨b, off, none⟩ ∧ StrsO (Apart no v) w (.slice a' l[k].a.length c') l[k].a ∧
    ∀ w', w.grownBy w' v.ownBlock → w'.cell? ⟨b, off + k * 2, none⟩ = some (.slice a' l[k].a.length c') ∧ w'.cell? ⟨b, off + k * 2 + 1, none⟩ = some (.int .i64 l[k].e) := by
  obtain ⟨_, _, hv, _, hc⟩ := h.val
  cases hv
  obtain ⟨b, off, x, rfl, ho, e1, e2, hs⟩ := hc k hk
  obtain ⟨_, a', c', rfl, _⟩ := id hs
  exact ⟨b, off, a', c', rfl, hs, fun w' hg => ⟨hg.cell e1 ho.2, hg.cell e2 ho.2⟩⟩
theorem accP2 {no : Nat → Prop} {w1 w2 : World} {v v2 : Value} {cs ds : List Value} {L M : List Pr} (hc : Cl (EP (Apart no v) w1) 4 L cs) (hd : Cl (EP (Apart no v) w1) 4 M ds) (hg : w1.grownBy w2 v.ownBlock) (hf : Ap.Fresh w1 v v2) : Cl (EP (Apart no v2) w2) 4 (L ++ M) (cs ++ ds) :=
  Cl.append EP.len (Cl.imp (EP.map fun _ _ h => apart_grow h hg hf) hd) (Cl.imp (EP.map fun _ _ h => apart_grow h hg hf) hc)
theorem clP_below {ok : Nat → Prop} {w w' : World} {L : List Pr} {cs : List Value} (h : Cl (EP ok w) 4 L cs) (hb : Below w.heap.size w w') : Cl (EP ok w') 4 L cs := h.imp (EP.map fun _ _ h => so_below h hb)
theorem grown_of {w w' : World} {row : Option Nat} (hb : Below w.heap.size w w') : w.grownBy w' row := ⟨hb.os, hb.tape, hb.output, hb.size, fun k hk _ => hb.block k hk⟩
theorem grown_trans {a w w' : World} {row : Option Nat} (h : a.grownBy w row) (k : w.grownBy w' row) : a.grownBy w' row :=
  ⟨k.os.trans h.os, k.tape.trans h.tape, k.output.trans h.output, Nat.le_trans h.size k.size, fun i hi hr => (k.block i (Nat.lt_of_lt_of_le hi h.size) hr).trans (h.block i hi hr)⟩

set_option maxHeartbeats 4000000 in
theorem parP_any (ok : Nat → Prop) (x y : Value) (A : List Pr) (B : List Pr) (w : World) (hx : PsO ok w x A) (hy : PsO ok w y B) (hA : A.length ≤ 1000000000000) (hB : B.length ≤ 1000000000000) (hrow : ∀ x ∈ A, ∀ y ∈ B, x.p.a.length + y.p.a.length ≤ 19 ∧ x.q.a.length + y.q.a.length ≤ 19) (hout : (par A B).length ≤ 1000000000000) :
    Calls Tryz.prog 78 #[x, y] w (OutP ok (par A B) w) := by
  obtain ⟨ax, cx, rfl, _, hvx⟩ := hx.val
  obtain ⟨ay, cy, rfl, _, hvy⟩ := hy.val
  have HX := Lib.hid hvx
  have HY := Lib.hid hvy
  have HR := Lib.hid hrow
  have HT := Lib.hid (flat_take (par2 B) A)
  have HS := Lib.hid (flat_snoc (par2 B) A)
  have HS2 := Lib.hid (fun p => flat_snoc (par1 p) B)
  have HT2 := Lib.hid (fun p => flat_take (par1 p) B)
  have HF1 := Lib.hid (parP_any_f1 B)
  obtain ⟨L, hL⟩ : ∃ L, par A B = L := ⟨_, rfl⟩
  have hL' : A.flatMap (par2 B) = L := hL
  obtain ⟨F, hF⟩ : ∃ F, (par2 B) = F := ⟨_, rfl⟩
  rw [hL'] at HT
  rw [hF] at hL' HT HS HF1
  rw [hL] at hout ⊢
  have HL := Lib.hid hL'
  unfold OutP
  clear hvx hvy hx hy hL hL' hF hrow
  go_enter Tryz.func78, Tryz.ntmps78
  go_wp2_with fail
  go_loopw [5, 6] (fun v i wr => ∃ (k : Nat) (cs : List Value), k ≤ A.length ∧ i = .int .i64 k ∧ Below w.heap.size w wr ∧ wr.ownsRow w.heap.size 75 4 v ((A.take k).flatMap F).length cs ∧ Cl (EP (Apart (New ok w) v) wr) 4 ((A.take k).flatMap F) cs) (fun _ i _ => A.length - (intOf i).toNat)
  case atStart => exact ⟨0, [], Nat.zero_le _, rfl, Below.refl _ _, ⟨rfl, .inl ⟨rfl, rfl⟩⟩, rfl⟩
  case round =>
    obtain ⟨k, cs, hk, rfl, hb, hown, hcs⟩ := hrel
    have WB := Lib.hid hb
    have WO := Lib.hid hown
    have WC := Lib.hid hcs
    clear hb hown hcs
    by_cases hlt : k < A.length
    · skip
      obtain ⟨b1, o1, va1, va2, rfl, _, e1, e2, e3, e4, s1, s2⟩ := HX.out k hlt
      have HTK := HT.out (k + 1)
      have HSK := Lib.hid (HS.out k hlt)
      rw [HSK.out, List.length_append] at HTK
      have HRK := Lib.hid (HR.out _ (List.getElem_mem hlt))
      generalize A[k] = p at *
      obtain ⟨PP, hPP⟩ : ∃ PP, (A.take k).flatMap F = PP := ⟨_, rfl⟩
      rw [hPP] at WO WC HSK HTK
      clear hPP
      have HA1 := Lib.hid s1
      have HA2 := Lib.hid s2
      obtain ⟨_, a1, n1, rfl, _⟩ := id s1
      obtain ⟨_, a2, n2, rfl, _⟩ := id s2
      have SA : Hid (∀ w1, Below w.heap.size w w1 → w1.cell? ⟨b1, o1 + k * 4, none⟩ = some (.slice a1 p.p.a.length n1) ∧ w1.cell? ⟨b1, o1 + k * 4 + 1, none⟩ = some (.int .i64 p.p.e) ∧ w1.cell? ⟨b1, o1 + k * 4 + 2, none⟩ = some (.slice a2 p.q.a.length n2) ∧ w1.cell? ⟨b1, o1 + k * 4 + 3, none⟩ = some (.int .i64 p.q.e)) := Lib.hid fun w1 hb => ⟨by rw [hb.cell (Ap.cell_lt e1)]; exact e1, by rw [hb.cell (Ap.cell_lt e2)]; exact e2, by rw [hb.cell (Ap.cell_lt e3)]; exact e3, by rw [hb.cell (Ap.cell_lt e4)]; exact e4⟩
      have HFP := HF1.out p
      rw [HFP] at HTK
      have HPQ := Lib.hid (HT2.out p)
      have HFPH := Lib.hid HFP
      clear HFP

      go_wp2_with fail
      go_loopw [5, 7] (fun v j wr => ∃ (q : Nat) (cs : List Value), q ≤ B.length ∧ j = .int .i64 q ∧ Below w.heap.size w wr ∧ wr.ownsRow w.heap.size 75 4 v (PP ++ (B.take q).flatMap (par1 p)).length cs ∧ Cl (EP (Apart (New ok w) v) wr) 4 (PP ++ (B.take q).flatMap (par1 p)) cs) (fun _ j _ => B.length - (intOf j).toNat)
      case atStart => exact ⟨0, cs, Nat.zero_le _, rfl, WB.out, by simpa using WO.out, by simpa using WC.out⟩
      case round =>
        obtain ⟨q, cs, hq, rfl, hb, hown, hcs⟩ := hrel
        have VB := Lib.hid hb
        have VO := Lib.hid hown
        have VC := Lib.hid hcs
        clear hb hown hcs
        by_cases hlq : q < B.length
        · skip
          obtain ⟨b2, o2, vb1, vb2, rfl, _, f1, f2, f3, f4, t1, t2⟩ := HY.out q hlq
          have HS2K := Lib.hid (HS2.out p q hlq)
          have HPQ' := HPQ.out (q + 1)
          rw [HS2K.out, List.length_append] at HPQ'
          have HRQ := Lib.hid (HRK.out _ (List.getElem_mem hlq))
          generalize B[q] = u at *
          have EQ := Lib.hid (show PP ++ (B.take (q + 1)).flatMap (par1 p) = (PP ++ (B.take q).flatMap (par1 p)) ++ par1 p u by rw [HS2K.out, List.append_assoc])
          obtain ⟨QQ, hQQ⟩ : ∃ QQ, PP ++ (B.take q).flatMap (par1 p) = QQ := ⟨_, rfl⟩
          have hQL : QQ.length ≤ 1000000000000 := by rw [← hQQ, List.length_append]; omega
          rw [hQQ] at VO VC EQ
          have HQ2 := Lib.hid (show QQ.length + (par1 p u).length ≤ 1000000000000 by rw [← hQQ, List.length_append]; omega)
          clear hQQ HPQ'
          have HB1 := Lib.hid t1
          have HB2 := Lib.hid t2
          obtain ⟨_, d1, m1, rfl, _⟩ := id t1
          obtain ⟨_, d2, m2, rfl, _⟩ := id t2
          have SB : Hid (∀ w1, Below w.heap.size w w1 → w1.cell? ⟨b2, o2 + q * 4, none⟩ = some (.slice d1 u.p.a.length m1) ∧ w1.cell? ⟨b2, o2 + q * 4 + 1, none⟩ = some (.int .i64 u.p.e) ∧ w1.cell? ⟨b2, o2 + q * 4 + 2, none⟩ = some (.slice d2 u.q.a.length m2) ∧ w1.cell? ⟨b2, o2 + q * 4 + 3, none⟩ = some (.int .i64 u.q.e)) := Lib.hid fun w1 hb => ⟨by rw [hb.cell (Ap.cell_lt f1)]; exact f1, by rw [hb.cell (Ap.cell_lt f2)]; exact f2, by rw [hb.cell (Ap.cell_lt f3)]; exact f3, by rw [hb.cell (Ap.cell_lt f4)]; exact f4⟩
          have HRQ' := HRQ.out
          have hpe := par1_eq p u
          rw [hpe] at EQ HQ2
          clear hpe
          have CT := Lib.hid (fun w1 (hb : Below w.heap.size w w1) => parR_any (Old ok w) _ _ p.p u.p w1 (so_below (so_old HA1.out) hb) (so_below (so_old HB1.out) hb) (by omega))
          have CT2 := Lib.hid (fun w1 (hb : Below w.heap.size w w1) => parR_any (Old ok w) _ _ p.q u.q w1 (so_below (so_old HA2.out) hb) (so_below (so_old HB2.out) hb) (by omega))
          have hl2 := pr_short p.p u.p
          have hl3 := pr_short p.q u.q
          generalize pr p.p u.p = PP2 at *
          generalize pr p.q u.q = QQ2 at *
          have HT3 := Lib.hid (flat_take (gG2 QQ2) PP2)
          have HS3 := Lib.hid (flat_snoc (gG2 QQ2) PP2)
          have HT4 := Lib.hid (fun s => flat_take (gG s) QQ2)
          have HS4 := Lib.hid (fun s => flat_snoc (gG s) QQ2)
          obtain ⟨G, hG⟩ : ∃ G, gG2 QQ2 = G := ⟨_, rfl⟩
          have HG := Lib.hid (fun s => show G s = QQ2.flatMap (gG s) by rw [← hG]; rfl)
          rw [hG] at HT3 HS3 EQ HQ2
          clear hG HRQ'
          obtain ⟨M, hM⟩ : ∃ M, PP2.flatMap G = M := ⟨_, rfl⟩
          rw [hM] at HT3 EQ HQ2
          have HM := Lib.hid hM
          have hq2 := HQ2.out
          clear hM
          go_wp2_with fail
          go_region_held3 (fun w' => w'.cell? ⟨b1, o1 + k * 4, none⟩ = some (.slice a1 p.p.a.length n1) ∧ w'.cell? ⟨b1, o1 + k * 4 + 1, none⟩ = some (.int .i64 p.p.e) ∧ w'.cell? ⟨b1, o1 + k * 4 + 2, none⟩ = some (.slice a2 p.q.a.length n2) ∧ w'.cell? ⟨b1, o1 + k * 4 + 3, none⟩ = some (.int .i64 p.q.e) ∧ w'.cell? ⟨b2, o2 + q * 4, none⟩ = some (.slice d1 u.p.a.length m1) ∧ w'.cell? ⟨b2, o2 + q * 4 + 1, none⟩ = some (.int .i64 u.p.e) ∧ w'.cell? ⟨b2, o2 + q * 4 + 2, none⟩ = some (.slice d2 u.q.a.length m2) ∧ w'.cell? ⟨b2, o2 + q * 4 + 3, none⟩ = some (.int .i64 u.q.e)) (first | exact and4 (SA.out _ VB.out.drew) (SB.out _ VB.out.drew) | exact and4 (SA.out _ B1.out) (SB.out _ B1.out) | fail) (first
            | (go_at_call 114
               (with_reducible refine (CT.out _ VB.out.drew).mono ?_)
               rintro e w1 ⟨a3, n3, rfl, hs3, hb1⟩
               have B1 := Lib.hid (VB.out.drew.trans (hb1.mono VB.out.drew.size))
               have W1 := Lib.hid ((Below.refl wr.heap.size wr).drew.trans hb1)
               have TP := Lib.hid (hs3.imp (ok' := fun b => Old ok w b ∨ wr.heap.size ≤ b) fun b _ h => h.elim (fun h => .inl h) fun h => .inr h)
               clear hs3 hb1)
            | fail)
          go_wp2_with fail
          go_region_held3 (fun w' => w'.cell? ⟨b1, o1 + k * 4, none⟩ = some (.slice a1 p.p.a.length n1) ∧ w'.cell? ⟨b1, o1 + k * 4 + 1, none⟩ = some (.int .i64 p.p.e) ∧ w'.cell? ⟨b1, o1 + k * 4 + 2, none⟩ = some (.slice a2 p.q.a.length n2) ∧ w'.cell? ⟨b1, o1 + k * 4 + 3, none⟩ = some (.int .i64 p.q.e) ∧ w'.cell? ⟨b2, o2 + q * 4, none⟩ = some (.slice d1 u.p.a.length m1) ∧ w'.cell? ⟨b2, o2 + q * 4 + 1, none⟩ = some (.int .i64 u.p.e) ∧ w'.cell? ⟨b2, o2 + q * 4 + 2, none⟩ = some (.slice d2 u.q.a.length m2) ∧ w'.cell? ⟨b2, o2 + q * 4 + 3, none⟩ = some (.int .i64 u.q.e)) (first | exact and4 (SA.out _ B1.out.drew) (SB.out _ B1.out.drew) | exact and4 (SA.out _ B2.out) (SB.out _ B2.out) | fail) (first
            | (go_at_call 114
               (with_reducible refine (CT2.out _ B1.out.drew).mono ?_)
               rintro e w2 ⟨a4, n4, rfl, hs4, hb2⟩
               have B2 := Lib.hid (B1.out.drew.trans (hb2.mono B1.out.drew.size))
               have W2 := Lib.hid (W1.out.drew.trans (hb2.mono W1.out.drew.size))
               have TP2 := Lib.hid ((TP.out.below (Below.refl _ _).drew).below hb2)
               have TQ2 := Lib.hid (hs4.imp (ok' := fun b => Old ok w b ∨ wr.heap.size ≤ b) fun b _ h => h.elim (fun h => .inl h) fun h => .inr (Nat.le_trans W1.out.drew.size h))
               clear hs4 hb2)
            | fail)
          have TP3 := Lib.hid (TsO.apart VB.out VO.out TP2.out)
          have TQ3 := Lib.hid (TsO.apart VB.out VO.out TQ2.out)
          have VO2 := Lib.hid (Ap.own_below VO.out W2.out)
          have VC2 := Lib.hid (clP_below VC.out W2.out)
          clear TP TP2 TQ2
          go_wp2_with fail
          go_loopw [5, 10] (fun v i wr => ∃ (x : Nat) (cs : List Value), x ≤ PP2.length ∧ i = .int .i64 x ∧ Below w.heap.size w wr ∧ wr.ownsRow w.heap.size 75 4 v (QQ ++ (PP2.take x).flatMap G).length cs ∧ Cl (EP (Apart (New ok w) v) wr) 4 (QQ ++ (PP2.take x).flatMap G) cs ∧ TsO (Apart (New ok w) v) wr (.slice a3 PP2.length n3) PP2 ∧ TsO (Apart (New ok w) v) wr (.slice a4 QQ2.length n4) QQ2) (fun _ i _ => PP2.length - (intOf i).toNat)
          case atStart => exact ⟨0, cs, Nat.zero_le _, rfl, B2.out, by simpa using VO2.out, by simpa using VC2.out, TP3.out, TQ3.out⟩
          case round =>
            obtain ⟨x, cs, hx, rfl, hb, hown, hcs, htp, htq⟩ := hrel
            have XB := Lib.hid hb
            have XO := Lib.hid hown
            have XC := Lib.hid hcs
            have XP := Lib.hid htp
            have XQ := Lib.hid htq
            clear hb hown hcs htp htq VO VC VB VO2 VC2 TP3 TQ3 B1 B2 W1 W2
            by_cases hlx : x < PP2.length
            · have HS3X := Lib.hid (HS3.out x hlx)
              have HT3X := HT3.out (x + 1)
              rw [HS3X.out, List.length_append] at HT3X
              have HGX := Lib.hid (HG.out PP2[x])
              have HT4X := Lib.hid (HT4.out PP2[x])
              have HS4X := Lib.hid (HS4.out PP2[x])
              have NX := Lib.hid (fun (wr : World) v (h : TsO (Apart (New ok w) v) wr (.slice a3 PP2.length n3) PP2) => h.nth x hlx)
              rw [HGX.out] at HT3X
              generalize PP2[x] = s at *
              obtain ⟨RR, hRR⟩ : ∃ RR, QQ ++ (PP2.take x).flatMap G = RR := ⟨_, rfl⟩
              have hRL : RR.length + (QQ2.flatMap (gG s)).length ≤ 1000000000000 := by rw [← hRR, List.length_append]; omega
              have EX := Lib.hid (show QQ ++ (PP2.take (x + 1)).flatMap G = RR ++ QQ2.flatMap (gG s) by rw [HS3X.out, ← List.append_assoc, hRR, HGX.out])
              rw [hRR] at XO XC
              clear hRR HT3X HS3X HGX
              go_wp2_with fail
              go_loopw [5, 11] (fun v i wr => ∃ (y : Nat) (cs : List Value), y ≤ QQ2.length ∧ i = .int .i64 y ∧ Below w.heap.size w wr ∧ wr.ownsRow w.heap.size 75 4 v (RR ++ (QQ2.take y).flatMap (gG s)).length cs ∧ Cl (EP (Apart (New ok w) v) wr) 4 (RR ++ (QQ2.take y).flatMap (gG s)) cs ∧ TsO (Apart (New ok w) v) wr (.slice a3 PP2.length n3) PP2 ∧ TsO (Apart (New ok w) v) wr (.slice a4 QQ2.length n4) QQ2) (fun _ i _ => QQ2.length - (intOf i).toNat)
              case atStart => exact ⟨0, cs, Nat.zero_le _, rfl, XB.out, by simpa using XO.out, by simpa using XC.out, XP.out, XQ.out⟩
              case round =>
                obtain ⟨y, cs, hy, rfl, hb, hown, hcs, htp, htq⟩ := hrel
                have YB := Lib.hid hb
                have YO := Lib.hid hown
                have YC := Lib.hid hcs
                have YP := Lib.hid htp
                have YQ := Lib.hid htq
                clear hb hown hcs htp htq XB XO XC XP XQ
                by_cases hly : y < QQ2.length
                · have HS4Y := Lib.hid (HS4X.out y hly)
                  have HT4Y := HT4X.out (y + 1)
                  rw [HS4Y.out, List.length_append] at HT4Y
                  obtain ⟨bP, oP, aP, cP, hP3, hsP, hcP⟩ := NX.out _ _ YP.out
                  obtain ⟨bQ, oQ, aQ, cQ, hQ4, hsQ, hcQ⟩ := YQ.out.nth y hly
                  generalize QQ2[y] = t at *
                  obtain ⟨SS2, hSS⟩ : ∃ SS2, RR ++ (QQ2.take y).flatMap (gG s) = SS2 := ⟨_, rfl⟩
                  have hSL : SS2.length ≤ 1000000000000 := by rw [← hSS, List.length_append]; omega
                  have EY := Lib.hid (show RR ++ (QQ2.take (y + 1)).flatMap (gG s) = SS2 ++ [⟨s, t⟩] by rw [HS4Y.out, ← List.append_assoc, hSS]; rfl)
                  rw [hSS] at YO YC
                  clear hSS HT4Y HS4Y
                  have HP := Lib.hid hsP
                  have HQ := Lib.hid hsQ
                  have CP := Lib.hid hcP
                  have CQ := Lib.hid hcQ
                  have YO1 := Ap.own_below YO.out (Below.refl wr.heap.size wr).drew
                  have dd : Below wr.heap.size wr wr.drew := (Below.refl wr.heap.size wr).drew
                  obtain ⟨v2, w2, hrun, hown2, hg2, hb2, hf2⟩ := app1P (x := ⟨s, t⟩) YO1 YB.out.drew.size (so_below HP.out dd) (so_below HQ.out dd) (by omega)
                  have RUN := Lib.hid hrun
                  have O2 := Lib.hid hown2
                  have B2 := Lib.hid (YB.out.drew.trans hb2)
                  have G2 := Lib.hid (grown_trans (grown_of dd) hg2)
                  have C2 := Lib.hid (accP2 (M := [⟨s, t⟩]) (clP_below YC.out dd) (Cl.one ⟨_, _, rfl, so_below HP.out dd, so_below HQ.out dd⟩ rfl) hg2 hf2)
                  have P2 := Lib.hid ((YP.out.below dd).grow hg2 hf2)
                  have Q2 := Lib.hid ((YQ.out.below dd).grow hg2 hf2)
                  clear hrun hown2 hg2 hb2 hf2 YO1 hsP hsQ hcP hcQ
                  have DD := Lib.hid dd
                  clear dd
                  subst hP3
                  subst hQ4
                  go_wp2_with fail
                  go_region_held3 (fun w' => w'.cell? ⟨bP, oP + x * 2, none⟩ = some (.slice aP s.a.length cP) ∧ w'.cell? ⟨bP, oP + x * 2 + 1, none⟩ = some (.int .i64 s.e) ∧ w'.cell? ⟨bQ, oQ + y * 2, none⟩ = some (.slice aQ t.a.length cQ) ∧ w'.cell? ⟨bQ, oQ + y * 2 + 1, none⟩ = some (.int .i64 t.e)) (first | exact and2 (CP.out _ (grown_of DD.out)) (CQ.out _ (grown_of DD.out)) | exact and2 (CP.out _ (grown_of (DD.out.alloc DD.out.size _))) (CQ.out _ (grown_of (DD.out.alloc DD.out.size _))) | exact and2 (CP.out _ G2.out) (CQ.out _ G2.out) | fail) (first
                    | (refine Ap.step_append_run (by rfl) _ _ _ _ rfl _ _ rfl rfl v2 w2 RUN.out ?_)
                    | fail)
                  go_wp2_with fail
                  go_roundw
                  case rel => exact ⟨y + 1, _, by omega, by go_num, B2.out, by rw [EY.out]; exact O2.out, by rw [EY.out]; exact C2.out, P2.out, Q2.out⟩
                  case measure => simp [intOf]; omega
                · have hyl : y = QQ2.length := by omega
                  subst hyl
                  have O := YO.out
                  have C := YC.out
                  rw [List.take_length, ← EX.out] at O C
                  have OO := Lib.hid O
                  have CC := Lib.hid C
                  clear O C
                  go_wp2_with fail
                  go_roundw
                  case rel => exact ⟨x + 1, cs, by omega, by go_num, YB.out, OO.out, CC.out, YP.out, YQ.out⟩
                  case measure => simp [intOf]; omega
            · have hxl : x = PP2.length := by omega
              subst hxl
              have O := XO.out
              have C := XC.out
              rw [List.take_length, HM.out, ← EQ.out] at O C
              have OO := Lib.hid O
              have CC := Lib.hid C
              clear O C
              go_wp2_with fail
              go_roundw
              case rel => exact ⟨q + 1, cs, by omega, by go_num, XB.out, OO.out, CC.out⟩
              case measure => simp [intOf]; omega
        · have hql : q = B.length := by omega
          subst hql
          have O := VO.out
          have C := VC.out
          rw [List.take_length, ← HFPH.out, ← HSK.out] at O C
          have OO := Lib.hid O
          have CC := Lib.hid C
          clear O C
          go_wp2_with fail
          go_roundw
          case rel => exact ⟨k + 1, cs, by omega, by go_num, VB.out, OO.out, CC.out⟩
          case measure => simp [intOf]; omega
    · have hkl : k = A.length := by omega
      subst hkl
      have O := WO.out
      have C := WC.out
      rw [List.take_length, HL.out] at O C
      have TT := Lib.hid (tellP O C)
      obtain ⟨_, a9, c9, hv, _⟩ := Ap.Rd.owned O
      subst hv
      clear O C
      go_wp2_with fail
      go_ret
      exact ⟨_, _, rfl, TT.out, WB.out⟩
end Go.Proofs.YtghnonbcojbohaaGreatDoor.Mn

namespace Go.Proofs.YtghnonbcojbohaaGreatDoor.Mn
open Go Go.RowKit Tr
set_option maxRecDepth 20000

def gS (x : Pr) (c : Tr) : List Pr := [⟨x.p, thn x.q c⟩]
theorem stackR_any_f1 (B : List Tr) (p : Pr) : stack1 B p = B.flatMap (gS p) := by
  unfold stack1
  rw [map_flat]
  rfl

set_option maxHeartbeats 4000000 in
theorem stackR_any (ok : Nat → Prop) (x y : Value) (A : List Pr) (B : List Tr) (w : World) (hx : PsO ok w x A) (hy : TsO ok w y B) (hA : A.length ≤ 1000000000000) (hB : B.length ≤ 1000000000000) (hrow : ∀ x ∈ A, ∀ c ∈ B, x.q.a.length + c.a.length ≤ 1000000) (hout : (stack A B).length ≤ 1000000000000) :
    Calls Tryz.prog 79 #[x, y] w (OutP ok (stack A B) w) := by
  obtain ⟨ax, cx, rfl, _, hvx⟩ := hx.val
  obtain ⟨ay, cy, rfl, _, hvy⟩ := hy.val
  have HX := Lib.hid hvx
  have HY := Lib.hid hvy
  have HR := Lib.hid hrow
  have HT := Lib.hid (flat_take (stack1 B) A)
  have HS := Lib.hid (flat_snoc (stack1 B) A)
  have HS2 := Lib.hid (fun p => flat_snoc (gS p) B)
  have HT2 := Lib.hid (fun p => flat_take (gS p) B)
  have HF1 := Lib.hid (stackR_any_f1 B)
  obtain ⟨L, hL⟩ : ∃ L, stack A B = L := ⟨_, rfl⟩
  have hL' : A.flatMap (stack1 B) = L := hL
  obtain ⟨F, hF⟩ : ∃ F, (stack1 B) = F := ⟨_, rfl⟩
  rw [hL'] at HT
  rw [hF] at hL' HT HS HF1
  rw [hL] at hout ⊢
  have HL := Lib.hid hL'
  unfold OutP
  clear hvx hvy hx hy hL hL' hF hrow
  go_enter Tryz.func79, Tryz.ntmps79
  go_wp2_with fail
  go_loopw [5, 6] (fun v i wr => ∃ (k : Nat) (cs : List Value), k ≤ A.length ∧ i = .int .i64 k ∧ Below w.heap.size w wr ∧ wr.ownsRow w.heap.size 75 4 v ((A.take k).flatMap F).length cs ∧ Cl (EP (Apart (New ok w) v) wr) 4 ((A.take k).flatMap F) cs) (fun _ i _ => A.length - (intOf i).toNat)
  case atStart => exact ⟨0, [], Nat.zero_le _, rfl, Below.refl _ _, ⟨rfl, .inl ⟨rfl, rfl⟩⟩, rfl⟩
  case round =>
    obtain ⟨k, cs, hk, rfl, hb, hown, hcs⟩ := hrel
    have WB := Lib.hid hb
    have WO := Lib.hid hown
    have WC := Lib.hid hcs
    clear hb hown hcs
    by_cases hlt : k < A.length
    · skip
      obtain ⟨b1, o1, va1, va2, rfl, _, e1, e2, e3, e4, s1, s2⟩ := HX.out k hlt
      have HTK := HT.out (k + 1)
      have HSK := Lib.hid (HS.out k hlt)
      rw [HSK.out, List.length_append] at HTK
      have HRK := Lib.hid (HR.out _ (List.getElem_mem hlt))
      generalize A[k] = p at *
      obtain ⟨PP, hPP⟩ : ∃ PP, (A.take k).flatMap F = PP := ⟨_, rfl⟩
      rw [hPP] at WO WC HSK HTK
      clear hPP
      have HA1 := Lib.hid s1
      have HA2 := Lib.hid s2
      obtain ⟨_, a1, n1, rfl, _⟩ := id s1
      obtain ⟨_, a2, n2, rfl, _⟩ := id s2
      have SA : Hid (∀ w1, Below w.heap.size w w1 → w1.cell? ⟨b1, o1 + k * 4, none⟩ = some (.slice a1 p.p.a.length n1) ∧ w1.cell? ⟨b1, o1 + k * 4 + 1, none⟩ = some (.int .i64 p.p.e) ∧ w1.cell? ⟨b1, o1 + k * 4 + 2, none⟩ = some (.slice a2 p.q.a.length n2) ∧ w1.cell? ⟨b1, o1 + k * 4 + 3, none⟩ = some (.int .i64 p.q.e)) := Lib.hid fun w1 hb => ⟨by rw [hb.cell (Ap.cell_lt e1)]; exact e1, by rw [hb.cell (Ap.cell_lt e2)]; exact e2, by rw [hb.cell (Ap.cell_lt e3)]; exact e3, by rw [hb.cell (Ap.cell_lt e4)]; exact e4⟩
      have HFP := HF1.out p
      rw [HFP] at HTK
      have HPQ := Lib.hid (HT2.out p)
      have HFPH := Lib.hid HFP
      clear HFP

      go_wp2_with fail
      go_loopw [5, 7] (fun v j wr => ∃ (q : Nat) (cs : List Value), q ≤ B.length ∧ j = .int .i64 q ∧ Below w.heap.size w wr ∧ wr.ownsRow w.heap.size 75 4 v (PP ++ (B.take q).flatMap (gS p)).length cs ∧ Cl (EP (Apart (New ok w) v) wr) 4 (PP ++ (B.take q).flatMap (gS p)) cs) (fun _ j _ => B.length - (intOf j).toNat)
      case atStart => exact ⟨0, cs, Nat.zero_le _, rfl, WB.out, by simpa using WO.out, by simpa using WC.out⟩
      case round =>
        obtain ⟨q, cs, hq, rfl, hb, hown, hcs⟩ := hrel
        have VB := Lib.hid hb
        have VO := Lib.hid hown
        have VC := Lib.hid hcs
        clear hb hown hcs
        by_cases hlq : q < B.length
        · skip
          obtain ⟨b2, o2, vb1, rfl, _, f1, f2, t1⟩ := HY.out q hlq
          have HS2K := Lib.hid (HS2.out p q hlq)
          have HPQ' := HPQ.out (q + 1)
          rw [HS2K.out, List.length_append] at HPQ'
          have HRQ := Lib.hid (HRK.out _ (List.getElem_mem hlq))
          generalize B[q] = u at *
          have EQ := Lib.hid (show PP ++ (B.take (q + 1)).flatMap (gS p) = (PP ++ (B.take q).flatMap (gS p)) ++ gS p u by rw [HS2K.out, List.append_assoc])
          obtain ⟨QQ, hQQ⟩ : ∃ QQ, PP ++ (B.take q).flatMap (gS p) = QQ := ⟨_, rfl⟩
          have hQL : QQ.length ≤ 1000000000000 := by rw [← hQQ, List.length_append]; omega
          rw [hQQ] at VO VC EQ
          have HQ2 := Lib.hid (show QQ.length + (gS p u).length ≤ 1000000000000 by rw [← hQQ, List.length_append]; omega)
          clear hQQ HPQ'
          have HB1 := Lib.hid t1
          obtain ⟨_, d1, m1, rfl, _⟩ := id t1
          have SB : Hid (∀ w1, Below w.heap.size w w1 → w1.cell? ⟨b2, o2 + q * 2, none⟩ = some (.slice d1 u.a.length m1) ∧ w1.cell? ⟨b2, o2 + q * 2 + 1, none⟩ = some (.int .i64 u.e)) := Lib.hid fun w1 hb => ⟨by rw [hb.cell (Ap.cell_lt f1)]; exact f1, by rw [hb.cell (Ap.cell_lt f2)]; exact f2⟩
          have EQ' := Lib.hid (show PP ++ (B.take (q + 1)).flatMap (gS p) = QQ ++ [⟨p.p, thn p.q u⟩] from EQ.out)
          clear EQ
          have CT := Lib.hid (fun w1 (hb : Below w.heap.size w w1) => thenR_any (Old ok w) _ _ p.q u w1 (so_below (so_old HA2.out) hb) (so_strs (so_below HB1.out hb)) (by have := HRQ.out; omega))
          generalize thn p.q u = s1 at *
          go_wp2_with fail
          go_region_held3 (fun w' => w'.cell? ⟨b1, o1 + k * 4, none⟩ = some (.slice a1 p.p.a.length n1) ∧ w'.cell? ⟨b1, o1 + k * 4 + 1, none⟩ = some (.int .i64 p.p.e) ∧ w'.cell? ⟨b1, o1 + k * 4 + 2, none⟩ = some (.slice a2 p.q.a.length n2) ∧ w'.cell? ⟨b1, o1 + k * 4 + 3, none⟩ = some (.int .i64 p.q.e) ∧ w'.cell? ⟨b2, o2 + q * 2, none⟩ = some (.slice d1 u.a.length m1) ∧ w'.cell? ⟨b2, o2 + q * 2 + 1, none⟩ = some (.int .i64 u.e)) (first | exact and4 (SA.out _ VB.out.drew) (SB.out _ VB.out.drew) | exact and4 (SA.out _ B1.out) (SB.out _ B1.out) | exact and4 (SA.out _ (B1.out.alloc B1.out.size _)) (SB.out _ (B1.out.alloc B1.out.size _)) | exact and4 (SA.out _ B9.out) (SB.out _ B9.out) | fail) (first
            | (go_at_call 113
               (with_reducible refine (CT.out _ VB.out.drew).mono ?_)
               rintro e w1 ⟨a3, n3, rfl, hs3, hb1⟩
               have B1 := Lib.hid (VB.out.drew.trans (hb1.mono VB.out.drew.size))
               have HS3 := Lib.hid (so_imp hs3 (ok' := fun b => Old ok w b ∨ wr.heap.size ≤ b) fun b _ h => h.elim (fun h => .inl h) fun h => .inr h)
               have W1 := Lib.hid ((Below.refl wr.heap.size wr).drew.trans hb1)
               have VO1 := Ap.own_below VO.out W1.out
               obtain ⟨v2, w9, hrun, hown2, hg2, hb9, hf2⟩ := app1P (x := ⟨p.p, s1⟩) VO1 B1.out.size (so_imp (ok' := fun b => Old ok w b ∨ wr.heap.size ≤ b) (so_below (so_old HA1.out) B1.out) fun b _ h => .inl h) HS3.out (by omega)
               have RUN := Lib.hid hrun
               have O2 := Lib.hid hown2
               have B9 := Lib.hid (B1.out.trans hb9)
               have C2 := Lib.hid (accP (M := [⟨p.p, s1⟩]) VB.out VO.out VC.out W1.out (Cl.one ⟨_, _, rfl, so_imp (so_below (so_old HA1.out) B1.out) fun b _ h => .inl h, HS3.out⟩ rfl) hg2 hf2)
               clear hrun hown2 hg2 hb9 hf2 VO1
               clear hs3 hb1)
            | (refine Ap.step_append_run (by rfl) _ _ _ _ rfl _ _ rfl rfl v2 w9 RUN.out ?_)
            | fail)
          go_wp2_with fail
          go_roundw
          case rel => exact ⟨q + 1, _, by omega, by go_num, B9.out, by rw [EQ'.out]; exact O2.out, by rw [EQ'.out]; exact C2.out⟩
          case measure => simp [intOf]; omega
        · have hql : q = B.length := by omega
          subst hql
          have O := VO.out
          have C := VC.out
          rw [List.take_length, ← HFPH.out, ← HSK.out] at O C
          have OO := Lib.hid O
          have CC := Lib.hid C
          clear O C
          go_wp2_with fail
          go_roundw
          case rel => exact ⟨k + 1, cs, by omega, by go_num, VB.out, OO.out, CC.out⟩
          case measure => simp [intOf]; omega
    · have hkl : k = A.length := by omega
      subst hkl
      have O := WO.out
      have C := WC.out
      rw [List.take_length, HL.out] at O C
      have TT := Lib.hid (tellP O C)
      obtain ⟨_, a9, c9, hv, _⟩ := Ap.Rd.owned O
      subst hv
      clear O C
      go_wp2_with fail
      go_ret
      exact ⟨_, _, rfl, TT.out, WB.out⟩
end Go.Proofs.YtghnonbcojbohaaGreatDoor.Mn
