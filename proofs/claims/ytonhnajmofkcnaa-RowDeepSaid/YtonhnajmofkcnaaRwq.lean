/- RowKids from the contracts. -/
import Derived.Test.YtonhnajmofkcnaaRwp
import Derived.StillTailTactics
namespace Go.Proofs.Ytonhnajmofkcnaa.Rw
open Go Go.RowKit
set_option maxRecDepth 20000

/-- A row appended to a new one with no room. -/
theorem given_run (w : World) {v : Value} {l : List Nd} (hv : Nds w v l) (hl : l.length ≤ 1000000) :
    ∃ v' w', (Builtin.append_ #[27, 27] 27 #[.slice (some ⟨w.heap.size, 0, none⟩) 0 0, v]).run Try.prog (w.alloc (.cells #[] 23)) = .ok v' w' ∧ Ap.RdO (fun g => w.heap.size ≤ g) w' 3 v' l.length (cls l) ∧ Below w.heap.size w w' := by
  have B0 := below1 w (.cells #[] 23)
  have hown : (w.alloc (.cells #[] 23)).ownsRow w.heap.size 23 3 (.slice (some ⟨w.heap.size, 0, none⟩) 0 0) ([] : List Nd).length (cls []) := by
    refine ⟨rfl, .inr ⟨w.heap.size, 0, #[], rfl, Nat.le_refl _, ?_, Nat.le_refl _, by unfold maxLen; omega, by simp, by simp [cls]⟩⟩
    show ((w.heap.push _)[w.heap.size]?) = _
    simp
  obtain ⟨v', w', h1, h2, h3, h4, _⟩ := run_append_nds (l := []) hown B0.size (hv.below B0) (by simp; omega)
  rw [List.nil_append] at h2
  exact ⟨v', w', h1, Ap.RdO.fresh h2, B0.trans h4⟩
/-- What was given, what was made, and the rows that are written over. -/
structure Kz (w0 : World) (v : Value) (l : List Nd) (S b o c : Nat) (ls : List (List Nd)) (g m : Value) (lm : List Nd) (w5 : World) : Prop where
  kk : Kk w0 v l S b o c ls w5
  g : Ap.RdO (fun k => S ≤ k) w5 3 g l.length (cls l)
  m : Ap.RdO (fun k => S ≤ k) w5 3 m lm.length (cls lm)
/-- A row that lies elsewhere reads as it did. -/
theorem Zr.rdo {B S b : Nat} {w w' : World} {v : Value} {n : Nat} {cs : List Value} {ok : Nat → Prop} (h : Ap.RdO ok w 3 v n cs) (hz : Zr B S b w w') (hk : ∀ k, ok k → ¬ (B ≤ k ∧ k < S ∧ k ≠ b)) : Ap.Rd w' 3 v n cs := by
  obtain ⟨hl, a, cap, hv, hc, hn, hcell⟩ := h
  refine ⟨hl, a, cap, hv, hc, hn, fun h0 => ?_⟩
  obtain ⟨k, off, ha, ho, hlt, hj⟩ := hcell h0
  exact ⟨k, off, ha, fun j u hu => by rw [World.cell?_of_block (w := w) (a := ⟨k, off + j, none⟩) (hz.block k (hk k ho))]; exact hj j u hu⟩
/-- A row that was there before all that. -/
theorem Nds.old {w0 w : World} {v : Value} {l : List Nd} (h0 : Nds w0 v l) (hb : Below w0.heap.size w0 w) : Ap.RdO (fun k => k < w0.heap.size) w 3 v l.length (cls l) := by
  obtain ⟨hl, a, cap, hv, hc, hn, hcell⟩ := h0
  refine ⟨hl, a, cap, hv, hc, hn, fun hp => ?_⟩
  obtain ⟨b, off, ha, hj⟩ := hcell hp
  have hpos : 0 < (cls l).length := by rw [hl]; omega
  have hlt : b < w0.heap.size := Ap.cell_lt (hj 0 _ (List.getElem?_eq_getElem hpos))
  exact ⟨b, off, ha, hlt, Nat.lt_of_lt_of_le hlt hb.size, fun j u hu => by rw [hb.cell (p := ⟨b, off + j, none⟩) hlt]; exact hj j u hu⟩
/-- At the end: what was given, and what was made, read as they did. -/
structure Kf (w0 : World) (v m : Value) (gb go' gc : Nat) (l : List Nd) (n : Nat) (w : World) : Prop where
  bel : Below w0.heap.size w0 w
  ln : Nds w v l
  g : Nds w (.slice (some ⟨gb, go', none⟩) l.length gc) l
  gn : Nds w (.slice (some ⟨gb, go', none⟩) n gc) (l.take n)
  m : Nds w m (l.take n)
theorem Kf.below {w0 w w' : World} {v m : Value} {gb go' gc n : Nat} {l : List Nd} (h : Kf w0 v m gb go' gc l n w) (hb : Below w.heap.size w w') : Kf w0 v m gb go' gc l n w' :=
  ⟨h.bel.trans (hb.mono h.bel.size), h.ln.below hb, h.g.below hb, h.gn.below hb, h.m.below hb⟩
theorem kf_of {w0 w5 wr : World} {v m : Value} {l : List Nd} {S b o c gb go' gc n : Nat} {ls : List (List Nd)} (h0 : Nds w0 v l) (kz : Kz w0 v l S b o c ls (.slice (some ⟨gb, go', none⟩) l.length gc) m (l.take n) w5) (hz : Zr w0.heap.size S b w5 wr)
    (hgc : l.length ≤ gc) (hn : n ≤ l.length) (hpos : 0 < l.length) : Kf w0 v m gb go' gc l n wr := by
  have hg : Nds wr (.slice (some ⟨gb, go', none⟩) l.length gc) l := Zr.rdo kz.g hz fun k hk h => by omega
  refine ⟨⟨hz.os.trans kz.kk.kp.bel.os, hz.tape.trans kz.kk.kp.bel.tape, hz.output.trans kz.kk.kp.bel.output, by rw [hz.size]; exact kz.kk.kp.bel.size, fun k hk => (hz.block k (fun h => by omega)).trans (kz.kk.kp.bel.block k hk)⟩,
    Zr.rdo (Nds.old h0 kz.kk.kp.bel) hz fun k hk h => by omega, hg, ?_, Zr.rdo kz.m hz fun k hk h => by omega⟩
  rcases hg.form with ⟨h, _⟩ | ⟨b', o', c', he, _, hat⟩
  · rw [h] at hpos
    exact absurd hpos (Nat.lt_irrefl 0)
  · injection he with e1 e2 e3
    injection e1 with e1
    injection e1 with e4 e5
    subst e3 e4 e5
    have := part_nds hat 0 n gc (by omega) (by omega)
    rw [Nat.zero_mul, Nat.add_zero, List.drop_zero] at this
    exact this
theorem made_of {l : List Nd} {ls : List (List Nd)} {n : Nat} (hls : kids l = ls) (hn : size l = n) (hz : n ≠ 0) (h0 : 0 < l.length) : l[0] :: ls.flatten = l.take n := by
  cases l with
  | nil => simp at h0
  | cons x r =>
    have := kids_flat (n := x) (r := r) (by rw [hn]; exact hz)
    rw [hls, hn] at this
    exact this

set_option maxHeartbeats 8000000 in
theorem kidsL_some (C : Con) (bl ol cap : Nat) (l : List Nd) (w : World) (hv : Nds w (.slice (some ⟨bl, ol, none⟩) l.length cap) l) (hat : At w bl ol l) (h1 : l.length ≤ 250) (hne : 0 < (kids l).length) :
    Calls Try.prog 5 #[.slice (some ⟨bl, ol, none⟩) l.length cap] w fun e w' => e = .returned (.bool true) ∧ Below w.heap.size w w' := by
  have hsz : size l ≠ 0 := fun e => by unfold kids at hne; rw [if_pos e] at hne; simp at hne
  have hcount := kids_count l
  have HKL := Lib.hid (kids_lens hsz)
  obtain ⟨ls, hls⟩ : ∃ ls, kids l = ls := ⟨_, rfl⟩
  rw [hls] at hne hcount HKL
  have HLS := Lib.hid hls
  have H0 := Lib.hid hv
  have HA := Lib.hid hat
  have I := Lib.hid (Kp.start hv)
  clear hv hat hls
  go_enter Try.func5, Try.ntmps5
  go_wp2_with fail
  refine (few_any _ l _ I.out.nds).mono ?_
  rintro e w' ⟨rfl, rfl⟩
  rw [decide_eq_true h1]
  go_wp2_with fail
  refine (C.cKids _ l _ I.out.nds (by omega)).mono ?_
  rw [HLS.out]
  rintro e w1 ⟨y, cs, rfl, hy, ho, hb⟩
  obtain ⟨b, o, c, rfl, hk⟩ := kids_lie I.out hy ho hb hne
  have K := Lib.hid hk
  clear I hy ho hb hk cs
  obtain ⟨S, hS⟩ : ∃ S, w1.heap.size = S := ⟨_, rfl⟩
  rw [hS] at K
  go_wp2_with fail
  refine (kidsR_any _ l _ K.out.kp.nds (by omega)).mono ?_
  rw [HLS.out]
  rintro e w2 ⟨y2, rfl, hy2, hb⟩
  replace K := Lib.hid (K.out.below hb)
  clear hb hS
  rcases hy2.form with ⟨h0, _⟩ | ⟨b2, o2, c2, rfl, hat2⟩
  · rw [h0] at hne
    exact absurd hne (Nat.lt_irrefl 0)
  have A2 := Lib.hid hat2
  clear hy2 hat2
  go_wp2_with fail
  go_loopw [5, 26] (fun _ i wr => ∃ j : Nat, j ≤ ls.length ∧ i = .int .i64 j ∧ Hid (Kk w (.slice (some ⟨bl, ol, none⟩) l.length cap) l S b o c ls wr) ∧ Hid (AtR wr b2 o2 ls)) (fun _ i _ => ls.length - (intOf i).toNat)
  case atStart => exact ⟨0, Nat.zero_le _, rfl, K, A2⟩
  case round =>
    clear K A2
    obtain ⟨j, hj, rfl, K, A2⟩ := hrel
    by_cases hlt : j < ls.length
    · obtain ⟨x, k0, _, hx⟩ := K.out.rows j hlt
      obtain ⟨y, k1, hy⟩ := A2.out j hlt
      have hrl := HKL.out _ (List.getElem_mem hlt)
      obtain ⟨r, hr⟩ : ∃ r, ls[j] = r := ⟨_, rfl⟩
      rw [hr] at hx hy hrl
      have HX := Lib.hid hx
      have HY := Lib.hid hy
      clear hx hy hr
      go_wp2_with fail
      go_still_tail 8, (by kernel_rfl)
      change wpList _ _ _ _ _ wr.drew
      go_wp2_with fail
      refine (sameR_any _ _ r r _ (HX.out.below (Below.refl _ _).drew) (HY.out.below (Below.refl _ _).drew) (by omega)).mono ?_
      rw [sameN_self]
      rintro e wn ⟨rfl, hb⟩
      have K' := Lib.hid ((K.out.below (Below.refl _ _).drew).below hb)
      have A2' := Lib.hid ((A2.out.below (Below.refl _ _).drew).below hb)
      clear hb k0 k1 K A2
      go_wp2_with fail
      go_roundw
      case rel => exact ⟨j + 1, by omega, by go_num, K', A2'⟩
      case measure => simp [intOf]; omega
    · have hzl := size_le l
      obtain ⟨n, hn⟩ : ∃ n, size l = n := ⟨_, rfl⟩
      rw [hn] at hsz hzl
      have HN := Lib.hid hn
      have gz : ((n : Int) == 0) = false := by rw [beq_eq_false_iff_ne]; omega
      clear A2 hn
      go_wp2_with fail
      refine (C.cSize _ l _ K.out.kp.nds (by omega)).mono ?_
      rw [HN.out]
      rintro e w3 ⟨rfl, hb⟩
      replace K := Lib.hid (K.out.below hb)
      clear hb
      have hpos : 0 < l.length := by omega
      obtain ⟨g, w4, hrun, hg, hb4⟩ := given_run w3 K.out.kp.nds (by omega)
      have hg' := hg
      obtain ⟨_, ga, gc, rfl, hgc, _, hcell⟩ := hg'
      obtain ⟨gb, go', rfl, -⟩ := hcell hpos
      have R := Lib.hid hrun
      have HS3 := Lib.hid K.out.lt
      have HG : Hid (Ap.RdO (fun k => S ≤ k) w4 3 (.slice (some ⟨gb, go', none⟩) l.length gc) l.length (cls l)) := hg.imp fun k _ hk => Nat.le_trans HS3.out hk
      replace K := Lib.hid (K.out.below hb4)
      obtain ⟨e1, e2, e3⟩ := HA.out 0 hpos
      rw [Nat.zero_mul, Nat.add_zero] at e1 e2 e3
      have d1 : w4.cell? ⟨bl, ol, none⟩ = some (.int .i64 l[0].k) := by rw [K.out.kp.bel.cell (Ap.cell_lt e1)]; exact e1
      have d2 : w4.cell? ⟨bl, ol + 1, none⟩ = some (.string l[0].n) := by rw [K.out.kp.bel.cell (Ap.cell_lt e2)]; exact e2
      have d3 : w4.cell? ⟨bl, ol + 2, none⟩ = some (.int .i64 l[0].s) := by rw [K.out.kp.bel.cell (Ap.cell_lt e3)]; exact e3
      have HFL : Hid (l[0] :: ls.flatten = l.take n) := made_of HLS.out HN.out hsz hpos
      obtain ⟨x0, hx0⟩ : ∃ x, l[0] = x := ⟨_, rfl⟩
      rw [hx0] at d1 d2 d3 HFL
      have hfl : ls.flatten.length ≤ 1000 := by
        have := congrArg List.length HFL.out
        rw [List.length_cons, List.length_take] at this
        omega
      clear hrun hg hb4 hcell e1 e2 e3 hx0
      go_wp2_with (at_builtin; refine Ap.wpList_append_run (by rfl) (.tmp 50) (.tmp 51) _ _ rfl _ _ rfl rfl _ w4 R.out ?_)
      refine (C.cMake x0 _ ls _ K.out.rws (by omega) hfl).mono ?_
      rw [HFL.out]
      rintro e w5 ⟨m, rfl, hm, hb⟩
      have KZ : Hid (Kz w (.slice (some ⟨bl, ol, none⟩) l.length cap) l S b o c ls (.slice (some ⟨gb, go', none⟩) l.length gc) m (l.take n) w5) :=
        ⟨K.out.below hb, HG.out.below hb, hm.imp fun k _ hk => Nat.le_trans K.out.lt hk⟩
      clear K HG HS3 R hm hb d1 d2 d3 hfl HFL
      go_wp2_with fail
      go_loopw [9, 10, 60, 68] (fun _ _ i _ wr => ∃ j : Nat, j ≤ ls.length ∧ i = .int .i64 j ∧ Hid (Zr w.heap.size S b w5 wr)) (fun _ _ i _ _ => ls.length - (intOf i).toNat)
      case atStart => exact ⟨0, Nat.zero_le _, rfl, Lib.hid (Zr.refl _ _ _ _)⟩
      case round =>
        obtain ⟨j', hj', rfl, Z⟩ := hrel
        by_cases hlt' : j' < ls.length
        · obtain ⟨_, k0, ⟨ad, cp, rfl, hown⟩, _⟩ := KZ.out.kk.rows j' hlt'
          obtain ⟨r, hr⟩ : ∃ r, ls[j'].length = r := ⟨_, rfl⟩
          have hrl := HKL.out _ (List.getElem_mem hlt')
          rw [hr] at k0 hown hrl
          have K0 := Lib.hid k0
          have q0 : wr.cell? ⟨b, o + j', none⟩ = some (.slice ad r cp) := by rw [World.cell?_of_block (w := w5) (a := ⟨b, o + j', none⟩) (Z.out.block b fun h => h.2.2 rfl)]; exact k0
          clear hr k0
          by_cases hr0 : 0 < r
          · obtain ⟨k, off, rfl, hB, hkS, hkb, hcells⟩ := hown hr0
            have HCL := Lib.hid hcells
            clear hown hcells
            go_wp2_with fail
            obtain ⟨wo, hwo⟩ : ∃ wo : World, wo = wr := ⟨_, rfl⟩
            subst hwo
            clear q0
            go_loopw [10, 68] (fun _ i wr => ∃ jj : Nat, jj ≤ r ∧ i = .int .i64 jj ∧ Hid (Zr w.heap.size S b w5 wr)) (fun _ i _ => r - (intOf i).toNat)
            case atStart => exact ⟨0, Nat.zero_le _, rfl, Z⟩
            case round =>
              clear Z
              obtain ⟨jj, hjj, rfl, Z⟩ := hrel
              have q0 : wr.cell? ⟨b, o + j', none⟩ = some (.slice (some ⟨k, off, none⟩) r cp) := by rw [World.cell?_of_block (w := w5) (a := ⟨b, o + j', none⟩) (Z.out.block b fun h => h.2.2 rfl)]; exact K0.out
              by_cases hlt3 : jj < r
              · obtain ⟨y0, f0⟩ := HCL.out (jj * 3) (by omega)
                obtain ⟨y1, f1⟩ := HCL.out (jj * 3 + 1) (by omega)
                obtain ⟨y2, f2⟩ := HCL.out (jj * 3 + 2) (by omega)
                obtain ⟨v0, z0⟩ := Option.isSome_iff_exists.1 (Z.out.cell _ y0)
                obtain ⟨v1, z1⟩ := Option.isSome_iff_exists.1 (Z.out.cell _ y1)
                obtain ⟨v2, z2⟩ := Option.isSome_iff_exists.1 (Z.out.cell _ y2)
                rw [← Z.out.mark] at f0 f1 f2
                rw [← Nat.add_assoc] at z1 z2 f1 f2
                have Z' : Hid (Zr w.heap.size S b w5 (((wr.setCell ⟨k, off + jj * 3, none⟩ (.int .i64 0)).setCell ⟨k, off + jj * 3 + 1, none⟩ (.string ⟨#[]⟩)).setCell ⟨k, off + jj * 3 + 2, none⟩ (.int .i64 0))) :=
                  ((Z.out.set (p := ⟨k, off + jj * 3, none⟩) hB hkS hkb _).set (p := ⟨k, off + jj * 3 + 1, none⟩) hB hkS hkb _).set (p := ⟨k, off + jj * 3 + 2, none⟩) hB hkS hkb _
                clear y0 y1 y2
                go_wp2_with fail
                go_roundw
                case rel => exact ⟨jj + 1, by omega, by go_num, Z'⟩
                case measure => simp [intOf]; omega
              · go_wp2_with fail
                go_roundw
                case rel => exact ⟨j' + 1, by omega, by go_num, Z⟩
                case measure => simp [intOf]; omega
          · obtain rfl : r = 0 := by omega
            go_wp2_with fail
            refine Go.wp_loop_rounds 1 ?_
            rw [rounds_succ]
            go_wp2_with fail
            go_roundw
            case rel => exact ⟨j' + 1, by omega, by go_num, Z⟩
            case measure => simp [intOf]; omega
        · have F := Lib.hid (kf_of H0.out KZ.out Z.out hgc hzl hpos)
          have hngc : n ≤ gc := by omega
          clear Z KZ
          go_wp2_with fail
          refine (alive_any C _).mono ?_
          rintro e wn ⟨rfl, hb⟩
          replace F := Lib.hid (F.out.below hb)
          clear hb
          go_wp2_with fail
          refine (sameR_any _ _ (l.take n) (l.take n) _ F.out.m F.out.gn (by rw [List.length_take]; omega)).mono ?_
          rw [sameN_self]
          rintro e wn ⟨rfl, hb⟩
          replace F := Lib.hid (F.out.below hb)
          clear hb
          go_wp2_with fail
          refine (sameR_any _ _ l l _ F.out.ln F.out.g (by omega)).mono ?_
          rw [sameN_self]
          rintro e wn ⟨rfl, hb⟩
          replace F := Lib.hid (F.out.below hb)
          clear hb
          go_wp2_with fail
          go_ret
          exact ⟨rfl, F.out.bel⟩
set_option maxHeartbeats 4000000 in
theorem kidsL_none (C : Con) (a : Option Addr) (cap : Nat) (l : List Nd) (w : World) (hv : Nds w (.slice a l.length cap) l) (h1 : l.length ≤ 250) (hz : size l = 0) :
    Calls Try.prog 5 #[.slice a l.length cap] w fun e w' => e = .returned (.bool true) ∧ Below w.heap.size w w' := by
  have HLS : Hid (kids l = []) := by
    show _ = _
    unfold kids
    rw [if_pos hz]
  have HZ := Lib.hid hz
  have I := Lib.hid (Kp.start hv)
  clear hv hz
  go_enter Try.func5, Try.ntmps5
  go_wp2_with fail
  refine (few_any _ l _ I.out.nds).mono ?_
  rintro e w' ⟨rfl, rfl⟩
  rw [decide_eq_true h1]
  go_wp2_with fail
  refine (C.cKids _ l _ I.out.nds (by omega)).mono ?_
  rw [HLS.out]
  rintro e w1 ⟨y, cs, rfl, hy, ho, hb⟩
  obtain ⟨_, ya, yc, rfl, -⟩ := hy
  replace I := Lib.hid (I.out.below hb)
  clear ho hb
  go_wp2_with fail
  refine (kidsR_any _ l _ I.out.nds (by omega)).mono ?_
  rw [HLS.out]
  rintro e w2 ⟨y2, rfl, hy2, hb⟩
  replace I := Lib.hid (I.out.below hb)
  clear hb
  obtain ⟨_, ⟨_, ya2, yc2, rfl, -⟩, _⟩ := hy2
  go_wp2_with fail
  refine Go.wp_loop_rounds 1 ?_
  rw [rounds_succ]
  go_wp2_with fail
  refine (C.cSize _ l _ I.out.nds (by omega)).mono ?_
  rw [HZ.out]
  rintro e w3 ⟨rfl, hb⟩
  replace I := Lib.hid (I.out.below hb)
  clear hb
  go_wp2_with fail
  refine (alive_any C _).mono ?_
  rintro e wn ⟨rfl, hb⟩
  replace I := Lib.hid (I.out.below hb)
  clear hb
  go_wp2_with fail
  go_ret
  exact ⟨rfl, I.out.bel⟩

set_option maxHeartbeats 8000000 in
theorem kidsL_leaf (C : Con) (bl ol cap : Nat) (l : List Nd) (w : World) (hv : Nds w (.slice (some ⟨bl, ol, none⟩) l.length cap) l) (hat : At w bl ol l) (h1 : l.length ≤ 250) (hsz : size l ≠ 0) (hls : kids l = []) :
    Calls Try.prog 5 #[.slice (some ⟨bl, ol, none⟩) l.length cap] w fun e w' => e = .returned (.bool true) ∧ Below w.heap.size w w' := by
  have HLS := Lib.hid hls
  have H0 := Lib.hid hv
  have HA := Lib.hid hat
  have I := Lib.hid (Kp.start hv)
  have hzl := size_le l
  obtain ⟨n, hn⟩ : ∃ n, size l = n := ⟨_, rfl⟩
  rw [hn] at hsz hzl
  have HN := Lib.hid hn
  have gz : ((n : Int) == 0) = false := by rw [beq_eq_false_iff_ne]; omega
  clear hv hat hls hn
  go_enter Try.func5, Try.ntmps5
  go_wp2_with fail
  refine (few_any _ l _ I.out.nds).mono ?_
  rintro e w' ⟨rfl, rfl⟩
  rw [decide_eq_true h1]
  go_wp2_with fail
  refine (C.cKids _ l _ I.out.nds (by omega)).mono ?_
  rw [HLS.out]
  rintro e w1 ⟨y, cs, rfl, hy, ho, hb⟩
  have hyr := hy.rd
  obtain ⟨_, ya, yc, rfl, -⟩ := hy
  have HYR : Hid (Rws w1 (.slice ya ([] : List (List Nd)).length yc) []) := ⟨cs, hyr, ho.rwc⟩
  clear hyr
  replace I := Lib.hid (I.out.below hb)
  clear ho hb
  go_wp2_with fail
  refine (kidsR_any _ l _ I.out.nds (by omega)).mono ?_
  rw [HLS.out]
  rintro e w2 ⟨y2, rfl, hy2, hb⟩
  replace HYR := Lib.hid (HYR.out.below hb)
  replace I := Lib.hid (I.out.below hb)
  clear hb
  obtain ⟨_, ⟨_, ya2, yc2, rfl, -⟩, _⟩ := hy2
  go_wp2_with fail
  refine Go.wp_loop_rounds 1 ?_
  rw [rounds_succ]
  go_wp2_with fail
  refine (C.cSize _ l _ I.out.nds (by omega)).mono ?_
  rw [HN.out]
  rintro e w3 ⟨rfl, hb⟩
  replace I := Lib.hid (I.out.below hb)
  replace HYR := Lib.hid (HYR.out.below hb)
  clear hb
  have hpos : 0 < l.length := by omega
  obtain ⟨g, w4, hrun, hg, hb4⟩ := given_run w3 I.out.nds (by omega)
  obtain ⟨_, ga, gc, rfl, hgc, _, hcell⟩ := id hg
  obtain ⟨gb, go', rfl, -⟩ := hcell hpos
  have R := Lib.hid hrun
  have HG := Lib.hid hg.rd
  replace I := Lib.hid (I.out.below hb4)
  replace HYR := Lib.hid (HYR.out.below hb4)
  obtain ⟨e1, e2, e3⟩ := HA.out 0 hpos
  rw [Nat.zero_mul, Nat.add_zero] at e1 e2 e3
  have d1 : w4.cell? ⟨bl, ol, none⟩ = some (.int .i64 l[0].k) := by rw [I.out.bel.cell (Ap.cell_lt e1)]; exact e1
  have d2 : w4.cell? ⟨bl, ol + 1, none⟩ = some (.string l[0].n) := by rw [I.out.bel.cell (Ap.cell_lt e2)]; exact e2
  have d3 : w4.cell? ⟨bl, ol + 2, none⟩ = some (.int .i64 l[0].s) := by rw [I.out.bel.cell (Ap.cell_lt e3)]; exact e3
  have HFL : Hid (l[0] :: ([] : List (List Nd)).flatten = l.take n) := made_of HLS.out HN.out hsz hpos
  obtain ⟨x0, hx0⟩ : ∃ x, l[0] = x := ⟨_, rfl⟩
  rw [hx0] at d1 d2 d3 HFL
  clear hrun hg hb4 hcell e1 e2 e3 hx0
  go_wp2_with (at_builtin; refine Ap.wpList_append_run (by rfl) (.tmp 50) (.tmp 51) _ _ rfl _ _ rfl rfl _ w4 R.out ?_)
  refine (C.cMake x0 _ [] _ HYR.out (by simp) (by simp)).mono ?_
  rw [HFL.out]
  rintro e w5 ⟨m, rfl, hm, hb⟩
  have HM : Hid (Nds w5 m (l.take n)) := hm.rd
  replace I := Lib.hid (I.out.below hb)
  replace HG := Lib.hid (Ap.Rd.below HG.out hb)
  clear R hm hb d1 d2 d3 HFL HYR
  go_wp2_with fail
  refine Go.wp_loop_rounds 1 ?_
  rw [rounds_succ]
  have F : Hid (Kf w (.slice (some ⟨bl, ol, none⟩) l.length cap) m gb go' gc l n w5) := by
    refine ⟨I.out.bel, I.out.nds, HG.out, ?_, HM.out⟩
    rcases (show Nds w5 _ l from HG.out).form with ⟨h, _⟩ | ⟨b', o', c', he, _, hat⟩
    · rw [h] at hpos
      exact absurd hpos (Nat.lt_irrefl 0)
    · injection he with e1 e2 e3
      injection e1 with e1
      injection e1 with e4 e5
      subst e3 e4 e5
      have := part_nds hat 0 n gc (by omega) (by omega)
      rw [Nat.zero_mul, Nat.add_zero, List.drop_zero] at this
      exact this
  have hngc : n ≤ gc := by omega
  clear I HG HM
  go_wp2_with fail
  refine (alive_any C _).mono ?_
  rintro e wn ⟨rfl, hb⟩
  replace F := Lib.hid (F.out.below hb)
  clear hb
  go_wp2_with fail
  refine (sameR_any _ _ (l.take n) (l.take n) _ F.out.m F.out.gn (by rw [List.length_take]; omega)).mono ?_
  rw [sameN_self]
  rintro e wn ⟨rfl, hb⟩
  replace F := Lib.hid (F.out.below hb)
  clear hb
  go_wp2_with fail
  refine (sameR_any _ _ l l _ F.out.ln F.out.g (by omega)).mono ?_
  rw [sameN_self]
  rintro e wn ⟨rfl, hb⟩
  replace F := Lib.hid (F.out.below hb)
  clear hb
  go_wp2_with fail
  go_ret
  exact ⟨rfl, F.out.bel⟩

set_option maxHeartbeats 2000000 in
theorem kids_law (C : Con) (v : Value) (l : List Nd) (w : World) (hv : Nds w v l) :
    Calls Try.prog 5 #[v] w fun e w' => e = .returned (.bool true) ∧ Below w.heap.size w w' := by
  by_cases h1 : l.length ≤ 250
  · by_cases hz : size l = 0
    · have hv' := hv
      obtain ⟨_, a, cap, rfl, -⟩ := hv'
      exact kidsL_none C a cap l w hv h1 hz
    · rcases hv.form with ⟨rfl, _⟩ | ⟨b, o, cap, rfl, _, hat⟩
      · exact absurd rfl hz
      · by_cases hk : kids l = []
        · exact kidsL_leaf C b o cap l w hv hat h1 hz hk
        · exact kidsL_some C b o cap l w hv hat h1 (List.length_pos_iff.2 hk)
  · have HV := Lib.hid hv
    obtain ⟨_, a, cap, rfl, -⟩ := hv
    go_enter Try.func5, Try.ntmps5
    go_wp2_with fail
    refine (few_any _ l _ HV.out).mono ?_
    rintro e w' ⟨rfl, rfl⟩
    rw [decide_eq_false h1]
    go_wp2_with fail
    refine (alive_any C _).mono ?_
    rintro e wn ⟨rfl, hb⟩
    go_wp2_with fail
    go_ret
    exact ⟨rfl, hb⟩
end Go.Proofs.Ytonhnajmofkcnaa.Rw
