/- The program's Enabled, round, Pick: the walks. StepPuts: the walk. The statements' own first look at package move: the walk. Plain: a move of the one beside a move of the other, as rows. The program's round, Pick: the walks. -/
import Derived.Test.YtaapnkoooofalaaQ29
import Derived.Test.YtaapnkoooofalaaQ28
import Derived.Test.YtaapnkoooofalaaQ07
import Derived.Test.YtaapnkoooofalaaQ16
import Derived.Test.YtaapnkoooofalaaQ23
import Derived.Test.YtaapnkoooofalaaQ03

namespace Go.Proofs.Ytaapnkoooofalaa.Me
open Go Go.RowKit Rw So Se Do
set_option maxRecDepth 20000
theorem flat_tk {α β : Type} {f : α → List β} {l : List α} {k : Nat} (h : k < l.length) : (l.take (k + 1)).flatMap f = (l.take k).flatMap f ++ f l[k] := by
  rw [List.take_succ_eq_append_getElem h, List.flatMap_append]
  simp
set_option maxHeartbeats 4000000 in
theorem enabledP_any (v : Value) (l : List Nd) (w : World) (hv : Nds w v l) (hl : l.length ≤ 1000) (hm : Nms l) :
    Calls Try.prog 13 #[v] w fun e w' => ∃ y, e = .returned y ∧ Mvs w' y (enR l) ∧ Below w.heap.size w w' := by
  have HA := Lib.hid (actP_any v l w hv hl hm)
  have HM := Lib.hid (fun z (hz : z ∈ av l) w1 (hb : Below w.heap.size w w1) => movesAt_any v l z w1 (hv.below hb) hl hm hz)
  have HW : Hid (∀ z ∈ av l, (hw (kn l z) (fr l z) z).length ≤ 2) := Lib.hid fun z _ => hw_len _ _ _
  have hvl : (av l).length ≤ 1000 := Nat.le_trans (av_len l) hl
  unfold enR
  obtain ⟨f, hf⟩ : ∃ f : Int → List Mv, (fun z => hw (kn l z) (fr l z) z) = f := ⟨_, rfl⟩
  have hfz : ∀ z, hw (kn l z) (fr l z) z = f z := fun z => congrFun hf z
  simp only [hfz] at HM HW
  rw [hf]
  obtain ⟨_, a0, c0, rfl, -⟩ := id hv
  generalize av l = V at HA HM HW hvl ⊢
  clear hv hm hf hfz
  go_enter Try.func13, Try.ntmps13
  go_wp2_with fail
  refine HA.out.mono ?_
  rintro e w1 ⟨y, rfl, hi, hb1⟩
  have D1 := Lib.hid hb1
  have I1 := Lib.hid hi
  obtain ⟨_, ay, cy, rfl, -⟩ := id hi
  clear hb1 hi
  go_wp2_with fail
  go_loopw [3, 9] (fun s i wr => ∃ (k : Nat) (a : Option Addr) (m cc : Nat) (os : List Mv), k ≤ V.length ∧ m ≤ 2 * k ∧ i = .int .i64 k ∧ s = .slice a m cc ∧ Hid (os.length = m) ∧ Hid ((V.take k).flatMap f = os) ∧ Hid (GotM w1.heap.size wr (.slice a m cc) os) ∧ Hid (Below w1.heap.size w1 wr)) (fun _ i _ => V.length - (intOf i).toNat)
  case atStart => exact ⟨0, none, 0, 0, [], Nat.zero_le _, Nat.zero_le _, rfl, rfl, Lib.hid rfl, Lib.hid rfl, Lib.hid (GotM.start (Nat.le_refl _)), Lib.hid (Below.refl _ _)⟩
  case round =>
    obtain ⟨k, a, m, cc, os, hk, hmk, rfl, rfl, HL, HO, HG, HD⟩ := hrel
    by_cases hlt : k < V.length
    · rcases (I1.out.below HD.out).form with ⟨h0, _⟩ | ⟨bq, oq, cq, eq, _, hat⟩
      · rw [h0] at hlt; simp at hlt
      have e1 := hat k hlt
      injection eq with q1 _ q3
      subst q1
      subst q3
      have DW := Lib.hid (D1.out.trans (HD.out.mono D1.out.size))
      have HMk := Lib.hid (HM.out _ (List.getElem_mem hlt) wr DW.out)
      have HWk := Lib.hid (HW.out _ (List.getElem_mem hlt))
      have HT := Lib.hid (flat_tk (f := f) hlt)
      obtain ⟨z, hz⟩ : ∃ z, V[k] = z := ⟨_, rfl⟩
      rw [hz] at e1 HMk HWk HT
      obtain ⟨R, hR⟩ : ∃ R, f z = R := ⟨_, rfl⟩
      rw [hR] at HMk HWk HT
      clear hat hz hR
      go_wp2_with fail
      refine HMk.out.mono ?_
      rintro e w2 ⟨y2, rfl, hy2, hb2⟩
      have hwl : R.length ≤ 2 := HWk.out
      obtain ⟨v', w3, hrun, hgot, hb3⟩ := (HG.out.below hb2).row hy2 (by rw [HL.out]; omega)
      have D3 := Lib.hid ((HD.out.trans (hb2.mono HD.out.size)).trans hb3)
      obtain ⟨r, hr⟩ : ∃ r, R.length = r := ⟨_, rfl⟩
      obtain ⟨a', c', rfl⟩ : ∃ a' c', v' = .slice a' (m + r) c' := by
        obtain ⟨_, a', c', e', -⟩ := hgot.mvs
        rw [List.length_append, HL.out, hr] at e'
        exact ⟨a', c', e'⟩
      have HX : Hid ((V.take (k + 1)).flatMap f = os ++ R) := by
        show _ = _
        rw [HT.out, HO.out]
      have HL' : Hid ((os ++ R).length = m + r) := by
        show _ = _
        rw [List.length_append, HL.out, hr]
      have HRL : Hid (r ≤ 2) := Lib.hid (by omega)
      have HRUN := Lib.hid hrun
      have HG' := Lib.hid hgot
      obtain ⟨_, ay2, cy2, rfl, -⟩ := id hy2
      clear hrun hgot hb2 hb3 hwl hy2
      rw [hr] at HRUN
      have HR := Lib.hid hr
      rw [hr]
      clear hr
      go_wp2_with (at_builtin; refine Ap.wpList_append_run (by rfl) (.tmp 13) (.tmp 16) _ _ rfl _ _ rfl rfl _ w3 HRUN.out ?_)
      go_roundw
      case rel => exact ⟨k + 1, a', m + r, c', os ++ R, by omega, by have := HRL.out; omega, by go_num, rfl, HL', HX, HG', D3⟩
      case measure => simp [intOf]; omega
    · have HZ : Hid (V.flatMap f = os) := by
        have := HO.out
        rwa [List.take_of_length_le (by omega)] at this
      go_wp2_with fail
      go_ret
      exact ⟨_, rfl, by rw [HZ.out]; exact HG.out.mvs, D1.out.trans (HD.out.mono D1.out.size)⟩
end Go.Proofs.Ytaapnkoooofalaa.Me

namespace Go.Proofs.Ytaapnkoooofalaa.St
open Go Go.RowKit Rw So Se Do Sp Me
set_option maxRecDepth 20000
theorem putR_len (l : List Nd) (z : Int) (x : List Nd) : (putR l z x).length ≤ l.length + x.length := by
  unfold putR
  split
  · omega
  · unfold putN
    split
    · omega
    · simp only [List.length_append, List.length_take, List.length_drop]
      omega
structure WB (n g : Nat) (w : World) : Prop where
  cell : ∀ j : Nat, j < n → ∃ u, w.cell? ⟨g, j, none⟩ = some u
  soft : ∀ j : Nat, w.frozen? ⟨g, j, none⟩ = false
theorem WB.set {n g : Nat} {w : World} (h : WB n g w) (o : Nat) (v : Value) : WB n g (w.setCell ⟨g, o, none⟩ v) := by
  refine ⟨fun j hj => ?_, fun j => by rw [frozen_set]; exact h.soft j⟩
  obtain ⟨u, hu⟩ := h.cell j hj
  by_cases e : j = o
  · subst e
    exact ⟨v, cell_set_eq hu⟩
  · exact ⟨u, by rw [cell_set_o (fun e' => e e'.symm)]; exact hu⟩
theorem WB.below {n g M : Nat} {w w' : World} (h : WB n g w) (hb : Below M w w') (hg : g < M) : WB n g w' :=
  ⟨fun j hj => by obtain ⟨u, hu⟩ := h.cell j hj; exact ⟨u, by rw [hb.cell (p := ⟨g, j, none⟩) hg]; exact hu⟩, fun j => (World.frozen?_of_block (hb.block _ hg)).trans (h.soft j)⟩
theorem own_wb {w : World} {base : Nat} {y : Value} {L : List Nd} (h : w.ownsRow base 28 3 y L.length (cls L)) (h0 : 0 < L.length) : ∃ g c, y = .slice (some ⟨g, 0, none⟩) L.length c ∧ base ≤ g ∧ g < w.heap.size ∧ L.length ≤ c ∧ WB (L.length * 3) g w := by
  obtain ⟨hl, ⟨rfl, h2⟩ | ⟨g, cap, cur, rfl, hb, hh, h1, h2, h3, h4⟩⟩ := h
  · exact absurd h2 (by omega)
  · refine ⟨g, cap, rfl, hb, Nat.lt_of_not_le (fun hle => by rw [Array.getElem?_eq_none hle] at hh; cases hh), h1, fun j hj => ?_, fun j => by simp [World.frozen?, hh]⟩
    have : j < cur.size := by rw [h3]; omega
    exact ⟨cur[j], by simp [World.cell?, hh, this]⟩
set_option maxHeartbeats 8000000 in
theorem puts_law (C : Con) (A : Alive) (v vx : Value) (l x : List Nd) (z : Int) (w0 : World) (hv : Nds w0 v l) (hx : Nds w0 vx x) :
    Calls Try.prog 3 #[v, .int .i64 z, vx] w0 fun e w' => e = .returned (.bool true) ∧ Below w0.heap.size w0 w' := by
  have HF := Lib.hid (few_any v l w0 hv)
  have HG := Lib.hid (few_any vx x w0 hx)
  have HA := Lib.hid A
  unfold Alive at HA
  by_cases hf : Do.fewB l = true ∧ Do.fewB x = true
  · obtain ⟨hf, hg⟩ := hf
    rw [hf] at HF
    rw [hg] at HG
    have hl := Do.few_len hf
    have hxl := Do.few_len hg
    have HP := Lib.hid (fun w1 (hb : Below w0.heap.size w0 w1) => C.put v vx l x z w1 (hv.below hb) (hx.below hb) (by omega) (by omega))
    have HR := Lib.hid (fun w1 (hb : Below w0.heap.size w0 w1) => putR_any v vx l x z w1 (hv.below hb) (hx.below hb) (by omega) (by omega))
    have HV := Lib.hid (fun w1 (hb : Below w0.heap.size w0 w1) => hv.below hb)
    have hpl := putR_len l z x
    have DA := below1 w0 (.cells #[] 28)
    obtain ⟨v1, w1, hrun, hown, _, hb1, _⟩ := run_append_nds (l := []) (Rx.own_madeK w0) DA.size (hv.below DA) (by simp; omega)
    rw [List.nil_append] at hown
    have RUN := Lib.hid hrun
    have D1 := Lib.hid (DA.trans hb1)
    have G1 := Lib.hid (Ap.Rd.owned hown)
    generalize putR l z x = X at HP HR hpl
    have HXL : Hid (X.length ≤ 1000000) := Lib.hid (by omega)
    have HLL : Hid (l.length ≤ 1000000) := Lib.hid (by omega)
    obtain ⟨_, a, c, rfl, -⟩ := id hv
    obtain ⟨_, ax, cx, rfl, -⟩ := id hx
    clear hv hx hf hg hl hxl hpl DA hrun hown hb1
    go_enter Try.func3, Try.ntmps3
    go_wp2_with fail
    refine HF.out.mono ?_
    rintro e w2 ⟨rfl, rfl⟩
    go_wp2_with fail
    refine HG.out.mono ?_
    rintro e w2 ⟨rfl, rfl⟩
    clear HF HG
    go_wp2_with (at_builtin; refine Ap.wpList_append_run (by rfl) _ _ _ _ rfl _ _ rfl rfl v1 w1 RUN.out ?_)
    refine (HP.out _ D1.out).mono ?_
    rintro e w3 ⟨y3, rfl, hown, hb3⟩
    have D3 := Lib.hid (D1.out.trans (hb3.mono D1.out.size))
    have E3 := Lib.hid hb3
    have N3 : Hid (Nds w3 y3 X) := Lib.hid (Ap.Rd.owned hown)
    have O3 := Lib.hid hown
    obtain ⟨_, ay, cy, rfl, -⟩ := id N3.out
    clear hb3 hown
    go_wp2_with fail
    refine (HR.out _ D3.out).mono ?_
    rintro e w4 ⟨y4, rfl, hn4, hb4⟩
    have D4 := Lib.hid (D3.out.trans (hb4.mono D3.out.size))
    have E4 := Lib.hid (E3.out.trans (hb4.mono E3.out.size))
    have N4 := Lib.hid hn4
    have N3' := Lib.hid (N3.out.below hb4)
    have O4 := Lib.hid (Ap.own_below O3.out hb4)
    clear hb4 hn4 O3 N3
    go_wp2_with fail
    refine (sameR_any _ _ X X _ N3'.out N4.out HXL.out).mono ?_
    rw [show sameN X X = true from decide_eq_true rfl]
    rintro e w5 ⟨rfl, hb5⟩
    have D5 := Lib.hid (D4.out.trans (hb5.mono D4.out.size))
    have E5 := Lib.hid (E4.out.trans (hb5.mono E4.out.size))
    have O5 := Lib.hid (Ap.own_below O4.out hb5)
    clear hb5 O4 N3' N4
    have FIN : Hid (∀ wr, Below w1.heap.size w1 wr → Below w0.heap.size w0 wr ∧ Nds wr (.slice a l.length c) l ∧ Nds wr v1 l) := Lib.hid fun wr hb => ⟨D1.out.trans (hb.mono D1.out.size), HV.out wr (D1.out.trans (hb.mono D1.out.size)), Nds.below G1.out hb⟩
    by_cases h0 : 0 < X.length
    · obtain ⟨g, c3, ey, hg1, hg2, hc3, hwb⟩ := own_wb O5.out h0
      injection ey with ey1 _ ey3
      subst ey1
      subst ey3
      have HG : Hid (w1.heap.size ≤ g) := Lib.hid hg1
      have W5 := Lib.hid hwb
      obtain ⟨n, hn⟩ : ∃ n, X.length = n := ⟨_, rfl⟩
      rw [hn] at h0 W5 ⊢
      have hnb : n ≤ 1000000 := hn ▸ HXL.out
      clear hg1 hg2 hc3 hwb O5 HXL hn
      go_wp2_with fail
      go_loopw [37] (fun i wr => ∃ k : Nat, k ≤ n ∧ i = .int .i64 k ∧ Hid (Below w1.heap.size w1 wr) ∧ Hid (WB (n * 3) g wr)) (fun i _ => n - (intOf i).toNat)
      case atStart => exact ⟨0, Nat.zero_le _, rfl, E5, W5⟩
      case round =>
        obtain ⟨k, hk, rfl, HB, HW⟩ := hrel
        by_cases hlt : k < n
        · obtain ⟨u0, c0⟩ := HW.out.cell (k * 3) (by omega)
          obtain ⟨u1, c1⟩ := HW.out.cell (k * 3 + 1) (by omega)
          obtain ⟨u2, c2⟩ := HW.out.cell (k * 3 + 2) (by omega)
          have s0 := HW.out.soft (k * 3)
          have s1 := HW.out.soft (k * 3 + 1)
          have s2 := HW.out.soft (k * 3 + 2)
          have hkn : (k : Int) < n := by omega
          have HW2 : Hid (∀ x0 x1 x2, WB (n * 3) g (((wr.setCell ⟨g, k * 3, none⟩ x0).setCell ⟨g, k * 3 + 1, none⟩ x1).setCell ⟨g, k * 3 + 2, none⟩ x2)) := Lib.hid fun x0 x1 x2 => ((HW.out.set _ x0).set _ x1).set _ x2
          have HB2 : Hid (∀ x0 x1 x2, Below w1.heap.size w1 (((wr.setCell ⟨g, k * 3, none⟩ x0).setCell ⟨g, k * 3 + 1, none⟩ x1).setCell ⟨g, k * 3 + 2, none⟩ x2)) := Lib.hid fun x0 x1 x2 => Rx.below_setCell (Rx.below_setCell (Rx.below_setCell HB.out _ _ _ HG.out) _ _ _ HG.out) _ _ _ HG.out
          go_wp2_with fail
          go_roundw
          case rel => exact ⟨k + 1, by omega, by go_num, Lib.hid (HB2.out _ _ _), Lib.hid (HW2.out _ _ _)⟩
          case measure => simp [intOf]; omega
        · obtain ⟨f1, f2, f3⟩ := FIN.out _ HB.out
          have F1 := Lib.hid f1
          have F2 := Lib.hid f2
          have F3 := Lib.hid f3
          clear f1 f2 f3
          go_wp2_with fail
          refine (HA.out _).mono ?_
          rintro e w7 ⟨rfl, hb7⟩
          have D7 := Lib.hid (F1.out.trans (hb7.mono F1.out.size))
          have P2 := Lib.hid (F2.out.below hb7)
          have P3 := Lib.hid (F3.out.below hb7)
          clear hb7
          go_wp2_with fail
          refine (sameR_any _ _ l l _ P2.out P3.out HLL.out).mono ?_
          rw [show sameN l l = true from decide_eq_true rfl]
          rintro e w8 ⟨rfl, hb8⟩
          have D8 := Lib.hid (D7.out.trans (hb8.mono D7.out.size))
          clear hb8
          go_wp2_with fail
          go_ret
          exact ⟨rfl, D8.out⟩
    · obtain rfl : X = [] := List.eq_nil_of_length_eq_zero (by omega)
      simp only [List.length_nil]
      obtain ⟨f1, f2, f3⟩ := FIN.out _ E5.out
      have F1 := Lib.hid f1
      have F2 := Lib.hid f2
      have F3 := Lib.hid f3
      clear f1 f2 f3 O5 h0 HXL
      go_wp2_with fail
      refine Go.wp_loop_rounds 1 ?_
      rw [rounds_succ]
      go_wp2_with fail
      refine (HA.out _).mono ?_
      rintro e w7 ⟨rfl, hb7⟩
      have D7 := Lib.hid (F1.out.trans (hb7.mono F1.out.size))
      have P2 := Lib.hid (F2.out.below hb7)
      have P3 := Lib.hid (F3.out.below hb7)
      clear hb7
      go_wp2_with fail
      refine (sameR_any _ _ l l _ P2.out P3.out HLL.out).mono ?_
      rw [show sameN l l = true from decide_eq_true rfl]
      rintro e w8 ⟨rfl, hb8⟩
      have D8 := Lib.hid (D7.out.trans (hb8.mono D7.out.size))
      clear hb8
      go_wp2_with fail
      go_ret
      exact ⟨rfl, D8.out⟩
  · obtain ⟨_, a, c, rfl, -⟩ := id hv
    obtain ⟨_, ax, cx, rfl, -⟩ := id hx
    clear hv hx
    cases h1 : Do.fewB l with
    | false =>
      rw [h1] at HF
      clear hf h1
      go_enter Try.func3, Try.ntmps3
      go_wp2_with fail
      refine HF.out.mono ?_
      rintro e w2 ⟨rfl, rfl⟩
      go_wp2_with fail
      refine (HA.out _).mono ?_
      rintro e w7 ⟨rfl, hb7⟩
      have D7 := Lib.hid hb7
      clear hb7
      go_wp2_with fail
      go_ret
      exact ⟨rfl, D7.out⟩
    | true =>
      cases h2 : Do.fewB x with
      | true => exact absurd ⟨h1, h2⟩ hf
      | false =>
        rw [h1] at HF
        rw [h2] at HG
        clear hf h1 h2
        go_enter Try.func3, Try.ntmps3
        go_wp2_with fail
        refine HF.out.mono ?_
        rintro e w2 ⟨rfl, rfl⟩
        go_wp2_with fail
        refine HG.out.mono ?_
        rintro e w2 ⟨rfl, rfl⟩
        go_wp2_with fail
        refine (HA.out _).mono ?_
        rintro e w7 ⟨rfl, hb7⟩
        have D7 := Lib.hid hb7
        clear hb7
        go_wp2_with fail
        go_ret
        exact ⟨rfl, D7.out⟩
end Go.Proofs.Ytaapnkoooofalaa.St

namespace Go.Proofs.Ytaapnkoooofalaa.Me
open Go Go.RowKit Rw So Se Do
set_option maxRecDepth 20000
abbrev tA : Tm := .par (.act ⟨#[97]⟩) .yield
def WL : List Mv := [⟨1, 1⟩, ⟨2, 4⟩, ⟨2, 5⟩]
theorem gA : Goes tA := ⟨by decide +kernel, by decide, by decide⟩
theorem nA : Nf tA := ⟨trivial, trivial, rfl, rfl⟩
def RAl (bL : Nat) (k : Nat) (v : Value) (w' : World) : Prop := match k with
  | 0 => v = .slice (some ⟨bL, 0, none⟩) 3 3
  | 1 => Mvs w' v WL
  | 2 => v = .slice (some ⟨bL + 1, 0, none⟩) 3 3
  | 3 => v = .bool true
  | 4 => v = .bool true
  | 5 => v = .slice (some ⟨bL, 0, none⟩) 3 3
  | 6 => v = .slice (some ⟨bL + 1, 0, none⟩) 3 3
  | 7 => v = .pointer (some ⟨bL + 1, 4, none⟩)
  | 8 => v = .agg #[.int .i64 2, .int .i64 5]
  | 9 => v = .bool true
  | 10 => v = .bool true
  | 11 => v = .bool true
  | 12 => v = .slice (some ⟨bL, 0, none⟩) 3 3
  | 13 => v = .agg #[.int .i64 1, .int .i64 5]
  | 14 => v = .bool false
  | 15 => v = .bool true
  | 16 => v = .bool true
  | 17 => v = .bool true
  | 18 => v = .agg #[.int .i64 2, .int .i64 4]
  | 19 => v = .slice (some ⟨bL + 1, 0, none⟩) 3 3
  | 20 => v = .pointer (some ⟨bL + 1, 2, none⟩)
  | 21 => v = .agg #[.int .i64 2, .int .i64 4]
  | 22 => v = .bool true
  | 23 => v = .bool true
  | 24 => v = .bool true
  | 25 => v = .int .i64 0
  | 26 => v = .bool true
  | 27 => v = .bool true
  | 28 => v = .bool true
  | 29 => v = .agg #[.int .i64 2, .int .i64 5]
  | 30 => v = .slice (some ⟨bL + 1, 0, none⟩) 3 3
  | 31 => v = .pointer (some ⟨bL + 1, 4, none⟩)
  | 32 => v = .agg #[.int .i64 2, .int .i64 5]
  | 33 => v = .bool true
  | 34 => v = .bool true
  | 35 => v = .bool true
  | 36 => v = .int .i64 120
  | 37 => v = .bool true
  | 38 => v = .bool true
  | 39 => v = .bool true
  | 40 => v = .agg #[.int .i64 2, .int .i64 4]
  | 41 => v = .string ⟨#[103, 111, 32, 50]⟩
  | 42 => v = .bool true
  | 43 => v = .bool true
  | 44 => v = .bool true
  | 45 => v = .agg #[.int .i64 0, .int .i64 9]
  | 46 => v = .string ⟨#[]⟩
  | 47 => v = .bool true
  | 48 => v = .bool true
  | 49 => v = .bool true
  | _ => True
theorem RAl.below {bL : Nat} {k : Nat} {v : Value} {w w' : World} (h : RAl bL k v w) (hb : Below w.heap.size w w') : RAl bL k v w' := by
  unfold RAl at h ⊢
  split at h
  case h_2 => exact Mvs.below h hb
  all_goals exact h
theorem RAl.put {w4 : World} {bL : Nat} {v : Value} {w w' : World} {f : Nat → Bool} {us : Nat → Value} {i : Nat} (g : Rg.Kept (fun w' => Below w4.heap.size w4 w') (RAl bL) f us w) (hb : Below w.heap.size w w') (hv : RAl bL i v w') :
    Rg.Kept (fun w' => Below w4.heap.size w4 w') (RAl bL) (Rg.upd f i true) (Rg.upd us i v) w' :=
  Rg.Kept.put (Base := fun w' => Below w4.heap.size w4 w') (R := RAl bL) (fun _ _ h hb => h.trans (hb.mono h.size)) (fun _ _ _ _ h hb => RAl.below h hb) g hb hv
theorem step0 {w0 w : World} (xp xh : Int) (D : Below w0.heap.size w0 w) : Below w0.heap.size w0 (w.alloc (.cells #[.int .i64 xp, .int .i64 xh] 33)) ∧ Bm (w.alloc (.cells #[.int .i64 xp, .int .i64 xh] 33)) w.heap.size ⟨xp, xh⟩ :=
  ⟨D.trans ((below1 w _).mono D.size), Bm.new w ⟨xp, xh⟩⟩
end Go.Proofs.Ytaapnkoooofalaa.Me

namespace Go.Proofs.Ytaapnkoooofalaa.St
open Go Go.RowKit Rw So Se Do Sp Me
theorem mo_p {t : Tm} {mo : Mo} (h : mo ∈ mvs true t 0) : mo.p ≤ sz t := by
  obtain ⟨pre, s, post, u, e1, e2, _, _⟩ := mv_put t true 0 mo h
  have := congrArg List.length e1
  rw [Se.flat_len] at this
  simp only [List.length_append] at this
  omega
theorem par_goes {a b : Tm} (ga : Goes a) (gb : Goes b) (ha : is a 3 = true) (hb : is b 3 = true) (hs : sz a + sz b ≤ 90) : Goes (.par a b) := by
  refine ⟨?_, by simp only [sz]; omega, .inl (by simp [is, ha, hb])⟩
  have h1 := ga.1
  have h2 := gb.1
  unfold rg at h1 h2 ⊢
  rw [show flat (.par a b) = nOf 7 :: (flat a ++ flat b) from rfl, List.all_cons, List.all_append, h1, h2]
  decide +kernel
theorem par_nf {a b : Tm} (na : Nf a) (nb : Nf b) (ha : isOver a = false ∧ isFin a = false) : Nf (.par a b) := by
  have h : S (.par a b) = .par a b := by
    rw [S_par, nf_S a na, nf_S b nb]
    exact par_stay_l ha
  rw [← h]
  exact S_nf _
structure Bes (a b : List Nd) (m n : Mv) (x u : List Nd) : Prop where
  ex : nxL (nOf 7 :: (a ++ b)) ⟨m.p + 1, m.h⟩ = x
  eu : nxL (nOf 7 :: (a ++ b)) ⟨n.p + 1 + a.length, n.h⟩ = u
  e1 : nxE (nOf 7 :: (a ++ b)) ⟨m.p + 1, m.h⟩ = 0
  e2 : nxE (nOf 7 :: (a ++ b)) ⟨n.p + 1 + a.length, n.h⟩ = 0
  e3 : nxE x ⟨n.p + 1 + a.length + x.length - (1 + a.length + b.length), n.h⟩ = 0
  e4 : nxE u ⟨m.p + 1, m.h⟩ = 0
  l : nxL x ⟨n.p + 1 + a.length + x.length - (1 + a.length + b.length), n.h⟩ = nxL u ⟨m.p + 1, m.h⟩
  s1 : nxS (nOf 7 :: (a ++ b)) ⟨m.p + 1, m.h⟩ = nxS u ⟨m.p + 1, m.h⟩
  s2 : nxS x ⟨n.p + 1 + a.length + x.length - (1 + a.length + b.length), n.h⟩ = nxS (nOf 7 :: (a ++ b)) ⟨n.p + 1 + a.length, n.h⟩
  xl : x.length ≤ 200
  ul : u.length ≤ 200
  xn : Nms x
  un : Nms u
  ln : Nms (nOf 7 :: (a ++ b))
  yl : (nxL u ⟨m.p + 1, m.h⟩).length ≤ 200
  mp : 0 ≤ m.p ∧ m.p ≤ 90
  np : 0 ≤ n.p ∧ n.p ≤ 90
theorem bes_all {a b : List Nd} (sa : setB a = true) (sb : setB b = true) (oa : onB a false = true) (ob : onB b false = true) (hl : a.length + b.length ≤ 90) {m n : Mv} (hm : m ∈ enR a) (hn : n ∈ enR b) : ∃ x u, Bes a b m n x u := by
  obtain ⟨ta, rfl, ga, na⟩ := set_iff.1 sa
  obtain ⟨tb, rfl, gb, nb⟩ := set_iff.1 sb
  obtain ⟨mo, h1, rfl⟩ := en_mo ga na hm
  obtain ⟨no, h2, rfl⟩ := en_mo gb nb hn
  rw [on_flat ga.1 ga.2.1 false] at oa
  rw [on_flat gb.1 gb.2.1 false] at ob
  have ia : is ta 3 = true := oa
  have ib : is tb 3 = true := ob
  rw [Se.flat_len, Se.flat_len] at hl
  have gl := par_goes ga gb ia ib hl
  have nl := par_nf na nb (mv_over h1)
  obtain ⟨b1, b2, b3, b4, b5⟩ := beside na nb h1 h2
  have m1 := mv_par_l (b := tb) h1
  have m2 := mv_par_r (a := ta) h2
  obtain ⟨p1, p2, p3⟩ := nx_of gl nl m1
  obtain ⟨q1, q2, q3⟩ := nx_of gl nl m2
  have gx := (mo_goes gl m1).S
  have gu := (mo_goes gl m2).S
  have nx := S_nf (.par mo.r tb)
  have nu := S_nf (.par ta no.r)
  rw [b1] at p1
  rw [b2] at q1
  simp only [b1] at gx nx
  simp only [b2] at gu nu
  obtain ⟨r1, r2, r3⟩ := nx_of gx nx b3
  obtain ⟨s1, s2, s3⟩ := nx_of gu nu b4
  have gy := (mo_goes gu b4).S
  have f1 : mvOf ⟨mo.p + 1, mo.h, mo.l, .par mo.r tb⟩ = ⟨(mvOf mo).p + 1, (mvOf mo).h⟩ := rfl
  have f2 : mvOf ⟨no.p + (1 + sz ta), no.h, no.l, .par ta no.r⟩ = ⟨(mvOf no).p + 1 + (flat ta).length, (mvOf no).h⟩ := by
    rw [Se.flat_len]
    show (⟨((no.p + (1 + sz ta) : Nat) : Int), no.h⟩ : Mv) = ⟨(no.p : Int) + 1 + (sz ta : Nat), no.h⟩
    congr 1
    omega
  have f3 : mvOf ⟨no.p + (1 + sz (S mo.r)), no.h, no.l, .par (S mo.r) no.r⟩ = ⟨(mvOf no).p + 1 + (flat ta).length + (flat (.par (S mo.r) tb)).length - (1 + (flat ta).length + (flat tb).length), (mvOf no).h⟩ := by
    rw [Se.flat_len, Se.flat_len, Se.flat_len]
    show (⟨((no.p + (1 + sz (S mo.r)) : Nat) : Int), no.h⟩ : Mv) = ⟨(no.p : Int) + 1 + (sz ta : Nat) + (sz (.par (S mo.r) tb) : Nat) - (1 + (sz ta : Nat) + (sz tb : Nat)), no.h⟩
    congr 1
    simp only [sz]
    omega
  have f4 : mvOf ⟨mo.p + 1, mo.h, mo.l, .par mo.r (S no.r)⟩ = ⟨(mvOf mo).p + 1, (mvOf mo).h⟩ := rfl
  rw [f1] at p1 p2 p3
  rw [f2] at q1 q2 q3
  rw [f3] at r1 r2 r3
  rw [f4] at s1 s2 s3
  have e0 : flat (.par ta tb) = nOf 7 :: (flat ta ++ flat tb) := rfl
  rw [e0] at p1 p2 p3 q1 q2 q3
  have z1 := mo_p h1
  have z2 := mo_p h2
  refine ⟨_, _, p1, q1, p3, q3, r3, s3, ?_, p2.trans s2.symm, r2.trans q2.symm, by rw [Se.flat_len]; exact gx.2.1, by rw [Se.flat_len]; exact gu.2.1, nms_goes gx.1, nms_goes gu.1, e0 ▸ nms_goes gl.1, ?_, ⟨Int.natCast_nonneg _, ?_⟩, ⟨Int.natCast_nonneg _, ?_⟩⟩
  · rw [r1, s1]
    simp only
    rw [b5]
  · rw [s1, Se.flat_len]
    exact gy.2.1
  · show (mo.p : Int) ≤ 90
    omega
  · show (no.p : Int) ≤ 90
    omega
end Go.Proofs.Ytaapnkoooofalaa.St

namespace Go.Proofs.Ytaapnkoooofalaa.Me
open Go Go.RowKit Rw So Se Do
set_option maxRecDepth 20000
set_option maxHeartbeats 1000000 in
theorem roundP_any (n : Int) (m : Nat) (w : World) (h0 : 0 < m) (hm : m ≤ 1000000) :
    Calls Try.prog 39 #[.int .i64 n, .int .i64 (m : Int)] w fun e w' => e = .returned (.int .i64 (nr n m : Nat)) ∧ w = w' := by
  have ht := nr_tmod (n := n) h0
  have hlt := nr_lt (n := n) h0
  obtain ⟨k, hk⟩ : ∃ k, nr n m = k := ⟨_, rfl⟩
  rw [hk] at ht hlt ⊢
  have hm3 : ((m : Int) == 0) = false := by rw [beq_eq_false_iff_ne]; omega
  have hm4 : (m : Int) ≠ 0 := by omega
  obtain ⟨r, hr⟩ : ∃ r, n.tmod (m : Int) = r := ⟨_, rfl⟩
  rw [hr] at ht
  have HR : Hid (n.tmod (m : Int) = r) := Lib.hid hr
  clear hk hr
  by_cases hneg : r < 0
  · rw [if_pos hneg] at ht
    have hw : Hid (wrap64 (n.tmod (m : Int) + m) = (k : Int)) := Lib.hid (by rw [HR.out, ← ht]; unfold wrap64; omega)
    have g1 : n.tmod (m : Int) < 0 := by rw [HR.out]; exact hneg
    clear ht hneg
    go_enter Try.func39, Try.ntmps39
    go_wp2_with fail
    go_ret
    exact ⟨ret_int hw.out, rfl⟩
  · rw [if_neg hneg] at ht
    have hw : Hid (n.tmod (m : Int) = (k : Int)) := Lib.hid (by rw [HR.out, ← ht])
    have g1 : ¬ n.tmod (m : Int) < 0 := by rw [HR.out]; exact hneg
    clear ht hneg
    go_enter Try.func39, Try.ntmps39
    go_wp2_with fail
    go_ret
    exact ⟨ret_int hw.out, rfl⟩
set_option maxHeartbeats 2000000 in
theorem pickP_any (v : Value) (l : List Nd) (n : Int) (w : World) (hv : Nds w v l) (hl : l.length ≤ 1000) (hm : Nms l) (_hn : In64 n) :
    Calls Try.prog 20 #[v, .int .i64 n] w fun e w' => e = .returned (.tuple #[mvV (pkM l n), .int .i64 (pkE l)]) ∧ Below w.heap.size w w' := by
  have DB := Lib.hid (below1 w (.cells #[.int .i64 0, .int .i64 0] 33))
  have HA := Lib.hid (fun w1 (hb : Below w.heap.size w w1) => enabledP_any v l w1 (hv.below hb) hl hm)
  have hvl : (enR l).length ≤ 2000 := Nat.le_trans (enR_len l) (by omega)
  have B0 := Lib.hid (Bm.new w ⟨0, 0⟩)
  have HSZ : Hid ((w.alloc (.cells #[.int .i64 0, .int .i64 0] 33)).heap.size = w.heap.size + 1) := Lib.hid (by simp)
  obtain ⟨_, a, c, rfl, -⟩ := id hv
  unfold pkM pkE
  generalize enR l = V at HA hvl ⊢
  clear hv hm
  by_cases h0 : V.length = 0
  · obtain rfl : V = [] := List.eq_nil_of_length_eq_zero h0
    clear hvl h0
    go_enter Try.func20, Try.ntmps20
    go_wp2_with fail
    refine (HA.out _ DB.out).mono ?_
    rintro e w1 ⟨y, rfl, hi, hb1⟩
    rw [HSZ.out] at hb1
    have B1 := Lib.hid (B0.out.below hb1 (Nat.lt_succ_self _))
    have D1 := Lib.hid (DB.out.trans (hb1.mono (Nat.le_succ _)))
    obtain ⟨k1, k2, k3, k4⟩ := B1.out.cells
    obtain ⟨_, ay, cy, rfl, -⟩ := id hi
    clear hb1 hi
    go_wp2_with fail
    refine ret_mv rfl rfl rfl (B1.out.put ⟨0, 0⟩) rfl ⟨rfl, ?_⟩
    exact Rx.below_setCell (Rx.below_setCell D1.out _ _ _ (Nat.le_refl _)) _ _ _ (Nat.le_refl _)
  · have hk := nr_lt (n := n) (m := V.length) (by omega)
    have HRD := Lib.hid (fun w => roundP_any n V.length w (by omega) (by omega))
    obtain ⟨k, hk2⟩ : ∃ k, nr n V.length = k := ⟨_, rfl⟩
    rw [hk2] at hk HRD ⊢
    have HX : Hid (V[k]?.getD ⟨0, 0⟩ = V[k] ∧ (if V.length = 0 then (120 : Int) else 0) = 0) := Lib.hid ⟨by rw [List.getElem?_eq_getElem hk]; rfl, if_neg h0⟩
    have HAT := Lib.hid (fun (w' : World) (y : Value) (h : Mvs w' y V) => h.form)
    rw [HX.out.1, HX.out.2]
    obtain ⟨x, hx⟩ : ∃ x, V[k] = x := ⟨_, rfl⟩
    have HXV : Hid (∀ h : k < V.length, V[k] = x) := Lib.hid fun _ => hx
    rw [hx]
    obtain ⟨m, hm2⟩ : ∃ m, V.length = m := ⟨_, rfl⟩
    rw [hm2] at hk h0 hvl HRD
    have HM := Lib.hid hm2
    have hm3 : ((m : Int) == 0) = false := by rw [beq_eq_false_iff_ne]; omega
    clear HX hx hm2 hk2
    go_enter Try.func20, Try.ntmps20
    go_wp2_with fail
    refine (HA.out _ DB.out).mono ?_
    rintro e w1 ⟨y, rfl, hi, hb1⟩
    rw [HSZ.out] at hb1
    have B1 := Lib.hid (B0.out.below hb1 (Nat.lt_succ_self _))
    have D1 := Lib.hid (DB.out.trans (hb1.mono (Nat.le_succ _)))
    obtain ⟨k1, k2, k3, k4⟩ := B1.out.cells
    rcases HAT.out _ _ hi with ⟨e0, _⟩ | ⟨b4, o4, c4, rfl, _, hat4⟩
    · exact absurd (by rw [← HM.out, e0]; rfl) h0
    rw [HM.out]
    obtain ⟨q4, q5⟩ := hat4 k (by rw [HM.out]; exact hk)
    rw [HXV.out] at q4 q5
    clear hb1 hi hat4
    go_wp2_with fail
    refine (HRD.out _).mono ?_
    rintro e w2 ⟨rfl, rfl⟩
    go_wp2_with fail
    refine ret_mv rfl rfl rfl (B1.out.put x) rfl ⟨rfl, ?_⟩
    exact Rx.below_setCell (Rx.below_setCell D1.out _ _ _ (Nat.le_refl _)) _ _ _ (Nat.le_refl _)
end Go.Proofs.Ytaapnkoooofalaa.Me
