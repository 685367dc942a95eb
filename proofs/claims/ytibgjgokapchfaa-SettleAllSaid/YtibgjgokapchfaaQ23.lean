/- SettleAll, SettleTwice, SettleEnds: the walks. SettleUnder: the walk. -/
import Derived.Test.YtibgjgokapchfaaQ22
import Derived.Test.YtibgjgokapchfaaQ15
import Derived.Deep.RegionHeld3

namespace Go.Proofs.Ytibgjgokapchfaa.Se
open Go Go.RowKit Go.Proofs.Ytibgjgokapchfaa.Rw Go.Proofs.Ytibgjgokapchfaa.So
set_option maxRecDepth 20000

/-- A copy of a row: append onto an empty one. -/
theorem copy_run {w : World} {v : Value} {l : List Nd} (hv : Nds w v l) (hl : l.length ≤ 1000000) :
    ∃ v' w', (Builtin.append_ #[22, 22] 22 #[.slice (some ⟨w.heap.size, 0, none⟩) 0 0, v]).run Try.prog (w.alloc (.cells #[] 29)) = .ok v' w' ∧ Nds w' v' l ∧ Below w.heap.size w w' := by
  obtain ⟨i0, hi, hz, hs1, hb8⟩ := info_parts infoN
  have hB := below1 w (.cells #[] 29)
  obtain ⟨v', w', h1, h2, h3⟩ := Ap.run_append_full (P := Try.prog) (ty := 22) Try.underlying22 hi hz hs1 hb8 (by rfl) (by omega) (a := some ⟨w.heap.size, 0, none⟩) (n := 0) (cs := []) (w := w.alloc (.cells #[] 29))
    ⟨rfl, _, 0, rfl, Nat.le_refl _, fun h => (by cases h), fun h => absurd h (Nat.lt_irrefl 0)⟩ (hv.below hB) cls_one (by unfold maxLen; omega) (by omega)
  refine ⟨v', w', h1, ?_, hB.trans (h3.mono hB.size)⟩
  rw [Nat.zero_add, List.nil_append] at h2
  exact h2
theorem few_len {l : List Nd} (h : fewB l = true) : l.length ≤ 120 := by
  unfold fewB at h
  rw [Bool.and_eq_true, decide_eq_true_eq] at h
  exact h.1
set_option maxHeartbeats 4000000 in
theorem all_law (v : Value) (l : List Nd) (w0 : World) (hv : Nds w0 v l) (hm : Nms l) :
    Calls Try.prog 3 #[v] w0 fun e w' => e = .returned (.bool true) ∧ Below w0.heap.size w0 w' := by
  have V := Lib.hid hv
  have HM := Lib.hid hm
  have D := Lib.hid (Below.refl w0.heap.size w0)
  have HS := Lib.hid (fun v w1 (h : Nds w1 v l) (hl : l.length ≤ 120) => settleP_any v l w1 h (by omega) hm)
  have HR := Lib.hid (fun v w1 (h : Nds w1 v l) (hl : l.length ≤ 120) => settleR_any v l w1 h (by omega) hm)
  have HQ : Hid (∀ x y w1, Nds w1 x (st l) → Nds w1 y (st l) → l.length ≤ 120 → Calls Try.prog 11 #[x, y] w1 fun e w' => e = .returned (.bool true) ∧ Below w1.heap.size w1 w') := Lib.hid fun x y w1 h1 h2 hl => (sameR_any x y (st l) (st l) w1 h1 h2 (by have := st_len l; omega)).mono fun _ _ h => ⟨h.1.trans (ret_bool (same_self _)), h.2⟩
  have HQ2 : Hid (∀ x y w1, Nds w1 x l → Nds w1 y l → l.length ≤ 120 → Calls Try.prog 11 #[x, y] w1 fun e w' => e = .returned (.bool true) ∧ Below w1.heap.size w1 w') := Lib.hid fun x y w1 h1 h2 hl => (sameR_any x y l l w1 h1 h2 (by omega)).mono fun _ _ h => ⟨h.1.trans (ret_bool (same_self _)), h.2⟩
  obtain ⟨m, hmm⟩ : ∃ m, st l = m := ⟨_, rfl⟩
  rw [hmm] at HS HR HQ
  obtain ⟨_, a, cap, rfl, -⟩ := hv
  clear hm hmm
  go_enter Try.func3, Try.ntmps3
  go_wp2_with fail
  refine (few_any _ l _ V.out).mono ?_
  cases hf : fewB l with
  | false =>
    rintro e w' ⟨rfl, rfl⟩
    go_wp2_with fail
    refine (alive_any _).mono ?_
    rintro e wn ⟨rfl, hb⟩
    go_wp2_with fail
    go_ret
    exact ⟨rfl, hb⟩
  | true =>
    have hl := few_len hf
    clear hf
    rintro e w' ⟨rfl, rfl⟩
    obtain ⟨g, w1, hrun, hgn, hb⟩ := copy_run V.out (by omega)
    have R := Lib.hid hrun
    obtain ⟨_, ga, gc, rfl, -⟩ := id hgn
    replace V := Lib.hid (V.out.below hb)
    replace D := Lib.hid (D.out.trans (hb.mono D.out.size))
    have G := Lib.hid hgn
    clear hrun hb hgn
    go_wp2_with (at_builtin; refine Ap.wpList_append_run (by rfl) (.tmp 9) (.tmp 10) _ _ rfl _ _ rfl rfl _ w1 R.out ?_)
    refine (HS.out _ _ V.out hl).mono ?_
    rintro e w2 ⟨yA, rfl, hn, hb⟩
    obtain ⟨_, aA, cA, rfl, -⟩ := id hn
    replace V := Lib.hid (V.out.below hb)
    replace G := Lib.hid (G.out.below hb)
    replace D := Lib.hid (D.out.trans (hb.mono D.out.size))
    have A := Lib.hid hn
    clear hn
    clear hb
    go_wp2_with fail
    refine (alive_any w2).mono ?_
    rintro e w3 ⟨rfl, hb⟩
    replace V := Lib.hid (V.out.below hb)
    replace G := Lib.hid (G.out.below hb)
    replace A := Lib.hid (A.out.below hb)
    replace D := Lib.hid (D.out.trans (hb.mono D.out.size))
    clear hb
    go_wp2_with fail
    refine (HR.out _ _ V.out hl).mono ?_
    rintro e w4 ⟨yB, rfl, hn, hb⟩
    obtain ⟨_, aB, cB, rfl, -⟩ := id hn
    replace V := Lib.hid (V.out.below hb)
    replace G := Lib.hid (G.out.below hb)
    replace A := Lib.hid (A.out.below hb)
    replace D := Lib.hid (D.out.trans (hb.mono D.out.size))
    have B := Lib.hid hn
    clear hn
    clear hb
    go_wp2_with fail
    refine (HQ.out _ _ _ A.out B.out hl).mono ?_
    rintro e w5 ⟨rfl, hb⟩
    replace V := Lib.hid (V.out.below hb)
    replace G := Lib.hid (G.out.below hb)
    replace A := Lib.hid (A.out.below hb)
    replace B := Lib.hid (B.out.below hb)
    replace D := Lib.hid (D.out.trans (hb.mono D.out.size))
    clear hb
    go_wp2_with fail
    refine (HQ2.out _ _ _ V.out G.out hl).mono ?_
    rintro e w6 ⟨rfl, hb⟩
    replace V := Lib.hid (V.out.below hb)
    replace G := Lib.hid (G.out.below hb)
    replace A := Lib.hid (A.out.below hb)
    replace B := Lib.hid (B.out.below hb)
    replace D := Lib.hid (D.out.trans (hb.mono D.out.size))
    clear hb
    go_wp2_with fail
    go_ret
    exact ⟨rfl, D.out⟩
set_option maxHeartbeats 4000000 in
theorem twice_law (v : Value) (l : List Nd) (w0 : World) (hv : Nds w0 v l) (hm : Nms l) :
    Calls Try.prog 4 #[v] w0 fun e w' => e = .returned (.bool true) ∧ Below w0.heap.size w0 w' := by
  have V := Lib.hid hv
  have HM := Lib.hid hm
  have D := Lib.hid (Below.refl w0.heap.size w0)
  have HS := Lib.hid (fun v w1 (h : Nds w1 v l) (hl : l.length ≤ 120) => settleP_any v l w1 h (by omega) hm)
  have HL := Lib.hid (st_len l)
  have HO := Lib.hid (fun p v w1 (h : Nds w1 v l) (hl : l.length ≤ 120) => Sx.onP_any l p v w1 h (by omega) hm)
  have HE : Hid (st l ≠ [] → (∀ v w1, Nds w1 v (st l) → (st l).length ≤ 120 → Calls Try.prog 13 #[v] w1 fun e w' => e = .returned (.bool true) ∧ Below w1.heap.size w1 w') ∧
      (∀ v w1, Nds w1 v (st l) → (st l).length ≤ 120 → Calls Try.prog 10 #[v] w1 (OutL (st l) w1)) ∧
      (∀ x y w1, Nds w1 x (st l) → Nds w1 y (st l) → (st l).length ≤ 120 → Calls Try.prog 11 #[x, y] w1 fun e w' => e = .returned (.bool true) ∧ Below w1.heap.size w1 w') ∧
      (∀ p v w1, Nds w1 v (st l) → (st l).length ≤ 120 → Calls Try.prog 14 #[v, .bool p] w1 fun e w' => e = .returned (.bool (onB l p)) ∧ Below w1.heap.size w1 w')) := Lib.hid fun hne => by
    have h2 := st_twice hne
    have hpos : 0 < (st l).length := List.length_pos_iff.2 hne
    refine ⟨fun v w1 h hl => ?_, fun v w1 h hl => ?_, fun x y w1 h1 h2 hl => (sameR_any x y (st l) (st l) w1 h1 h2 (by omega)).mono fun _ _ h => ⟨h.1.trans (ret_bool (same_self _)), h.2⟩, fun p v w1 h hl => ?_⟩
    · refine (settledQ_any v (st l) w1 h (by omega) (nms_st l)).mono fun _ _ h => ⟨h.1.trans (ret_bool ?_), h.2⟩
      rw [h2, same_self, decide_eq_true hpos]
      rfl
    · have h3 := settleP_any v (st l) w1 h (by omega) (nms_st l)
      rw [h2] at h3
      exact h3
    · have h3 := Sx.onP_any (st l) p v w1 h (by omega) (nms_st l)
      rw [st_on hne] at h3
      exact h3
  obtain ⟨m, hmm⟩ : ∃ m, st l = m := ⟨_, rfl⟩
  rw [hmm] at HS HL HE
  obtain ⟨_, a, cap, rfl, -⟩ := hv
  clear hm hmm
  go_enter Try.func4, Try.ntmps4
  go_wp2_with fail
  refine (few_any _ l _ V.out).mono ?_
  cases hf : fewB l with
  | false =>
    rintro e w' ⟨rfl, rfl⟩
    go_wp2_with fail
    refine (alive_any _).mono ?_
    rintro e wn ⟨rfl, hb⟩
    go_wp2_with fail
    go_ret
    exact ⟨rfl, hb⟩
  | true =>
    have hl := few_len hf
    clear hf
    rintro e w' ⟨rfl, rfl⟩
    obtain ⟨w0', hw0⟩ : ∃ x, w0 = x := ⟨_, rfl⟩
    clear hw0 w0'
    go_wp2_with fail
    refine (HS.out _ _ V.out hl).mono ?_
    rintro e w1 ⟨yA, rfl, hn, hb⟩
    obtain ⟨_, aA, cA, rfl, -⟩ := id hn
    replace V := Lib.hid (V.out.below hb)
    replace D := Lib.hid (D.out.trans (hb.mono D.out.size))
    have A := Lib.hid hn
    clear hn
    clear hb
    obtain ⟨n, hnn⟩ : ∃ n, m.length = n := ⟨_, rfl⟩
    rw [hnn] at A ⊢
    by_cases h0 : n = 0
    case pos =>
      subst h0
      go_wp2_with fail
      refine (alive_any w1).mono ?_
      rintro e w2 ⟨rfl, hb⟩
      replace V := Lib.hid (V.out.below hb)
      replace A := Lib.hid (A.out.below hb)
      replace D := Lib.hid (D.out.trans (hb.mono D.out.size))
      clear hb
      go_wp2_with fail
      go_ret
      exact ⟨rfl, D.out⟩
    case neg =>
      have g0 : ((n : Int) == 0) = false := by rw [beq_eq_false_iff_ne]; omega
      have hm0 : m ≠ [] := fun e => h0 (by rw [← hnn, e]; rfl)
      have HMM := Lib.hid (HE.out hm0)
      have hln : m.length ≤ 120 := by have := HL.out; omega
      rw [hnn] at hln
      have HNN := Lib.hid hnn
      have gp : decide (0 < n) = true := decide_eq_true (by omega)
      clear hnn hm0
      go_wp2_with fail
      refine (alive_any w1).mono ?_
      rintro e w2 ⟨rfl, hb⟩
      replace V := Lib.hid (V.out.below hb)
      replace A := Lib.hid (A.out.below hb)
      replace D := Lib.hid (D.out.trans (hb.mono D.out.size))
      clear hb
      go_wp2_with fail
      refine (HMM.out.1 _ _ A.out (by have := HNN.out; omega)).mono ?_
      rintro e w3 ⟨rfl, hb⟩
      replace V := Lib.hid (V.out.below hb)
      replace A := Lib.hid (A.out.below hb)
      replace D := Lib.hid (D.out.trans (hb.mono D.out.size))
      clear hb
      go_wp2_with fail
      refine (HMM.out.2.1 _ _ A.out (by have := HNN.out; omega)).mono ?_
      rintro e w4 ⟨yB, rfl, hn, hb⟩
      obtain ⟨_, aB, cB, rfl, -⟩ := id hn
      replace V := Lib.hid (V.out.below hb)
      replace A := Lib.hid (A.out.below hb)
      replace D := Lib.hid (D.out.trans (hb.mono D.out.size))
      have B := Lib.hid hn
      clear hn
      clear hb
      go_wp2_with fail
      refine (HMM.out.2.2.1 _ _ _ B.out A.out (by have := HNN.out; omega)).mono ?_
      rintro e w5 ⟨rfl, hb⟩
      replace V := Lib.hid (V.out.below hb)
      replace A := Lib.hid (A.out.below hb)
      replace B := Lib.hid (B.out.below hb)
      replace D := Lib.hid (D.out.trans (hb.mono D.out.size))
      clear hb
      go_wp2_with fail
      refine (HMM.out.2.2.2 false _ _ A.out (by have := HNN.out; omega)).mono ?_
      rintro e w6 ⟨rfl, hb⟩
      replace V := Lib.hid (V.out.below hb)
      replace A := Lib.hid (A.out.below hb)
      replace B := Lib.hid (B.out.below hb)
      replace D := Lib.hid (D.out.trans (hb.mono D.out.size))
      clear hb
      go_wp2_with fail
      refine (HO.out false _ _ V.out hl).mono ?_
      rintro e w7 ⟨rfl, hb⟩
      replace V := Lib.hid (V.out.below hb)
      replace A := Lib.hid (A.out.below hb)
      replace B := Lib.hid (B.out.below hb)
      replace D := Lib.hid (D.out.trans (hb.mono D.out.size))
      clear hb
      have gb1 : ((onB l false) == (onB l false)) = true := by cases onB l false <;> rfl
      have gb2 : ((onB l true) == (onB l true)) = true := by cases onB l true <;> rfl
      go_wp2_with fail
      refine (HMM.out.2.2.2 true _ _ A.out (by have := HNN.out; omega)).mono ?_
      rintro e w8 ⟨rfl, hb⟩
      replace V := Lib.hid (V.out.below hb)
      replace A := Lib.hid (A.out.below hb)
      replace B := Lib.hid (B.out.below hb)
      replace D := Lib.hid (D.out.trans (hb.mono D.out.size))
      clear hb
      go_wp2_with fail
      refine (HO.out true _ _ V.out hl).mono ?_
      rintro e w9 ⟨rfl, hb⟩
      replace V := Lib.hid (V.out.below hb)
      replace A := Lib.hid (A.out.below hb)
      replace B := Lib.hid (B.out.below hb)
      replace D := Lib.hid (D.out.trans (hb.mono D.out.size))
      clear hb
      go_wp2_with fail
      go_ret
      exact ⟨rfl, D.out⟩
set_option maxHeartbeats 4000000 in
theorem ends_law (v : Value) (l : List Nd) (w0 : World) (hv : Nds w0 v l) (hm : Nms l) :
    Calls Try.prog 5 #[v] w0 fun e w' => e = .returned (.bool true) ∧ Below w0.heap.size w0 w' := by
  have V := Lib.hid hv
  have HM := Lib.hid hm
  have D := Lib.hid (Below.refl w0.heap.size w0)
  have HS := Lib.hid (fun v w1 (h : Nds w1 v l) (hl : l.length ≤ 120) => settleP_any v l w1 h (by omega) hm)
  have HL := Lib.hid (st_len l)
  have HE : Hid (st l ≠ [] → ∃ u, flat u = st l ∧ sz u ≤ 200 ∧ (waits u = false → kd u ≠ 11 → kd u ≠ 14 → stuck u = true)) := Lib.hid fun hne => by
    obtain ⟨t, rfl, hg, e⟩ := st_some hne
    refine ⟨S t, e.symm, hg.S.sz, fun h1 h2 h3 => ?_⟩
    have h4 := nf_ends (S t) (S_nf t) hg.S.1 hg.S.2.2
    rw [h1] at h4
    generalize S t = x at h2 h3 h4 ⊢
    cases x <;> first | exact absurd rfl h2 | exact absurd rfl h3 | simpa [isOver, isFin] using h4
  obtain ⟨m, hmm⟩ : ∃ m, st l = m := ⟨_, rfl⟩
  rw [hmm] at HS HL HE
  obtain ⟨_, a, cap, rfl, -⟩ := hv
  clear hm hmm
  go_enter Try.func5, Try.ntmps5
  go_wp2_with fail
  refine (few_any _ l _ V.out).mono ?_
  cases hf : fewB l with
  | false =>
    rintro e w' ⟨rfl, rfl⟩
    go_wp2_with fail
    refine (alive_any _).mono ?_
    rintro e wn ⟨rfl, hb⟩
    go_wp2_with fail
    go_ret
    exact ⟨rfl, hb⟩
  | true =>
    have hl := few_len hf
    clear hf
    rintro e w' ⟨rfl, rfl⟩
    go_wp2_with fail
    refine (HS.out _ _ V.out hl).mono ?_
    rintro e w1 ⟨yA, rfl, hn, hb⟩
    obtain ⟨_, aA, cA, rfl, -⟩ := id hn
    replace V := Lib.hid (V.out.below hb)
    replace D := Lib.hid (D.out.trans (hb.mono D.out.size))
    have A := Lib.hid hn
    clear hn
    clear hb
    obtain ⟨n, hnn⟩ : ∃ n, m.length = n := ⟨_, rfl⟩
    rw [hnn] at A ⊢
    by_cases h0 : n = 0
    case pos =>
      subst h0
      go_wp2_with fail
      refine (alive_any w1).mono ?_
      rintro e w2 ⟨rfl, hb⟩
      replace V := Lib.hid (V.out.below hb)
      replace A := Lib.hid (A.out.below hb)
      replace D := Lib.hid (D.out.trans (hb.mono D.out.size))
      clear hb
      go_wp2_with fail
      go_ret
      exact ⟨rfl, D.out⟩
    case neg =>
      have g0 : ((n : Int) == 0) = false := by rw [beq_eq_false_iff_ne]; omega
      have hm0 : m ≠ [] := fun e => h0 (by rw [← hnn, e]; rfl)
      obtain ⟨u, hu, hsu, hE0⟩ := HE.out hm0
      have hE : waits u = false → kd u ≠ 11 → kd u ≠ 14 → stuck u = true := hE0
      clear hE0
      subst hu
      have HW := Lib.hid (fun v w1 (h : Nds w1 v (flat u)) => waits_any u (by omega) v w1 h)
      have HK := Lib.hid (fun v w1 (h : Nds w1 v (flat u)) => stuck_any u (by omega) v w1 h)
      clear hm0 HE HS HL
      go_wp2_with fail
      refine (alive_any w1).mono ?_
      rintro e w2 ⟨rfl, hb⟩
      replace V := Lib.hid (V.out.below hb)
      replace A := Lib.hid (A.out.below hb)
      replace D := Lib.hid (D.out.trans (hb.mono D.out.size))
      clear hb
      rcases form A.out with ⟨bA, oA, cA', e, hcA, hltA, hwA, -⟩
      rw [← flat_len, hnn] at e
      have e1 : aA = some ⟨bA, oA, none⟩ := by injection e
      clear e
      subst e1
      obtain ⟨x0, -⟩ := hwA _ (Below.refl _ _)
      have SA := Lib.hid hwA
      have n0 : (0 : Int) < (n : Int) := by omega
      have n1 : 0 < n := by omega
      clear hwA hnn
      cases hwt : waits u with
      | true =>
        rw [hwt] at HW
        go_wp2_with fail
        refine (HW.out _ _ A.out).mono ?_
        rintro e w3 ⟨rfl, hb⟩
        replace V := Lib.hid (V.out.below hb)
        replace A := Lib.hid (A.out.below hb)
        replace D := Lib.hid (D.out.trans (hb.mono D.out.size))
        clear hb
        go_wp2_with fail
        go_ret
        exact ⟨rfl, D.out⟩
      | false =>
        replace hE := hE hwt
        rw [hwt] at HW
        go_wp2_with fail
        refine (HW.out _ _ A.out).mono ?_
        rintro e w3 ⟨rfl, hb⟩
        replace V := Lib.hid (V.out.below hb)
        replace A := Lib.hid (A.out.below hb)
        replace D := Lib.hid (D.out.trans (hb.mono D.out.size))
        clear hb
        have x1 : w3.cell? ⟨bA, oA, none⟩ = some (.int .i64 (kd u)) := by
          rcases form A.out with ⟨b', o', c', e, _, _, hw', -⟩
          injection e with e1 _ _
          injection e1 with e1
          injection e1 with e1 e2
          subst e1
          subst e2
          exact (hw' _ (Below.refl _ _)).1
        obtain ⟨k, hk⟩ : ∃ k, kd u = k := ⟨_, rfl⟩
        rw [hk] at x0 x1 hE
        clear hk SA
        by_cases h11 : k = 11
        case pos =>
          subst h11
          go_wp2_with fail
          go_ret
          exact ⟨rfl, D.out⟩
        case neg =>
          have f11 : (k == 11) = false := by rw [beq_eq_false_iff_ne]; exact h11
          by_cases h14 : k = 14
          case pos =>
            subst h14
            clear h11
            go_wp2_with fail
            go_ret
            exact ⟨rfl, D.out⟩
          case neg =>
            have f14 : (k == 14) = false := by rw [beq_eq_false_iff_ne]; exact h14
            rw [show stuck u = true from hE h11 h14] at HK
            clear h11 h14 hE
            go_wp2_with fail
            refine (HK.out _ _ A.out).mono ?_
            rintro e w4 ⟨rfl, hb⟩
            replace V := Lib.hid (V.out.below hb)
            replace A := Lib.hid (A.out.below hb)
            replace D := Lib.hid (D.out.trans (hb.mono D.out.size))
            clear hb
            go_wp2_with fail
            go_ret
            exact ⟨rfl, D.out⟩
end Go.Proofs.Ytibgjgokapchfaa.Se

namespace Go.Proofs.Ytibgjgokapchfaa.Se
open Go Go.RowKit Go.Proofs.Ytibgjgokapchfaa.Rw Go.Proofs.Ytibgjgokapchfaa.So
set_option maxRecDepth 20000

set_option maxHeartbeats 8000000 in
theorem under_law (va vb : Value) (l r : List Nd) (w0 : World) (ha : Nds w0 va l) (hb : Nds w0 vb r) (hm : Nms l) (hm' : Nms r) :
    Calls Try.prog 6 #[va, vb] w0 fun e w' => e = .returned (.bool true) ∧ Below w0.heap.size w0 w' := by
  have A := Lib.hid ha
  have B := Lib.hid hb
  have D := Lib.hid (Below.refl w0.heap.size w0)
  have HSA := Lib.hid (fun v w1 (h : Nds w1 v l) (hl : l.length ≤ 120) => settleP_any v l w1 h (by omega) hm)
  have HSB := Lib.hid (fun v w1 (h : Nds w1 v r) (hl : r.length ≤ 120) => settleP_any v r w1 h (by omega) hm')
  have HOA := Lib.hid (fun v w1 (h : Nds w1 v l) (hl : l.length ≤ 120) => Sx.onP_any l true v w1 h (by omega) hm)
  have HOB := Lib.hid (fun v w1 (h : Nds w1 v r) (hl : r.length ≤ 120) => Sx.onP_any r true v w1 h (by omega) hm')
  have n2 : Nms (nOf 7 :: (l ++ r)) := fun z hz => by
    rcases List.mem_cons.1 hz with rfl | hz
    · exact Nat.zero_le _
    · exact (List.mem_append.1 hz).elim (hm z) (hm' z)
  have n3 : Nms (nOf 7 :: (st l ++ st r)) := fun z hz => by
    rcases List.mem_cons.1 hz with rfl | hz
    · exact Nat.zero_le _
    · exact (List.mem_append.1 hz).elim (nms_st l z) (nms_st r z)
  have n4 : Nms (nOf 9 :: l) := fun z hz => by
    rcases List.mem_cons.1 hz with rfl | hz
    · exact Nat.zero_le _
    · exact hm z hz
  have n5 : Nms (nOf 9 :: st l) := fun z hz => by
    rcases List.mem_cons.1 hz with rfl | hz
    · exact Nat.zero_le _
    · exact nms_st l z hz
  have TW : ∀ (a b : List Nd) (v u : Value) (w1 : World), Nds w1 v a → Nds w1 u b → a.length ≤ 120 → b.length ≤ 120 → Calls Try.prog 17 #[.agg #[.int .i64 7, .string ⟨#[]⟩, .int .i64 0], v, u] w1 (OutL (nOf 7 :: (a ++ b)) w1) := fun a b v u w1 h1 h2 l1 l2 => twoR_any (nOf 7) v u a b w1 h1 h2 (by omega) (by omega)
  have ON : ∀ (a : List Nd) (v : Value) (w1 : World), Nds w1 v a → a.length ≤ 120 → Calls Try.prog 18 #[.agg #[.int .i64 9, .string ⟨#[]⟩, .int .i64 0], v] w1 (OutL (nOf 9 :: a) w1) := fun a v w1 h1 l1 => (oneR_any (nOf 9) v a w1 h1 (by omega)).mono fun _ _ ⟨y, he, ho, hb⟩ => ⟨y, he, Ap.Rd.owned ho, hb⟩
  have SL : ∀ (a : List Nd), Nms a → ∀ (v : Value) (w1 : World), Nds w1 v a → a.length ≤ 300 → Calls Try.prog 10 #[v] w1 (OutL (st a) w1) := fun a ha v w1 h1 l1 => settleP_any v a w1 h1 (by omega) ha
  have SM : ∀ (a : List Nd), ∀ (x y : Value) (w1 : World), Nds w1 x (st a) → Nds w1 y (st a) → a.length ≤ 300 → Calls Try.prog 11 #[x, y] w1 fun e w' => e = .returned (.bool true) ∧ Below w1.heap.size w1 w' := fun a x y w1 h1 h2 l1 => (sameR_any x y (st a) (st a) w1 h1 h2 (by have := st_len a; omega)).mono fun _ _ h => ⟨h.1.trans (ret_bool (same_self _)), h.2⟩
  have HT := Lib.hid (TW l r)
  have HT2 := Lib.hid (TW (st l) (st r))
  have lp : (nOf 7 :: (l ++ r)).length = l.length + r.length + 1 := by simp
  have lk : (nOf 9 :: l).length = l.length + 1 := by simp
  have lp2 : (nOf 7 :: (st l ++ st r)).length ≤ l.length + r.length + 1 := by have := st_len l; have := st_len r; simp; omega
  have lk2 : (nOf 9 :: st l).length ≤ l.length + 1 := by have := st_len l; simp; omega
  have HP1 := Lib.hid (fun v w1 (h : Nds w1 v (nOf 7 :: (l ++ r))) (hl : l.length + r.length ≤ 120) => SL _ n2 v w1 h (by omega))
  have HP2 := Lib.hid (fun v w1 (h : Nds w1 v (nOf 7 :: (st l ++ st r))) (hl : l.length + r.length ≤ 120) => SL _ n3 v w1 h (by omega))
  have HQ := Lib.hid (fun x y w1 (h1 : Nds w1 x (st (nOf 7 :: (l ++ r)))) (h2 : Nds w1 y (st (nOf 7 :: (l ++ r)))) (hl : l.length + r.length ≤ 120) => SM _ x y w1 h1 h2 (by omega))
  have HO1 := Lib.hid (ON l)
  have HO2 := Lib.hid (ON (st l))
  have HB1 := Lib.hid (fun v w1 (h : Nds w1 v (nOf 9 :: l)) (hl : l.length ≤ 120) => SL _ n4 v w1 h (by omega))
  have HB2 := Lib.hid (fun v w1 (h : Nds w1 v (nOf 9 :: st l)) (hl : l.length ≤ 120) => SL _ n5 v w1 h (by omega))
  have HQ3 := Lib.hid (fun x y w1 (h1 : Nds w1 x (st (nOf 9 :: l))) (h2 : Nds w1 y (st (nOf 9 :: l))) (hl : l.length ≤ 120) => SM _ x y w1 h1 h2 (by omega))
  have HE : Hid (st l ≠ [] → st r ≠ [] → l.length + r.length ≤ 120 → (onB l true = onB r true → st (nOf 7 :: (st l ++ st r)) = st (nOf 7 :: (l ++ r))) ∧ st (nOf 9 :: st l) = st (nOf 9 :: l)) := Lib.hid fun h1 h2 h3 => ⟨fun h4 => (st_par h1 h2 h4 h3).symm, (st_block h1 (by omega)).symm⟩
  have HXL0 := st_len l
  have HYL0 := st_len r
  clear n2 n3 n4 n5 TW ON SL SM lp lk lp2 lk2
  generalize st (nOf 7 :: (st l ++ st r)) = P2 at HE HP2
  generalize st (nOf 7 :: (l ++ r)) = P1 at HE HP1 HQ
  generalize st (nOf 9 :: st l) = K2 at HE HB2
  generalize st (nOf 9 :: l) = K1 at HE HB1 HQ3
  generalize st l = x at *
  generalize st r = y at *
  have HXL := Lib.hid HXL0
  have HYL := Lib.hid HYL0
  obtain ⟨_, aA, cA, rfl, -⟩ := ha
  obtain ⟨_, aB, cB, rfl, -⟩ := hb
  clear hm hm' HXL0 HYL0
  go_enter Try.func6, Try.ntmps6
  go_wp2_with fail
  refine (few_any _ l _ A.out).mono ?_
  cases hf : fewB l with
  | false =>
    rintro e w' ⟨rfl, rfl⟩
    go_wp2_with fail
    refine (alive_any w0).mono ?_
    rintro e w1 ⟨rfl, hb⟩
    replace D := Lib.hid (D.out.trans (hb.mono D.out.size))
    clear hb
    go_wp2_with fail
    go_ret
    exact ⟨rfl, D.out⟩
  | true =>
    have hl := few_len hf
    clear hf
    rintro e w' ⟨rfl, rfl⟩
    go_wp2_with fail
    refine (few_any _ r _ B.out).mono ?_
    cases hf : fewB r with
    | false =>
      rintro e w' ⟨rfl, rfl⟩
      go_wp2_with fail
      refine (alive_any w0).mono ?_
      rintro e w1 ⟨rfl, hb⟩
      replace D := Lib.hid (D.out.trans (hb.mono D.out.size))
      clear hb
      go_wp2_with fail
      go_ret
      exact ⟨rfl, D.out⟩
    | true =>
      have hr := few_len hf
      clear hf
      rintro e w' ⟨rfl, rfl⟩
      have hwr : IntKind.i64.wrap ((l.length : Int) + (r.length : Int)) = (l.length : Int) + (r.length : Int) := by rw [IntKind.wrap_i64]; omega
      by_cases hlr : 120 < l.length + r.length
      case pos =>
        have g1 : (120 : Int) < (l.length : Int) + (r.length : Int) := by omega
        go_wp2_with fail
        refine (alive_any w0).mono ?_
        rintro e w1 ⟨rfl, hb⟩
        replace D := Lib.hid (D.out.trans (hb.mono D.out.size))
        clear hb
        go_wp2_with fail
        go_ret
        exact ⟨rfl, D.out⟩
      case neg =>
        have g1 : ¬ (120 : Int) < (l.length : Int) + (r.length : Int) := by omega
        have g2 : (l.length : Int) + (r.length : Int) ≤ 120 := by omega
        go_wp2_with fail
        refine (HSA.out _ _ A.out hl).mono ?_
        rintro e w1 ⟨yX, rfl, hn, hb⟩
        obtain ⟨_, aX, cX, rfl, -⟩ := id hn
        replace A := Lib.hid (A.out.below hb)
        replace B := Lib.hid (B.out.below hb)
        replace D := Lib.hid (D.out.trans (hb.mono D.out.size))
        have X := Lib.hid hn
        clear hn
        clear hb
        go_wp2_with fail
        refine (HSB.out _ _ B.out hr).mono ?_
        rintro e w2 ⟨yY, rfl, hn, hb⟩
        obtain ⟨_, aY, cY, rfl, -⟩ := id hn
        replace A := Lib.hid (A.out.below hb)
        replace B := Lib.hid (B.out.below hb)
        replace X := Lib.hid (X.out.below hb)
        replace D := Lib.hid (D.out.trans (hb.mono D.out.size))
        have Y := Lib.hid hn
        clear hn
        clear hb
        obtain ⟨n, hnn⟩ : ∃ n, x.length = n := ⟨_, rfl⟩
        rw [hnn] at X ⊢
        obtain ⟨p, hpp⟩ : ∃ p, y.length = p := ⟨_, rfl⟩
        rw [hpp] at Y ⊢
        by_cases hn0 : n = 0
        case pos =>
          subst hn0
          go_wp2_with fail
          refine (alive_any w2).mono ?_
          rintro e w3 ⟨rfl, hb⟩
          replace A := Lib.hid (A.out.below hb)
          replace B := Lib.hid (B.out.below hb)
          replace X := Lib.hid (X.out.below hb)
          replace Y := Lib.hid (Y.out.below hb)
          replace D := Lib.hid (D.out.trans (hb.mono D.out.size))
          clear hb
          go_wp2_with fail
          go_ret
          exact ⟨rfl, D.out⟩
        case neg =>
          have gn : ((n : Int) == 0) = false := by rw [beq_eq_false_iff_ne]; omega
          by_cases hp0 : p = 0
          case pos =>
            subst hp0
            go_wp2_with fail
            refine (alive_any w2).mono ?_
            rintro e w3 ⟨rfl, hb⟩
            replace A := Lib.hid (A.out.below hb)
            replace B := Lib.hid (B.out.below hb)
            replace X := Lib.hid (X.out.below hb)
            replace Y := Lib.hid (Y.out.below hb)
            replace D := Lib.hid (D.out.trans (hb.mono D.out.size))
            clear hb
            go_wp2_with fail
            go_ret
            exact ⟨rfl, D.out⟩
          case neg =>
            have gp : ((p : Int) == 0) = false := by rw [beq_eq_false_iff_ne]; omega
            have hx0 : x ≠ [] := fun e => hn0 (by rw [← hnn, e]; rfl)
            have hy0 : y ≠ [] := fun e => hp0 (by rw [← hpp, e]; rfl)
            go_wp2_with fail
            refine (HOA.out _ _ A.out hl).mono ?_
            rintro e w3 ⟨rfl, hb⟩
            replace A := Lib.hid (A.out.below hb)
            replace B := Lib.hid (B.out.below hb)
            replace X := Lib.hid (X.out.below hb)
            replace Y := Lib.hid (Y.out.below hb)
            replace D := Lib.hid (D.out.trans (hb.mono D.out.size))
            clear hb
            go_wp2_with fail
            refine (HOB.out _ _ B.out hr).mono ?_
            rintro e w4 ⟨rfl, hb⟩
            replace A := Lib.hid (A.out.below hb)
            replace B := Lib.hid (B.out.below hb)
            replace X := Lib.hid (X.out.below hb)
            replace Y := Lib.hid (Y.out.below hb)
            replace D := Lib.hid (D.out.trans (hb.mono D.out.size))
            clear hb
            have HOE := Lib.hid (HE.out hx0 hy0 (by omega))
            have HNX := Lib.hid hnn
            have HNY := Lib.hid hpp
            clear hx0 hy0 hnn hpp
            obtain ⟨q1, hq1⟩ : ∃ q, onB l true = q := ⟨_, rfl⟩
            obtain ⟨q2, hq2⟩ : ∃ q, onB r true = q := ⟨_, rfl⟩
            rw [hq1, hq2]
            by_cases hq : q1 = q2
            case neg =>
              have gq : (q1 == q2) = false := by cases q1 <;> cases q2 <;> first | rfl | exact absurd rfl hq
              clear hq hq1 hq2
              go_wp2_with fail
              refine (alive_any w4).mono ?_
              rintro e w5 ⟨rfl, hb⟩
              replace A := Lib.hid (A.out.below hb)
              replace B := Lib.hid (B.out.below hb)
              replace X := Lib.hid (X.out.below hb)
              replace Y := Lib.hid (Y.out.below hb)
              replace D := Lib.hid (D.out.trans (hb.mono D.out.size))
              clear hb
              go_wp2_with fail
              go_ret
              exact ⟨rfl, D.out⟩
            case pos =>
              have gq : (q1 == q2) = true := by rw [hq]; cases q2 <;> rfl
              have HP := Lib.hid (HOE.out.1 (by rw [hq1, hq2, hq]))
              have HK := Lib.hid HOE.out.2
              clear hq hq1 hq2 HOE
              go_wp2_with fail
              have BW0 := below1 w4 (.cells #[.int .i64 7, .string ⟨#[]⟩, .int .i64 0] 29)
              have BC := box_cells w4 7 0 ⟨#[]⟩ 29
              obtain ⟨bn, hbn⟩ : ∃ b, w4.heap.size = b := ⟨_, rfl⟩
              rw [hbn] at BC ⊢
              generalize w4.alloc (.cells #[.int .i64 7, .string ⟨#[]⟩, .int .i64 0] 29) = W at BW0 BC ⊢
              replace D := Lib.hid (D.out.trans (BW0.mono D.out.size))
              replace A := Lib.hid (A.out.below BW0)
              replace B := Lib.hid (B.out.below BW0)
              replace X := Lib.hid (X.out.below BW0)
              replace Y := Lib.hid (Y.out.below BW0)
              have SW := Lib.hid BC
              obtain ⟨z0, z1, z2⟩ := BC W (Below.refl _ _)
              clear BW0 BC hbn
              go_region_held3 (fun w' => w'.cell? ⟨bn, 0, none⟩ = some (.int .i64 7) ∧ w'.cell? ⟨bn, 1, none⟩ = some (.string ⟨#[]⟩) ∧ w'.cell? ⟨bn, 2, none⟩ = some (.int .i64 0)) (first | exact SW.out _ (Below.refl _ _).drew | exact SW.out _ E1.out | exact SW.out _ E2.out | exact SW.out _ E3.out | exact SW.out _ E4.out | fail) (first
                | (go_at_call 17
                   (with_reducible refine (HT.out _ _ _ (A.out.below (Below.refl _ _).drew) (B.out.below (Below.refl _ _).drew) hl hr).mono ?_)
                   rintro e u1 ⟨y1, rfl, hn, hb⟩
                   obtain ⟨_, a1, c1, rfl, -⟩ := id hn
                   have E1 := Lib.hid ((Below.refl W.heap.size W).drew.trans hb)
                   rw [show (nOf 7 :: (l ++ r)).length = l.length + r.length + 1 by simp] at hn
                   have M1 := Lib.hid hn
                   clear hn hb)
                | (go_at_call 10
                   (with_reducible refine (HP1.out _ _ M1.out (by omega)).mono ?_)
                   rintro e u2 ⟨y2, rfl, hn, hb⟩
                   obtain ⟨_, a2, c2, rfl, -⟩ := id hn
                   have E2 := Lib.hid (E1.out.trans (hb.mono E1.out.size))
                   have M2 := Lib.hid hn
                   clear hn hb)
                | (go_at_call 17
                   (with_reducible refine (HT2.out _ _ _ (X.out.below E2.out) (Y.out.below E2.out) (by have := HXL.out; omega) (by have := HYL.out; omega)).mono ?_)
                   rintro e u3 ⟨y3, rfl, hn, hb⟩
                   obtain ⟨_, a3, c3, rfl, -⟩ := id hn
                   have E3 := Lib.hid (E2.out.trans (hb.mono E2.out.size))
                   replace M2 := Lib.hid (M2.out.below hb)
                   rw [show (nOf 7 :: (x ++ y)).length = x.length + y.length + 1 by simp] at hn
                   have M3 := Lib.hid hn
                   clear hn hb)
                | (go_at_call 10
                   (with_reducible refine (HP2.out _ _ M3.out (by omega)).mono ?_)
                   rintro e u4 ⟨y4, rfl, hn, hb⟩
                   obtain ⟨_, a4, c4, rfl, -⟩ := id hn
                   have E4 := Lib.hid (E3.out.trans (hb.mono E3.out.size))
                   replace M2 := Lib.hid (M2.out.below hb)
                   have M4 := Lib.hid hn
                   clear hn hb)
                | fail)
              replace D := Lib.hid (D.out.trans (E4.out.mono D.out.size))
              replace A := Lib.hid (A.out.below E4.out)
              replace X := Lib.hid (X.out.below E4.out)
              clear SW z0 z1 z2
              go_wp2_with fail
              refine (HQ.out _ _ _ M2.out (HP.out ▸ M4.out) (by omega)).mono ?_
              rintro e v1 ⟨rfl, hb⟩
              replace A := Lib.hid (A.out.below hb)
              replace X := Lib.hid (X.out.below hb)
              replace D := Lib.hid (D.out.trans (hb.mono D.out.size))
              clear hb M2 M4 E1 E2 E3 E4 M1 M3 HP
              go_wp2_with fail
              refine (HO1.out _ _ A.out hl).mono ?_
              rintro e v5 ⟨yP1, rfl, hn, hb⟩
              obtain ⟨_, aP1, cP1, rfl, -⟩ := id hn
              replace A := Lib.hid (A.out.below hb)
              replace X := Lib.hid (X.out.below hb)
              replace D := Lib.hid (D.out.trans (hb.mono D.out.size))
              rw [show (nOf 9 :: l).length = l.length + 1 by simp] at hn
              have P1 := Lib.hid hn
              clear hn
              clear hb
              go_wp2_with fail
              refine (HB1.out _ _ P1.out (by omega)).mono ?_
              rintro e v6 ⟨yP2, rfl, hn, hb⟩
              obtain ⟨_, aP2, cP2, rfl, -⟩ := id hn
              replace A := Lib.hid (A.out.below hb)
              replace X := Lib.hid (X.out.below hb)
              replace P1 := Lib.hid (P1.out.below hb)
              replace D := Lib.hid (D.out.trans (hb.mono D.out.size))
              have P2 := Lib.hid hn
              clear hn
              clear hb
              go_wp2_with fail
              refine (HO2.out _ _ X.out (by have := HXL.out; omega)).mono ?_
              rintro e v7 ⟨yP3, rfl, hn, hb⟩
              obtain ⟨_, aP3, cP3, rfl, -⟩ := id hn
              replace A := Lib.hid (A.out.below hb)
              replace X := Lib.hid (X.out.below hb)
              replace P1 := Lib.hid (P1.out.below hb)
              replace P2 := Lib.hid (P2.out.below hb)
              replace D := Lib.hid (D.out.trans (hb.mono D.out.size))
              rw [show (nOf 9 :: x).length = x.length + 1 by simp] at hn
              have P3 := Lib.hid hn
              clear hn
              clear hb
              go_wp2_with fail
              refine (HB2.out _ _ P3.out (by have := HXL.out; omega)).mono ?_
              rintro e v8 ⟨yP4, rfl, hn, hb⟩
              obtain ⟨_, aP4, cP4, rfl, -⟩ := id hn
              replace A := Lib.hid (A.out.below hb)
              replace X := Lib.hid (X.out.below hb)
              replace P1 := Lib.hid (P1.out.below hb)
              replace P2 := Lib.hid (P2.out.below hb)
              replace P3 := Lib.hid (P3.out.below hb)
              replace D := Lib.hid (D.out.trans (hb.mono D.out.size))
              have P4 := Lib.hid hn
              clear hn
              clear hb
              go_wp2_with fail
              refine (alive_any _).mono ?_
              rintro e v9 ⟨rfl, hb⟩
              replace A := Lib.hid (A.out.below hb)
              replace X := Lib.hid (X.out.below hb)
              replace P1 := Lib.hid (P1.out.below hb)
              replace P2 := Lib.hid (P2.out.below hb)
              replace P3 := Lib.hid (P3.out.below hb)
              replace P4 := Lib.hid (P4.out.below hb)
              replace D := Lib.hid (D.out.trans (hb.mono D.out.size))
              clear hb
              go_wp2_with fail
              refine (HQ3.out _ _ _ P2.out (HK.out ▸ P4.out) (by omega)).mono ?_
              rintro e v10 ⟨rfl, hb⟩
              replace A := Lib.hid (A.out.below hb)
              replace X := Lib.hid (X.out.below hb)
              replace P1 := Lib.hid (P1.out.below hb)
              replace P2 := Lib.hid (P2.out.below hb)
              replace P3 := Lib.hid (P3.out.below hb)
              replace P4 := Lib.hid (P4.out.below hb)
              replace D := Lib.hid (D.out.trans (hb.mono D.out.size))
              clear hb
              go_wp2_with fail
              go_ret
              exact ⟨rfl, D.out⟩
end Go.Proofs.Ytibgjgokapchfaa.Se
