/- The document's merge of two rows of traces: the walk. -/
import Derived.Test.YtmhmfnjjdcdkcaaDoorTru
namespace Go.Proofs.YtmhmfnjjdcdkcaaDoor.Tr
open Go Go.RowKit
set_option maxRecDepth 20000

theorem Trs.val {w : World} {v : Value} {ts : List Tr} (h : Trs w v ts) : ∃ a cap, v = .slice a ts.length cap ∧ ts.length ≤ cap ∧
    ∀ k, (hk : k < ts.length) → ∃ b off x, a = some ⟨b, off, none⟩ ∧ w.cell? ⟨b, off + 2 * k, none⟩ = some x ∧ w.cell? ⟨b, off + 2 * k + 1, none⟩ = some (.int .i64 ts[k].e) ∧ Strs w x ts[k].a := by
  obtain ⟨cs, ⟨_, a, cap, rfl, hcap, _, hcell⟩, hc⟩ := h
  refine ⟨a, cap, rfl, hcap, fun k hk => ?_⟩
  obtain ⟨b, off, rfl, hj⟩ := hcell (by omega)
  obtain ⟨x, h1, h2, h3⟩ := hc.at k hk
  exact ⟨b, off, x, rfl, hj _ _ h1, by rw [Nat.add_assoc]; exact hj _ _ h2, h3⟩
theorem Strs.one {w : World} {v : Value} {l : List ByteArray} (h : Strs w v l) : v.oneCell' = true := by
  obtain ⟨_, a, cap, rfl, _⟩ := h
  rfl

/-- One trace appended to a row that the call owns. -/
theorem run_append_tr {wk wr : World} {base : Nat} {v a : Value} {o : List Tr} {t : Tr} {cs : List Value} (hown : wr.ownsRow base 24 2 v o.length cs) (hbase : base ≤ wr.heap.size) (ha : Strs wk a t.a) (hlen : o.length ≤ 2000000) :
    ∃ v' w', (Builtin.append_ #[26, 26] 26 #[v, .slice (some ⟨wr.heap.size, 0, none⟩) 1 1]).run Tryd.prog (wr.alloc (.cells #[a, .int .i64 t.e] 24)) = .ok v' w' ∧
      w'.ownsRow base 24 2 v' (o ++ [t]).length (cs ++ [a, .int .i64 t.e]) ∧ wr.grownBy w' v.ownBlock ∧ Below base wr w' ∧ Ap.Fresh wr v v' := by
  obtain ⟨i0, hi, hz, hs1, hb8⟩ := info_parts infoT
  obtain ⟨v', w', h1, h2, h3, h4, h5⟩ := Ap.run_append_one (P := Tryd.prog) (ty := 26) Tryd.underlying26 hi hz hs1 hb8 (by rfl) (by omega) hown hbase #[a, .int .i64 t.e] rfl
    (fun u hu => by
      simp at hu
      rcases hu with rfl | rfl
      · exact ha.one
      · rfl) (by unfold maxLen; omega) (by omega)
  exact ⟨v', w', h1, by simpa using h2, h3, h4, h5⟩

set_option maxHeartbeats 4000000 in
theorem merge_any (x y : Value) (l m : List Tr) (w : World) (hx : Trs w x l) (hy : Trs w y m) (hf : Few l) (hg : Few m) (hsum : l.length + m.length ≤ 1000000) :
    Calls Tryd.prog 43 #[x, y] w fun e w' => ∃ v, e = .returned v ∧ Trs w' v (mg (l.length + m.length + 1) l m) ∧ Below w.heap.size w w' := by
  obtain ⟨a1, c1, rfl, _, h1⟩ := hx.val
  obtain ⟨a2, c2, rfl, _, h2⟩ := hy.val
  have H1 := Lib.hid h1
  have H2 := Lib.hid h2
  have HF := Lib.hid hf
  have HG := Lib.hid hg
  have hlen := hf.1
  have hlen2 := hg.1
  clear h1 h2 hf hg hx hy
  go_enter Tryd.func43, Tryd.ntmps43
  go_wp2_with fail
  go_loopw [5, 6, 7] (fun v i j wr => ∃ (p q : Nat) (o : List Tr) (cs : List Value), p ≤ l.length ∧ q ≤ m.length ∧ i = .int .i64 p ∧ j = .int .i64 q ∧ Below w.heap.size w wr ∧ wr.ownsRow w.heap.size 24 2 v o.length cs ∧ TrCells w cs o ∧ o.length ≤ p + q ∧
      mg (l.length + m.length + 1) l m = o ++ mg (l.length + m.length + 1 - p - q) (l.drop p) (m.drop q)) (fun _ i j _ => l.length + m.length - (intOf i).toNat - (intOf j).toNat)
  case atStart => exact ⟨0, 0, [], [], Nat.zero_le _, Nat.zero_le _, rfl, rfl, Below.refl _ _, ⟨rfl, .inl ⟨rfl, rfl⟩⟩, trivial, Nat.zero_le _, rfl⟩
  case round =>
    obtain ⟨p, q, o, cs, hp, hq, rfl, rfl, hb, hown, hcs, hol, hmg⟩ := hrel
    have HB := Lib.hid hb
    have HOWN := Lib.hid hown
    have HCS := Lib.hid hcs
    have HM := Lib.hid hmg
    clear hb hown hcs hmg
    by_cases hlt1 : p < l.length
    · have g1 : decide (p < l.length) = true := by simpa using hlt1
      have g3 : ((p : Int) == (l.length : Int)) = false := by rw [beq_eq_false_iff_ne]; omega
      obtain ⟨b1, o1, a, rfl, e1, e2, hs⟩ := H1.out p hlt1
      have c1' : wr.cell? ⟨b1, o1 + p * 2, none⟩ = some a := by rw [Nat.mul_comm p 2, HB.out.cell (Ap.cell_lt e1)]; exact e1
      have c2' : wr.cell? ⟨b1, o1 + p * 2 + 1, none⟩ = some (.int .i64 l[p].e) := by rw [Nat.mul_comm p 2, HB.out.cell (Ap.cell_lt e2)]; exact e2
      have HS := Lib.hid hs
      clear e1 e2 hs
      by_cases hlt2 : q < m.length
      · obtain ⟨b2, o2, a', rfl, e1', e2', hs'⟩ := H2.out q hlt2
        have c3' : wr.cell? ⟨b2, o2 + q * 2, none⟩ = some a' := by rw [Nat.mul_comm q 2, HB.out.cell (Ap.cell_lt e1')]; exact e1'
        have c4' : wr.cell? ⟨b2, o2 + q * 2 + 1, none⟩ = some (.int .i64 m[q].e) := by rw [Nat.mul_comm q 2, HB.out.cell (Ap.cell_lt e2')]; exact e2'
        have HS' := Lib.hid hs'
        clear e1' e2' hs'
        have HLT := Lib.hid (mg_lt l m p q hlt1 hlt2)
        have HEQ := Lib.hid (mg_eq l m p q hlt1 hlt2)
        have HGT := Lib.hid (mg_gt l m p q hlt1 hlt2)
        have hua := HF.out.2 _ (List.getElem_mem hlt1)
        have hva := HG.out.2 _ (List.getElem_mem hlt2)
        generalize l[p] = u at *
        generalize m[q] = t at *
        have HU := Lib.hid hua
        have HV := Lib.hid hva
        clear hua hva
        obtain ⟨c, hc⟩ : ∃ c, cmp u t = c := ⟨_, rfl⟩
        rw [hc] at HLT HEQ HGT
        have HC := Lib.hid hc
        clear hc
        by_cases k1 : c < 0
        · have HE := Lib.hid (HM.out.trans (congrArg (o ++ ·) (HLT.out k1)))
          go_wp2_with fail
          go_still_tail 8, (by kernel_rfl)
          change wpList _ _ _ _ _ wr.drew
          go_wp2_with fail
          refine (cmp_any _ _ u t _ (HS.out.below HB.out.drew) (HS'.out.below HB.out.drew) HU.out HV.out).mono ?_
          rw [HC.out]
          rintro e w1 ⟨rfl, hb1⟩
          have HB1 := Lib.hid (HB.out.drew.trans (hb1.mono HB.out.size))
          have d1 : w1.cell? ⟨b1, o1 + p * 2, none⟩ = some a := by rw [hb1.cell (Ap.cell_lt c1')]; exact c1'
          have d2 : w1.cell? ⟨b1, o1 + p * 2 + 1, none⟩ = some (.int .i64 u.e) := by rw [hb1.cell (Ap.cell_lt c2')]; exact c2'
          have HO1 := Lib.hid (Ap.own_below HOWN.out ((Below.refl _ _).drew.trans hb1))
          obtain ⟨v2, w2, hrun, hown2, hgr, hb2, _⟩ := run_append_tr (t := u) HO1.out HB1.out.size HS.out (by omega)
          have HRUN := Lib.hid hrun
          have HO2 := Lib.hid hown2
          have HB2 := Lib.hid (HB1.out.trans hb2)
          clear hrun hown2 hgr hb2
          go_wp2_with (at_builtin; refine Ap.wpList_append_run (by rfl) _ _ _ _ rfl _ _ rfl rfl v2 w2 HRUN.out ?_)
          go_roundw
          case rel => exact ⟨p + 1, q, o ++ [u], _, by omega, by omega, by go_num, by go_num, HB2.out, HO2.out, HCS.out.snoc HS.out, by simp; omega, by rw [HE.out]; simp⟩
          case measure => simp [intOf]; omega
        by_cases k2 : c = 0
        · have HE := Lib.hid (HM.out.trans (congrArg (o ++ ·) (HEQ.out k2)))
          have k3 : ¬ 0 < c := by omega
          have k4 : 0 ≤ c := by omega
          go_wp2_with fail
          go_still_tail 8, (by kernel_rfl)
          change wpList _ _ _ _ _ wr.drew
          go_wp2_with fail
          refine (cmp_any _ _ u t _ (HS.out.below HB.out.drew) (HS'.out.below HB.out.drew) HU.out HV.out).mono ?_
          rw [HC.out]
          rintro e w1 ⟨rfl, hb1⟩
          have HB1 := Lib.hid (HB.out.drew.trans (hb1.mono HB.out.size))
          have d1 : w1.cell? ⟨b1, o1 + p * 2, none⟩ = some a := by rw [hb1.cell (Ap.cell_lt c1')]; exact c1'
          have d2 : w1.cell? ⟨b1, o1 + p * 2 + 1, none⟩ = some (.int .i64 u.e) := by rw [hb1.cell (Ap.cell_lt c2')]; exact c2'
          have HO1 := Lib.hid (Ap.own_below HOWN.out ((Below.refl _ _).drew.trans hb1))
          obtain ⟨v2, w2, hrun, hown2, hgr, hb2, _⟩ := run_append_tr (t := u) HO1.out HB1.out.size HS.out (by omega)
          have HRUN := Lib.hid hrun
          have HO2 := Lib.hid hown2
          have HB2 := Lib.hid (HB1.out.trans hb2)
          clear hrun hown2 hgr hb2
          go_wp2_with (at_builtin; refine Ap.wpList_append_run (by rfl) _ _ _ _ rfl _ _ rfl rfl v2 w2 HRUN.out ?_)
          go_roundw
          case rel => exact ⟨p + 1, q + 1, o ++ [u], _, by omega, by omega, by go_num, by go_num, HB2.out, HO2.out, HCS.out.snoc HS.out, by simp; omega, by rw [HE.out]; simp⟩
          case measure => simp [intOf]; omega
        · have k3 : 0 < c := by omega
          have HE := Lib.hid (HM.out.trans (congrArg (o ++ ·) (HGT.out k3)))
          go_wp2_with fail
          go_still_tail 8, (by kernel_rfl)
          change wpList _ _ _ _ _ wr.drew
          go_wp2_with fail
          refine (cmp_any _ _ u t _ (HS.out.below HB.out.drew) (HS'.out.below HB.out.drew) HU.out HV.out).mono ?_
          rw [HC.out]
          rintro e w1 ⟨rfl, hb1⟩
          have HB1 := Lib.hid (HB.out.drew.trans (hb1.mono HB.out.size))
          have d1 : w1.cell? ⟨b2, o2 + q * 2, none⟩ = some a' := by rw [hb1.cell (Ap.cell_lt c3')]; exact c3'
          have d2 : w1.cell? ⟨b2, o2 + q * 2 + 1, none⟩ = some (.int .i64 t.e) := by rw [hb1.cell (Ap.cell_lt c4')]; exact c4'
          have HO1 := Lib.hid (Ap.own_below HOWN.out ((Below.refl _ _).drew.trans hb1))
          obtain ⟨v2, w2, hrun, hown2, hgr, hb2, _⟩ := run_append_tr (t := t) HO1.out HB1.out.size HS'.out (by omega)
          have HRUN := Lib.hid hrun
          have HO2 := Lib.hid hown2
          have HB2 := Lib.hid (HB1.out.trans hb2)
          clear hrun hown2 hgr hb2
          go_wp2_with (at_builtin; refine Ap.wpList_append_run (by rfl) _ _ _ _ rfl _ _ rfl rfl v2 w2 HRUN.out ?_)
          go_roundw
          case rel => exact ⟨p, q + 1, o ++ [t], _, by omega, by omega, by go_num, by go_num, HB2.out, HO2.out, HCS.out.snoc HS'.out, by simp; omega, by rw [HE.out]; simp⟩
          case measure => simp [intOf]; omega
      · have g2 : decide (q < m.length) = false := by simpa using hlt2
        have HE := Lib.hid (HM.out.trans (congrArg (o ++ ·) (mg_l l m p q hlt1 (by omega))))
        generalize l[p] = u at *
        have HB1 := HB
        have HO1 := HOWN
        obtain ⟨v2, w2, hrun, hown2, hgr, hb2, _⟩ := run_append_tr (t := u) HO1.out HB1.out.size HS.out (by omega)
        have HRUN := Lib.hid hrun
        have HO2 := Lib.hid hown2
        have HB2 := Lib.hid (HB1.out.trans hb2)
        clear hrun hown2 hgr hb2
        go_wp2_with (at_builtin; refine Ap.wpList_append_run (by rfl) _ _ _ _ rfl _ _ rfl rfl v2 w2 HRUN.out ?_)
        go_roundw
        case rel => exact ⟨p + 1, q, o ++ [u], _, by omega, by omega, by go_num, by go_num, HB2.out, HO2.out, HCS.out.snoc HS.out, by simp; omega, by rw [HE.out]; simp⟩
        case measure => simp [intOf]; omega
    · have g1 : decide (p < l.length) = false := by simpa using hlt1
      have g3 : ((p : Int) == (l.length : Int)) = true := by rw [beq_iff_eq]; omega
      by_cases hlt2 : q < m.length
      · have g2 : decide (q < m.length) = true := by simpa using hlt2
        obtain ⟨b2, o2, a', rfl, e1', e2', hs'⟩ := H2.out q hlt2
        have c3' : wr.cell? ⟨b2, o2 + q * 2, none⟩ = some a' := by rw [Nat.mul_comm q 2, HB.out.cell (Ap.cell_lt e1')]; exact e1'
        have c4' : wr.cell? ⟨b2, o2 + q * 2 + 1, none⟩ = some (.int .i64 m[q].e) := by rw [Nat.mul_comm q 2, HB.out.cell (Ap.cell_lt e2')]; exact e2'
        have HS' := Lib.hid hs'
        clear e1' e2' hs'
        have HE := Lib.hid (HM.out.trans (congrArg (o ++ ·) (mg_r l m p q (by omega) hlt2)))
        generalize m[q] = t at *
        have HB1 := HB
        have HO1 := HOWN
        obtain ⟨v2, w2, hrun, hown2, hgr, hb2, _⟩ := run_append_tr (t := t) HO1.out HB1.out.size HS'.out (by omega)
        have HRUN := Lib.hid hrun
        have HO2 := Lib.hid hown2
        have HB2 := Lib.hid (HB1.out.trans hb2)
        clear hrun hown2 hgr hb2
        go_wp2_with (at_builtin; refine Ap.wpList_append_run (by rfl) _ _ _ _ rfl _ _ rfl rfl v2 w2 HRUN.out ?_)
        go_roundw
        case rel => exact ⟨p, q + 1, o ++ [t], _, by omega, by omega, by go_num, by go_num, HB2.out, HO2.out, HCS.out.snoc HS'.out, by simp; omega, by rw [HE.out]; simp⟩
        case measure => simp [intOf]; omega
      · have g2 : decide (q < m.length) = false := by simpa using hlt2
        have HE := Lib.hid (HM.out.trans (congrArg (o ++ ·) (mg_end l m p q _ (by omega) (by omega))))
        go_wp2_with fail
        go_ret
        refine ⟨_, rfl, ?_, HB.out⟩
        rw [HE.out, List.append_nil]
        exact ⟨cs, Ap.Rd.owned HOWN.out, HCS.out.below HB.out⟩
end Go.Proofs.YtmhmfnjjdcdkcaaDoor.Tr
