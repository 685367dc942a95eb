/- The document's merge and Set of traces: where what they tell lies; the walks. The program's plainOfTwo, and its closures: the walks. Worlds that only grew; the program's order of pairs: the walks. -/
import Derived.Test.YtghnonbcojbohaaGreatDoorQ17
import Derived.Test.YtghnonbcojbohaaGreatDoorQ08
import Derived.Test.YtghnonbcojbohaaGreatDoorQ06

namespace Go.Proofs.YtghnonbcojbohaaGreatDoor.Mn
open Go Go.RowKit Tr
set_option maxRecDepth 20000

theorem app1T {ok : Nat → Prop} {wk wr : World} {base : Nat} {v a : Value} {o : List Tr} {x : Tr} {cs : List Value} (hown : wr.ownsRow base 67 2 v o.length cs) (hbase : base ≤ wr.heap.size) (ha : StrsO ok wk a x.a) (hlen : o.length ≤ 2000000000000) :
    ∃ v' w', (Builtin.append_ #[29, 29] 29 #[v, .slice (some ⟨wr.heap.size, 0, none⟩) 1 1]).run Tryz.prog (wr.alloc (.cells #[a, .int .i64 x.e] 67)) = .ok v' w' ∧
      w'.ownsRow base 67 2 v' (o ++ [x]).length (cs ++ [a, .int .i64 x.e]) ∧ wr.grownBy w' v.ownBlock ∧ Below base wr w' ∧ Ap.Fresh wr v v' := run_append_tr hown hbase (so_strs ha) hlen

theorem cmpR (v1 v2 : Value) (p q : Tr) (w : World) (h1 : Strs w v1 p.a) (h2 : Strs w v2 q.a) (hl : p.a.length ≤ 1000000) (hm : q.a.length ≤ 1000000) :
    Calls Tryz.prog 38 #[.agg #[v1, .int .i64 p.e], .agg #[v2, .int .i64 q.e]] w fun e w' => e = .returned (.int .i64 (cmp p q)) ∧ Below w.heap.size w w' := cmp_any v1 v2 p q w h1 h2 (by omega) (by omega)

set_option maxHeartbeats 4000000 in
theorem mergeT_any (ok : Nat → Prop) (x y : Value) (l m : List Tr) (w : World) (hx : TsO ok w x l) (hy : TsO ok w y m) (hf : (∀ t ∈ l ++ m, t.a.length ≤ 1000000)) (hsum : l.length + m.length ≤ 1000000000000) :
    Calls Tryz.prog 81 #[x, y] w (OutT ok (mg (l.length + m.length + 1) l m) w) := by
  obtain ⟨a1, c1, rfl, _, h1⟩ := hx.val
  obtain ⟨a2, c2, rfl, _, h2⟩ := hy.val
  have H1 := Lib.hid h1
  have H2 := Lib.hid h2
  have HF := Lib.hid hf
  clear h1 h2 hf hx hy
  unfold OutT
  obtain ⟨G, hG⟩ : ∃ G, mg (l.length + m.length + 1) l m = G := ⟨_, rfl⟩
  rw [hG]
  have HGG := Lib.hid hG
  clear hG
  go_enter Tryz.func81, Tryz.ntmps81
  go_wp2_with fail
  go_loopw [5, 6, 7] (fun v i j wr => ∃ (p q : Nat) (o : List Tr) (cs : List Value), p ≤ l.length ∧ q ≤ m.length ∧ i = .int .i64 p ∧ j = .int .i64 q ∧ Below w.heap.size w wr ∧ wr.ownsRow w.heap.size 67 2 v o.length cs ∧ Cl (ET ok w) 2 o cs ∧ o.length ≤ p + q ∧
      mg (l.length + m.length + 1) l m = o ++ mg (l.length + m.length + 1 - p - q) (l.drop p) (m.drop q)) (fun _ i j _ => l.length + m.length - (intOf i).toNat - (intOf j).toNat)
  case atStart => exact ⟨0, 0, [], [], Nat.zero_le _, Nat.zero_le _, rfl, rfl, Below.refl _ _, ⟨rfl, .inl ⟨rfl, rfl⟩⟩, rfl, Nat.zero_le _, rfl⟩
  case round =>
    obtain ⟨p, q, o, cs, hp, hq, rfl, rfl, hb, hown, hcs, hol, hmg⟩ := hrel
    have HB := Lib.hid hb
    have HOWN := Lib.hid hown
    have HCS := Lib.hid hcs
    have HM := Lib.hid hmg
    clear hb hown hcs hmg
    by_cases hlt1 : p < l.length
    · have g1 : decide (p < l.length) = true := by simpa using hlt1
      have g3 : ((p : Int) == (l.length : Int)) = false := by rw [beq_eq_false_iff_ne]; omega
      obtain ⟨b1, o1, a, rfl, _, e1, e2, hs⟩ := H1.out p hlt1
      have c1 : wr.cell? ⟨b1, o1 + p * 2, none⟩ = some a := by rw [HB.out.cell (Ap.cell_lt e1)]; exact e1
      have c2 : wr.cell? ⟨b1, o1 + p * 2 + 1, none⟩ = some (.int .i64 l[p].e) := by rw [HB.out.cell (Ap.cell_lt e2)]; exact e2
      have HS := Lib.hid hs
      clear e1 e2 hs
      by_cases hlt2 : q < m.length
      · skip
        obtain ⟨b2, o2, a', rfl, _, f1, f2, ht⟩ := H2.out q hlt2
        have k1 : wr.cell? ⟨b2, o2 + q * 2, none⟩ = some a' := by rw [HB.out.cell (Ap.cell_lt f1)]; exact f1
        have k2 : wr.cell? ⟨b2, o2 + q * 2 + 1, none⟩ = some (.int .i64 m[q].e) := by rw [HB.out.cell (Ap.cell_lt f2)]; exact f2
        have HT := Lib.hid ht
        clear f1 f2 ht
        have HLT := Lib.hid (mg_lt l m p q hlt1 hlt2)
        have HEQ := Lib.hid (mg_eq l m p q hlt1 hlt2)
        have HGT := Lib.hid (mg_gt l m p q hlt1 hlt2)
        have hua := HF.out _ (List.mem_append.2 (.inl (List.getElem_mem hlt1)))
        have hva := HF.out _ (List.mem_append.2 (.inr (List.getElem_mem hlt2)))
        have CMP := Lib.hid (fun w1 (hb : Below w.heap.size w w1) => cmpR _ _ l[p] m[q] w1 (so_strs (so_below HS.out hb)) (so_strs (so_below HT.out hb)) hua hva)
        clear hua hva
        generalize l[p] = u at *
        generalize m[q] = t at *
        obtain ⟨c, hc⟩ : ∃ c, cmp u t = c := ⟨_, rfl⟩
        rw [hc] at HLT HEQ HGT
        have HC := Lib.hid hc
        clear hc
        obtain ⟨_, av, cv, rfl, _⟩ := id HS.out
        obtain ⟨_, bv, dv, rfl, _⟩ := id HT.out
        by_cases k1' : c < 0
        · have HE := Lib.hid (HM.out.trans (congrArg (o ++ ·) (HLT.out k1')))
          go_wp2_with fail
          go_still_tail 8, (by kernel_rfl)
          change wpList _ _ _ _ _ wr.drew
          go_wp2_with fail
          refine (CMP.out _ HB.out.drew).mono ?_
          rw [HC.out]
          rintro e w1 ⟨rfl, hb1⟩
          have HB1 := Lib.hid (HB.out.drew.trans (hb1.mono HB.out.size))
          have d1 : w1.cell? ⟨b1, o1 + p * 2, none⟩ = some (.slice av u.a.length cv) := by rw [hb1.cell (Ap.cell_lt c1)]; exact c1
          have d2 : w1.cell? ⟨b1, o1 + p * 2 + 1, none⟩ = some (.int .i64 u.e) := by rw [hb1.cell (Ap.cell_lt c2)]; exact c2
          have HO1 := Lib.hid (Ap.own_below HOWN.out ((Below.refl _ _).drew.trans hb1))
          obtain ⟨v2, w2, hrun, hown2, hgr, hb2, _⟩ := app1T (x := u) HO1.out HB1.out.size HS.out (by omega)
          have HRUN := Lib.hid hrun
          have HO2 := Lib.hid hown2
          have HB2 := Lib.hid (HB1.out.trans hb2)
          clear hrun hown2 hgr hb2
          go_wp2_with (at_builtin; refine Ap.wpList_append_run (by rfl) _ _ _ _ rfl _ _ rfl rfl v2 w2 HRUN.out ?_)
          go_roundw
          case rel => exact ⟨p + 1, q, o ++ [u], _, by omega, by omega, by go_num, by go_num, HB2.out, HO2.out, Cl.append ET.len (Cl.one ⟨_, rfl, HS.out⟩ rfl) HCS.out, by simp; omega, by rw [HE.out]; simp⟩
          case measure => simp [intOf]; omega
        by_cases k2' : c = 0
        · have HE := Lib.hid (HM.out.trans (congrArg (o ++ ·) (HEQ.out k2')))
          have k3' : ¬ 0 < c := by omega
          have k4' : 0 ≤ c := by omega
          go_wp2_with fail
          go_still_tail 8, (by kernel_rfl)
          change wpList _ _ _ _ _ wr.drew
          go_wp2_with fail
          refine (CMP.out _ HB.out.drew).mono ?_
          rw [HC.out]
          rintro e w1 ⟨rfl, hb1⟩
          have HB1 := Lib.hid (HB.out.drew.trans (hb1.mono HB.out.size))
          have d1 : w1.cell? ⟨b1, o1 + p * 2, none⟩ = some (.slice av u.a.length cv) := by rw [hb1.cell (Ap.cell_lt c1)]; exact c1
          have d2 : w1.cell? ⟨b1, o1 + p * 2 + 1, none⟩ = some (.int .i64 u.e) := by rw [hb1.cell (Ap.cell_lt c2)]; exact c2
          have HO1 := Lib.hid (Ap.own_below HOWN.out ((Below.refl _ _).drew.trans hb1))
          obtain ⟨v2, w2, hrun, hown2, hgr, hb2, _⟩ := app1T (x := u) HO1.out HB1.out.size HS.out (by omega)
          have HRUN := Lib.hid hrun
          have HO2 := Lib.hid hown2
          have HB2 := Lib.hid (HB1.out.trans hb2)
          clear hrun hown2 hgr hb2
          go_wp2_with (at_builtin; refine Ap.wpList_append_run (by rfl) _ _ _ _ rfl _ _ rfl rfl v2 w2 HRUN.out ?_)
          go_roundw
          case rel => exact ⟨p + 1, q + 1, o ++ [u], _, by omega, by omega, by go_num, by go_num, HB2.out, HO2.out, Cl.append ET.len (Cl.one ⟨_, rfl, HS.out⟩ rfl) HCS.out, by simp; omega, by rw [HE.out]; simp⟩
          case measure => simp [intOf]; omega
        · have k3' : 0 < c := by omega
          have HE := Lib.hid (HM.out.trans (congrArg (o ++ ·) (HGT.out k3')))
          go_wp2_with fail
          go_still_tail 8, (by kernel_rfl)
          change wpList _ _ _ _ _ wr.drew
          go_wp2_with fail
          refine (CMP.out _ HB.out.drew).mono ?_
          rw [HC.out]
          rintro e w1 ⟨rfl, hb1⟩
          have HB1 := Lib.hid (HB.out.drew.trans (hb1.mono HB.out.size))
          have d1 : w1.cell? ⟨b2, o2 + q * 2, none⟩ = some (.slice bv t.a.length dv) := by rw [hb1.cell (Ap.cell_lt k1)]; exact k1
          have d2 : w1.cell? ⟨b2, o2 + q * 2 + 1, none⟩ = some (.int .i64 t.e) := by rw [hb1.cell (Ap.cell_lt k2)]; exact k2
          have HO1 := Lib.hid (Ap.own_below HOWN.out ((Below.refl _ _).drew.trans hb1))
          obtain ⟨v2, w2, hrun, hown2, hgr, hb2, _⟩ := app1T (x := t) HO1.out HB1.out.size HT.out (by omega)
          have HRUN := Lib.hid hrun
          have HO2 := Lib.hid hown2
          have HB2 := Lib.hid (HB1.out.trans hb2)
          clear hrun hown2 hgr hb2
          go_wp2_with (at_builtin; refine Ap.wpList_append_run (by rfl) _ _ _ _ rfl _ _ rfl rfl v2 w2 HRUN.out ?_)
          go_roundw
          case rel => exact ⟨p, q + 1, o ++ [t], _, by omega, by omega, by go_num, by go_num, HB2.out, HO2.out, Cl.append ET.len (Cl.one ⟨_, rfl, HT.out⟩ rfl) HCS.out, by simp; omega, by rw [HE.out]; simp⟩
          case measure => simp [intOf]; omega
      · have g2 : decide (q < m.length) = false := by simpa using hlt2
        have HE := Lib.hid (HM.out.trans (congrArg (o ++ ·) (mg_l l m p q hlt1 (by omega))))
        generalize l[p] = u at *
        obtain ⟨_, av, cv, rfl, _⟩ := id HS.out
        have HB1 := HB
        have HO1 := HOWN
        obtain ⟨v2, w2, hrun, hown2, hgr, hb2, _⟩ := app1T (x := u) HO1.out HB1.out.size HS.out (by omega)
        have HRUN := Lib.hid hrun
        have HO2 := Lib.hid hown2
        have HB2 := Lib.hid (HB1.out.trans hb2)
        clear hrun hown2 hgr hb2
        go_wp2_with (at_builtin; refine Ap.wpList_append_run (by rfl) _ _ _ _ rfl _ _ rfl rfl v2 w2 HRUN.out ?_)
        go_roundw
        case rel => exact ⟨p + 1, q, o ++ [u], _, by omega, by omega, by go_num, by go_num, HB2.out, HO2.out, Cl.append ET.len (Cl.one ⟨_, rfl, HS.out⟩ rfl) HCS.out, by simp; omega, by rw [HE.out]; simp⟩
        case measure => simp [intOf]; omega
    · have g1 : decide (p < l.length) = false := by simpa using hlt1
      have g3 : ((p : Int) == (l.length : Int)) = true := by rw [beq_iff_eq]; omega
      by_cases hlt2 : q < m.length
      · have g2 : decide (q < m.length) = true := by simpa using hlt2
        obtain ⟨b2, o2, a', rfl, _, f1, f2, ht⟩ := H2.out q hlt2
        have k1 : wr.cell? ⟨b2, o2 + q * 2, none⟩ = some a' := by rw [HB.out.cell (Ap.cell_lt f1)]; exact f1
        have k2 : wr.cell? ⟨b2, o2 + q * 2 + 1, none⟩ = some (.int .i64 m[q].e) := by rw [HB.out.cell (Ap.cell_lt f2)]; exact f2
        have HT := Lib.hid ht
        clear f1 f2 ht
        have HE := Lib.hid (HM.out.trans (congrArg (o ++ ·) (mg_r l m p q (by omega) hlt2)))
        generalize m[q] = t at *
        obtain ⟨_, bv, dv, rfl, _⟩ := id HT.out
        have HB1 := HB
        have HO1 := HOWN
        obtain ⟨v2, w2, hrun, hown2, hgr, hb2, _⟩ := app1T (x := t) HO1.out HB1.out.size HT.out (by omega)
        have HRUN := Lib.hid hrun
        have HO2 := Lib.hid hown2
        have HB2 := Lib.hid (HB1.out.trans hb2)
        clear hrun hown2 hgr hb2
        go_wp2_with (at_builtin; refine Ap.wpList_append_run (by rfl) _ _ _ _ rfl _ _ rfl rfl v2 w2 HRUN.out ?_)
        go_roundw
        case rel => exact ⟨p, q + 1, o ++ [t], _, by omega, by omega, by go_num, by go_num, HB2.out, HO2.out, Cl.append ET.len (Cl.one ⟨_, rfl, HT.out⟩ rfl) HCS.out, by simp; omega, by rw [HE.out]; simp⟩
        case measure => simp [intOf]; omega
      · have g2 : decide (q < m.length) = false := by simpa using hlt2
        have HE := HM.out.trans (congrArg (o ++ ·) (mg_end l m p q _ (by omega) (by omega)))
        rw [List.append_nil, HGG.out] at HE
        subst HE
        have R := Ap.RdO.fresh HOWN.out
        obtain ⟨_, a6, n6, rfl, _⟩ := id R
        have RR := Lib.hid R
        clear R
        go_wp2_with fail
        go_ret
        exact ⟨_, _, rfl, ⟨cs, Ap.RdO.imp RR.out fun _ _ h => .inr h, Cl.imp (ET.map fun _ _ h => so_below (so_imp h fun _ _ h => .inl h) HB.out) HCS.out⟩, HB.out⟩

theorem TsO_take {ok : Nat → Prop} {w : World} {b off cap : Nat} {ts : List Tr} (h : TsO ok w (.slice (some ⟨b, off, none⟩) ts.length cap) ts) (k : Nat) (hk : k ≤ ts.length) : TsO ok w (.slice (some ⟨b, off, none⟩) k cap) (ts.take k) := by
  obtain ⟨cs, ⟨hl, a, cap', hv, hc, hn, hcell⟩, ht⟩ := h
  cases hv
  refine ⟨cs.take (k * 2), ⟨?_, some ⟨b, off, none⟩, cap, ?_, ?_, fun h => (by cases h), fun h0 => ?_⟩, Cl.take ET.len ht k⟩
  · rw [List.length_take, List.length_take, Nat.min_eq_left hk, hl]; omega
  · rw [List.length_take, Nat.min_eq_left hk]
  · rw [List.length_take]; omega
  · obtain ⟨b', off', ha, ho, hlt, hj⟩ := hcell (by simp at h0; omega)
    cases ha
    exact ⟨b, off, rfl, ho, hlt, fun j u hu => hj j u (by rw [List.getElem?_take] at hu; split at hu; exact hu; cases hu)⟩
theorem TsO_drop {ok : Nat → Prop} {w : World} {b off cap : Nat} {ts : List Tr} (h : TsO ok w (.slice (some ⟨b, off, none⟩) ts.length cap) ts) (k : Nat) (hk : k < ts.length) : TsO ok w (.slice (some ⟨b, off + k * 2, none⟩) (ts.length - k) (cap - k)) (ts.drop k) := by
  obtain ⟨cs, ⟨hl, a, cap', hv, hc, hn, hcell⟩, ht⟩ := h
  cases hv
  refine ⟨cs.drop (k * 2), ⟨?_, some ⟨b, off + k * 2, none⟩, cap - k, ?_, ?_, fun h => (by cases h), fun h0 => ?_⟩, Cl.drop ht k⟩
  · rw [List.length_drop, List.length_drop, hl]; omega
  · simp
  · simp; omega
  · obtain ⟨b', off', ha, ho, hlt, hj⟩ := hcell (by omega)
    cases ha
    exact ⟨b, _, rfl, ho, hlt, fun j u hu => by rw [Nat.add_assoc]; exact hj _ u (by rw [List.getElem?_drop] at hu; exact hu)⟩


set_option maxHeartbeats 2000000 in
theorem setTR_any (n : Nat) : ∀ (ok : Nat → Prop) (x : Value) (l : List Tr) (w : World), l.length ≤ n → l.length ≤ 1000000000000 → TsO ok w x l → (∀ t ∈ l, t.a.length ≤ 1000000) →
    Calls Tryz.prog 45 #[x] w (OutT ok (norm l) w) := by
  induction n with
  | zero =>
    intro ok x l w hn _ hx hf
    obtain rfl : l = [] := List.eq_nil_of_length_eq_zero (by omega)
    obtain ⟨a, c, rfl, _⟩ := hx.val
    have HX := Lib.hid hx
    unfold OutT
    clear hx hf
    go_enter Tryz.func45, Tryz.ntmps45
    go_wp2_with fail
    go_ret
    exact ⟨_, _, rfl, HX.out.imp fun _ _ h => .inl h, Below.refl _ _⟩
  | succ n ih =>
    intro ok x l w hn hbig hx hf
    by_cases h2 : l.length < 2
    · obtain ⟨a, c, rfl, _⟩ := hx.val
      have HX := Lib.hid hx
      have hsh := norm_short h2
      rw [hsh]
      unfold OutT
      clear hx hf ih hsh
      go_enter Tryz.func45, Tryz.ntmps45
      go_wp2_with fail
      go_ret
      exact ⟨_, _, rfl, HX.out.imp fun _ _ h => .inl h, Below.refl _ _⟩
    · obtain ⟨a0, cap, rfl, hcap, hval⟩ := hx.val
      obtain ⟨b, off, rfl⟩ : ∃ b off, a0 = some ⟨b, off, none⟩ := by
        obtain ⟨b, off, _, ha, _⟩ := hval 0 (by omega)
        exact ⟨b, off, ha⟩
      clear hval
      obtain ⟨hf2, hh⟩ : ∃ hf2, l.length / 2 = hf2 := ⟨_, rfl⟩
      have hh1 : 0 < hf2 := by omega
      have hh2 : hf2 < l.length := by omega
      have hh3 : l.length - hf2 ≤ n := by omega
      have hh4 : hf2 ≤ n := by omega
      have HT1 := Lib.hid (TsO_take hx hf2 (by omega))
      have HT2 := Lib.hid (TsO_drop hx hf2 (by omega))
      have LT1 : (l.take hf2).length = hf2 := by rw [List.length_take]; omega
      have LT2 : (l.drop hf2).length = l.length - hf2 := by rw [List.length_drop]
      have F1 := Lib.hid (fun t (ht : t ∈ l.take hf2) => hf t (List.mem_of_mem_take ht))
      have F2 := Lib.hid (fun t (ht : t ∈ l.drop hf2) => hf t (List.mem_of_mem_drop ht))
      have hnorm : norm l = mg ((norm (l.take hf2)).length + (norm (l.drop hf2)).length + 1) (norm (l.take hf2)) (norm (l.drop hf2)) := by
        rw [mg_norm _ _ _ (Nat.lt_succ_self _), List.take_append_drop]
      rw [hnorm]
      have IH1 := Lib.hid (fun w1 (hb : Below w.heap.size w w1) => ih ok _ (l.take hf2) w1 (by omega) (by omega) (HT1.out.below hb) F1.out)
      have IH2 := Lib.hid (fun w1 (hb : Below w.heap.size w w1) => ih ok _ (l.drop hf2) w1 (by omega) (by omega) (HT2.out.below hb) F2.out)
      have e1 := length_norm (l.take hf2)
      have e2 := length_norm (l.drop hf2)
      have N1 := Lib.hid (fun t (ht : t ∈ norm (l.take hf2)) => F1.out t ((mem_norm t _).1 ht))
      have N2 := Lib.hid (fun t (ht : t ∈ norm (l.drop hf2)) => F2.out t ((mem_norm t _).1 ht))
      have hs : (norm (l.take hf2)).length + (norm (l.drop hf2)).length ≤ 1000000000000 := by omega
      generalize norm (l.take hf2) = A at *
      generalize norm (l.drop hf2) = B at *
      have MG := Lib.hid (fun w0 (hw0 : Below w.heap.size w w0) y1 y2 h1 h2 => mergeT_any (fun b => ok b ∨ w.heap.size ≤ b) y1 y2 A B w0 h1 h2 (fun t ht => (List.mem_append.1 ht).elim (N1.out t) (N2.out t)) hs)
      generalize mg (A.length + B.length + 1) A B = G at MG ⊢
      have i1 : (0 : Int) ≤ (hf2 : Int) := by omega
      have i2 : (hf2 : Int) ≤ (l.length : Int) := by omega
      have i3 : (hf2 : Int) ≤ (cap : Int) := by omega
      have i4 : (l.length : Int) ≤ (cap : Int) := by omega
      have q1 : (l.length : Int).tdiv 2 = (hf2 : Int) := by rw [← hh]; rfl
      have q2 : IntKind.i64.wrap (hf2 : Int) = (hf2 : Int) := IntWalk.i64_in _ (by omega)
      clear hx hf ih hh LT1 LT2 hnorm e1 e2 hs
      go_enter Tryz.func45, Tryz.ntmps45
      go_wp2_with fail
      go_region_held3 (fun _ => True) (trivial) (first
        | (go_at_call 45
           (with_reducible refine (IH1.out _ (Below.refl _ _).drew).mono ?_)
           rintro e w1 ⟨a1, n1, rfl, ht1, hb1⟩
           have T1 := Lib.hid (ht1.imp (ok' := fun b => ok b ∨ w.heap.size ≤ b) fun b _ h => h)
           have B1 : Hid (Below w.heap.size w w1) := (Below.refl _ _).drew.trans hb1
           clear ht1 hb1)
        | (go_at_call 45
           (with_reducible refine (IH2.out _ B1.out).mono ?_)
           rintro e w2 ⟨a2, n2, rfl, ht2, hb2⟩
           have hsz := B1.out.size
           have T2 := Lib.hid (ht2.imp (ok' := fun b => ok b ∨ w.heap.size ≤ b) fun b _ h => h.imp id fun h => by omega)
           have T3 := Lib.hid (T1.out.below hb2)
           have B2 := Lib.hid (B1.out.trans (hb2.mono B1.out.size))
           clear ht2 hb2 hsz)
        | (go_at_call 81
           (with_reducible refine (MG.out _ B2.out _ _ T3.out T2.out).mono ?_)
           intro e w3 ho
           have HO := Lib.hid (ho.up (ok := ok) B2.out fun b h => h)
           obtain ⟨a5, n5, rfl, _, _⟩ := ho)
        | fail)
      go_wp2_with fail
      go_ret
      exact HO.out
end Go.Proofs.YtghnonbcojbohaaGreatDoor.Mn

namespace Go.Proofs.YtghnonbcojbohaaGreatDoor.Mn
open Go Go.RowKit Tr
set_option maxRecDepth 20000

theorem box1_new (w : World) (a : Value) (t : TypeId) : (w.alloc (.cells #[a] t)).cell? ⟨w.heap.size, 0, none⟩ = some a := by simp
theorem flat_one {α β : Type} (f : α → List β) {l : List α} {x : α} (h : x ∈ l) : (f x).length ≤ (l.flatMap f).length := by
  obtain ⟨s, t, rfl⟩ := List.append_of_mem h
  rw [List.flatMap_append, List.flatMap_cons, List.length_append, List.length_append]
  omega

set_option maxHeartbeats 1000000 in
theorem pot1_any (T : TCon) (ok : Nat → Prop) (bx : Nat) (a y : Value) (t : Tr) (l : List Tr) (w : World) (hb : w.cell? ⟨bx, 0, none⟩ = some y) (hs : StrsO ok w a t.a) (hl : TsO ok w y l) (hlen : l.length ≤ 1000000000000) (hrow : ∀ u ∈ l, t.a.length + u.a.length ≤ 1000000) :
    Calls Tryz.prog 104 #[.agg #[a, .int .i64 t.e], .pointer (some ⟨bx, 0, none⟩)] w (OutT ok (l.map (thn t)) w) := by
  have HB := Lib.hid (fun o => bel1 w o)
  have C := Lib.hid (fun w1 (hb : Below w.heap.size w w1) => then_any T ok a y t l w1 (so_below hs hb) (hl.below hb) hlen hrow)
  have hlt := Ap.cell_lt hb
  generalize l.map (thn t) = L at C ⊢
  obtain ⟨_, a1, k1, rfl, _⟩ := hs
  obtain ⟨_, ⟨_, a2, k2, rfl, _⟩, _⟩ := hl
  go_enter Tryz.func104, Tryz.ntmps104
  go_wp2_with fail
  refine (C.out _ (HB.out _)).mono ?_
  intro e w2 ho
  have HO := Lib.hid (ho.up (HB.out _) fun b h => .inl h)
  obtain ⟨a4, k4, rfl, _, _⟩ := ho
  go_wp2_with fail
  go_ret
  exact HO.out

set_option maxHeartbeats 2000000 in
theorem plain5_any (T : TCon) (x y : Value) (A B : List Tr) (w : World) (hx : TsO any w x A) (hy : TsO any w y B) (hA : A.length ≤ 1000000000000) (hB : B.length ≤ 1000000000000) (hrow : ∀ t ∈ A, ∀ u ∈ B, t.a.length + u.a.length ≤ 9)
    (hout : (A.flatMap fun t => B.map (thn t)).length ≤ 1000000000000) :
    Calls Tryz.prog 63 #[.int .i64 5, x, y] w (OutT any (A.flatMap fun t => B.map (thn t)) w) := by
  have eg : ∀ args w, (callFunc 104 args).run Tryz.prog w = .ok (.enter 104 args) w := enters_of Tryz.func104 (by kernel_rfl) rfl
  have hin : ∀ t ∈ A, (B.map (thn t)).length ≤ 1000000000000 := fun t ht => Nat.le_trans (flat_one (fun t => B.map (thn t)) ht) hout
  have C := Lib.hid (fun ty => eachTT 104 #[.pointer (some ⟨w.heap.size, 0, none⟩)] eg any x A (fun t => B.map (thn t)) (w.alloc (.cells #[y] ty)) (hx.below (bel1 _ _))
    (fun wr hb t ht a ha => by
      have hc : wr.cell? ⟨w.heap.size, 0, none⟩ = some y := by rw [hb.cell (p := ⟨w.heap.size, 0, none⟩) (by simp)]; exact box1_new _ _ _
      have hY := (((hy.imp (ok' := fun b => any b ∧ b < (w.alloc (.cells #[y] ty)).heap.size) fun b hlt h => ⟨h, by simp; omega⟩).below (bel1 w (.cells #[y] ty))).below hb)
      exact pot1_any T _ w.heap.size a y t B wr hc ha hY hB (fun u hu => by have := hrow t ht u hu; omega)) hA hout)
  generalize (A.flatMap fun t => B.map (thn t)) = L at C ⊢
  obtain ⟨_, ⟨_, a1, k1, rfl, _⟩, _⟩ := hx
  obtain ⟨_, ⟨_, a2, k2, rfl, _⟩, _⟩ := hy
  clear hin
  go_enter Tryz.func63, Tryz.ntmps63
  go_wp2_with fail
  refine (C.out _).mono ?_
  intro e w2 ho
  have HO := Lib.hid (ho.up (bel1 w _) fun b h => .inl h)
  obtain ⟨a4, k4, rfl, _, _⟩ := ho
  go_wp2_with fail
  go_ret
  exact HO.out

set_option maxHeartbeats 1000000 in
theorem pot2_any (T : TCon) (ok : Nat → Prop) (bx : Nat) (a y : Value) (t : Tr) (l : List Tr) (w : World) (hb : w.cell? ⟨bx, 0, none⟩ = some y) (hs : StrsO ok w a t.a) (hl : TsO ok w y l) (hlen : l.length ≤ 1000000000000) (hout : (l.flatMap (pr t)).length ≤ 1000000000000) (hrow : ∀ u ∈ l, t.a.length + u.a.length ≤ 9) :
    Calls Tryz.prog 105 #[.agg #[a, .int .i64 t.e], .pointer (some ⟨bx, 0, none⟩)] w (OutT ok (l.flatMap (pr t)) w) := by
  have HB := Lib.hid (fun o => bel1 w o)
  have C := Lib.hid (fun w1 (hb : Below w.heap.size w w1) => beside_any T ok a y t l w1 (so_below hs hb) (hl.below hb) hlen hout hrow)
  have hlt := Ap.cell_lt hb
  generalize l.flatMap (pr t) = L at C ⊢
  obtain ⟨_, a1, k1, rfl, _⟩ := hs
  obtain ⟨_, ⟨_, a2, k2, rfl, _⟩, _⟩ := hl
  go_enter Tryz.func105, Tryz.ntmps105
  go_wp2_with fail
  refine (C.out _ (HB.out _)).mono ?_
  intro e w2 ho
  have HO := Lib.hid (ho.up (HB.out _) fun b h => .inl h)
  obtain ⟨a4, k4, rfl, _, _⟩ := ho
  go_wp2_with fail
  go_ret
  exact HO.out

set_option maxHeartbeats 2000000 in
theorem plain7_any (T : TCon) (x y : Value) (A B : List Tr) (w : World) (hx : TsO any w x A) (hy : TsO any w y B) (hA : A.length ≤ 1000000000000) (hB : B.length ≤ 1000000000000) (hrow : ∀ t ∈ A, ∀ u ∈ B, t.a.length + u.a.length ≤ 9)
    (hout : (A.flatMap fun t => B.flatMap (pr t)).length ≤ 1000000000000) :
    Calls Tryz.prog 63 #[.int .i64 7, x, y] w (OutT any (A.flatMap fun t => B.flatMap (pr t)) w) := by
  have eg : ∀ args w, (callFunc 105 args).run Tryz.prog w = .ok (.enter 105 args) w := enters_of Tryz.func105 (by kernel_rfl) rfl
  have hin : ∀ t ∈ A, (B.flatMap (pr t)).length ≤ 1000000000000 := fun t ht => Nat.le_trans (flat_one (fun t => B.flatMap (pr t)) ht) hout
  have C := Lib.hid (fun ty => eachTT 105 #[.pointer (some ⟨w.heap.size, 0, none⟩)] eg any x A (fun t => B.flatMap (pr t)) (w.alloc (.cells #[y] ty)) (hx.below (bel1 _ _))
    (fun wr hb t ht a ha => by
      have hc : wr.cell? ⟨w.heap.size, 0, none⟩ = some y := by rw [hb.cell (p := ⟨w.heap.size, 0, none⟩) (by simp)]; exact box1_new _ _ _
      have hY := (((hy.imp (ok' := fun b => any b ∧ b < (w.alloc (.cells #[y] ty)).heap.size) fun b hlt h => ⟨h, by simp; omega⟩).below (bel1 w (.cells #[y] ty))).below hb)
      exact pot2_any T _ w.heap.size a y t B wr hc ha hY hB (hin t ht) (fun u hu => by have := hrow t ht u hu; omega)) hA hout)
  generalize (A.flatMap fun t => B.flatMap (pr t)) = L at C ⊢
  obtain ⟨_, ⟨_, a1, k1, rfl, _⟩, _⟩ := hx
  obtain ⟨_, ⟨_, a2, k2, rfl, _⟩, _⟩ := hy
  clear hin
  go_enter Tryz.func63, Tryz.ntmps63
  go_wp2_with fail
  refine (C.out _).mono ?_
  intro e w2 ho
  have HO := Lib.hid (ho.up (bel1 w _) fun b h => .inl h)
  obtain ⟨a4, k4, rfl, _, _⟩ := ho
  go_wp2_with fail
  go_ret
  exact HO.out

set_option maxHeartbeats 1000000 in
theorem pot3_any (T : TCon) (ok : Nat → Prop) (bx : Nat) (a y : Value) (t : Tr) (l : List Tr) (w : World) (hb : w.cell? ⟨bx, 0, none⟩ = some y) (hs : StrsO ok w a t.a) (hl : TsO ok w y l) (hlen : l.length ≤ 1000000000000) (hrow : ∀ u ∈ l, t.a.length + u.a.length ≤ 1000000) :
    Calls Tryz.prog 107 #[.agg #[a, .int .i64 t.e], .pointer (some ⟨bx, 0, none⟩)] w (OutT ok (hdl t l) w) := by
  have HB := Lib.hid (fun o => bel1 w o)
  have C := Lib.hid (fun w1 (hb : Below w.heap.size w w1) => handed_any T ok a y t l w1 (so_below hs hb) (hl.below hb) hlen hrow)
  have hlt := Ap.cell_lt hb
  generalize hdl t l = L at C ⊢
  obtain ⟨_, a1, k1, rfl, _⟩ := hs
  obtain ⟨_, ⟨_, a2, k2, rfl, _⟩, _⟩ := hl
  go_enter Tryz.func107, Tryz.ntmps107
  go_wp2_with fail
  refine (C.out _ (HB.out _)).mono ?_
  intro e w2 ho
  have HO := Lib.hid (ho.up (HB.out _) fun b h => .inl h)
  obtain ⟨a4, k4, rfl, _, _⟩ := ho
  go_wp2_with fail
  go_ret
  exact HO.out

set_option maxHeartbeats 2000000 in
theorem plain8_any (T : TCon) (x y : Value) (A B : List Tr) (w : World) (hx : TsO any w x A) (hy : TsO any w y B) (hA : A.length ≤ 1000000000000) (hB : B.length ≤ 1000000000000) (hrow : ∀ t ∈ A, ∀ u ∈ B, t.a.length + u.a.length ≤ 9)
    (hout : (A.flatMap fun t => hdl t B).length ≤ 1000000000000) :
    Calls Tryz.prog 63 #[.int .i64 8, x, y] w (OutT any (A.flatMap fun t => hdl t B) w) := by
  have eg : ∀ args w, (callFunc 107 args).run Tryz.prog w = .ok (.enter 107 args) w := enters_of Tryz.func107 (by kernel_rfl) rfl
  have hin : ∀ t ∈ A, (hdl t B).length ≤ 1000000000000 := fun t ht => Nat.le_trans (flat_one (fun t => hdl t B) ht) hout
  have C := Lib.hid (fun ty => eachTT 107 #[.pointer (some ⟨w.heap.size, 0, none⟩)] eg any x A (fun t => hdl t B) (w.alloc (.cells #[y] ty)) (hx.below (bel1 _ _))
    (fun wr hb t ht a ha => by
      have hc : wr.cell? ⟨w.heap.size, 0, none⟩ = some y := by rw [hb.cell (p := ⟨w.heap.size, 0, none⟩) (by simp)]; exact box1_new _ _ _
      have hY := (((hy.imp (ok' := fun b => any b ∧ b < (w.alloc (.cells #[y] ty)).heap.size) fun b hlt h => ⟨h, by simp; omega⟩).below (bel1 w (.cells #[y] ty))).below hb)
      exact pot3_any T _ w.heap.size a y t B wr hc ha hY hB (fun u hu => by have := hrow t ht u hu; omega)) hA hout)
  generalize (A.flatMap fun t => hdl t B) = L at C ⊢
  obtain ⟨_, ⟨_, a1, k1, rfl, _⟩, _⟩ := hx
  obtain ⟨_, ⟨_, a2, k2, rfl, _⟩, _⟩ := hy
  clear hin
  go_enter Tryz.func63, Tryz.ntmps63
  go_wp2_with fail
  refine (C.out _).mono ?_
  intro e w2 ho
  have HO := Lib.hid (ho.up (bel1 w _) fun b h => .inl h)
  obtain ⟨a4, k4, rfl, _, _⟩ := ho
  go_wp2_with fail
  go_ret
  exact HO.out

set_option maxHeartbeats 2000000 in
theorem plain6_any (T : TCon) (x y : Value) (A B : List Tr) (w : World) (hx : TsO any w x A) (hy : TsO any w y B) (hAB : A.length + B.length ≤ 1000000000000) (hrow : ∀ t ∈ A ++ B, t.a.length ≤ 1000000) :
    Calls Tryz.prog 63 #[.int .i64 6, x, y] w (OutT any (norm (A ++ B)) w) := by
  have C := Lib.hid (fun o => T.cOr x y A B (w.alloc o) (hx.below (bel1 _ _)).trs (hy.below (bel1 _ _)).trs hAB hrow)
  generalize norm (A ++ B) = L at C ⊢
  obtain ⟨_, ⟨_, a1, k1, rfl, _⟩, _⟩ := hx
  obtain ⟨_, ⟨_, a2, k2, rfl, _⟩, _⟩ := hy
  go_enter Tryz.func63, Tryz.ntmps63
  go_wp2_with fail
  refine (C.out _).mono ?_
  rintro e w2 ⟨v, rfl, ht, hb⟩
  have HT := Lib.hid ht
  have HB := Lib.hid ((bel1 w _).trans (hb.mono (bel1 w _).size))
  obtain ⟨_, ⟨_, a4, k4, rfl, _⟩, _⟩ := ht
  go_wp2_with fail
  go_ret
  exact ⟨_, _, rfl, (TsO.of HT.out).imp fun _ _ h => .inl h, HB.out⟩
/-- What the program makes of the traces of two. -/
def pot (k : Int) (A B : List Tr) : List Tr := if k = 5 then A.flatMap fun t => B.map (thn t) else if k = 7 then A.flatMap fun t => B.flatMap (pr t) else if k = 8 then A.flatMap fun t => hdl t B else norm (A ++ B)
theorem thn_hnd (p q : Tr) (h : p.e = 2) : thn ⟨p.a, 1⟩ q = hnd p q := by
  unfold thn hnd
  rw [if_pos rfl, if_pos h]
theorem hdl_le (t : Tr) (B : List Tr) (hB : B ≠ []) : (hdl t B).length ≤ B.length := by
  unfold hdl
  split
  · rw [List.length_map]; exact Nat.le_refl _
  · have : 0 < B.length := List.length_pos_iff.2 hB
    show 1 ≤ B.length
    omega
theorem flat_mono {α β : Type} (f g : α → List β) : ∀ l : List α, (∀ x ∈ l, (f x).length ≤ (g x).length) → (l.flatMap f).length ≤ (l.flatMap g).length
  | [], _ => by simp
  | x :: l, h => by
    rw [List.flatMap_cons, List.flatMap_cons, List.length_append, List.length_append]
    exact Nat.add_le_add (h x (by simp)) (flat_mono f g l fun y hy => h y (by simp [hy]))
theorem len_flat1 {α β : Type} (f : α → β) (l : List α) : (l.flatMap fun x => [f x]).length = l.length := by rw [← map_flat, List.length_map]
theorem pot_len {k : Int} (hk : k = 5 ∨ k = 6 ∨ k = 7 ∨ k = 8) (A B : List Tr) (hB : k = 8 → B ≠ []) : (pot k A B).length ≤ (two k A B).length := by
  rcases hk with rfl | rfl | rfl | rfl
  · refine flat_mono _ _ A fun t _ => ?_
    rw [map_flat]
    refine flat_mono _ _ B fun u _ => ?_
    rw [one5]
    exact Nat.le_refl _
  · refine Nat.le_trans (length_norm _) (Nat.le_refl _)
  · refine flat_mono _ _ A fun t _ => flat_mono _ _ B fun u _ => ?_
    rw [one7]
    exact Nat.le_refl _
  · refine flat_mono _ _ A fun t _ => Nat.le_trans (hdl_le t B (hB rfl)) ?_
    have e : (fun u => one 8 t u) = fun u => [hnd t u] := by funext u; exact one8 t u
    show B.length ≤ (B.flatMap fun u => one 8 t u).length
    rw [e, len_flat1]
    exact Nat.le_refl _
theorem pot_norm {k : Int} (hk : k = 5 ∨ k = 6 ∨ k = 7 ∨ k = 8) (A B : List Tr) (hB : k = 8 → B ≠ []) : norm (pot k A B) = norm (two k A B) := norm_congr fun t => by
  rcases hk with rfl | rfl | rfl | rfl
  · rw [mem5]
    show t ∈ (A.flatMap fun t => B.map (thn t)) ↔ _
    simp only [List.mem_flatMap, List.mem_map]
    constructor
    · rintro ⟨p, hp, q, hq, rfl⟩; exact ⟨p, hp, q, hq, rfl⟩
    · rintro ⟨p, hp, q, hq, rfl⟩; exact ⟨p, hp, q, hq, rfl⟩
  · rw [mem6]
    show t ∈ norm (A ++ B) ↔ _
    rw [mem_norm, List.mem_append]
  · rw [mem7]
    show t ∈ (A.flatMap fun t => B.flatMap (pr t)) ↔ _
    simp only [List.mem_flatMap]
  · rw [mem8]
    show t ∈ (A.flatMap fun t => hdl t B) ↔ _
    simp only [List.mem_flatMap]
    constructor
    · rintro ⟨p, hp, ht⟩
      unfold hdl at ht
      split at ht
      · rename_i h2
        obtain ⟨q, hq, rfl⟩ := List.mem_map.1 ht
        exact ⟨p, hp, q, hq, thn_hnd p q h2⟩
      · rename_i h2
        rw [List.mem_singleton] at ht
        obtain ⟨q, hq⟩ := List.exists_mem_of_ne_nil _ (hB rfl)
        exact ⟨p, hp, q, hq, by rw [ht]; unfold hnd; rw [if_neg h2]⟩
    · rintro ⟨p, hp, q, hq, rfl⟩
      refine ⟨p, hp, ?_⟩
      unfold hdl
      split
      · rename_i h2
        exact List.mem_map.2 ⟨q, hq, thn_hnd p q h2⟩
      · rename_i h2
        unfold hnd
        rw [if_neg h2]
        exact List.mem_singleton.2 rfl
theorem plainTwo_any (T : TCon) (k : Int) (hk : k = 5 ∨ k = 6 ∨ k = 7 ∨ k = 8) (x y : Value) (A B : List Tr) (w : World) (hx : TsO any w x A) (hy : TsO any w y B) (hAB : A.length + B.length ≤ 1000000000000) (hrow : ∀ t ∈ A, ∀ u ∈ B, t.a.length + u.a.length ≤ 9) (hr1 : ∀ t ∈ A ++ B, t.a.length ≤ 1000000)
    (hB : k = 8 → B ≠ []) (hout : (two k A B).length ≤ 1000000000000) : Calls Tryz.prog 63 #[.int .i64 k, x, y] w (OutT any (pot k A B) w) := by
  have hout' := Nat.le_trans (pot_len hk A B hB) hout
  rcases hk with rfl | rfl | rfl | rfl
  · exact plain5_any T x y A B w hx hy (by omega) (by omega) hrow hout'
  · exact plain6_any T x y A B w hx hy hAB hr1
  · exact plain7_any T x y A B w hx hy (by omega) (by omega) hrow hout'
  · exact plain8_any T x y A B w hx hy (by omega) (by omega) hrow hout'
end Go.Proofs.YtghnonbcojbohaaGreatDoor.Mn

namespace Go.Proofs.YtghnonbcojbohaaGreatDoor.Mn
open Go Go.RowKit Tr
set_option maxRecDepth 20000

/-- Drawn on, and grown. -/
def Gr (w w' : World) : Prop := ∃ n os, w' = Go.Sort.grow (w.drewN n) os
theorem drewN_grow (w : World) (os : Array Obj) (n : Nat) : (Go.Sort.grow w os).drewN n = Go.Sort.grow (w.drewN n) os := by
  induction n with
  | zero => rfl
  | succ n ih => show ((Go.Sort.grow w os).drewN n).drew = _; rw [ih]; rfl
theorem Gr.refl (w : World) : Gr w w := ⟨0, #[], by rw [Go.Sort.grow_empty]; rfl⟩
theorem Gr.trans {w w1 w2 : World} (h1 : Gr w w1) (h2 : Gr w1 w2) : Gr w w2 := by
  obtain ⟨n, os, rfl⟩ := h1
  obtain ⟨m, os', rfl⟩ := h2
  exact ⟨n + m, os ++ os', by rw [drewN_grow, Go.Sort.grow_grow, World.drewN_drewN]⟩
theorem Gr.alloc {w w1 : World} (h : Gr w w1) (o : Obj) : Gr w (w1.alloc o) := h.trans ⟨0, #[o], Go.Sort.alloc_eq_grow _ _⟩
theorem Gr.drew {w w1 : World} (h : Gr w w1) : Gr w w1.drew := h.trans ⟨1, #[], by rw [Go.Sort.grow_empty]; rfl⟩
theorem Gr.below {w w' : World} (h : Gr w w') : Below w.heap.size w w' := by
  obtain ⟨n, os, rfl⟩ := h
  exact below_grow w n os

set_option maxHeartbeats 1000000 in
theorem compareG (v1 v2 : Value) (p q : Tr) (w : World) (h1 : Strs w v1 p.a) (h2 : Strs w v2 q.a) (hl : p.a.length ≤ 1000000) (hm : q.a.length ≤ 1000000) :
    Calls Tryz.prog 163 #[.agg #[v1, .int .i64 p.e], .agg #[v2, .int .i64 q.e]] w fun e w' => e = .returned (.int .i64 (cmp p q)) ∧ ∃ n os, w' = Go.Sort.grow (w.drewN n) os := by
  have H1 := Lib.hid (fun x y => h1.below (((Below.refl _ _).alloc (Nat.le_refl _) x).alloc (by simp) y))
  have H2 := Lib.hid (fun x y => h2.below (((Below.refl _ _).alloc (Nat.le_refl _) x).alloc (by simp) y))
  obtain ⟨_, a1, c1, rfl, -⟩ := h1
  obtain ⟨_, a2, c2, rfl, -⟩ := h2
  go_enter Tryz.func163, Tryz.ntmps163
  go_wp2_with (go_at_call 54; refine (against_any _ _ p q _ (H1.out _ _) (H2.out _ _) (by omega) (by omega)).mono ?_; rintro e w' ⟨rfl, n, os, rfl⟩)
  go_ret
  exact ⟨rfl, (((Gr.refl w).alloc _).alloc _).trans ⟨n, os, rfl⟩⟩

theorem or_pcmp (x y : Pr) : (if cmp x.p y.p = 0 then cmp x.q y.q else cmp x.p y.p) = pcmp x y := rfl

/-- The two pairs in their boxes. -/
def Bx2 (w : World) (b : Nat) (v1 v1' v2 v2' : Value) (x y : Pr) : Prop := BoxP w b v1 x.p.e v1' x.q.e ∧ BoxP w (b + 1) v2 y.p.e v2' y.q.e
theorem Bx2.below {w w' : World} {b : Nat} {v1 v1' v2 v2' : Value} {x y : Pr} (h : Bx2 w b v1 v1' v2 v2' x y) (hb : Below w.heap.size w w') : Bx2 w' b v1 v1' v2 v2' x y := ⟨h.1.below hb, h.2.below hb⟩

set_option maxHeartbeats 2000000 in
theorem pagainst_any (v1 v1' v2 v2' : Value) (x y : Pr) (w : World) (h1 : Strs w v1 x.p.a) (h1' : Strs w v1' x.q.a) (h2 : Strs w v2 y.p.a) (h2' : Strs w v2' y.q.a)
    (l1 : x.p.a.length ≤ 1000000) (l1' : x.q.a.length ≤ 1000000) (l2 : y.p.a.length ≤ 1000000) (l2' : y.q.a.length ≤ 1000000) :
    Calls Tryz.prog 117 #[.agg #[v1, .int .i64 x.p.e, v1', .int .i64 x.q.e], .agg #[v2, .int .i64 y.p.e, v2', .int .i64 y.q.e]] w fun e w' => e = .returned (.int .i64 (pcmp x y)) ∧ Gr w w' := by
  obtain ⟨cp, hcp⟩ : ∃ c, cmp x.p y.p = c := ⟨_, rfl⟩
  obtain ⟨cq, hcq⟩ : ∃ c, cmp x.q y.q = c := ⟨_, rfl⟩
  have HO := Lib.hid (or_pcmp x y)
  rw [hcp, hcq] at HO
  have C1 := Lib.hid (fun w1 (hb : Gr w w1) => compareG v1 v2 x.p y.p w1 (h1.below hb.below) (h2.below hb.below) l1 l2)
  have C2 := Lib.hid (fun w1 (hb : Gr w w1) => compareG v1' v2' x.q y.q w1 (h1'.below hb.below) (h2'.below hb.below) l1' l2')
  rw [hcp] at C1
  rw [hcq] at C2
  have R3 : Hid (∀ b w, w.cell? ⟨b, 0, none⟩ = some (.int .i64 cp) → w.cell? ⟨b, 1, none⟩ = some (.int .i64 cq) → Calls Tryz.prog 92 #[.slice (some ⟨b, 0, none⟩) 2 2] w fun e w' => e = .returned (.int .i64 (pcmp x y)) ∧ w' = w) := Lib.hid (fun b w ha hb => by rw [← HO.out]; exact or2_any cp cq b w ha hb)
  obtain ⟨_, a1, c1, rfl, -⟩ := h1
  obtain ⟨_, a1', c1', rfl, -⟩ := h1'
  obtain ⟨_, a2, c2, rfl, -⟩ := h2
  obtain ⟨_, a2', c2', rfl, -⟩ := h2'
  generalize pcmp x y = c at *
  clear hcp hcq HO
  have G2 := Lib.hid (fun o p : Obj => (((Gr.refl w).alloc o).alloc p).drew)
  go_enter Tryz.func117, Tryz.ntmps117
  go_wp2_with fail
  go_region_held3 (fun w' => w'.cell? ⟨w.heap.size, 0, none⟩ = some (.slice a1 x.p.a.length c1) ∧ w'.cell? ⟨w.heap.size, 1, none⟩ = some (.int .i64 x.p.e) ∧ w'.cell? ⟨w.heap.size, 2, none⟩ = some (.slice a1' x.q.a.length c1') ∧ w'.cell? ⟨w.heap.size, 3, none⟩ = some (.int .i64 x.q.e) ∧ w'.cell? ⟨w.heap.size + 1, 0, none⟩ = some (.slice a2 y.p.a.length c2) ∧ w'.cell? ⟨w.heap.size + 1, 1, none⟩ = some (.int .i64 y.p.e) ∧ w'.cell? ⟨w.heap.size + 1, 2, none⟩ = some (.slice a2' y.q.a.length c2') ∧ w'.cell? ⟨w.heap.size + 1, 3, none⟩ = some (.int .i64 y.q.e)) (first | (simp [go_sem]; done) | exact kz | exact ky | exact ka _ | fail) (first
    | (go_at_call 163
       (with_reducible refine (C1.out _ (G2.out _ _)).mono ?_)
       rintro e w1 ⟨rfl, hb1⟩
       have kz : w1.cell? ⟨w.heap.size, 0, none⟩ = some (.slice a1 x.p.a.length c1) ∧ w1.cell? ⟨w.heap.size, 1, none⟩ = some (.int .i64 x.p.e) ∧ w1.cell? ⟨w.heap.size, 2, none⟩ = some (.slice a1' x.q.a.length c1') ∧ w1.cell? ⟨w.heap.size, 3, none⟩ = some (.int .i64 x.q.e) ∧ w1.cell? ⟨w.heap.size + 1, 0, none⟩ = some (.slice a2 y.p.a.length c2) ∧ w1.cell? ⟨w.heap.size + 1, 1, none⟩ = some (.int .i64 y.p.e) ∧ w1.cell? ⟨w.heap.size + 1, 2, none⟩ = some (.slice a2' y.q.a.length c2') ∧ w1.cell? ⟨w.heap.size + 1, 3, none⟩ = some (.int .i64 y.q.e) := by
         have k := Bx2.below (b := w.heap.size) (v1 := .slice a1 x.p.a.length c1) (v1' := .slice a1' x.q.a.length c1') (v2 := .slice a2 y.p.a.length c2) (v2' := .slice a2' y.q.a.length c2') (x := x) (y := y) ⟨⟨by simp [go_sem], by simp [go_sem], by simp [go_sem], by simp [go_sem]⟩, ⟨by simp [go_sem], by simp [go_sem], by simp [go_sem], by simp [go_sem]⟩⟩ (Gr.below hb1)
         exact ⟨k.1.1, k.1.2.1, k.1.2.2.1, k.1.2.2.2, k.2.1, k.2.2.1, k.2.2.2.1, k.2.2.2.2⟩
       have B1 := Lib.hid ((G2.out _ _).trans hb1)
       clear hb1)
    | (go_at_call 163
       (with_reducible refine (C2.out _ B1.out).mono ?_)
       rintro e w2 ⟨rfl, hb2⟩
       have ky : w2.cell? ⟨w.heap.size, 0, none⟩ = some (.slice a1 x.p.a.length c1) ∧ w2.cell? ⟨w.heap.size, 1, none⟩ = some (.int .i64 x.p.e) ∧ w2.cell? ⟨w.heap.size, 2, none⟩ = some (.slice a1' x.q.a.length c1') ∧ w2.cell? ⟨w.heap.size, 3, none⟩ = some (.int .i64 x.q.e) ∧ w2.cell? ⟨w.heap.size + 1, 0, none⟩ = some (.slice a2 y.p.a.length c2) ∧ w2.cell? ⟨w.heap.size + 1, 1, none⟩ = some (.int .i64 y.p.e) ∧ w2.cell? ⟨w.heap.size + 1, 2, none⟩ = some (.slice a2' y.q.a.length c2') ∧ w2.cell? ⟨w.heap.size + 1, 3, none⟩ = some (.int .i64 y.q.e) := by
         have k := Bx2.below (b := w.heap.size) (x := x) (y := y) ⟨⟨kz.1, kz.2.1, kz.2.2.1, kz.2.2.2.1⟩, ⟨kz.2.2.2.2.1, kz.2.2.2.2.2.1, kz.2.2.2.2.2.2.1, kz.2.2.2.2.2.2.2⟩⟩ (Gr.below hb2)
         exact ⟨k.1.1, k.1.2.1, k.1.2.2.1, k.1.2.2.2, k.2.1, k.2.2.1, k.2.2.2.1, k.2.2.2.2⟩
       have ka : ∀ o : Obj, (w2.alloc o).cell? ⟨w.heap.size, 0, none⟩ = some (.slice a1 x.p.a.length c1) ∧ (w2.alloc o).cell? ⟨w.heap.size, 1, none⟩ = some (.int .i64 x.p.e) ∧ (w2.alloc o).cell? ⟨w.heap.size, 2, none⟩ = some (.slice a1' x.q.a.length c1') ∧ (w2.alloc o).cell? ⟨w.heap.size, 3, none⟩ = some (.int .i64 x.q.e) ∧ (w2.alloc o).cell? ⟨w.heap.size + 1, 0, none⟩ = some (.slice a2 y.p.a.length c2) ∧ (w2.alloc o).cell? ⟨w.heap.size + 1, 1, none⟩ = some (.int .i64 y.p.e) ∧ (w2.alloc o).cell? ⟨w.heap.size + 1, 2, none⟩ = some (.slice a2' y.q.a.length c2') ∧ (w2.alloc o).cell? ⟨w.heap.size + 1, 3, none⟩ = some (.int .i64 y.q.e) := fun o => by
         have k := Bx2.below (b := w.heap.size) (x := x) (y := y) ⟨⟨ky.1, ky.2.1, ky.2.2.1, ky.2.2.2.1⟩, ⟨ky.2.2.2.2.1, ky.2.2.2.2.2.1, ky.2.2.2.2.2.2.1, ky.2.2.2.2.2.2.2⟩⟩ (bel1 w2 o)
         exact ⟨k.1.1, k.1.2.1, k.1.2.2.1, k.1.2.2.2, k.2.1, k.2.2.1, k.2.2.2.1, k.2.2.2.2⟩
       have B2 := Lib.hid (B1.out.trans hb2)
       clear hb2)
    | (go_at_call 92
       refine (R3.out _ _ (by simp [go_sem]) (by simp [go_sem])).mono ?_
       rintro e w' ⟨rfl, rfl⟩)
    | fail)
  go_wp2_with fail
  go_ret
  exact ⟨rfl, B2.out.alloc _⟩
end Go.Proofs.YtghnonbcojbohaaGreatDoor.Mn
