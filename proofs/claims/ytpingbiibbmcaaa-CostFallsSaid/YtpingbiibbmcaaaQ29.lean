/- The program's movesAt: the walk. What the laws of step ask of the program; few; StepNext: the walks. MovePicks, MoveTexts: the walks. The program's Enabled, round, Pick: the walks. The statements' own first look at package move: the walk. The program's Is: the walk. The program's round, Pick: the walks. StepKinds: the walk. -/
import Derived.Test.YtpingbiibbmcaaaQ28
import Derived.Test.YtpingbiibbmcaaaQ26
import Derived.Test.YtpingbiibbmcaaaQ24
import Derived.Laws.EntriesVeiled
import Derived.Test.YtpingbiibbmcaaaQ03
import Derived.Laws.StructEq
import Derived.Test.YtpingbiibbmcaaaQ21
import Derived.Test.YtpingbiibbmcaaaQ27
import Derived.Test.YtpingbiibbmcaaaQ12

namespace Go.Proofs.Ytpingbiibbmcaaa.Me
open Go Go.RowKit Go.Maps Go.WideMaps Go.Proofs.Ytpingbiibbmcaaa.Rw Go.Proofs.Ytpingbiibbmcaaa.So Go.Proofs.Ytpingbiibbmcaaa.Se Go.Proofs.Ytpingbiibbmcaaa.Do
set_option maxRecDepth 20000

/-- The moves of ways at a place. -/
def wyM (z : Int) (B : Wy → Bool) (L : List Wy) : List Mv := (L.filter B).map fun p => ⟨z, p.1⟩
theorem wyM_take {z : Int} {B : Wy → Bool} {L : List Wy} {k : Nat} (h : k < L.length) : wyM z B (L.take (k + 1)) = if B L[k] = true then wyM z B (L.take k) ++ [⟨z, L[k].1⟩] else wyM z B (L.take k) := by
  unfold wyM
  rw [List.take_succ_eq_append_getElem h, List.filter_append, List.map_append]
  cases hb : B L[k] <;> simp [hb]
/-- The rows of ways of a kind. -/
def wyL (k : Int) : List Wy := if k = 1 then [(1, 75)] else if k = 6 then [(2, 75), (3, 75)] else [(4, 75), (5, 76)]
theorem wyL_of {w : World} {v1 v6 v4 : Value} (h1 : Wys w v1 (wyL 1)) (h6 : Wys w v6 (wyL 6)) (h4 : Wys w v4 (wyL 4)) (k : Int) (hk : k = 1 ∨ k = 6 ∨ k = 4 ∨ k = 10) : Wys w (wyF v1 v6 v4 k) (wyL k) := by
  rcases hk with rfl | rfl | rfl | rfl
  · exact h1
  · exact h6
  · exact h4
  · exact h4
theorem wyL_in (k : Int) : ∀ p ∈ wyL k, p.2 = 75 ∨ p.2 = 76 := by
  unfold wyL
  split
  · simp
  · split <;> simp
theorem wyL_len (k : Int) : (wyL k).length ≤ 2 := by
  unfold wyL
  split
  · simp
  · split <;> simp
def wyB (f : Bool) (p : Wy) : Bool := if p.2 = 75 then true else f
theorem wyL_hw (k z : Int) (f : Bool) (hk : k = 1 ∨ k = 6 ∨ k = 4 ∨ k = 10) : wyM z (wyB f) (wyL k) = hw k f z := by
  rcases hk with rfl | rfl | rfl | rfl <;> cases f <;> rfl
theorem Wys.form {w : World} {v : Value} {l : List Wy} (h : Wys w v l) (hl : 0 < l.length) :
    ∃ b off cap, v = .slice (some ⟨b, off, none⟩) l.length cap ∧ l.length ≤ cap ∧ ∀ k, (h : k < l.length) → w.cell? ⟨b, off + k * 2, none⟩ = some (.int .i64 l[k].1) ∧ w.cell? ⟨b, off + k * 2 + 1, none⟩ = some (.func (.func l[k].2) #[] #[]) := by
  obtain ⟨_, a, cap, rfl, hle, _, hcell⟩ := h
  obtain ⟨b, off, rfl, hj⟩ := hcell hl
  refine ⟨b, off, cap, rfl, hle, fun k hk => ?_⟩
  obtain ⟨h1, h2⟩ := wcls_at l k hk
  exact ⟨hj _ _ h1, by rw [Nat.add_assoc]; exact hj _ _ h2⟩
set_option maxHeartbeats 4000000 in
theorem movesAt_any (v : Value) (l : List Nd) (z : Int) (w : World) (hv : Nds w v l) (hl : l.length ≤ 1000) (hm : Nms l) (hz : z ∈ av l) :
    Calls Try.prog 33 #[v, .int .i64 z] w fun e w' => ∃ y, e = .returned y ∧ Mvs w' y (hw (kn l z) (fr l z) z) ∧ Below w.heap.size w w' := by
  have hk4 := av_kind hz
  obtain ⟨z0, z1⟩ := av_in hz
  obtain ⟨kz, rfl⟩ : ∃ k : Nat, z = k := ⟨z.toNat, by omega⟩
  have hkl : kz < l.length := by omega
  have HF : Hid (∀ p ∈ wyL (kn l kz), ∀ w1, Below w.heap.size w w1 → Calls Try.prog p.2 #[v, .int .i64 (kz : Int)] w1 fun e w' => e = .returned (.bool (wyB (fr l kz) p)) ∧ Below w1.heap.size w1 w') := Lib.hid fun p hp w1 hb => by
    rcases wyL_in _ p hp with h | h
    · rw [h]
      obtain ⟨_, a, c, rfl, -⟩ := id hv
      rw [show wyB (fr l kz) p = true from if_pos h]
      exact always_any _ _ w1 _ _ _ rfl
    · rw [h]
      rw [show wyB (fr l kz) p = fr l kz from if_neg (by rw [h]; decide)]
      exact freP_any v l kz w1 (hv.below hb) hl hm
  rw [← wyL_hw _ _ _ hk4]
  have HG : Hid (∀ p ∈ wyL (kn l kz), ∀ args w, (callFunc p.2 args).run Try.prog w = .ok (.enter p.2 args) w) := Lib.hid fun p hp args w => by
    rcases wyL_in _ p hp with h | h <;> rw [h] <;> simp [go_sem]
  have HW : Hid (∀ (w1 : World) (v1 v6 v4 : Value), Wys w1 v1 (wyL 1) → Wys w1 v6 (wyL 6) → Wys w1 v4 (wyL 4) → Wys w1 (wyF v1 v6 v4 (kn l kz)) (wyL (kn l kz))) := Lib.hid fun w1 v1 v6 v4 h1 h6 h4 => wyL_of h1 h6 h4 _ hk4
  have HLL := wyL_len (kn l kz)
  have hkn : kn l kz = l[kz].k := by unfold kn; rw [Int.toNat_natCast, List.getElem?_eq_getElem hkl]
  have hwf : (Lit.int .i64 (kn l kz)).wf = true := by rcases hk4 with h | h | h | h <;> rw [h] <;> decide
  rcases hv.form with ⟨h0, _⟩ | ⟨b, off, c, rfl, hc, hat⟩
  · rw [h0] at hkl; simp at hkl
  have e0 := (hat kz hkl).1
  rw [← hkn] at e0
  obtain ⟨kk, hkk⟩ : ∃ kk, kn l kz = kk := ⟨_, rfl⟩
  rw [hkk] at HF HG HW HLL hwf e0
  obtain ⟨L, hL⟩ : ∃ L, wyL kk = L := ⟨_, rfl⟩
  rw [hkk, hL]
  rw [hL] at HF HG HW HLL
  obtain ⟨B, hB⟩ : ∃ B, wyB (fr l kz) = B := ⟨_, rfl⟩
  rw [hB] at HF ⊢
  have hbl : b < w.heap.size := Ap.cell_lt e0
  have HWF := Lib.hid hwf
  have HE0 := Lib.hid e0
  obtain ⟨n, hn⟩ : ∃ n, l.length = n := ⟨_, rfl⟩
  rw [hn] at hkl hl HF hc ⊢
  clear hv hm hz hk4 z0 z1 hkn hat hkk hL hB hn hwf hc
  go_enter Try.func33, Try.ntmps33
  go_upto_region 2 with fail
  go_cut [14, 15, 16] (fun s14 s15 s16 wx => ∃ (a : Option Addr) (c' : Nat) (wq : World), wq = wx ∧ s14 = .slice a L.length c' ∧ s15 = .int .i64 L.length ∧ s16 = .int .i64 0 ∧ Wys wq (.slice a L.length c') L ∧ Below w.heap.size w wq)
  case first =>
    clear HF HG
    go_region_with (first
      | (go_at_call 48
         (with_reducible refine (ways_any _).mono ?_)
         rintro e w1 ⟨bm, v1, v6, v4, rfl, ⟨D, hD, hd⟩, h1, h6, h4, hb1⟩
         have B1 := Lib.hid ((Below.refl w.heap.size w).drew.trans hb1)
         have hlook := look hD hd kk HWF.out
         have hws := HW.out _ _ _ _ h1 h6 h4
         obtain ⟨vr, hvr⟩ : ∃ vr, wyF v1 v6 v4 kk = vr := ⟨_, rfl⟩
         rw [hvr] at hlook hws
         have WS := Lib.hid hws
         obtain ⟨_, ar, cr, rfl, -⟩ := hws
         have c0 : w1.cell? ⟨b, off + kz * 3, none⟩ = some (.int .i64 kk) := by rw [B1.out.cell (p := ⟨b, off + kz * 3, none⟩) hbl]; exact HE0.out
         clear hD hd h1 h6 h4 hb1 hvr)
      | fail)
    all_goals go_wp2_with fail
    all_goals go_meet
    all_goals exact ⟨_, _, _, rfl, rfl, rfl, rfl, WS.out, B1.out⟩
  case rest =>
    obtain ⟨ar, cr, wq, rfl, rfl, rfl, rfl, hws, hbel⟩ := hcut
    have WS := Lib.hid hws
    have BB := Lib.hid hbel
    clear hws hbel HW HWF HE0 e0
    go_wp2_with fail
    go_loopw [5, 16] (fun s i wr => ∃ (k : Nat) (a : Option Addr) (m cc : Nat) (os : List Mv), k ≤ L.length ∧ m ≤ k ∧ i = .int .i64 k ∧ s = .slice a m cc ∧ Hid (os.length = m) ∧ Hid (wyM kz B (L.take k) = os) ∧ Hid (GotM wq.heap.size wr (.slice a m cc) os) ∧ Hid (Below w.heap.size w wr) ∧ Hid (Below wq.heap.size wq wr)) (fun _ i _ => L.length - (intOf i).toNat)
    case atStart => exact ⟨0, none, 0, 0, [], Nat.zero_le _, Nat.le_refl _, rfl, rfl, Lib.hid rfl, Lib.hid rfl, Lib.hid (GotM.start (Nat.le_refl _)), BB, Lib.hid (Below.refl _ _)⟩
    case round =>
      obtain ⟨k, a, m, cc, os, hk, hmk, rfl, rfl, HL, HO, HM, HD, HQ⟩ := hrel
      by_cases hlt : k < L.length
      · obtain ⟨bq, oq, cq, eq, -, hc⟩ := (WS.out.below HQ.out).form (by omega)
        obtain ⟨f1, f2⟩ := hc k hlt
        injection eq with e1 _ e3
        subst e1
        subst e3
        have HFk := Lib.hid (HF.out _ (List.getElem_mem hlt))
        have eg := HG.out _ (List.getElem_mem hlt)
        have HT := Lib.hid (wyM_take (z := (kz : Int)) (B := B) hlt)
        obtain ⟨p, hp⟩ : ∃ p, L[k] = p := ⟨_, rfl⟩
        rw [hp] at f1 f2 HFk eg HT
        obtain ⟨ph, pf⟩ := p
        simp only at f1 f2 eg
        obtain ⟨q, hq⟩ : ∃ q, B (ph, pf) = q := ⟨_, rfl⟩
        rw [hq] at HFk HT
        have DW := Lib.hid (HD.out.trans ((below1 wr (.cells #[.int .i64 ph, .func (.func pf) #[] #[]] 70)).mono HD.out.size))
        have GW := Lib.hid (HM.out.below (below1 wr (.cells #[.int .i64 ph, .func (.func pf) #[] #[]] 70)))
        have QW := Lib.hid (HQ.out.trans ((below1 wr (.cells #[.int .i64 ph, .func (.func pf) #[] #[]] 70)).mono HQ.out.size))
        have HC := Lib.hid (HFk.out _ DW.out)
        have C7 : Hid (∀ w2, Below (wr.alloc (.cells #[.int .i64 ph, .func (.func pf) #[] #[]] 70)).heap.size (wr.alloc (.cells #[.int .i64 ph, .func (.func pf) #[] #[]] 70)) w2 → w2.cell? ⟨wr.heap.size, 0, none⟩ = some (.int .i64 ph)) := Lib.hid fun w2 hb => by
          rw [hb.cell (p := ⟨wr.heap.size, 0, none⟩) (by simp)]
          simp [go_sem]
        clear hc hp hq
        cases q with
        | true =>
          have HX : Hid (wyM kz B (L.take (k + 1)) = os ++ [⟨kz, ph⟩]) := by
            show _ = _
            rw [HT.out, if_pos rfl, HO.out]
          go_wp2_with fail
          refine HC.out.mono ?_
          rintro e w2 ⟨rfl, hb2⟩
          have c7 := C7.out _ hb2
          have D2 := Lib.hid (DW.out.trans (hb2.mono DW.out.size))
          have Q2 := Lib.hid (QW.out.trans (hb2.mono QW.out.size))
          obtain ⟨v', w3, hrun, hgot, hb3⟩ := (GW.out.below hb2).new [⟨kz, ph⟩] (by rw [HL.out]; show m + 1 ≤ 1000000; omega)
          obtain ⟨a', c', rfl⟩ : ∃ a' c', v' = .slice a' (m + 1) c' := by
            obtain ⟨_, a', c', e', -⟩ := hgot.mvs
            rw [List.length_append, HL.out] at e'
            exact ⟨a', c', e'⟩
          have HL' : Hid ((os ++ [(⟨kz, ph⟩ : Mv)]).length = m + 1) := by
            show _ = _
            rw [List.length_append, HL.out]
            rfl
          change (Builtin.append_ #[28, 28] 28 #[.slice a m cc, .slice (some ⟨w2.heap.size, 0, none⟩) 1 1]).run Try.prog (w2.alloc (.cells #[.int .i64 (kz : Int), .int .i64 ph] 31)) = _ at hrun
          have R := Lib.hid hrun
          have HG' := Lib.hid hgot
          have D3 := Lib.hid (D2.out.trans (hb3.mono BB.out.size))
          have Q3 := Lib.hid (Q2.out.trans hb3)
          clear hrun hgot hb2 hb3
          go_wp2_with (at_builtin; refine Ap.wpList_append_run (by rfl) (.tmp 25) (.tmp 30) _ _ rfl _ _ rfl rfl _ w3 R.out ?_)
          go_roundw
          case rel => exact ⟨k + 1, a', m + 1, c', os ++ [⟨kz, ph⟩], by omega, by omega, by go_num, rfl, HL', HX, HG', D3, Q3⟩
          case measure => simp [intOf]; omega
        | false =>
          have HX : Hid (wyM kz B (L.take (k + 1)) = os) := by
            show _ = _
            rw [HT.out, if_neg (by decide), HO.out]
          go_wp2_with fail
          refine HC.out.mono ?_
          rintro e w2 ⟨rfl, hb2⟩
          have D2 := Lib.hid (DW.out.trans (hb2.mono DW.out.size))
          have Q2 := Lib.hid (QW.out.trans (hb2.mono QW.out.size))
          have G2 := Lib.hid (GW.out.below hb2)
          clear hb2
          go_wp2_with fail
          go_roundw
          case rel => exact ⟨k + 1, a, m, cc, os, by omega, by omega, by go_num, rfl, HL, HX, G2, D2, Q2⟩
          case measure => simp [intOf]; omega
      · have HZ : Hid (wyM kz B L = os) := by
          have := HO.out
          rwa [List.take_of_length_le (by omega)] at this
        go_wp2_with fail
        go_ret
        exact ⟨_, rfl, by rw [HZ.out]; exact HM.out.mvs, HD.out⟩
end Go.Proofs.Ytpingbiibbmcaaa.Me

namespace Go.Proofs.Ytpingbiibbmcaaa.St
open Go Go.RowKit Go.Proofs.Ytpingbiibbmcaaa.Rw Go.Proofs.Ytpingbiibbmcaaa.So Go.Proofs.Ytpingbiibbmcaaa.Se Go.Proofs.Ytpingbiibbmcaaa.Do Go.Proofs.Ytpingbiibbmcaaa.Sp Go.Proofs.Ytpingbiibbmcaaa.Me
set_option maxRecDepth 20000

end Go.Proofs.Ytpingbiibbmcaaa.St

namespace Go.Proofs.Ytpingbiibbmcaaa.Me
open Go Go.RowKit Go.Proofs.Ytpingbiibbmcaaa.Rw Go.Proofs.Ytpingbiibbmcaaa.So Go.Proofs.Ytpingbiibbmcaaa.Se Go.Proofs.Ytpingbiibbmcaaa.Do
set_option maxRecDepth 20000

end Go.Proofs.Ytpingbiibbmcaaa.Me

namespace Go.Proofs.Ytpingbiibbmcaaa.Me
open Go Go.RowKit Go.Proofs.Ytpingbiibbmcaaa.Rw Go.Proofs.Ytpingbiibbmcaaa.So Go.Proofs.Ytpingbiibbmcaaa.Se Go.Proofs.Ytpingbiibbmcaaa.Do
set_option maxRecDepth 20000

theorem flat_tk {α β : Type} {f : α → List β} {l : List α} {k : Nat} (h : k < l.length) : (l.take (k + 1)).flatMap f = (l.take k).flatMap f ++ f l[k] := by
  rw [List.take_succ_eq_append_getElem h, List.flatMap_append]
  simp
set_option maxHeartbeats 4000000 in
theorem enabledP_any (v : Value) (l : List Nd) (w : World) (hv : Nds w v l) (hl : l.length ≤ 1000) (hm : Nms l) :
    Calls Try.prog 17 #[v] w fun e w' => ∃ y, e = .returned y ∧ Mvs w' y (enR l) ∧ Below w.heap.size w w' := by
  have HA := Lib.hid (actP_any v l w hv hl hm)
  have HM := Lib.hid (fun z (hz : z ∈ av l) w1 (hb : Below w.heap.size w w1) => movesAt_any v l z w1 (hv.below hb) hl hm hz)
  have HW : Hid (∀ z ∈ av l, (hw (kn l z) (fr l z) z).length ≤ 2) := Lib.hid fun z _ => hw_len _ _ _
  have hvl : (av l).length ≤ 1000 := Nat.le_trans (av_len l) hl
  unfold enR
  obtain ⟨f, hf⟩ : ∃ f : Int → List Mv, (fun z => hw (kn l z) (fr l z) z) = f := ⟨_, rfl⟩
  have hfz : ∀ z, hw (kn l z) (fr l z) z = f z := fun z => congrFun hf z
  simp only [hfz] at HM HW
  rw [hf]
  obtain ⟨_, a0, c0, rfl, -⟩ := id hv
  generalize av l = V at HA HM HW hvl ⊢
  clear hv hm hf hfz
  go_enter Try.func17, Try.ntmps17
  go_wp2_with fail
  refine HA.out.mono ?_
  rintro e w1 ⟨y, rfl, hi, hb1⟩
  have D1 := Lib.hid hb1
  have I1 := Lib.hid hi
  obtain ⟨_, ay, cy, rfl, -⟩ := id hi
  clear hb1 hi
  go_wp2_with fail
  go_loopw [3, 9] (fun s i wr => ∃ (k : Nat) (a : Option Addr) (m cc : Nat) (os : List Mv), k ≤ V.length ∧ m ≤ 2 * k ∧ i = .int .i64 k ∧ s = .slice a m cc ∧ Hid (os.length = m) ∧ Hid ((V.take k).flatMap f = os) ∧ Hid (GotM w1.heap.size wr (.slice a m cc) os) ∧ Hid (Below w1.heap.size w1 wr)) (fun _ i _ => V.length - (intOf i).toNat)
  case atStart => exact ⟨0, none, 0, 0, [], Nat.zero_le _, Nat.zero_le _, rfl, rfl, Lib.hid rfl, Lib.hid rfl, Lib.hid (GotM.start (Nat.le_refl _)), Lib.hid (Below.refl _ _)⟩
  case round =>
    obtain ⟨k, a, m, cc, os, hk, hmk, rfl, rfl, HL, HO, HG, HD⟩ := hrel
    by_cases hlt : k < V.length
    · rcases (I1.out.below HD.out).form with ⟨h0, _⟩ | ⟨bq, oq, cq, eq, _, hat⟩
      · rw [h0] at hlt; simp at hlt
      have e1 := hat k hlt
      injection eq with q1 _ q3
      subst q1
      subst q3
      have DW := Lib.hid (D1.out.trans (HD.out.mono D1.out.size))
      have HMk := Lib.hid (HM.out _ (List.getElem_mem hlt) wr DW.out)
      have HWk := Lib.hid (HW.out _ (List.getElem_mem hlt))
      have HT := Lib.hid (flat_tk (f := f) hlt)
      obtain ⟨z, hz⟩ : ∃ z, V[k] = z := ⟨_, rfl⟩
      rw [hz] at e1 HMk HWk HT
      obtain ⟨R, hR⟩ : ∃ R, f z = R := ⟨_, rfl⟩
      rw [hR] at HMk HWk HT
      clear hat hz hR
      go_wp2_with fail
      refine HMk.out.mono ?_
      rintro e w2 ⟨y2, rfl, hy2, hb2⟩
      have hwl : R.length ≤ 2 := HWk.out
      obtain ⟨v', w3, hrun, hgot, hb3⟩ := (HG.out.below hb2).row hy2 (by rw [HL.out]; omega)
      have D3 := Lib.hid ((HD.out.trans (hb2.mono HD.out.size)).trans hb3)
      obtain ⟨r, hr⟩ : ∃ r, R.length = r := ⟨_, rfl⟩
      obtain ⟨a', c', rfl⟩ : ∃ a' c', v' = .slice a' (m + r) c' := by
        obtain ⟨_, a', c', e', -⟩ := hgot.mvs
        rw [List.length_append, HL.out, hr] at e'
        exact ⟨a', c', e'⟩
      have HX : Hid ((V.take (k + 1)).flatMap f = os ++ R) := by
        show _ = _
        rw [HT.out, HO.out]
      have HL' : Hid ((os ++ R).length = m + r) := by
        show _ = _
        rw [List.length_append, HL.out, hr]
      have HRL : Hid (r ≤ 2) := Lib.hid (by omega)
      have HRUN := Lib.hid hrun
      have HG' := Lib.hid hgot
      obtain ⟨_, ay2, cy2, rfl, -⟩ := id hy2
      clear hrun hgot hb2 hb3 hwl hy2
      rw [hr] at HRUN
      have HR := Lib.hid hr
      rw [hr]
      clear hr
      go_wp2_with (at_builtin; refine Ap.wpList_append_run (by rfl) (.tmp 13) (.tmp 16) _ _ rfl _ _ rfl rfl _ w3 HRUN.out ?_)
      go_roundw
      case rel => exact ⟨k + 1, a', m + r, c', os ++ R, by omega, by have := HRL.out; omega, by go_num, rfl, HL', HX, HG', D3⟩
      case measure => simp [intOf]; omega
    · have HZ : Hid (V.flatMap f = os) := by
        have := HO.out
        rwa [List.take_of_length_le (by omega)] at this
      go_wp2_with fail
      go_ret
      exact ⟨_, rfl, by rw [HZ.out]; exact HG.out.mvs, D1.out.trans (HD.out.mono D1.out.size)⟩
end Go.Proofs.Ytpingbiibbmcaaa.Me

namespace Go.Proofs.Ytpingbiibbmcaaa.Me
open Go Go.RowKit Go.Proofs.Ytpingbiibbmcaaa.Rw Go.Proofs.Ytpingbiibbmcaaa.So Go.Proofs.Ytpingbiibbmcaaa.Se Go.Proofs.Ytpingbiibbmcaaa.Do
set_option maxRecDepth 20000

abbrev tA : Tm := .par (.act ⟨#[97]⟩) .yield
theorem gA : Goes tA := ⟨by decide +kernel, by decide, by decide⟩
theorem nA : Nf tA := ⟨trivial, trivial, rfl, rfl⟩
theorem step0 {w0 w : World} (xp xh : Int) (D : Below w0.heap.size w0 w) : Below w0.heap.size w0 (w.alloc (.cells #[.int .i64 xp, .int .i64 xh] 31)) ∧ Bm (w.alloc (.cells #[.int .i64 xp, .int .i64 xh] 31)) w.heap.size ⟨xp, xh⟩ :=
  ⟨D.trans ((below1 w _).mono D.size), Bm.new w ⟨xp, xh⟩⟩
end Go.Proofs.Ytpingbiibbmcaaa.Me

namespace Go.Proofs.Ytpingbiibbmcaaa.Me
open Go Go.RowKit Go.Proofs.Ytpingbiibbmcaaa.Rw Go.Proofs.Ytpingbiibbmcaaa.So Go.Proofs.Ytpingbiibbmcaaa.Se Go.Proofs.Ytpingbiibbmcaaa.Do
set_option maxRecDepth 20000

theorem mem_enR {l : List Nd} {m : Mv} : m ∈ enR l ↔ m.p ∈ av l ∧ m ∈ hw (kn l m.p) (fr l m.p) m.p := by
  unfold enR
  rw [List.mem_flatMap]
  constructor
  · rintro ⟨z, hz, hm⟩
    obtain rfl := (hw_up _ _ _).2 m hm
    exact ⟨hz, hm⟩
  · rintro ⟨hz, hm⟩
    exact ⟨m.p, hz, hm⟩
theorem bm_keep3 {w : World} {b : Nat} {m : Mv} (h : Bm w b m) : ∀ w', Below w.heap.size w w' → w'.cell? ⟨b, 0, none⟩ = some (.int .i64 m.p) ∧ w'.cell? ⟨b, 1, none⟩ = some (.int .i64 m.h) := fun _ hb => ⟨(h.below hb h.lt).cells.1, (h.below hb h.lt).cells.2.1⟩
/-- What each operation of the region yields. -/
def RIy (n0 c0 : Nat) (a0 : Option Addr) (mp mh : Int) (V : List Int) (R : List Mv) (y : Bool) (bM : Nat) (k : Nat) (v : Value) (w' : World) : Prop := match k with
  | 0 => v = .slice a0 n0 c0
  | 1 => Ints w' v V
  | 2 => v = .pointer (some ⟨bM, 0, none⟩)
  | 3 => v = .int .i64 mp
  | 4 => v = .bool true
  | 5 => v = .bool true
  | 6 => v = .slice a0 n0 c0
  | 7 => v = .pointer (some ⟨bM, 0, none⟩)
  | 8 => v = .int .i64 mp
  | 9 => Mvs w' v R
  | 10 => v = .agg #[.int .i64 mp, .int .i64 mh]
  | 11 => v = .bool y
  | 12 => v = .bool y
  | 13 => v = .bool y
  | _ => True
theorem RIy.below {n0 c0 : Nat} {a0 : Option Addr} {mp mh : Int} {V : List Int} {R : List Mv} {y : Bool} {bM : Nat} {k : Nat} {v : Value} {w w' : World} (h : RIy n0 c0 a0 mp mh V R y bM k v w) (hb : Below w.heap.size w w') : RIy n0 c0 a0 mp mh V R y bM k v w' := by
  unfold RIy at h ⊢
  split at h
  case h_2 => exact Ints.below h hb
  case h_10 => exact Mvs.below h hb
  all_goals exact h
set_option maxHeartbeats 4000000 in
theorem is_yes (n0 c0 : Nat) (a0 : Option Addr) (mp mh : Int) (V : List Int) (R : List Mv) (y : Bool) (w : World) (hA : ∀ w1, Below w.heap.size w w1 → Calls Try.prog 32 #[.slice a0 n0 c0] w1 fun e w' => ∃ y, e = .returned y ∧ Ints w' y V ∧ Below w1.heap.size w1 w') (hV : V.length ≤ 1000000) (hq : decide (mp ∈ V) = true)
    (hM : ∀ w1, Below w.heap.size w w1 → Calls Try.prog 33 #[.slice a0 n0 c0, .int .i64 mp] w1 fun e w' => ∃ y, e = .returned y ∧ Mvs w' y R ∧ Below w1.heap.size w1 w') (hR : R.length ≤ 1000000) (hy : decide ((⟨mp, mh⟩ : Mv) ∈ R) = y) : Calls Try.prog 34 #[.slice a0 n0 c0, .agg #[.int .i64 mp, .int .i64 mh]] w fun e w' => e = .returned (.bool y) ∧ Below w.heap.size w w' := by
  have HA := Lib.hid hA
  have HQ := Lib.hid (fun w1 v (h : Ints w1 v V) => hq ▸ Rx.has_any v V mp w1 h hV)
  have HM := Lib.hid hM
  have HR := Lib.hid (fun w1 v (h : Mvs w1 v R) => hy ▸ hasM_any v R ⟨mp, mh⟩ w1 h hR)
  have D4 := Lib.hid (below1 w (.cells #[.int .i64 mp, .int .i64 mh] 31))
  have CM := Lib.hid (bm_keep3 (Bm.new w ⟨mp, mh⟩))
  obtain ⟨bM, hbM⟩ : ∃ bM, w.heap.size = bM := ⟨_, rfl⟩
  obtain ⟨w4, hw4⟩ : ∃ w4, w.alloc (.cells #[.int .i64 mp, .int .i64 mh] 31) = w4 := ⟨_, rfl⟩
  change Hid (∀ w', Below (w.alloc (.cells #[.int .i64 mp, .int .i64 mh] 31)).heap.size (w.alloc (.cells #[.int .i64 mp, .int .i64 mh] 31)) w' → w'.cell? ⟨w.heap.size, 0, none⟩ = some (.int .i64 mp) ∧ w'.cell? ⟨w.heap.size, 1, none⟩ = some (.int .i64 mh)) at CM
  rw [hbM, hw4] at CM
  rw [hw4] at D4
  clear hA hV hq hM hR hy
  go_enter Try.func34, Try.ntmps34
  go_wp2_with fail
  clear hbM hw4
  refine Rg.wp_region_owes (by kernel_rfl) [(0, some 5), (1, some 6), (2, some 7), (3, some 8), (4, some 9), (5, some 10), (6, some 11), (7, some 12), (8, some 13), (9, some 14), (10, some 15), (11, some 16), (12, some 17), (13, some 4)] (by rfl) (by kernel_rfl) (by kernel_rfl) (fun w' => Below w4.heap.size w4 w') (RIy n0 c0 a0 mp mh V R y bM) (Below.refl _ _).drew ?_ (fun _ _ h hb => h.trans (hb.mono h.size)) (fun _ _ _ _ h hb => RIy.below h hb) ⟨⟨⟨⟨⟨⟨⟨⟨⟨⟨⟨⟨⟨⟨True.intro, ?_⟩, ?_⟩, ?_⟩, ?_⟩, ?_⟩, ?_⟩, ?_⟩, ?_⟩, ?_⟩, ?_⟩, ?_⟩, ?_⟩, ?_⟩, ?_⟩ ?_
  · intro k v w' hk
    unfold RIy
    split
    case h_15 => trivial
    all_goals exact absurd hk (by decide)
  · intro o ho us wl al ha hB D K hK
    obtain rfl := Option.some.inj ho
    have e0 : al.tmps[0]?.getD undef = .slice a0 n0 c0 := (Rg.e_out ha (by rfl)).trans rfl
    have HB := Lib.hid hB
    refine Rg.wpOp_of rfl rfl ?_
    clear ha D hB
    go_simp
    exact hK _ _ rfl (Below.refl _ _)
  · intro o ho us wl al ha hB D K hK
    obtain rfl := Option.some.inj ho
    have e5 := Rg.e_in (i := 0) (d := 5) ha (by rfl) (by simp) (by simp)
    have f0 : us 0 = .slice a0 n0 c0 := D ⟨0, .data⟩ (by simp) rfl
    have HB := Lib.hid hB
    refine Rg.wpOp_of rfl rfl ?_
    clear ha D hB
    go_simp
    refine (HA.out _ (D4.out.trans (HB.out.mono D4.out.size))).mono ?_
    rintro e wn ⟨y, rfl, hy, hb⟩
    exact hK _ _ hy hb
  · intro o ho us wl al ha hB D K hK
    obtain rfl := Option.some.inj ho
    have e3 : al.tmps[3]?.getD undef = .pointer (some ⟨bM, 0, none⟩) := (Rg.e_out ha (by rfl)).trans rfl
    have HB := Lib.hid hB
    refine Rg.wpOp_of rfl rfl ?_
    clear ha D hB
    go_simp
    exact hK _ _ rfl (Below.refl _ _)
  · intro o ho us wl al ha hB D K hK
    obtain rfl := Option.some.inj ho
    have e7 := Rg.e_in (i := 2) (d := 7) ha (by rfl) (by simp) (by simp)
    have f2 : us 2 = .pointer (some ⟨bM, 0, none⟩) := D ⟨2, .data⟩ (by simp) rfl
    obtain ⟨c0, c1⟩ := CM.out _ hB
    have HB := Lib.hid hB
    refine Rg.wpOp_of rfl rfl ?_
    clear ha D hB
    go_simp
    exact hK _ _ rfl (Below.refl _ _)
  · intro o ho us wl al ha hB D K hK
    obtain rfl := Option.some.inj ho
    have e6 := Rg.e_in (i := 1) (d := 6) ha (by rfl) (by simp) (by simp)
    have D1 : Hid (Ints wl (us 1) V) := D ⟨1, .data⟩ (by simp) rfl
    have e8 := Rg.e_in (i := 3) (d := 8) ha (by rfl) (by simp) (by simp)
    have f3 : us 3 = .int .i64 mp := D ⟨3, .data⟩ (by simp) rfl
    have HB := Lib.hid hB
    refine Rg.wpOp_of rfl rfl ?_
    clear ha D hB
    go_simp
    refine (HQ.out _ _ D1.out).mono ?_
    rintro e wn ⟨rfl, hb⟩
    exact hK _ _ rfl hb
  · intro o ho us wl al ha hB D K hK
    obtain rfl := Option.some.inj ho
    have e9 := Rg.e_in (i := 4) (d := 9) ha (by rfl) (by simp) (by simp)
    have f4 : us 4 = .bool true := D ⟨4, .data⟩ (by simp) rfl
    have HB := Lib.hid hB
    refine Rg.wpOp_of rfl rfl ?_
    clear ha D hB
    go_simp
    exact hK _ _ rfl (Below.refl _ _)
  · intro o ho us wl al ha hB D K hK
    obtain rfl := Option.some.inj ho
    have e0 : al.tmps[0]?.getD undef = .slice a0 n0 c0 := (Rg.e_out ha (by rfl)).trans rfl
    have HB := Lib.hid hB
    refine Rg.wpOp_of rfl (Rg.wanted_of rfl (Rg.yielded_of (d := 10) (by rfl) (Rg.g_in (d := 10) ha (by rfl) (by simp) (by simp) (D ⟨5, .guard⟩ (by simp) rfl : us 5 = .bool true)))) ?_
    clear ha D hB
    go_simp
    exact hK _ _ rfl (Below.refl _ _)
  · intro o ho us wl al ha hB D K hK
    obtain rfl := Option.some.inj ho
    have e3 : al.tmps[3]?.getD undef = .pointer (some ⟨bM, 0, none⟩) := (Rg.e_out ha (by rfl)).trans rfl
    have HB := Lib.hid hB
    refine Rg.wpOp_of rfl (Rg.wanted_of rfl (Rg.yielded_of (d := 10) (by rfl) (Rg.g_in (d := 10) ha (by rfl) (by simp) (by simp) (D ⟨5, .guard⟩ (by simp) rfl : us 5 = .bool true)))) ?_
    clear ha D hB
    go_simp
    exact hK _ _ rfl (Below.refl _ _)
  · intro o ho us wl al ha hB D K hK
    obtain rfl := Option.some.inj ho
    have e12 := Rg.e_in (i := 7) (d := 12) ha (by rfl) (by simp) (by simp)
    have f7 : us 7 = .pointer (some ⟨bM, 0, none⟩) := D ⟨7, .data⟩ (by simp) rfl
    obtain ⟨c0, c1⟩ := CM.out _ hB
    have HB := Lib.hid hB
    refine Rg.wpOp_of rfl (Rg.wanted_of rfl (Rg.yielded_of (d := 10) (by rfl) (Rg.g_in (d := 10) ha (by rfl) (by simp) (by simp) (D ⟨5, .guard⟩ (by simp) rfl : us 5 = .bool true)))) ?_
    clear ha D hB
    go_simp
    exact hK _ _ rfl (Below.refl _ _)
  · intro o ho us wl al ha hB D K hK
    obtain rfl := Option.some.inj ho
    have e11 := Rg.e_in (i := 6) (d := 11) ha (by rfl) (by simp) (by simp)
    have f6 : us 6 = .slice a0 n0 c0 := D ⟨6, .data⟩ (by simp) rfl
    have e13 := Rg.e_in (i := 8) (d := 13) ha (by rfl) (by simp) (by simp)
    have f8 : us 8 = .int .i64 mp := D ⟨8, .data⟩ (by simp) rfl
    have HB := Lib.hid hB
    refine Rg.wpOp_of rfl (Rg.wanted_of rfl (Rg.yielded_of (d := 10) (by rfl) (Rg.g_in (d := 10) ha (by rfl) (by simp) (by simp) (D ⟨5, .guard⟩ (by simp) rfl : us 5 = .bool true)))) ?_
    clear ha D hB
    go_simp
    refine (HM.out _ (D4.out.trans (HB.out.mono D4.out.size))).mono ?_
    rintro e wn ⟨y, rfl, hy, hb⟩
    exact hK _ _ hy hb
  · intro o ho us wl al ha hB D K hK
    obtain rfl := Option.some.inj ho
    have e3 : al.tmps[3]?.getD undef = .pointer (some ⟨bM, 0, none⟩) := (Rg.e_out ha (by rfl)).trans rfl
    obtain ⟨c0, c1⟩ := CM.out _ hB
    have HB := Lib.hid hB
    refine Rg.wpOp_of rfl (Rg.wanted_of rfl (Rg.yielded_of (d := 10) (by rfl) (Rg.g_in (d := 10) ha (by rfl) (by simp) (by simp) (D ⟨5, .guard⟩ (by simp) rfl : us 5 = .bool true)))) ?_
    clear ha D hB
    go_simp
    exact hK _ _ rfl (Below.refl _ _)
  · intro o ho us wl al ha hB D K hK
    obtain rfl := Option.some.inj ho
    have e14 := Rg.e_in (i := 9) (d := 14) ha (by rfl) (by simp) (by simp)
    have D9 : Hid (Mvs wl (us 9) R) := D ⟨9, .data⟩ (by simp) rfl
    have e15 := Rg.e_in (i := 10) (d := 15) ha (by rfl) (by simp) (by simp)
    have f10 : us 10 = .agg #[.int .i64 mp, .int .i64 mh] := D ⟨10, .data⟩ (by simp) rfl
    have HB := Lib.hid hB
    refine Rg.wpOp_of rfl (Rg.wanted_of rfl (Rg.yielded_of (d := 10) (by rfl) (Rg.g_in (d := 10) ha (by rfl) (by simp) (by simp) (D ⟨5, .guard⟩ (by simp) rfl : us 5 = .bool true)))) ?_
    clear ha D hB
    go_simp
    refine (HR.out _ _ D9.out).mono ?_
    rintro e wn ⟨rfl, hb⟩
    exact hK _ _ rfl hb
  · intro o ho us wl al ha hB D K hK
    obtain rfl := Option.some.inj ho
    have e10 := Rg.e_in (i := 5) (d := 10) ha (by rfl) (by simp) (by simp)
    have f5 : us 5 = .bool true := D ⟨5, .data⟩ (by simp) rfl
    have e16 := Rg.e_in (i := 11) (d := 16) ha (by rfl) (by simp) (by simp)
    have f11 : us 11 = .bool y := D ⟨11, .data⟩ (by simp) rfl
    have HB := Lib.hid hB
    refine Rg.wpOp_of rfl rfl ?_
    clear ha D hB
    go_simp
    exact hK _ _ rfl (Below.refl _ _)
  · intro o ho us wl al ha hB D K hK
    obtain rfl := Option.some.inj ho
    have e17 := Rg.e_in (i := 12) (d := 17) ha (by rfl) (by simp) (by simp)
    have f12 : us 12 = .bool y := D ⟨12, .data⟩ (by simp) rfl
    have HB := Lib.hid hB
    refine Rg.wpOp_of rfl rfl ?_
    clear ha D hB
    go_simp
    exact hK _ _ rfl (Below.refl _ _)
  · intro us wz hB hR
    have fz : us 13 = .bool y := hR 13
    have DZ := Lib.hid (D4.out.trans (hB.mono D4.out.size))
    clear hB hR
    simp only [Rg.puts, Act.put, List.setIfInBounds_toArray, List.set_cons_zero, List.set_cons_succ, fz]
    go_wp2_with fail
    go_ret
    exact ⟨rfl, DZ.out⟩
/-- What each operation of the region yields. -/
def RIn (n0 c0 : Nat) (a0 : Option Addr) (mp : Int) (V : List Int) (bM : Nat) (k : Nat) (v : Value) (w' : World) : Prop := match k with
  | 0 => v = .slice a0 n0 c0
  | 1 => Ints w' v V
  | 2 => v = .pointer (some ⟨bM, 0, none⟩)
  | 3 => v = .int .i64 mp
  | 4 => v = .bool false
  | 5 => v = .bool false
  | 6 => v = undef
  | 7 => v = undef
  | 8 => v = undef
  | 9 => v = undef
  | 10 => v = undef
  | 11 => v = undef
  | 12 => v = .bool false
  | 13 => v = .bool false
  | _ => True
theorem RIn.below {n0 c0 : Nat} {a0 : Option Addr} {mp : Int} {V : List Int} {bM : Nat} {k : Nat} {v : Value} {w w' : World} (h : RIn n0 c0 a0 mp V bM k v w) (hb : Below w.heap.size w w') : RIn n0 c0 a0 mp V bM k v w' := by
  unfold RIn at h ⊢
  split at h
  case h_2 => exact Ints.below h hb
  all_goals exact h
set_option maxHeartbeats 4000000 in
theorem is_no (n0 c0 : Nat) (a0 : Option Addr) (mp mh : Int) (V : List Int) (w : World) (hA : ∀ w1, Below w.heap.size w w1 → Calls Try.prog 32 #[.slice a0 n0 c0] w1 fun e w' => ∃ y, e = .returned y ∧ Ints w' y V ∧ Below w1.heap.size w1 w') (hV : V.length ≤ 1000000) (hq : decide (mp ∈ V) = false)
    : Calls Try.prog 34 #[.slice a0 n0 c0, .agg #[.int .i64 mp, .int .i64 mh]] w fun e w' => e = .returned (.bool false) ∧ Below w.heap.size w w' := by
  have HA := Lib.hid hA
  have HQ := Lib.hid (fun w1 v (h : Ints w1 v V) => hq ▸ Rx.has_any v V mp w1 h hV)
  have D4 := Lib.hid (below1 w (.cells #[.int .i64 mp, .int .i64 mh] 31))
  have CM := Lib.hid (bm_keep3 (Bm.new w ⟨mp, mh⟩))
  obtain ⟨bM, hbM⟩ : ∃ bM, w.heap.size = bM := ⟨_, rfl⟩
  obtain ⟨w4, hw4⟩ : ∃ w4, w.alloc (.cells #[.int .i64 mp, .int .i64 mh] 31) = w4 := ⟨_, rfl⟩
  change Hid (∀ w', Below (w.alloc (.cells #[.int .i64 mp, .int .i64 mh] 31)).heap.size (w.alloc (.cells #[.int .i64 mp, .int .i64 mh] 31)) w' → w'.cell? ⟨w.heap.size, 0, none⟩ = some (.int .i64 mp) ∧ w'.cell? ⟨w.heap.size, 1, none⟩ = some (.int .i64 mh)) at CM
  rw [hbM, hw4] at CM
  rw [hw4] at D4
  clear hA hV hq
  go_enter Try.func34, Try.ntmps34
  go_wp2_with fail
  clear hbM hw4
  refine Rg.wp_region_owes (by kernel_rfl) [(0, some 5), (1, some 6), (2, some 7), (3, some 8), (4, some 9), (5, some 10), (6, some 11), (7, some 12), (8, some 13), (9, some 14), (10, some 15), (11, some 16), (12, some 17), (13, some 4)] (by rfl) (by kernel_rfl) (by kernel_rfl) (fun w' => Below w4.heap.size w4 w') (RIn n0 c0 a0 mp V bM) (Below.refl _ _).drew ?_ (fun _ _ h hb => h.trans (hb.mono h.size)) (fun _ _ _ _ h hb => RIn.below h hb) ⟨⟨⟨⟨⟨⟨⟨⟨⟨⟨⟨⟨⟨⟨True.intro, ?_⟩, ?_⟩, ?_⟩, ?_⟩, ?_⟩, ?_⟩, ?_⟩, ?_⟩, ?_⟩, ?_⟩, ?_⟩, ?_⟩, ?_⟩, ?_⟩ ?_
  · intro k v w' hk
    unfold RIn
    split
    case h_15 => trivial
    all_goals exact absurd hk (by decide)
  · intro o ho us wl al ha hB D K hK
    obtain rfl := Option.some.inj ho
    have e0 : al.tmps[0]?.getD undef = .slice a0 n0 c0 := (Rg.e_out ha (by rfl)).trans rfl
    have HB := Lib.hid hB
    refine Rg.wpOp_of rfl rfl ?_
    clear ha D hB
    go_simp
    exact hK _ _ rfl (Below.refl _ _)
  · intro o ho us wl al ha hB D K hK
    obtain rfl := Option.some.inj ho
    have e5 := Rg.e_in (i := 0) (d := 5) ha (by rfl) (by simp) (by simp)
    have f0 : us 0 = .slice a0 n0 c0 := D ⟨0, .data⟩ (by simp) rfl
    have HB := Lib.hid hB
    refine Rg.wpOp_of rfl rfl ?_
    clear ha D hB
    go_simp
    refine (HA.out _ (D4.out.trans (HB.out.mono D4.out.size))).mono ?_
    rintro e wn ⟨y, rfl, hy, hb⟩
    exact hK _ _ hy hb
  · intro o ho us wl al ha hB D K hK
    obtain rfl := Option.some.inj ho
    have e3 : al.tmps[3]?.getD undef = .pointer (some ⟨bM, 0, none⟩) := (Rg.e_out ha (by rfl)).trans rfl
    have HB := Lib.hid hB
    refine Rg.wpOp_of rfl rfl ?_
    clear ha D hB
    go_simp
    exact hK _ _ rfl (Below.refl _ _)
  · intro o ho us wl al ha hB D K hK
    obtain rfl := Option.some.inj ho
    have e7 := Rg.e_in (i := 2) (d := 7) ha (by rfl) (by simp) (by simp)
    have f2 : us 2 = .pointer (some ⟨bM, 0, none⟩) := D ⟨2, .data⟩ (by simp) rfl
    obtain ⟨c0, c1⟩ := CM.out _ hB
    have HB := Lib.hid hB
    refine Rg.wpOp_of rfl rfl ?_
    clear ha D hB
    go_simp
    exact hK _ _ rfl (Below.refl _ _)
  · intro o ho us wl al ha hB D K hK
    obtain rfl := Option.some.inj ho
    have e6 := Rg.e_in (i := 1) (d := 6) ha (by rfl) (by simp) (by simp)
    have D1 : Hid (Ints wl (us 1) V) := D ⟨1, .data⟩ (by simp) rfl
    have e8 := Rg.e_in (i := 3) (d := 8) ha (by rfl) (by simp) (by simp)
    have f3 : us 3 = .int .i64 mp := D ⟨3, .data⟩ (by simp) rfl
    have HB := Lib.hid hB
    refine Rg.wpOp_of rfl rfl ?_
    clear ha D hB
    go_simp
    refine (HQ.out _ _ D1.out).mono ?_
    rintro e wn ⟨rfl, hb⟩
    exact hK _ _ rfl hb
  · intro o ho us wl al ha hB D K hK
    obtain rfl := Option.some.inj ho
    have e9 := Rg.e_in (i := 4) (d := 9) ha (by rfl) (by simp) (by simp)
    have f4 : us 4 = .bool false := D ⟨4, .data⟩ (by simp) rfl
    have HB := Lib.hid hB
    refine Rg.wpOp_of rfl rfl ?_
    clear ha D hB
    go_simp
    exact hK _ _ rfl (Below.refl _ _)
  · intro o ho us wl al ha hB D K hK
    obtain rfl := Option.some.inj ho
    refine Rg.wpOp_off rfl (Rg.unwanted_of (b := true) rfl (Rg.yielded_of (d := 10) (by rfl) (Rg.g_in (d := 10) ha (by rfl) (by simp) (by simp) (D ⟨5, .guard⟩ (by simp) rfl : us 5 = .bool false)))) ?_
    exact hK _ _ rfl (Below.refl _ _)
  · intro o ho us wl al ha hB D K hK
    obtain rfl := Option.some.inj ho
    refine Rg.wpOp_off rfl (Rg.unwanted_of (b := true) rfl (Rg.yielded_of (d := 10) (by rfl) (Rg.g_in (d := 10) ha (by rfl) (by simp) (by simp) (D ⟨5, .guard⟩ (by simp) rfl : us 5 = .bool false)))) ?_
    exact hK _ _ rfl (Below.refl _ _)
  · intro o ho us wl al ha hB D K hK
    obtain rfl := Option.some.inj ho
    refine Rg.wpOp_off rfl (Rg.unwanted_of (b := true) rfl (Rg.yielded_of (d := 10) (by rfl) (Rg.g_in (d := 10) ha (by rfl) (by simp) (by simp) (D ⟨5, .guard⟩ (by simp) rfl : us 5 = .bool false)))) ?_
    exact hK _ _ rfl (Below.refl _ _)
  · intro o ho us wl al ha hB D K hK
    obtain rfl := Option.some.inj ho
    refine Rg.wpOp_off rfl (Rg.unwanted_of (b := true) rfl (Rg.yielded_of (d := 10) (by rfl) (Rg.g_in (d := 10) ha (by rfl) (by simp) (by simp) (D ⟨5, .guard⟩ (by simp) rfl : us 5 = .bool false)))) ?_
    exact hK _ _ rfl (Below.refl _ _)
  · intro o ho us wl al ha hB D K hK
    obtain rfl := Option.some.inj ho
    refine Rg.wpOp_off rfl (Rg.unwanted_of (b := true) rfl (Rg.yielded_of (d := 10) (by rfl) (Rg.g_in (d := 10) ha (by rfl) (by simp) (by simp) (D ⟨5, .guard⟩ (by simp) rfl : us 5 = .bool false)))) ?_
    exact hK _ _ rfl (Below.refl _ _)
  · intro o ho us wl al ha hB D K hK
    obtain rfl := Option.some.inj ho
    refine Rg.wpOp_off rfl (Rg.unwanted_of (b := true) rfl (Rg.yielded_of (d := 10) (by rfl) (Rg.g_in (d := 10) ha (by rfl) (by simp) (by simp) (D ⟨5, .guard⟩ (by simp) rfl : us 5 = .bool false)))) ?_
    exact hK _ _ rfl (Below.refl _ _)
  · intro o ho us wl al ha hB D K hK
    obtain rfl := Option.some.inj ho
    have e10 := Rg.e_in (i := 5) (d := 10) ha (by rfl) (by simp) (by simp)
    have f5 : us 5 = .bool false := D ⟨5, .data⟩ (by simp) rfl
    have e16 := Rg.e_in (i := 11) (d := 16) ha (by rfl) (by simp) (by simp)
    have f11 : us 11 = undef := D ⟨11, .data⟩ (by simp) rfl
    have HB := Lib.hid hB
    refine Rg.wpOp_of rfl rfl ?_
    clear ha D hB
    go_simp
    exact hK _ _ rfl (Below.refl _ _)
  · intro o ho us wl al ha hB D K hK
    obtain rfl := Option.some.inj ho
    have e17 := Rg.e_in (i := 12) (d := 17) ha (by rfl) (by simp) (by simp)
    have f12 : us 12 = .bool false := D ⟨12, .data⟩ (by simp) rfl
    have HB := Lib.hid hB
    refine Rg.wpOp_of rfl rfl ?_
    clear ha D hB
    go_simp
    exact hK _ _ rfl (Below.refl _ _)
  · intro us wz hB hR
    have fz : us 13 = .bool false := hR 13
    have DZ := Lib.hid (D4.out.trans (hB.mono D4.out.size))
    clear hB hR
    simp only [Rg.puts, Act.put, List.setIfInBounds_toArray, List.set_cons_zero, List.set_cons_succ, fz]
    go_wp2_with fail
    go_ret
    exact ⟨rfl, DZ.out⟩
/-- The program's Is. -/
theorem isP_any (v : Value) (l : List Nd) (m : Mv) (w : World) (hv : Nds w v l) (hl : l.length ≤ 1000) (hm : Nms l) :
    Calls Try.prog 34 #[v, mvV m] w fun e w' => e = .returned (.bool (decide (m ∈ enR l))) ∧ Below w.heap.size w w' := by
  have hA := fun w1 (hb : Below w.heap.size w w1) => actP_any v l w1 (hv.below hb) hl hm
  have hV : (av l).length ≤ 1000000 := Nat.le_trans (av_len l) (by omega)
  obtain ⟨_, a0, c0, rfl, -⟩ := id hv
  obtain ⟨mp, mh⟩ := m
  by_cases hz : mp ∈ av l
  · rw [show decide ((⟨mp, mh⟩ : Mv) ∈ enR l) = decide ((⟨mp, mh⟩ : Mv) ∈ hw (kn l mp) (fr l mp) mp) from decide_eq_decide.2 (mem_enR.trans ⟨fun h => h.2, fun h => ⟨hz, h⟩⟩)]
    exact is_yes _ c0 a0 mp mh _ _ _ w hA hV (decide_eq_true hz) (fun w1 hb => movesAt_any _ l mp w1 (hv.below hb) hl hm hz) (Nat.le_trans (hw_len _ _ _) (by omega)) rfl
  · rw [show decide ((⟨mp, mh⟩ : Mv) ∈ enR l) = false from decide_eq_false fun h => hz (mem_enR.1 h).1]
    exact is_no _ c0 a0 mp mh _ w hA hV (decide_eq_false hz)
end Go.Proofs.Ytpingbiibbmcaaa.Me

namespace Go.Proofs.Ytpingbiibbmcaaa.Me
open Go Go.RowKit Go.Proofs.Ytpingbiibbmcaaa.Rw Go.Proofs.Ytpingbiibbmcaaa.So Go.Proofs.Ytpingbiibbmcaaa.Se Go.Proofs.Ytpingbiibbmcaaa.Do
set_option maxRecDepth 20000

end Go.Proofs.Ytpingbiibbmcaaa.Me

namespace Go.Proofs.Ytpingbiibbmcaaa.St
open Go Go.RowKit Go.Proofs.Ytpingbiibbmcaaa.Rw Go.Proofs.Ytpingbiibbmcaaa.So Go.Proofs.Ytpingbiibbmcaaa.Se Go.Proofs.Ytpingbiibbmcaaa.Do Go.Proofs.Ytpingbiibbmcaaa.Sp Go.Proofs.Ytpingbiibbmcaaa.Me
set_option maxRecDepth 20000

/-- What comes of a move of a row. -/
theorem en_kind {l : List Nd} {m : Mv} (h : m ∈ enR l) : nxE l m = 0 ∧ setB (nxL l m) = true ∧ (∀ p : Bool, onB (nxL l m) p = onB l p) ∧ (nxL l m).length ≤ 200 ∧ Nms (nxL l m) := by
  obtain ⟨t, rfl, hg, hn⟩ := en_set h
  obtain ⟨mo, h1, rfl⟩ := en_mo hg hn h
  obtain ⟨n1, _, n3⟩ := nx_of hg hn h1
  obtain ⟨k1, k2⟩ := nx_kind hg h1
  have hS := (mo_goes hg h1).S
  rw [n1]
  exact ⟨n3, k1, k2, by rw [Se.flat_len]; exact hS.2.1, nms_goes hS.1⟩
end Go.Proofs.Ytpingbiibbmcaaa.St
