/- The program's movesAt: the walk. -/
import Derived.Test.YtdkaoiomndkbjaaGreatDoorQ31
import Derived.Test.YtdkaoiomndkbjaaGreatDoorQ29
import Derived.Laws.EntriesVeiled

namespace Go.Proofs.YtdkaoiomndkbjaaGreatDoor.Me
open Go Go.RowKit Go.Maps Go.WideMaps Rw So Se Do
set_option maxRecDepth 20000
def wyM (z : Int) (B : Wy → Bool) (L : List Wy) : List Mv := (L.filter B).map fun p => ⟨z, p.1⟩
theorem wyM_take {z : Int} {B : Wy → Bool} {L : List Wy} {k : Nat} (h : k < L.length) : wyM z B (L.take (k + 1)) = if B L[k] = true then wyM z B (L.take k) ++ [⟨z, L[k].1⟩] else wyM z B (L.take k) := by
  unfold wyM
  rw [List.take_succ_eq_append_getElem h, List.filter_append, List.map_append]
  cases hb : B L[k] <;> simp [hb]
def wyL (k : Int) : List Wy := if k = 1 then [(1, 42)] else if k = 6 then [(2, 42), (3, 42)] else [(4, 42), (5, 43)]
theorem wyL_of {w : World} {v1 v6 v4 : Value} (h1 : Wys w v1 (wyL 1)) (h6 : Wys w v6 (wyL 6)) (h4 : Wys w v4 (wyL 4)) (k : Int) (hk : k = 1 ∨ k = 6 ∨ k = 4 ∨ k = 10) : Wys w (wyF v1 v6 v4 k) (wyL k) := by
  rcases hk with rfl | rfl | rfl | rfl
  · exact h1
  · exact h6
  · exact h4
  · exact h4
theorem wyL_in (k : Int) : ∀ p ∈ wyL k, p.2 = 42 ∨ p.2 = 43 := by
  unfold wyL
  split
  · simp
  · split <;> simp
theorem wyL_len (k : Int) : (wyL k).length ≤ 2 := by
  unfold wyL
  split
  · simp
  · split <;> simp
def wyB (f : Bool) (p : Wy) : Bool := if p.2 = 42 then true else f
theorem wyL_hw (k z : Int) (f : Bool) (hk : k = 1 ∨ k = 6 ∨ k = 4 ∨ k = 10) : wyM z (wyB f) (wyL k) = hw k f z := by
  rcases hk with rfl | rfl | rfl | rfl <;> cases f <;> rfl
theorem Wys.form {w : World} {v : Value} {l : List Wy} (h : Wys w v l) (hl : 0 < l.length) :
    ∃ b off cap, v = .slice (some ⟨b, off, none⟩) l.length cap ∧ l.length ≤ cap ∧ ∀ k, (h : k < l.length) → w.cell? ⟨b, off + k * 2, none⟩ = some (.int .i64 l[k].1) ∧ w.cell? ⟨b, off + k * 2 + 1, none⟩ = some (.func (.func l[k].2) #[] #[]) := by
  obtain ⟨_, a, cap, rfl, hle, _, hcell⟩ := h
  obtain ⟨b, off, rfl, hj⟩ := hcell hl
  refine ⟨b, off, cap, rfl, hle, fun k hk => ?_⟩
  obtain ⟨h1, h2⟩ := wcls_at l k hk
  exact ⟨hj _ _ h1, by rw [Nat.add_assoc]; exact hj _ _ h2⟩
set_option maxHeartbeats 4000000 in
theorem movesAt_any (v : Value) (l : List Nd) (z : Int) (w : World) (hv : Nds w v l) (hl : l.length ≤ 1000) (hm : Nms l) (hz : z ∈ av l) :
    Calls Tryz.prog 17 #[v, .int .i64 z] w fun e w' => ∃ y, e = .returned y ∧ Mvs w' y (hw (kn l z) (fr l z) z) ∧ Below w.heap.size w w' := by
  have hk4 := av_kind hz
  obtain ⟨z0, z1⟩ := av_in hz
  obtain ⟨kz, rfl⟩ : ∃ k : Nat, z = k := ⟨z.toNat, by omega⟩
  have hkl : kz < l.length := by omega
  have HF : Hid (∀ p ∈ wyL (kn l kz), ∀ w1, Below w.heap.size w w1 → Calls Tryz.prog p.2 #[v, .int .i64 (kz : Int)] w1 fun e w' => e = .returned (.bool (wyB (fr l kz) p)) ∧ Below w1.heap.size w1 w') := Lib.hid fun p hp w1 hb => by
    rcases wyL_in _ p hp with h | h
    · rw [h]
      obtain ⟨_, a, c, rfl, -⟩ := id hv
      rw [show wyB (fr l kz) p = true from if_pos h]
      exact always_any _ _ w1 _ _ _ rfl
    · rw [h]
      rw [show wyB (fr l kz) p = fr l kz from if_neg (by rw [h]; decide)]
      exact freP_any v l kz w1 (hv.below hb) hl hm
  rw [← wyL_hw _ _ _ hk4]
  have HG : Hid (∀ p ∈ wyL (kn l kz), ∀ args w, (callFunc p.2 args).run Tryz.prog w = .ok (.enter p.2 args) w) := Lib.hid fun p hp args w => by
    rcases wyL_in _ p hp with h | h <;> rw [h] <;> simp [go_sem]
  have HW : Hid (∀ (w1 : World) (v1 v6 v4 : Value), Wys w1 v1 (wyL 1) → Wys w1 v6 (wyL 6) → Wys w1 v4 (wyL 4) → Wys w1 (wyF v1 v6 v4 (kn l kz)) (wyL (kn l kz))) := Lib.hid fun w1 v1 v6 v4 h1 h6 h4 => wyL_of h1 h6 h4 _ hk4
  have HLL := wyL_len (kn l kz)
  have hkn : kn l kz = l[kz].k := by unfold kn; rw [Int.toNat_natCast, List.getElem?_eq_getElem hkl]
  have hwf : (Lit.int .i64 (kn l kz)).wf = true := by rcases hk4 with h | h | h | h <;> rw [h] <;> decide
  rcases hv.form with ⟨h0, _⟩ | ⟨b, off, c, rfl, hc, hat⟩
  · rw [h0] at hkl; simp at hkl
  have e0 := (hat kz hkl).1
  rw [← hkn] at e0
  obtain ⟨kk, hkk⟩ : ∃ kk, kn l kz = kk := ⟨_, rfl⟩
  rw [hkk] at HF HG HW HLL hwf e0
  obtain ⟨L, hL⟩ : ∃ L, wyL kk = L := ⟨_, rfl⟩
  rw [hkk, hL]
  rw [hL] at HF HG HW HLL
  obtain ⟨B, hB⟩ : ∃ B, wyB (fr l kz) = B := ⟨_, rfl⟩
  rw [hB] at HF ⊢
  have hbl : b < w.heap.size := Ap.cell_lt e0
  have HWF := Lib.hid hwf
  have HE0 := Lib.hid e0
  obtain ⟨n, hn⟩ : ∃ n, l.length = n := ⟨_, rfl⟩
  rw [hn] at hkl hl HF hc ⊢
  clear hv hm hz hk4 z0 z1 hkn hat hkk hL hB hn hwf hc
  go_enter Tryz.func17, Tryz.ntmps17
  go_upto_region 2 with fail
  go_cut [14, 15, 16] (fun s14 s15 s16 wx => ∃ (a : Option Addr) (c' : Nat) (wq : World), wq = wx ∧ s14 = .slice a L.length c' ∧ s15 = .int .i64 L.length ∧ s16 = .int .i64 0 ∧ Wys wq (.slice a L.length c') L ∧ Below w.heap.size w wq)
  case first =>
    clear HF HG
    go_region_with (first
      | (go_at_call 29
         (with_reducible refine (ways_any _).mono ?_)
         rintro e w1 ⟨bm, v1, v6, v4, rfl, ⟨D, hD, hd⟩, h1, h6, h4, hb1⟩
         have B1 := Lib.hid ((Below.refl w.heap.size w).drew.trans hb1)
         have hlook := look hD hd kk HWF.out
         have hws := HW.out _ _ _ _ h1 h6 h4
         obtain ⟨vr, hvr⟩ : ∃ vr, wyF v1 v6 v4 kk = vr := ⟨_, rfl⟩
         rw [hvr] at hlook hws
         have WS := Lib.hid hws
         obtain ⟨_, ar, cr, rfl, -⟩ := hws
         have c0 : w1.cell? ⟨b, off + kz * 3, none⟩ = some (.int .i64 kk) := by rw [B1.out.cell (p := ⟨b, off + kz * 3, none⟩) hbl]; exact HE0.out
         clear hD hd h1 h6 h4 hb1 hvr)
      | fail)
    all_goals go_wp2_with fail
    all_goals go_meet
    all_goals exact ⟨_, _, _, rfl, rfl, rfl, rfl, WS.out, B1.out⟩
  case rest =>
    obtain ⟨ar, cr, wq, rfl, rfl, rfl, rfl, hws, hbel⟩ := hcut
    have WS := Lib.hid hws
    have BB := Lib.hid hbel
    clear hws hbel HW HWF HE0 e0
    go_wp2_with fail
    go_loopw [5, 16] (fun s i wr => ∃ (k : Nat) (a : Option Addr) (m cc : Nat) (os : List Mv), k ≤ L.length ∧ m ≤ k ∧ i = .int .i64 k ∧ s = .slice a m cc ∧ Hid (os.length = m) ∧ Hid (wyM kz B (L.take k) = os) ∧ Hid (GotM wq.heap.size wr (.slice a m cc) os) ∧ Hid (Below w.heap.size w wr) ∧ Hid (Below wq.heap.size wq wr)) (fun _ i _ => L.length - (intOf i).toNat)
    case atStart => exact ⟨0, none, 0, 0, [], Nat.zero_le _, Nat.le_refl _, rfl, rfl, Lib.hid rfl, Lib.hid rfl, Lib.hid (GotM.start (Nat.le_refl _)), BB, Lib.hid (Below.refl _ _)⟩
    case round =>
      obtain ⟨k, a, m, cc, os, hk, hmk, rfl, rfl, HL, HO, HM, HD, HQ⟩ := hrel
      by_cases hlt : k < L.length
      · obtain ⟨bq, oq, cq, eq, -, hc⟩ := (WS.out.below HQ.out).form (by omega)
        obtain ⟨f1, f2⟩ := hc k hlt
        injection eq with e1 _ e3
        subst e1
        subst e3
        have HFk := Lib.hid (HF.out _ (List.getElem_mem hlt))
        have eg := HG.out _ (List.getElem_mem hlt)
        have HT := Lib.hid (wyM_take (z := (kz : Int)) (B := B) hlt)
        obtain ⟨p, hp⟩ : ∃ p, L[k] = p := ⟨_, rfl⟩
        rw [hp] at f1 f2 HFk eg HT
        obtain ⟨ph, pf⟩ := p
        simp only at f1 f2 eg
        obtain ⟨q, hq⟩ : ∃ q, B (ph, pf) = q := ⟨_, rfl⟩
        rw [hq] at HFk HT
        have DW := Lib.hid (HD.out.trans ((below1 wr (.cells #[.int .i64 ph, .func (.func pf) #[] #[]] 58)).mono HD.out.size))
        have GW := Lib.hid (HM.out.below (below1 wr (.cells #[.int .i64 ph, .func (.func pf) #[] #[]] 58)))
        have QW := Lib.hid (HQ.out.trans ((below1 wr (.cells #[.int .i64 ph, .func (.func pf) #[] #[]] 58)).mono HQ.out.size))
        have HC := Lib.hid (HFk.out _ DW.out)
        have C7 : Hid (∀ w2, Below (wr.alloc (.cells #[.int .i64 ph, .func (.func pf) #[] #[]] 58)).heap.size (wr.alloc (.cells #[.int .i64 ph, .func (.func pf) #[] #[]] 58)) w2 → w2.cell? ⟨wr.heap.size, 0, none⟩ = some (.int .i64 ph)) := Lib.hid fun w2 hb => by
          rw [hb.cell (p := ⟨wr.heap.size, 0, none⟩) (by simp)]
          simp [go_sem]
        clear hc hp hq
        cases q with
        | true =>
          have HX : Hid (wyM kz B (L.take (k + 1)) = os ++ [⟨kz, ph⟩]) := by
            show _ = _
            rw [HT.out, if_pos rfl, HO.out]
          go_wp2_with fail
          refine HC.out.mono ?_
          rintro e w2 ⟨rfl, hb2⟩
          have c7 := C7.out _ hb2
          have D2 := Lib.hid (DW.out.trans (hb2.mono DW.out.size))
          have Q2 := Lib.hid (QW.out.trans (hb2.mono QW.out.size))
          obtain ⟨v', w3, hrun, hgot, hb3⟩ := (GW.out.below hb2).new [⟨kz, ph⟩] (by rw [HL.out]; show m + 1 ≤ 1000000; omega)
          obtain ⟨a', c', rfl⟩ : ∃ a' c', v' = .slice a' (m + 1) c' := by
            obtain ⟨_, a', c', e', -⟩ := hgot.mvs
            rw [List.length_append, HL.out] at e'
            exact ⟨a', c', e'⟩
          have HL' : Hid ((os ++ [(⟨kz, ph⟩ : Mv)]).length = m + 1) := by
            show _ = _
            rw [List.length_append, HL.out]
            rfl
          change (Builtin.append_ #[26, 26] 26 #[.slice a m cc, .slice (some ⟨w2.heap.size, 0, none⟩) 1 1]).run Tryz.prog (w2.alloc (.cells #[.int .i64 (kz : Int), .int .i64 ph] 29)) = _ at hrun
          have R := Lib.hid hrun
          have HG' := Lib.hid hgot
          have D3 := Lib.hid (D2.out.trans (hb3.mono BB.out.size))
          have Q3 := Lib.hid (Q2.out.trans hb3)
          clear hrun hgot hb2 hb3
          go_wp2_with (at_builtin; refine Ap.wpList_append_run (by rfl) (.tmp 25) (.tmp 30) _ _ rfl _ _ rfl rfl _ w3 R.out ?_)
          go_roundw
          case rel => exact ⟨k + 1, a', m + 1, c', os ++ [⟨kz, ph⟩], by omega, by omega, by go_num, rfl, HL', HX, HG', D3, Q3⟩
          case measure => simp [intOf]; omega
        | false =>
          have HX : Hid (wyM kz B (L.take (k + 1)) = os) := by
            show _ = _
            rw [HT.out, if_neg (by decide), HO.out]
          go_wp2_with fail
          refine HC.out.mono ?_
          rintro e w2 ⟨rfl, hb2⟩
          have D2 := Lib.hid (DW.out.trans (hb2.mono DW.out.size))
          have Q2 := Lib.hid (QW.out.trans (hb2.mono QW.out.size))
          have G2 := Lib.hid (GW.out.below hb2)
          clear hb2
          go_wp2_with fail
          go_roundw
          case rel => exact ⟨k + 1, a, m, cc, os, by omega, by omega, by go_num, rfl, HL, HX, G2, D2, Q2⟩
          case measure => simp [intOf]; omega
      · have HZ : Hid (wyM kz B L = os) := by
          have := HO.out
          rwa [List.take_of_length_le (by omega)] at this
        go_wp2_with fail
        go_ret
        exact ⟨_, rfl, by rw [HZ.out]; exact HM.out.mvs, HD.out⟩
end Go.Proofs.YtdkaoiomndkbjaaGreatDoor.Me
