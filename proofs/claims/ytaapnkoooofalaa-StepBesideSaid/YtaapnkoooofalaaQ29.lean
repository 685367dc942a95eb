/- The program's movesAt: the walk. MovePicks, MoveTexts: the walks. Arguments of step's laws: a pair of integers within 64 bits. -/
import Derived.Test.YtaapnkoooofalaaQ28
import Derived.Test.YtaapnkoooofalaaQ27
import Derived.Test.YtaapnkoooofalaaQ26
import Derived.Laws.EntriesVeiled
import Derived.Test.YtaapnkoooofalaaQ03
import Derived.Laws.StructEq
import Derived.Test.YtaapnkoooofalaaQ04
import Derived.OpenShut

namespace Go.Proofs.Ytaapnkoooofalaa.Me
open Go Go.RowKit Go.Maps Go.WideMaps Rw So Se Do
set_option maxRecDepth 20000
def wyM (z : Int) (B : Wy → Bool) (L : List Wy) : List Mv := (L.filter B).map fun p => ⟨z, p.1⟩
theorem wyM_take {z : Int} {B : Wy → Bool} {L : List Wy} {k : Nat} (h : k < L.length) : wyM z B (L.take (k + 1)) = if B L[k] = true then wyM z B (L.take k) ++ [⟨z, L[k].1⟩] else wyM z B (L.take k) := by
  unfold wyM
  rw [List.take_succ_eq_append_getElem h, List.filter_append, List.map_append]
  cases hb : B L[k] <;> simp [hb]
def wyL (k : Int) : List Wy := if k = 1 then [(1, 60)] else if k = 6 then [(2, 60), (3, 60)] else [(4, 60), (5, 61)]
theorem wyL_of {w : World} {v1 v6 v4 : Value} (h1 : Wys w v1 (wyL 1)) (h6 : Wys w v6 (wyL 6)) (h4 : Wys w v4 (wyL 4)) (k : Int) (hk : k = 1 ∨ k = 6 ∨ k = 4 ∨ k = 10) : Wys w (wyF v1 v6 v4 k) (wyL k) := by
  rcases hk with rfl | rfl | rfl | rfl
  · exact h1
  · exact h6
  · exact h4
  · exact h4
theorem wyL_in (k : Int) : ∀ p ∈ wyL k, p.2 = 60 ∨ p.2 = 61 := by
  unfold wyL
  split
  · simp
  · split <;> simp
theorem wyL_len (k : Int) : (wyL k).length ≤ 2 := by
  unfold wyL
  split
  · simp
  · split <;> simp
def wyB (f : Bool) (p : Wy) : Bool := if p.2 = 60 then true else f
theorem wyL_hw (k z : Int) (f : Bool) (hk : k = 1 ∨ k = 6 ∨ k = 4 ∨ k = 10) : wyM z (wyB f) (wyL k) = hw k f z := by
  rcases hk with rfl | rfl | rfl | rfl <;> cases f <;> rfl
theorem Wys.form {w : World} {v : Value} {l : List Wy} (h : Wys w v l) (hl : 0 < l.length) :
    ∃ b off cap, v = .slice (some ⟨b, off, none⟩) l.length cap ∧ l.length ≤ cap ∧ ∀ k, (h : k < l.length) → w.cell? ⟨b, off + k * 2, none⟩ = some (.int .i64 l[k].1) ∧ w.cell? ⟨b, off + k * 2 + 1, none⟩ = some (.func (.func l[k].2) #[] #[]) := by
  obtain ⟨_, a, cap, rfl, hle, _, hcell⟩ := h
  obtain ⟨b, off, rfl, hj⟩ := hcell hl
  refine ⟨b, off, cap, rfl, hle, fun k hk => ?_⟩
  obtain ⟨h1, h2⟩ := wcls_at l k hk
  exact ⟨hj _ _ h1, by rw [Nat.add_assoc]; exact hj _ _ h2⟩
set_option maxHeartbeats 4000000 in
theorem movesAt_any (v : Value) (l : List Nd) (z : Int) (w : World) (hv : Nds w v l) (hl : l.length ≤ 1000) (hm : Nms l) (hz : z ∈ av l) :
    Calls Try.prog 28 #[v, .int .i64 z] w fun e w' => ∃ y, e = .returned y ∧ Mvs w' y (hw (kn l z) (fr l z) z) ∧ Below w.heap.size w w' := by
  have hk4 := av_kind hz
  obtain ⟨z0, z1⟩ := av_in hz
  obtain ⟨kz, rfl⟩ : ∃ k : Nat, z = k := ⟨z.toNat, by omega⟩
  have hkl : kz < l.length := by omega
  have HF : Hid (∀ p ∈ wyL (kn l kz), ∀ w1, Below w.heap.size w w1 → Calls Try.prog p.2 #[v, .int .i64 (kz : Int)] w1 fun e w' => e = .returned (.bool (wyB (fr l kz) p)) ∧ Below w1.heap.size w1 w') := Lib.hid fun p hp w1 hb => by
    rcases wyL_in _ p hp with h | h
    · rw [h]
      obtain ⟨_, a, c, rfl, -⟩ := id hv
      rw [show wyB (fr l kz) p = true from if_pos h]
      exact always_any _ _ w1 _ _ _ rfl
    · rw [h]
      rw [show wyB (fr l kz) p = fr l kz from if_neg (by rw [h]; decide)]
      exact freP_any v l kz w1 (hv.below hb) hl hm
  rw [← wyL_hw _ _ _ hk4]
  have HG : Hid (∀ p ∈ wyL (kn l kz), ∀ args w, (callFunc p.2 args).run Try.prog w = .ok (.enter p.2 args) w) := Lib.hid fun p hp args w => by
    rcases wyL_in _ p hp with h | h <;> rw [h] <;> simp [go_sem]
  have HW : Hid (∀ (w1 : World) (v1 v6 v4 : Value), Wys w1 v1 (wyL 1) → Wys w1 v6 (wyL 6) → Wys w1 v4 (wyL 4) → Wys w1 (wyF v1 v6 v4 (kn l kz)) (wyL (kn l kz))) := Lib.hid fun w1 v1 v6 v4 h1 h6 h4 => wyL_of h1 h6 h4 _ hk4
  have HLL := wyL_len (kn l kz)
  have hkn : kn l kz = l[kz].k := by unfold kn; rw [Int.toNat_natCast, List.getElem?_eq_getElem hkl]
  have hwf : (Lit.int .i64 (kn l kz)).wf = true := by rcases hk4 with h | h | h | h <;> rw [h] <;> decide
  rcases hv.form with ⟨h0, _⟩ | ⟨b, off, c, rfl, hc, hat⟩
  · rw [h0] at hkl; simp at hkl
  have e0 := (hat kz hkl).1
  rw [← hkn] at e0
  obtain ⟨kk, hkk⟩ : ∃ kk, kn l kz = kk := ⟨_, rfl⟩
  rw [hkk] at HF HG HW HLL hwf e0
  obtain ⟨L, hL⟩ : ∃ L, wyL kk = L := ⟨_, rfl⟩
  rw [hkk, hL]
  rw [hL] at HF HG HW HLL
  obtain ⟨B, hB⟩ : ∃ B, wyB (fr l kz) = B := ⟨_, rfl⟩
  rw [hB] at HF ⊢
  have hbl : b < w.heap.size := Ap.cell_lt e0
  have HWF := Lib.hid hwf
  have HE0 := Lib.hid e0
  obtain ⟨n, hn⟩ : ∃ n, l.length = n := ⟨_, rfl⟩
  rw [hn] at hkl hl HF hc ⊢
  clear hv hm hz hk4 z0 z1 hkn hat hkk hL hB hn hwf hc
  go_enter Try.func28, Try.ntmps28
  go_upto_region 2 with fail
  go_cut [14, 15, 16] (fun s14 s15 s16 wx => ∃ (a : Option Addr) (c' : Nat) (wq : World), wq = wx ∧ s14 = .slice a L.length c' ∧ s15 = .int .i64 L.length ∧ s16 = .int .i64 0 ∧ Wys wq (.slice a L.length c') L ∧ Below w.heap.size w wq)
  case first =>
    clear HF HG
    go_region_with (first
      | (go_at_call 46
         (with_reducible refine (ways_any _).mono ?_)
         rintro e w1 ⟨bm, v1, v6, v4, rfl, ⟨D, hD, hd⟩, h1, h6, h4, hb1⟩
         have B1 := Lib.hid ((Below.refl w.heap.size w).drew.trans hb1)
         have hlook := look hD hd kk HWF.out
         have hws := HW.out _ _ _ _ h1 h6 h4
         obtain ⟨vr, hvr⟩ : ∃ vr, wyF v1 v6 v4 kk = vr := ⟨_, rfl⟩
         rw [hvr] at hlook hws
         have WS := Lib.hid hws
         obtain ⟨_, ar, cr, rfl, -⟩ := hws
         have c0 : w1.cell? ⟨b, off + kz * 3, none⟩ = some (.int .i64 kk) := by rw [B1.out.cell (p := ⟨b, off + kz * 3, none⟩) hbl]; exact HE0.out
         clear hD hd h1 h6 h4 hb1 hvr)
      | fail)
    all_goals go_wp2_with fail
    all_goals go_meet
    all_goals exact ⟨_, _, _, rfl, rfl, rfl, rfl, WS.out, B1.out⟩
  case rest =>
    obtain ⟨ar, cr, wq, rfl, rfl, rfl, rfl, hws, hbel⟩ := hcut
    have WS := Lib.hid hws
    have BB := Lib.hid hbel
    clear hws hbel HW HWF HE0 e0
    go_wp2_with fail
    go_loopw [5, 16] (fun s i wr => ∃ (k : Nat) (a : Option Addr) (m cc : Nat) (os : List Mv), k ≤ L.length ∧ m ≤ k ∧ i = .int .i64 k ∧ s = .slice a m cc ∧ Hid (os.length = m) ∧ Hid (wyM kz B (L.take k) = os) ∧ Hid (GotM wq.heap.size wr (.slice a m cc) os) ∧ Hid (Below w.heap.size w wr) ∧ Hid (Below wq.heap.size wq wr)) (fun _ i _ => L.length - (intOf i).toNat)
    case atStart => exact ⟨0, none, 0, 0, [], Nat.zero_le _, Nat.le_refl _, rfl, rfl, Lib.hid rfl, Lib.hid rfl, Lib.hid (GotM.start (Nat.le_refl _)), BB, Lib.hid (Below.refl _ _)⟩
    case round =>
      obtain ⟨k, a, m, cc, os, hk, hmk, rfl, rfl, HL, HO, HM, HD, HQ⟩ := hrel
      by_cases hlt : k < L.length
      · obtain ⟨bq, oq, cq, eq, -, hc⟩ := (WS.out.below HQ.out).form (by omega)
        obtain ⟨f1, f2⟩ := hc k hlt
        injection eq with e1 _ e3
        subst e1
        subst e3
        have HFk := Lib.hid (HF.out _ (List.getElem_mem hlt))
        have eg := HG.out _ (List.getElem_mem hlt)
        have HT := Lib.hid (wyM_take (z := (kz : Int)) (B := B) hlt)
        obtain ⟨p, hp⟩ : ∃ p, L[k] = p := ⟨_, rfl⟩
        rw [hp] at f1 f2 HFk eg HT
        obtain ⟨ph, pf⟩ := p
        simp only at f1 f2 eg
        obtain ⟨q, hq⟩ : ∃ q, B (ph, pf) = q := ⟨_, rfl⟩
        rw [hq] at HFk HT
        have DW := Lib.hid (HD.out.trans ((below1 wr (.cells #[.int .i64 ph, .func (.func pf) #[] #[]] 73)).mono HD.out.size))
        have GW := Lib.hid (HM.out.below (below1 wr (.cells #[.int .i64 ph, .func (.func pf) #[] #[]] 73)))
        have QW := Lib.hid (HQ.out.trans ((below1 wr (.cells #[.int .i64 ph, .func (.func pf) #[] #[]] 73)).mono HQ.out.size))
        have HC := Lib.hid (HFk.out _ DW.out)
        have C7 : Hid (∀ w2, Below (wr.alloc (.cells #[.int .i64 ph, .func (.func pf) #[] #[]] 73)).heap.size (wr.alloc (.cells #[.int .i64 ph, .func (.func pf) #[] #[]] 73)) w2 → w2.cell? ⟨wr.heap.size, 0, none⟩ = some (.int .i64 ph)) := Lib.hid fun w2 hb => by
          rw [hb.cell (p := ⟨wr.heap.size, 0, none⟩) (by simp)]
          simp [go_sem]
        clear hc hp hq
        cases q with
        | true =>
          have HX : Hid (wyM kz B (L.take (k + 1)) = os ++ [⟨kz, ph⟩]) := by
            show _ = _
            rw [HT.out, if_pos rfl, HO.out]
          go_wp2_with fail
          refine HC.out.mono ?_
          rintro e w2 ⟨rfl, hb2⟩
          have c7 := C7.out _ hb2
          have D2 := Lib.hid (DW.out.trans (hb2.mono DW.out.size))
          have Q2 := Lib.hid (QW.out.trans (hb2.mono QW.out.size))
          obtain ⟨v', w3, hrun, hgot, hb3⟩ := (GW.out.below hb2).new [⟨kz, ph⟩] (by rw [HL.out]; show m + 1 ≤ 1000000; omega)
          obtain ⟨a', c', rfl⟩ : ∃ a' c', v' = .slice a' (m + 1) c' := by
            obtain ⟨_, a', c', e', -⟩ := hgot.mvs
            rw [List.length_append, HL.out] at e'
            exact ⟨a', c', e'⟩
          have HL' : Hid ((os ++ [(⟨kz, ph⟩ : Mv)]).length = m + 1) := by
            show _ = _
            rw [List.length_append, HL.out]
            rfl
          change (Builtin.append_ #[30, 30] 30 #[.slice a m cc, .slice (some ⟨w2.heap.size, 0, none⟩) 1 1]).run Try.prog (w2.alloc (.cells #[.int .i64 (kz : Int), .int .i64 ph] 33)) = _ at hrun
          have R := Lib.hid hrun
          have HG' := Lib.hid hgot
          have D3 := Lib.hid (D2.out.trans (hb3.mono BB.out.size))
          have Q3 := Lib.hid (Q2.out.trans hb3)
          clear hrun hgot hb2 hb3
          go_wp2_with (at_builtin; refine Ap.wpList_append_run (by rfl) (.tmp 25) (.tmp 30) _ _ rfl _ _ rfl rfl _ w3 R.out ?_)
          go_roundw
          case rel => exact ⟨k + 1, a', m + 1, c', os ++ [⟨kz, ph⟩], by omega, by omega, by go_num, rfl, HL', HX, HG', D3, Q3⟩
          case measure => simp [intOf]; omega
        | false =>
          have HX : Hid (wyM kz B (L.take (k + 1)) = os) := by
            show _ = _
            rw [HT.out, if_neg (by decide), HO.out]
          go_wp2_with fail
          refine HC.out.mono ?_
          rintro e w2 ⟨rfl, hb2⟩
          have D2 := Lib.hid (DW.out.trans (hb2.mono DW.out.size))
          have Q2 := Lib.hid (QW.out.trans (hb2.mono QW.out.size))
          have G2 := Lib.hid (GW.out.below hb2)
          clear hb2
          go_wp2_with fail
          go_roundw
          case rel => exact ⟨k + 1, a, m, cc, os, by omega, by omega, by go_num, rfl, HL, HX, G2, D2, Q2⟩
          case measure => simp [intOf]; omega
      · have HZ : Hid (wyM kz B L = os) := by
          have := HO.out
          rwa [List.take_of_length_le (by omega)] at this
        go_wp2_with fail
        go_ret
        exact ⟨_, rfl, by rw [HZ.out]; exact HM.out.mvs, HD.out⟩
end Go.Proofs.Ytaapnkoooofalaa.Me

namespace Go.Proofs.Ytaapnkoooofalaa.Me
open Go Go.RowKit Rw So Se Do
set_option maxRecDepth 20000
theorem bm_keep {w : World} {b : Nat} {m : Mv} (h : Bm w b m) : ∀ w', Below w.heap.size w w' → w'.cell? ⟨b, 0, none⟩ = some (.int .i64 m.p) ∧ w'.cell? ⟨b, 1, none⟩ = some (.int .i64 m.h) := fun _ hb => ⟨(h.below hb h.lt).cells.1, (h.below hb h.lt).cells.2.1⟩
theorem pkE_cases (l : List Nd) : (pkE l = 0 ∧ pkM l = pkM l ∧ 0 < (enR l).length) ∨ pkE l = 120 := by
  unfold pkE
  by_cases h : (enR l).length = 0
  · exact .inr (if_pos h)
  · exact .inl ⟨if_neg h, rfl, by omega⟩
def RTx (mp mh : Int) (s : ByteArray) (k : Nat) (v : Value) (_w' : World) : Prop := match k with
  | 0 => v = .bool true
  | 1 => v = .bool true
  | 2 => v = .agg #[.int .i64 mp, .int .i64 mh]
  | 3 => v = .string s
  | 4 => v = .agg #[.int .i64 mp, .int .i64 mh]
  | 5 => v = .string s
  | 6 => v = .bool true
  | 7 => v = .bool true
  | 8 => v = .bool true
  | _ => True
theorem RTx.below {mp mh : Int} {s : ByteArray} {k : Nat} {v : Value} {w w' : World} (h : RTx mp mh s k v w) (_hb : Below w.heap.size w w') : RTx mp mh s k v w' := by
  unfold RTx at h ⊢
  split at h
  all_goals exact h
theorem RTx.put {w4 : World} {mp mh : Int} {s : ByteArray} {v : Value} {w w' : World} {f : Nat → Bool} {us : Nat → Value} {i : Nat} (g : Rg.Kept (fun w' => Below w4.heap.size w4 w') (RTx mp mh s) f us w) (hb : Below w.heap.size w w') (hv : RTx mp mh s i v w') :
    Rg.Kept (fun w' => Below w4.heap.size w4 w') (RTx mp mh s) (Rg.upd f i true) (Rg.upd us i v) w' :=
  Rg.Kept.put (Base := fun w' => Below w4.heap.size w4 w') (R := RTx mp mh s) (fun _ _ h hb => h.trans (hb.mono h.size)) (fun _ _ _ _ h hb => RTx.below h hb) g hb hv
def RPk (n0 c0 : Nat) (a0 : Option Addr) (xp xh mp mh : Int) (y : Bool) (k : Nat) (v : Value) (_w' : World) : Prop := match k with
  | 0 => v = .bool true
  | 1 => v = .bool true
  | 2 => v = .agg #[.int .i64 xp, .int .i64 xh]
  | 3 => v = .agg #[.int .i64 xp, .int .i64 xh]
  | 4 => v = .bool true
  | 5 => v = .bool true
  | 6 => v = .bool true
  | 7 => v = .int .i64 0
  | 8 => v = .int .i64 0
  | 9 => v = .bool true
  | 10 => v = .bool true
  | 11 => v = .bool true
  | 12 => v = .slice a0 n0 c0
  | 13 => v = .agg #[.int .i64 mp, .int .i64 mh]
  | 14 => v = .bool y
  | 15 => v = .slice a0 n0 c0
  | 16 => v = .agg #[.int .i64 mp, .int .i64 mh]
  | 17 => v = .bool y
  | 18 => v = .bool true
  | 19 => v = .bool true
  | 20 => v = .bool true
  | 21 => v = .int .i64 0
  | 22 => v = .bool false
  | 23 => v = .bool false
  | 24 => v = .slice a0 n0 c0
  | 25 => v = .agg #[.int .i64 xp, .int .i64 xh]
  | 26 => v = .bool true
  | 27 => v = .bool true
  | 28 => v = .bool true
  | 29 => v = .bool true
  | _ => True
theorem RPk.below {n0 c0 : Nat} {a0 : Option Addr} {xp xh mp mh : Int} {y : Bool} {k : Nat} {v : Value} {w w' : World} (h : RPk n0 c0 a0 xp xh mp mh y k v w) (_hb : Below w.heap.size w w') : RPk n0 c0 a0 xp xh mp mh y k v w' := by
  unfold RPk at h ⊢
  split at h
  all_goals exact h
theorem RPk.put {w4 : World} {n0 c0 : Nat} {a0 : Option Addr} {xp xh mp mh : Int} {y : Bool} {v : Value} {w w' : World} {f : Nat → Bool} {us : Nat → Value} {i : Nat} (g : Rg.Kept (fun w' => Below w4.heap.size w4 w') (RPk n0 c0 a0 xp xh mp mh y) f us w) (hb : Below w.heap.size w w') (hv : RPk n0 c0 a0 xp xh mp mh y i v w') :
    Rg.Kept (fun w' => Below w4.heap.size w4 w') (RPk n0 c0 a0 xp xh mp mh y) (Rg.upd f i true) (Rg.upd us i v) w' :=
  Rg.Kept.put (Base := fun w' => Below w4.heap.size w4 w') (R := RPk n0 c0 a0 xp xh mp mh y) (fun _ _ h hb => h.trans (hb.mono h.size)) (fun _ _ _ _ h hb => RPk.below h hb) g hb hv
def RPn (n0 c0 : Nat) (a0 : Option Addr) (xp xh mp mh : Int) (y : Bool) (k : Nat) (v : Value) (_w' : World) : Prop := match k with
  | 0 => v = .bool true
  | 1 => v = .bool true
  | 2 => v = .agg #[.int .i64 xp, .int .i64 xh]
  | 3 => v = .agg #[.int .i64 xp, .int .i64 xh]
  | 4 => v = .bool true
  | 5 => v = .bool true
  | 6 => v = .bool true
  | 7 => v = .int .i64 120
  | 8 => v = .int .i64 120
  | 9 => v = .bool true
  | 10 => v = .bool true
  | 11 => v = .bool true
  | 12 => v = .slice a0 n0 c0
  | 13 => v = .agg #[.int .i64 mp, .int .i64 mh]
  | 14 => v = .bool y
  | 15 => v = .slice a0 n0 c0
  | 16 => v = .agg #[.int .i64 mp, .int .i64 mh]
  | 17 => v = .bool y
  | 18 => v = .bool true
  | 19 => v = .bool true
  | 20 => v = .bool true
  | 21 => v = .int .i64 120
  | 22 => v = .bool true
  | 23 => v = .bool true
  | 24 => v = undef
  | 25 => v = undef
  | 26 => v = undef
  | 27 => v = .bool true
  | 28 => v = .bool true
  | 29 => v = .bool true
  | _ => True
theorem RPn.below {n0 c0 : Nat} {a0 : Option Addr} {xp xh mp mh : Int} {y : Bool} {k : Nat} {v : Value} {w w' : World} (h : RPn n0 c0 a0 xp xh mp mh y k v w) (_hb : Below w.heap.size w w') : RPn n0 c0 a0 xp xh mp mh y k v w' := by
  unfold RPn at h ⊢
  split at h
  all_goals exact h
theorem RPn.put {w4 : World} {n0 c0 : Nat} {a0 : Option Addr} {xp xh mp mh : Int} {y : Bool} {v : Value} {w w' : World} {f : Nat → Bool} {us : Nat → Value} {i : Nat} (g : Rg.Kept (fun w' => Below w4.heap.size w4 w') (RPn n0 c0 a0 xp xh mp mh y) f us w) (hb : Below w.heap.size w w') (hv : RPn n0 c0 a0 xp xh mp mh y i v w') :
    Rg.Kept (fun w' => Below w4.heap.size w4 w') (RPn n0 c0 a0 xp xh mp mh y) (Rg.upd f i true) (Rg.upd us i v) w' :=
  Rg.Kept.put (Base := fun w' => Below w4.heap.size w4 w') (R := RPn n0 c0 a0 xp xh mp mh y) (fun _ _ h hb => h.trans (hb.mono h.size)) (fun _ _ _ _ h hb => RPn.below h hb) g hb hv
theorem step1 {w0 w1 w2 : World} {bM : Nat} {m : Mv} (xp xh : Int) (D1 : Below w0.heap.size w0 w1) (hM : Bm w1 bM m) (hb : Below w1.heap.size w1 w2) :
    Below w0.heap.size w0 (w2.alloc (.cells #[.int .i64 xp, .int .i64 xh] 33)) ∧ Bm (w2.alloc (.cells #[.int .i64 xp, .int .i64 xh] 33)) bM m ∧ Bm (w2.alloc (.cells #[.int .i64 xp, .int .i64 xh] 33)) w2.heap.size ⟨xp, xh⟩ := by
  have d2 := D1.trans (hb.mono D1.size)
  have hb2 := below1 w2 (.cells #[.int .i64 xp, .int .i64 xh] 33)
  exact ⟨d2.trans (hb2.mono d2.size), (hM.below hb hM.lt).below hb2 (Nat.lt_of_lt_of_le hM.lt hb.size), Bm.new w2 ⟨xp, xh⟩⟩
end Go.Proofs.Ytaapnkoooofalaa.Me

namespace Go.Proofs.Ytaapnkoooofalaa.St
set_option maxRecDepth 100000
open Go Go.RowKit Go.ChangeShapes Go.WideShapes Rw Me
section
variable {H : Type} {enc : TypeId × Value → H} {W : World} {base : Nat} {v : Value} {d : DataW H} {p : List MemPlace}
theorem cPair : Try.prog.cellsOf 43 = 2 := by kernel_rfl
theorem pair_arg (hok : Value.okWide Try.prog W .any base 43 v) (h : DataW.Trod enc Try.prog W 0 (fun _ => true) true 43 v d p) : ∃ z0 z1 : Int, v = .agg #[.int .i64 z0, .int .i64 z1] ∧ In64 z0 ∧ In64 z1 := by
  simp only [Value.okWide, Try.underlying43] at hok
  obtain ⟨cs, rfl, h2, _⟩ := hok
  rw [cPair] at h2
  obtain ⟨l⟩ := cs
  obtain ⟨fuel, hf⟩ := h
  match l, h2 with
  | [c0, c1], _ =>
    obtain ⟨xs, m, _, _, _, hl, hx⟩ := DataW.trod_array Try.underlying43 hf
    have h0 := hx 0 (by omega)
    have h1 := hx 1 (by omega)
    rw [show Try.prog.cellsOf 3 = 1 by kernel_rfl] at h0 h1
    rw [List.getElem?_eq_getElem (by omega)] at h0 h1
    obtain ⟨z0, e0, _, u0⟩ := DataW.trod_int Try.underlying3 h0
    obtain ⟨z1, e1, _, u1⟩ := DataW.trod_int Try.underlying3 h1
    have e0' : c0 = .int .i64 z0 := by simpa [Value.cells] using e0
    have e1' : c1 = .int .i64 z1 := by simpa [Value.cells] using e1
    exact ⟨z0, z1, by rw [e0', e1'], in64_of u0, in64_of u1⟩
end
end Go.Proofs.Ytaapnkoooofalaa.St
