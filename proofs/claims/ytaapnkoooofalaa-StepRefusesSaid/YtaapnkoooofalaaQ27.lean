/- The program's within and other: the walks. The program's Active, Doomed, isActive: what they tell of any row; slices.ContainsFunc over rows. The document's Enabled: the walk. What the laws of doom ask of the program; few; DoomActive: the walks. The document's leaf, made: the walks. The program's Beside and Free: the walks. Moves that are compared; the document's Is: the walk. The program's Beside and Free, of any row; what the laws ask of package doom. -/
import Derived.Test.YtaapnkoooofalaaQ25
import Derived.Test.YtaapnkoooofalaaQ23
import Derived.Test.YtaapnkoooofalaaQ07
import Derived.Test.YtaapnkoooofalaaQ26
import Derived.Test.YtaapnkoooofalaaQ06
import Derived.Test.YtaapnkoooofalaaQ09
import Derived.Test.YtaapnkoooofalaaQ22
import Derived.Test.YtaapnkoooofalaaQ05
import Derived.Deep.QuietTactic
import Derived.StillTailTactics
import Derived.Laws.StructEq

namespace Go.Proofs.Ytaapnkoooofalaa.Do
open Go Go.RowKit Rw So Se
set_option maxRecDepth 20000
theorem ovI_flat (t : Tm) {p : Nat} (hp : p < sz t) : Pl.ovI (flat t) (p : Int) = abv t 0 p := by
  have h1 : Pl.rounds (flat t) = sz t := by
    unfold Pl.rounds
    rw [if_pos (Pl.one_tre.2 (tre_flat t)), Se.flat_len]
  unfold Pl.ovI
  rw [h1, if_pos ⟨by omega, by omega⟩, Int.toNat_natCast, ov_abv t hp]
theorem own_form {w : World} {base : Nat} {y : Value} {L : List Nat} (h : w.ownsRow base 3 1 y L.length (Rx.ic L)) (h0 : 0 < L.length) : ∃ g c, y = .slice (some ⟨g, 0, none⟩) L.length c ∧ Rx.Stk base w g c L := by
  obtain ⟨h1, ⟨rfl, h2⟩ | ⟨g, cap, cur, rfl, h2⟩⟩ := h
  · exact absurd h2 (by omega)
  · exact ⟨g, cap, rfl, h1, .inr ⟨g, cap, cur, rfl, h2⟩⟩
theorem plc_of {w : World} {g c : Nat} {P : List Nat} {f : Nat → Nat} {n : Nat} (h : Nums n g f w) (hn : P.length ≤ n) (hc : P.length ≤ c) (hP : ∀ j (hj : j < P.length), P[j] = f j) : Rf.Plc w (.slice (some ⟨g, 0, none⟩) P.length c) P := by
  refine ⟨by simp, some ⟨g, 0, none⟩, c, rfl, hc, fun h => (by cases h), fun _ => ⟨g, 0, rfl, fun j u hu => ?_⟩⟩
  rw [List.getElem?_map] at hu
  cases hj : P[j]? with
  | none => rw [hj] at hu; cases hu
  | some x =>
    rw [hj] at hu
    obtain ⟨hj1, hj2⟩ := List.getElem?_eq_some_iff.1 hj
    simp only [Option.map_some, Option.some.injEq] at hu
    rw [Nat.zero_add, h.cell j (by omega), ← hP j hj1, hj2, hu]
def Left (l : List Nd) (R : List Nat) (k : Nat) : Prop := wth l R = (R.take k ++ (wth l (R.drop k)).1, (wth l (R.drop k)).2)
theorem Left.start (l : List Nd) (R : List Nat) : Left l R 0 := by unfold Left; simp
theorem Left.found {l : List Nd} {R : List Nat} {k : Nat} (h : Left l R k) (hk : k < R.length) (h9 : kiA l R[k] = 9) : wth l R = (R.take k, true) := by
  unfold Left at h
  rw [h, List.drop_eq_getElem_cons hk, wth, if_pos h9, List.append_nil]
theorem Left.next {l : List Nd} {R : List Nat} {k : Nat} (h : Left l R k) (hk : k < R.length) (h9 : kiA l R[k] ≠ 9) : Left l R (k + 1) := by
  unfold Left at h ⊢
  rw [h, List.drop_eq_getElem_cons hk, wth, if_neg h9, List.take_succ_eq_append_getElem hk, List.append_assoc]
  rfl
theorem Left.done {l : List Nd} {R : List Nat} (h : Left l R R.length) : wth l R = (R, false) := by
  unfold Left at h
  rw [h, List.take_length, List.drop_length]
  simp [wth]
theorem kiA_get {l : List Nd} {u : Nat} (h : u < l.length) : kiA l u = l[u].k := kiA_at (List.getElem?_eq_getElem h)
set_option maxHeartbeats 4000000 in
theorem within_any (b off c : Nat) (t : Tm) (p : Nat) (w : World) (hat : At w b off (flat t)) (hc : sz t ≤ c) (hl : sz t ≤ 400) (hp : p < sz t) :
    Calls Try.prog 74 #[.slice (some ⟨b, off, none⟩) (sz t) c, .int .i64 (p : Int)] w fun e w' => ∃ y, e = .returned (.tuple #[y, .bool (wth (flat t) (abv t 0 p).reverse).2]) ∧ Rf.Plc w' y (wth (flat t) (abv t 0 p).reverse).1 ∧ Below w.heap.size w w' := by
  have hV := nds_drop hat (by rw [Se.flat_len]; exact hc) 0 (Nat.zero_le _)
  rw [List.drop_zero, Nat.sub_zero, Nat.sub_zero, Nat.zero_mul, Nat.add_zero, Se.flat_len] at hV
  have HO := Lib.hid (Pl.overP_own _ (flat t) (p : Int) w hV (by rw [Se.flat_len]; omega))
  rw [ovI_flat t hp] at HO
  have hin : ∀ u ∈ abv t 0 p, u < sz t := fun u hu => Nat.lt_trans (abv_in hp u hu) hp
  have hlen : (abv t 0 p).length ≤ 1000 := by
    rw [← ov_abv t hp]
    unfold Pl.ov
    exact Nat.le_trans (List.length_filter_le _ _) (by simp; omega)
  have HAT := Lib.hid hat
  have hfl := Se.flat_len t
  generalize abv t 0 p = L at HO hin hlen ⊢
  obtain ⟨l, hlt⟩ : ∃ l, flat t = l := ⟨_, rfl⟩
  rw [hlt] at HAT hfl ⊢
  clear hV hat hlt hp
  cases L with
  | nil =>
    clear hin hlen
    go_enter Try.func74, Try.ntmps74
    go_wp2_with fail
    refine HO.out.mono ?_
    rintro e w1 ⟨y, rfl, hown, hb1⟩
    have HP : Hid (Rf.Plc w1 y []) := Lib.hid (Ap.Rd.owned hown)
    obtain ⟨_, a, k, rfl, -⟩ := HP.out
    have D1 := Lib.hid hb1
    clear hown hb1
    go_wp2_with fail
    refine (rev_empty a k _).mono ?_
    rintro e w2 ⟨rfl, rfl⟩
    go_wp2_with fail
    refine Go.wp_loop_rounds 1 ?_
    rw [rounds_succ]
    go_wp2_with fail
    go_ret2
    exact ⟨_, rfl, HP.out, D1.out⟩
  | cons x0 L0 =>
    obtain ⟨L, hL⟩ : ∃ L, x0 :: L0 = L := ⟨_, rfl⟩
    have h0 : 0 < L.length := by rw [← hL]; simp
    rw [hL] at HO hin hlen ⊢
    clear hL
    have HIN : Hid (∀ u ∈ L.reverse, u < l.length) := Lib.hid fun u hu => by rw [hfl]; exact hin u (List.mem_reverse.1 hu)
    obtain ⟨n, hn⟩ : ∃ n, L.length = n := ⟨_, rfl⟩
    have HREV : Hid (∀ j (hj : j < L.reverse.length), L.reverse[j] = L.getD (n - 1 - j) 0) := Lib.hid fun j hj => by
      rw [List.getElem_reverse, List.getD_eq_getElem?_getD, List.getElem?_eq_getElem (by rw [List.length_reverse] at hj; omega), Option.getD_some]
      congr 1
      omega
    have HRL : Hid (L.reverse.length = n) := Lib.hid (by rw [List.length_reverse]; exact hn)
    have HN := Lib.hid hn
    rw [hn] at h0 hlen
    obtain ⟨R, hR⟩ : ∃ R, L.reverse = R := ⟨_, rfl⟩
    rw [hR] at HIN HREV HRL ⊢
    clear hin hn hR
    go_enter Try.func74, Try.ntmps74
    go_wp2_with fail
    refine HO.out.mono ?_
    rintro e w1 ⟨y, rfl, hown, hb1⟩
    obtain ⟨g, cap, rfl, hst⟩ := own_form hown (by rw [HN.out]; exact h0)
    have hcap := hst.cap.1
    have hg0 : w.heap.size ≤ g := by obtain ⟨_, _, h, _⟩ := hst.parts; exact h
    have hg1 : g < w1.heap.size := by obtain ⟨_, h, _⟩ := hst.parts; exact Nat.lt_of_not_le fun hle => by rw [Array.getElem?_eq_none hle] at h; cases h
    have NU : Hid (Nums n g (fun j => L.getD j 0) w1) := Lib.hid ⟨fun j hj => by
      rw [hst.cell j (by rw [HN.out]; exact hj), List.getD_eq_getElem?_getD, List.getElem?_eq_getElem (by rw [HN.out]; exact hj)]; rfl, hst.soft⟩
    rw [HN.out] at hcap ⊢
    have D1 := Lib.hid hb1
    have HG : Hid (w.heap.size ≤ g ∧ g < w1.heap.size) := Lib.hid ⟨hg0, hg1⟩
    clear hown hb1 hst hg0 hg1
    go_wp2_with fail
    refine (rev_any g cap n _ _ hcap h0 hlen NU.out).mono ?_
    rintro e w2 ⟨rfl, hnu, hb2⟩
    have N2 := Lib.hid hnu
    have D2 : Hid (Below w.heap.size w w2) := Lib.hid (D1.out.trans (hb2.mono HG.out.1))
    have HG2 : Hid (g < w2.heap.size) := Lib.hid (Nat.lt_of_lt_of_le HG.out.2 hb2.size)
    clear hnu hb2
    clear NU HO HN
    go_wp2_with fail
    go_loopw [4, 5, 15] (fun a4 a5 i wr => ∃ k : Nat, k ≤ n ∧ a4 = .slice (some ⟨g, 0, none⟩) n cap ∧ a5 = .bool false ∧ i = .int .i64 k ∧ Hid (Below w2.heap.size w2 wr) ∧ Hid (Left l R k)) (fun _ _ i _ => n - (intOf i).toNat)
    case atStart => exact ⟨0, Nat.zero_le _, rfl, rfl, rfl, Lib.hid (Below.refl _ _), Lib.hid (Left.start l R)⟩
    case round =>
      obtain ⟨k, hk, rfl, rfl, rfl, HB, HS⟩ := hrel
      have NR := Lib.hid (N2.out.below HB.out HG2.out)
      have DR : Hid (Below w.heap.size w wr) := Lib.hid (D2.out.trans (HB.out.mono D2.out.size))
      by_cases hlt : k < n
      · have e1 := NR.out.cell k hlt
        have hk2 : k < R.length := by rw [HRL.out]; exact hlt
        have hu := HIN.out _ (List.getElem_mem hk2)
        rw [← HREV.out k hk2] at e1
        have e2 := (HAT.out _ hu).1
        have e3 : wr.cell? ⟨b, off + R[k] * 3, none⟩ = some (.int .i64 l[R[k]].k) := by rw [DR.out.cell (Ap.cell_lt e2)]; exact e2
        have hki := kiA_get hu
        rw [← hki] at e3
        have FND := Lib.hid (fun h => HS.out.found hk2 h)
        have NXT := Lib.hid (fun h => HS.out.next hk2 h)
        obtain ⟨u, hu2⟩ : ∃ u, R[k] = u := ⟨_, rfl⟩
        rw [hu2] at e1 e3 hu FND NXT
        obtain ⟨q, hq⟩ : ∃ q, kiA l u = q := ⟨_, rfl⟩
        rw [hq] at e3 FND NXT
        have hus : (u : Int) < sz t := by omega
        clear hu2 hki e2 hq HS
        by_cases h9 : q = 9
        · subst h9
          have HF := Lib.hid (FND.out rfl)
          have HP : Hid (Rf.Plc wr (.slice (some ⟨g, 0, none⟩) k cap) (R.take k)) := Lib.hid (by
            have hkt : (R.take k).length = k := by rw [List.length_take, HRL.out]; omega
            have := plc_of (P := R.take k) (c := cap) NR.out (by rw [hkt]; omega) (by rw [hkt]; omega) (fun j hj => by
              rw [List.getElem_take, HREV.out])
            rwa [hkt] at this)
          clear FND NXT
          go_wp2_with fail
          go_ret2
          rw [HF.out]
          exact ⟨_, rfl, HP.out, DR.out⟩
        · have g9 : (q == 9) = false := beq_eq_false_iff_ne.2 h9
          have HX := Lib.hid (NXT.out h9)
          clear FND NXT h9
          go_wp2_with fail
          go_roundw
          case rel => exact ⟨k + 1, by omega, rfl, rfl, by go_num, HB, HX⟩
          case measure => simp [intOf]; omega
      · have hkl : k = n := by omega
        subst hkl
        have HF : Hid (wth l R = (R, false)) := Lib.hid (by
          have := HS.out
          rw [← HRL.out] at this
          exact this.done)
        have HP : Hid (Rf.Plc wr (.slice (some ⟨g, 0, none⟩) k cap) R) := Lib.hid (by
          have := plc_of (P := R) (c := cap) NR.out (by rw [HRL.out]; omega) (by rw [HRL.out]; omega) (fun j hj => HREV.out j hj)
          rwa [HRL.out] at this)
        clear HS
        go_wp2_with fail
        go_ret2
        rw [HF.out]
        exact ⟨_, rfl, HP.out, DR.out⟩
theorem two_own {base : Nat} {out : Option Nat} {w : World} {y : Value} {cs : List Value} {A B : List Nd} (h : Ap.Rd w 1 y 2 cs) (hk : Rx.OwnK base out w cs [A, B]) :
    ∃ b o c a0 a1, y = .slice (some ⟨b, o, none⟩) 2 c ∧ w.cell? ⟨b, o, none⟩ = some a0 ∧ w.cell? ⟨b, o + 1, none⟩ = some a1 ∧ w.ownsRow base 28 3 a0 A.length (cls A) ∧ w.ownsRow base 28 3 a1 B.length (cls B) := by
  obtain ⟨_, a, c, rfl, _, _, hcell⟩ := h
  obtain ⟨b, o, rfl, hj⟩ := hcell (by omega)
  match cs, hk with
  | [a0, a1], hk => exact ⟨b, o, c, a0, a1, rfl, hj 0 _ rfl, hj 1 _ rfl, hk.1.1, hk.2.1.1⟩
set_option maxHeartbeats 2000000 in
theorem other_any (b off c : Nat) (l : List Nd) (u p : Nat) (A B : List Nd) (w : World) (hat : At w b off l) (hc : l.length ≤ c) (hl : l.length ≤ 1000) (hu : u + 1 < l.length) (hk : kids (l.drop u) = [A, B]) :
    Calls Try.prog 91 #[.slice (some ⟨b, off, none⟩) l.length c, .int .i64 (u : Int), .int .i64 (p : Int)] w fun e w' => ∃ y, e = .returned y ∧ w'.ownsRow w.heap.size 28 3 y (oth l p u).length (cls (oth l p u)) ∧ Below w.heap.size w w' := by
  have HN := Lib.hid (nds_drop hat hc u (by omega))
  have HK := Lib.hid (Rx.kidsP_own _ (l.drop u) w HN.out (by rw [List.length_drop]; omega))
  rw [hk] at HK
  have HS := Lib.hid (fun w1 (hb : Below w.heap.size w w1) => second_any b off c l u w1 (fun k hk => ⟨by rw [hb.cell (Ap.cell_lt (hat k hk).1)]; exact (hat k hk).1, by rw [hb.cell (Ap.cell_lt (hat k hk).2.1)]; exact (hat k hk).2.1, by rw [hb.cell (Ap.cell_lt (hat k hk).2.2)]; exact (hat k hk).2.2⟩) hc hl hu)
  have hO : oth l p u = if p < u + 1 + size (l.drop (u + 1)) then B else A := by unfold oth; rw [hk]; rfl
  rw [hO]
  generalize u + 1 + size (l.drop (u + 1)) = z at HS ⊢
  obtain ⟨O, hO2⟩ : ∃ O, (if p < z then B else A) = O := ⟨_, rfl⟩
  have O1 : Hid (p < z → O = B) := Lib.hid fun h => by rw [← hO2, if_pos h]
  have O2 : Hid (¬ p < z → O = A) := Lib.hid fun h => by rw [← hO2, if_neg h]
  rw [hO2]
  clear hO hat hk hO2
  go_enter Try.func91, Try.ntmps91
  go_wp2_with fail
  refine HK.out.mono ?_
  rintro e w1 ⟨y, cs, rfl, hown, hrow, hb1⟩
  obtain ⟨bk, ok, ck, y0, y1, rfl, q0, q1, n0, n1⟩ := two_own (Ap.Rd.owned hown) hrow
  have hkl : bk < w1.heap.size := Ap.cell_lt q0
  have D1 := Lib.hid hb1
  have N0 := Lib.hid (fun w2 (hb : Below w1.heap.size w1 w2) => Ap.own_below n0 hb)
  have N1 := Lib.hid (fun w2 (hb : Below w1.heap.size w1 w2) => Ap.own_below n1 hb)
  clear hown hrow hb1 n0 n1
  go_wp2_with fail
  refine (HS.out _ D1.out).mono ?_
  rintro e w2 ⟨rfl, hb2⟩
  have e0 : w2.cell? ⟨bk, ok, none⟩ = some y0 := by rw [hb2.cell (p := ⟨bk, ok, none⟩) hkl]; exact q0
  have e1 : w2.cell? ⟨bk, ok + 1, none⟩ = some y1 := by rw [hb2.cell (p := ⟨bk, ok + 1, none⟩) hkl]; exact q1
  have D2 := Lib.hid (D1.out.trans (hb2.mono D1.out.size))
  have M0 := Lib.hid (N0.out _ hb2)
  have M1 := Lib.hid (N1.out _ hb2)
  clear hb2 q0 q1
  by_cases hpz : p < z
  · have g : (p : Int) < z := by omega
    have O3 := Lib.hid (O1.out hpz)
    clear hpz
    go_wp2_with fail
    go_ret
    exact ⟨_, rfl, by rw [O3.out]; exact M1.out, D2.out⟩
  · have g : ¬ (p : Int) < z := by omega
    have O3 := Lib.hid (O2.out hpz)
    clear hpz
    go_wp2_with fail
    go_ret
    exact ⟨_, rfl, by rw [O3.out]; exact M0.out, D2.out⟩
end Go.Proofs.Ytaapnkoooofalaa.Do

namespace Go.Proofs.Ytaapnkoooofalaa.Do
open Go Go.RowKit Rw So Se
set_option maxRecDepth 20000
theorem setP_any (v : Value) (l : List Nd) (w : World) (hv : Nds w v l) (hl : l.length ≤ 1000) (hm : Nms l) :
    Calls Try.prog 15 #[v] w fun e w' => e = .returned (.bool (setB l)) ∧ Below w.heap.size w w' := settledQ_any v l w hv hl hm
theorem go_form {w : World} {v : Value} {t : Tm} (hv : Nds w v (flat t)) : ∃ b off c, v = .slice (some ⟨b, off, none⟩) (sz t) c ∧ sz t ≤ c ∧ At w b off (flat t) := by
  rcases hv.form with ⟨h, _⟩ | ⟨b, off, c, rfl, hc, hat⟩
  · exact absurd h (flat_ne t)
  · rw [Se.flat_len] at hc ⊢
    exact ⟨b, off, c, rfl, hc, hat⟩
theorem actP_any (v : Value) (l : List Nd) (w : World) (hv : Nds w v l) (hl : l.length ≤ 1000) (hm : Nms l) :
    Calls Try.prog 27 #[v] w fun e w' => ∃ y, e = .returned y ∧ Ints w' y (av l) ∧ Below w.heap.size w w' := by
  have hS := setP_any v l w hv hl hm
  cases hs : setB l with
  | false =>
    rw [hs] at hS
    rw [av_no hs]
    exact activeP_no v l w hv hS
  | true =>
    rw [hs] at hS
    obtain ⟨t, rfl, hg, hn⟩ := set_iff.1 hs
    obtain ⟨b, off, c, rfl, hc, hat⟩ := go_form hv
    rw [av_go hg hn]
    exact activeP_go b off c t w hat hc (by have := hg.2.1; omega) hS
set_option maxHeartbeats 1000000 in
theorem doomP_any (v : Value) (l : List Nd) (w : World) (hv : Nds w v l) (hl : l.length ≤ 1000) (hm : Nms l) :
    Calls Try.prog 77 #[v] w fun e w' => e = .returned (.bool (dm l)) ∧ Below w.heap.size w w' := by
  have HS := Lib.hid (setP_any v l w hv hl hm)
  cases hs : setB l with
  | false =>
    rw [hs] at HS
    rw [dm_no hs]
    obtain ⟨_, a, c, rfl, -⟩ := hv
    clear hs hm
    go_enter Try.func77, Try.ntmps77
    go_wp2_with fail
    refine HS.out.mono ?_
    rintro e w1 ⟨rfl, hb1⟩
    have D1 := Lib.hid hb1
    clear hb1
    go_wp2_with fail
    go_ret
    exact ⟨rfl, D1.out⟩
  | true =>
    rw [hs] at HS
    obtain ⟨t, rfl, hg, hn⟩ := set_iff.1 hs
    obtain ⟨b, off, c, rfl, hc, hat⟩ := go_form hv
    rw [dm_go hg hn]
    have HD := Lib.hid (fun w1 (hb : Below w.heap.size w w1) => doomed_any t b off c (flat t) 0 w1 (at_below hat hb rfl) (AtT.self t) (by rw [Se.flat_len]; exact hc) hl)
    rw [Se.flat_len] at HD
    generalize bangT t = r at HD ⊢
    generalize sz t = n at HS HD hc
    clear hs hm hv hat hg hn hl
    go_enter Try.func77, Try.ntmps77
    go_wp2_with fail
    refine HS.out.mono ?_
    rintro e w1 ⟨rfl, hb1⟩
    have D1 := Lib.hid hb1
    clear hb1
    go_wp2_with fail
    refine (HD.out _ D1.out).mono ?_
    rintro e w2 ⟨rfl, hb2⟩
    have D2 := Lib.hid (D1.out.trans (hb2.mono D1.out.size))
    clear hb2
    go_wp2_with fail
    go_ret
    exact ⟨rfl, D2.out⟩
set_option maxHeartbeats 1000000 in
theorem isActive_any (v : Value) (l : List Nd) (z : Int) (w : World) (hv : Nds w v l) (hl : l.length ≤ 1000) (hm : Nms l) :
    Calls Try.prog 73 #[v, .int .i64 z] w fun e w' => e = .returned (.bool (decide (z ∈ av l))) ∧ Below w.heap.size w w' := by
  have HA := Lib.hid (actP_any v l w hv hl hm)
  have HL : Hid ((av l).length ≤ 1000000) := Lib.hid (Nat.le_trans (av_len l) (by omega))
  obtain ⟨_, a, c, rfl, -⟩ := hv
  generalize av l = L at HA HL ⊢
  clear hm hl
  go_enter Try.func73, Try.ntmps73
  go_wp2_with fail
  refine HA.out.mono ?_
  rintro e w1 ⟨y, rfl, hi, hb1⟩
  have D1 := Lib.hid hb1
  have I1 := Lib.hid hi
  clear hb1 hi
  go_wp2_with fail
  refine (Rx.has_any _ _ z _ I1.out HL.out).mono ?_
  rintro e w2 ⟨rfl, hb2⟩
  have D2 := Lib.hid (D1.out.trans (hb2.mono D1.out.size))
  clear hb2
  go_wp2_with fail
  go_ret
  exact ⟨rfl, D2.out⟩
def idxB (F : List Nd → Bool) : List (List Nd) → Nat → Int
  | [], _ => -1
  | r :: rs, k => if F r = true then (k : Int) else idxB F rs (k + 1)
theorem idxB_any (F : List Nd → Bool) (ls : List (List Nd)) (k : Nat) : decide (0 ≤ idxB F ls k) = ls.any F := by
  induction ls generalizing k with
  | nil => rfl
  | cons r rs ih =>
    unfold idxB
    cases hr : F r with
    | true => simp [hr]
    | false => simp [hr, ih]
theorem idxB_end {F : List Nd → Bool} {ls : List (List Nd)} {k : Nat} (h : ¬ k < ls.length) : idxB F (ls.drop k) k = -1 := by rw [List.drop_eq_nil_of_le (by omega)]; rfl
theorem idxB_at {F : List Nd → Bool} {ls : List (List Nd)} {k : Nat} (h : k < ls.length) : idxB F (ls.drop k) k = if F ls[k] = true then (k : Int) else idxB F (ls.drop (k + 1)) (k + 1) := by
  rw [List.drop_eq_getElem_cons h, idxB]
set_option maxHeartbeats 800000 in
theorem indexR_empty (fn : Nat) (a : Option Addr) (cap : Nat) (w : World) :
    Calls Try.prog 90 #[.slice a 0 cap, .func (.func fn) #[] #[]] w fun e w' => e = .returned (.int .i64 (-1)) ∧ Below w.heap.size w w' := by
  go_enter Try.func90, Try.ntmps90
  go_wp2_with fail
  refine Go.wp_loop_rounds 1 ?_
  rw [rounds_succ]
  go_wp2_with fail
  go_ret
  exact ⟨rfl, Below.refl _ _⟩
set_option maxHeartbeats 2000000 in
theorem indexR_cells (fn : Nat) (eg : ∀ args w, (callFunc fn args).run Try.prog w = .ok (.enter fn args) w) (F : List Nd → Bool) (b off cap : Nat) (ls : List (List Nd)) (w : World) (hat : AtR w b off ls) (hl : ls.length ≤ 1000000)
    (hF : ∀ r ∈ ls, ∀ (wr : World) (a : Value), Nds wr a r → Calls Try.prog fn #[a] wr fun e w' => e = .returned (.bool (F r)) ∧ Below wr.heap.size wr w') :
    Calls Try.prog 90 #[.slice (some ⟨b, off, none⟩) ls.length cap, .func (.func fn) #[] #[]] w fun e w' => e = .returned (.int .i64 (idxB F ls 0)) ∧ Below w.heap.size w w' := by
  have HA := Lib.hid hat
  have HF := Lib.hid hF
  clear hat hF
  go_enter Try.func90, Try.ntmps90
  go_wp2_with fail
  go_loopw [8] (fun i wr => ∃ k : Nat, k ≤ ls.length ∧ i = .int .i64 k ∧ Hid (Below w.heap.size w wr) ∧ Hid (idxB F ls 0 = idxB F (ls.drop k) k)) (fun i _ => ls.length - (intOf i).toNat)
  case atStart => exact ⟨0, Nat.zero_le _, rfl, Lib.hid (Below.refl _ _), Lib.hid rfl⟩
  case round =>
    obtain ⟨k, hk, rfl, HB, HK⟩ := hrel
    by_cases hlt : k < ls.length
    · obtain ⟨a, e1, hn⟩ := HA.out k hlt
      have c1 : wr.cell? ⟨b, off + k, none⟩ = some a := by rw [HB.out.cell (Ap.cell_lt e1)]; exact e1
      have HC := Lib.hid (HF.out _ (List.getElem_mem hlt) wr a (hn.below HB.out))
      have HX := Lib.hid (HK.out.trans (idxB_at hlt))
      obtain ⟨_, a', c', rfl, _⟩ := hn
      obtain ⟨x, hx⟩ : ∃ x, F ls[k] = x := ⟨_, rfl⟩
      rw [hx] at HC HX
      clear hx e1
      cases x with
      | true =>
        go_wp2_with fail
        refine HC.out.mono ?_
        rintro e w' ⟨rfl, hb'⟩
        have HB' := Lib.hid hb'
        clear hb'
        go_wp2_with fail
        go_ret
        exact ⟨ret_int HX.out.symm, HB.out.trans (HB'.out.mono HB.out.size)⟩
      | false =>
        go_wp2_with fail
        refine HC.out.mono ?_
        rintro e w' ⟨rfl, hb'⟩
        have HB' := Lib.hid (HB.out.trans (hb'.mono HB.out.size))
        clear hb'
        go_wp2_with fail
        go_roundw
        case rel => exact ⟨k + 1, by omega, by go_num, HB', Lib.hid (by have := HX.out; simpa using this)⟩
        case measure => simp [intOf]; omega
    · go_wp2_with fail
      go_ret
      exact ⟨ret_int (by rw [HK.out, idxB_end hlt]), HB.out⟩
set_option maxHeartbeats 800000 in
theorem containsR_any (fn : Nat) (eg : ∀ args w, (callFunc fn args).run Try.prog w = .ok (.enter fn args) w) (F : List Nd → Bool) (v : Value) (ls : List (List Nd)) (w : World) (hv : Rws w v ls) (hl : ls.length ≤ 1000000)
    (hF : ∀ r ∈ ls, ∀ (wr : World) (a : Value), Nds wr a r → Calls Try.prog fn #[a] wr fun e w' => e = .returned (.bool (F r)) ∧ Below wr.heap.size wr w') :
    Calls Try.prog 75 #[v, .func (.func fn) #[] #[]] w fun e w' => e = .returned (.bool (ls.any F)) ∧ Below w.heap.size w w' := by
  have HI : Hid (Calls Try.prog 90 #[v, .func (.func fn) #[] #[]] w fun e w' => e = .returned (.int .i64 (idxB F ls 0)) ∧ Below w.heap.size w w') := by
    rcases hv.form with ⟨rfl, a, cap, rfl⟩ | ⟨b, off, cap, rfl, hat⟩
    · exact Lib.hid (indexR_empty fn a cap w)
    · exact Lib.hid (indexR_cells fn eg F b off cap ls w hat hl hF)
  have HQ := Lib.hid (idxB_any F ls 0)
  obtain ⟨q, hq⟩ : ∃ q, idxB F ls 0 = q := ⟨_, rfl⟩
  rw [hq] at HQ HI
  obtain ⟨_, ⟨_, a, c, rfl, -⟩, -⟩ := hv
  clear hq hF
  go_enter Try.func75, Try.ntmps75
  go_wp2_with fail
  refine HI.out.mono ?_
  rintro e w' ⟨rfl, hb⟩
  have HB := Lib.hid hb
  clear hb
  go_wp2_with fail
  go_ret
  exact ⟨ret_bool HQ.out, HB.out⟩
end Go.Proofs.Ytaapnkoooofalaa.Do

namespace Go.Proofs.Ytaapnkoooofalaa.Me
open Go Go.RowKit Rw So Se Do
set_option maxRecDepth 20000
end Go.Proofs.Ytaapnkoooofalaa.Me

namespace Go.Proofs.Ytaapnkoooofalaa.Do
open Go Go.RowKit Rw So Se
set_option maxRecDepth 20000
structure Con : Prop where
  act : ∀ (v : Value) (l : List Nd) (w : World), Nds w v l → l.length ≤ 1000 → Nms l → Calls Try.prog 27 #[v] w fun e w' => ∃ y, e = .returned y ∧ Ints w' y (av l) ∧ Below w.heap.size w w'
  doom : ∀ (v : Value) (l : List Nd) (w : World), Nds w v l → l.length ≤ 1000 → Nms l → Calls Try.prog 77 #[v] w fun e w' => e = .returned (.bool (dm l)) ∧ Below w.heap.size w w'
  bes : ∀ (v : Value) (l : List Nd) (z : Int) (w : World), Nds w v l → l.length ≤ 1000 → Nms l → Calls Try.prog 76 #[v, .int .i64 z] w fun e w' => ∃ y, e = .returned y ∧ Rws w' y (bs l z) ∧ Below w.heap.size w w'
  free : ∀ (v : Value) (l : List Nd) (z : Int) (w : World), Nds w v l → l.length ≤ 1000 → Nms l → Calls Try.prog 61 #[v, .int .i64 z] w fun e w' => e = .returned (.bool (fr l z)) ∧ Below w.heap.size w w'
def fewB (l : List Nd) : Bool := decide (l.length ≤ 100) && decide (depth l ≤ 24)
theorem few_len {l : List Nd} (h : fewB l = true) : l.length ≤ 100 := by
  unfold fewB at h
  rw [Bool.and_eq_true, decide_eq_true_eq] at h
  exact h.1
end Go.Proofs.Ytaapnkoooofalaa.Do

namespace Go.Proofs.Ytaapnkoooofalaa.St
open Go Go.RowKit Rw So Se Do Sp Me
set_option maxRecDepth 20000
end Go.Proofs.Ytaapnkoooofalaa.St

namespace Go.Proofs.Ytaapnkoooofalaa.Do
open Go Go.RowKit Rw So Se
set_option maxRecDepth 20000
theorem sub_at : ∀ (t : Tm) (l : List Nd) (i : Nat), AtT l i t → ∀ u, i ≤ u → u < i + sz t → ∃ s, AtT l u s := by
  have leaf : ∀ {t : Tm}, sz t = 1 → ∀ (l : List Nd) (i : Nat), AtT l i t → ∀ u, i ≤ u → u < i + sz t → ∃ s, AtT l u s := by
    intro t hs l i h u h1 h2
    obtain rfl : u = i := by omega
    exact ⟨t, h⟩
  have one : ∀ {t a : Tm} {x : Nd}, (∀ (l : List Nd) (i : Nat), AtT l i a → ∀ u, i ≤ u → u < i + sz a → ∃ s, AtT l u s) → flat t = x :: flat a → sz t = 1 + sz a → ∀ (l : List Nd) (i : Nat), AtT l i t → ∀ u, i ≤ u → u < i + sz t → ∃ s, AtT l u s := by
    intro t a x ia e hs l i h u h1 h2
    obtain ⟨_, ha⟩ := at_one h e
    by_cases hu : u = i
    · subst hu
      exact ⟨t, h⟩
    · exact ia l (i + 1) ha u (by omega) (by omega)
  have two : ∀ {t a b : Tm} {x : Nd}, (∀ (l : List Nd) (i : Nat), AtT l i a → ∀ u, i ≤ u → u < i + sz a → ∃ s, AtT l u s) → (∀ (l : List Nd) (i : Nat), AtT l i b → ∀ u, i ≤ u → u < i + sz b → ∃ s, AtT l u s) → flat t = x :: (flat a ++ flat b) → sz t = 1 + sz a + sz b →
      ∀ (l : List Nd) (i : Nat), AtT l i t → ∀ u, i ≤ u → u < i + sz t → ∃ s, AtT l u s := by
    intro t a b x ia ib e hs l i h u h1 h2
    obtain ⟨_, ha, hb⟩ := at_two h e
    by_cases hu : u = i
    · subst hu
      exact ⟨t, h⟩
    · by_cases hua : u < i + 1 + sz a
      · exact ia l (i + 1) ha u (by omega) (by omega)
      · exact ib l (i + 1 + sz a) hb u (by omega) (by omega)
  intro t
  induction t with
  | fin s c ic => exact one (x := nEnd s) ic rfl (by simp only [sz]; omega)
  | block a ia => exact one (x := nOf 9) ia rfl (by simp only [sz]; omega)
  | seq a b ia ib => exact two (x := nOf 5) ia ib rfl (by simp only [sz]; omega)
  | hand a b ia ib => exact two (x := nOf 8) ia ib rfl (by simp only [sz]; omega)
  | going a b ia ib => exact two (x := nOf 12) ia ib rfl (by simp only [sz]; omega)
  | stack a b ia ib => exact two (x := nOf 13) ia ib rfl (by simp only [sz]; omega)
  | alt a b ia ib => exact two (x := nOf 6) ia ib rfl (by simp only [sz]; omega)
  | pair a b ia ib => exact two (x := nOf 10) ia ib rfl (by simp only [sz]; omega)
  | par a b ia ib => exact two (x := nOf 7) ia ib rfl (by simp only [sz]; omega)
  | _ => exact leaf rfl
theorem par_kids {l : List Nd} {u : Nat} {s : Tm} (h : AtT l u s) (h7 : kiA l u = 7) : ∃ A B, kids (l.drop u) = [A, B] ∧ u + 1 < l.length := by
  cases s with
  | par a b =>
    obtain ⟨q, e⟩ := h.drop
    obtain ⟨_, ha, _⟩ := at_two (x := nOf 7) h rfl
    have h1 := ha.lt
    have h2 := sz_pos a
    refine ⟨flat a, flat b, ?_, by omega⟩
    rw [e, show flat (.par a b) ++ q = nOf 7 :: (flat a ++ (flat b ++ q)) by simp [flat]]
    exact kidsA_two a b q rfl
  | act s => rw [kiA_at (at_none (x := nAct s) h rfl)] at h7; simp at h7
  | skip => rw [kiA_at (at_none (x := nOf 2) h rfl)] at h7; simp [nOf] at h7
  | throw => rw [kiA_at (at_none (x := nOf 3) h rfl)] at h7; simp [nOf] at h7
  | yield => rw [kiA_at (at_none (x := nOf 4) h rfl)] at h7; simp [nOf] at h7
  | over s => rw [kiA_at (at_none (x := ⟨11, ⟨#[]⟩, s⟩) h rfl)] at h7; simp at h7
  | fin s c => rw [kiA_at (at_one (x := nEnd s) h rfl).1] at h7; simp at h7
  | block a => rw [kiA_at (at_one (x := nOf 9) h rfl).1] at h7; simp [nOf] at h7
  | seq a b => rw [kiA_at (at_two (x := nOf 5) h rfl).1] at h7; simp [nOf] at h7
  | hand a b => rw [kiA_at (at_two (x := nOf 8) h rfl).1] at h7; simp [nOf] at h7
  | going a b => rw [kiA_at (at_two (x := nOf 12) h rfl).1] at h7; simp [nOf] at h7
  | stack a b => rw [kiA_at (at_two (x := nOf 13) h rfl).1] at h7; simp [nOf] at h7
  | alt a b => rw [kiA_at (at_two (x := nOf 6) h rfl).1] at h7; simp [nOf] at h7
  | pair a b => rw [kiA_at (at_two (x := nOf 10) h rfl).1] at h7; simp [nOf] at h7
theorem wth_mem (l : List Nd) : ∀ (R : List Nat) (u : Nat), u ∈ (wth l R).1 → u ∈ R
  | [], u, h => by simp [wth] at h
  | x :: r, u, h => by
    rw [wth] at h
    split at h
    · cases h
    · rcases List.mem_cons.1 h with h | h
      · exact h ▸ List.mem_cons_self ..
      · exact List.mem_cons_of_mem _ (wth_mem l r u h)
theorem wth_few (l : List Nd) : ∀ R : List Nat, (wth l R).1.length ≤ R.length
  | [] => Nat.le_refl _
  | x :: r => by
    rw [wth]
    split
    · exact Nat.zero_le _
    · have := wth_few l r
      simp
      exact this
def GotK (base : Nat) (w : World) (v : Value) (ls : List (List Nd)) : Prop := ∃ cs, w.ownsRow base 22 1 v ls.length cs ∧ Rx.OwnK base v.ownBlock w cs ls ∧ base ≤ w.heap.size
theorem GotK.start {base : Nat} {w : World} (hb : base ≤ w.heap.size) : GotK base w (.slice none 0 0) [] := ⟨[], ⟨rfl, .inl ⟨rfl, rfl⟩⟩, trivial, hb⟩
theorem GotK.below {base : Nat} {w w' : World} {v : Value} {ls : List (List Nd)} (h : GotK base w v ls) (hb : Below w.heap.size w w') : GotK base w' v ls := by
  obtain ⟨cs, h1, h2, h3⟩ := h
  exact ⟨cs, Ap.own_below h1 hb, h2.below hb, Nat.le_trans h3 hb.size⟩
theorem GotK.slice {base : Nat} {w : World} {v : Value} {ls : List (List Nd)} (h : GotK base w v ls) : ∃ a c, v = .slice a ls.length c := by
  obtain ⟨cs, h1, _⟩ := h
  exact Rx.own_sliceK h1
theorem GotK.rws {base : Nat} {w : World} {v : Value} {ls : List (List Nd)} (h : GotK base w v ls) : Rws w v ls := by
  obtain ⟨cs, h1, h2, _⟩ := h
  exact ⟨cs, Ap.Rd.owned h1, OwnC.rwc (Rx.OwnK.ownC h2)⟩
theorem GotK.next {base : Nat} {wr w1 : World} {v a : Value} {ls : List (List Nd)} {r : List Nd} (h : GotK base wr v ls) (ha : w1.ownsRow wr.heap.size 28 3 a r.length (cls r)) (hb1 : Below wr.heap.size wr w1) (hl : ls.length ≤ 100000) :
    ∃ v' w', (Builtin.append_ #[75, 75] 75 #[v, .slice (some ⟨w1.heap.size, 0, none⟩) 1 1]).run Try.prog (w1.alloc (.cells #[a] 22)) = .ok v' w' ∧ GotK base w' v' (ls ++ [r]) ∧ Below base w1 w' := by
  obtain ⟨cs, hown, hrw, hb⟩ := h.below hb1
  obtain ⟨cs0, hown0, _, hb0⟩ := h
  obtain ⟨i0, hi, hz, hs1, hb8⟩ := info_parts infoRw
  obtain ⟨a1, k1, hsl⟩ := Rx.own_sliceK ha
  obtain ⟨v', w', h1, h2, h3, h4, h5⟩ := Ap.run_append_one (P := Try.prog) (ty := 75) Try.underlying75 hi hz hs1 hb8 (by rfl) (by omega) hown hb #[a] rfl
    (by intro u hu; simp at hu; subst hu; rw [hsl]; rfl) (by unfold maxLen; omega) (by omega)
  have hne : ∀ g, a.ownBlock = some g → some g ≠ v.ownBlock := by
    intro g hg e
    have h1 := Ap.own_lt hown0 g e.symm
    obtain ⟨_, ⟨rfl, _⟩ | ⟨g', _, _, rfl, hg', _⟩⟩ := ha
    · cases hg
    · have : g' = g := Option.some.inj hg
      omega
  refine ⟨v', w', h1, ⟨cs ++ [a], by rw [List.length_append]; exact h2, (hrw.snoc (Ap.own_base ha hb0) hne).grow h3 h5, Nat.le_trans hb h4.size⟩, h4⟩
theorem bsd_next {l : List Nd} {p : Nat} {R : List Nat} {k : Nat} (hk : k < R.length) : bsd l p (R.take (k + 1)) = bsd l p (R.take k) ++ (if kiA l R[k] = 7 then [oth l p R[k]] else []) := by
  unfold bsd
  rw [List.take_succ_eq_append_getElem hk, List.filterMap_append]
  congr 1
  by_cases h : kiA l R[k] = 7
  · simp [h]
  · simp [h]
set_option maxHeartbeats 4000000 in
theorem besideP_go (b off c : Nat) (t : Tm) (p : Nat) (w : World) (hat : At w b off (flat t)) (hc : sz t ≤ c) (hl : sz t ≤ 400) (hp : p < sz t)
    (hA : Calls Try.prog 73 #[.slice (some ⟨b, off, none⟩) (sz t) c, .int .i64 (p : Int)] w fun e w' => e = .returned (.bool true) ∧ Below w.heap.size w w') :
    Calls Try.prog 76 #[.slice (some ⟨b, off, none⟩) (sz t) c, .int .i64 (p : Int)] w fun e w' => ∃ y, e = .returned y ∧ Rws w' y ((pth t 0 p).1.map flat) ∧ Below w.heap.size w w' := by
  have HA := Lib.hid hA
  have HWI := Lib.hid (fun w1 (hb : Below w.heap.size w w1) => within_any b off c t p w1 (at_below hat hb rfl) hc hl hp)
  have hup := (up_all t (flat t) 0 p (AtT.self t) (Nat.zero_le _) (by omega)).1
  have hfl := Se.flat_len t
  have HIN : Hid (∀ u ∈ (wth (flat t) (abv t 0 p).reverse).1, u < sz t) := Lib.hid fun u hu => Nat.lt_trans (abv_in hp u (List.mem_reverse.1 (wth_mem _ _ _ hu))) hp
  have hRl : (wth (flat t) (abv t 0 p).reverse).1.length ≤ 1000 := by
    refine Nat.le_trans (wth_few _ _) ?_
    rw [List.length_reverse, ← ov_abv t hp]
    unfold Pl.ov
    exact Nat.le_trans (List.length_filter_le _ _) (by simp; omega)
  have HOT := Lib.hid (fun w1 (hb : Below w.heap.size w w1) u (hu : u < sz t) (h7 : kiA (flat t) u = 7) => by
    obtain ⟨s, hs⟩ := sub_at t (flat t) 0 (AtT.self t) u (Nat.zero_le _) (by omega)
    obtain ⟨A, B, hk, hlt⟩ := par_kids hs h7
    have := other_any b off c (flat t) u p A B w1 (at_below hat hb rfl) (by omega) (by omega) hlt hk
    rw [hfl] at this
    exact this)
  rw [← hup]
  have HAT := Lib.hid hat
  obtain ⟨n, hn⟩ : ∃ n, sz t = n := ⟨_, rfl⟩
  obtain ⟨d, hd⟩ : ∃ d, (wth (flat t) (abv t 0 p).reverse).2 = d := ⟨_, rfl⟩
  obtain ⟨R, hR⟩ : ∃ R, (wth (flat t) (abv t 0 p).reverse).1 = R := ⟨_, rfl⟩
  obtain ⟨l, hlt⟩ : ∃ l, flat t = l := ⟨_, rfl⟩
  rw [hd, hR] at HWI
  rw [hR] at HIN hRl ⊢
  rw [hn] at HA HWI HIN HOT hfl hc hl ⊢
  rw [hlt] at HAT HOT hfl ⊢
  clear hA hat hup hd hR hlt hp hn
  go_enter Try.func76, Try.ntmps76
  go_wp2_with fail
  refine HA.out.mono ?_
  rintro e w1 ⟨rfl, hb1⟩
  have D1 := Lib.hid hb1
  clear hb1
  go_wp2_with fail
  refine (HWI.out _ D1.out).mono ?_
  rintro e w2 ⟨y, rfl, hpl, hb2⟩
  have D2 := Lib.hid (D1.out.trans (hb2.mono D1.out.size))
  rcases hpl.form with ⟨rfl, a, cap, rfl⟩ | ⟨bb, oo, cap, rfl, hap⟩
  · clear hpl hb2 HIN HOT hRl
    go_wp2_with fail
    refine Go.wp_loop_rounds 1 ?_
    rw [rounds_succ]
    go_wp2_with fail
    go_ret
    exact ⟨_, rfl, Rws.below (GotK.start (Nat.le_refl _)).rws (Below.refl _ _), D2.out⟩
  · have AP := Lib.hid hap
    clear hpl hb2 hap
    go_wp2_with fail
    go_loopw [5, 22] (fun v i wr => ∃ k : Nat, k ≤ R.length ∧ i = .int .i64 k ∧ Hid (GotK w2.heap.size wr v (bsd l p (R.take k))) ∧ Hid (Below w2.heap.size w2 wr ∧ Below w.heap.size w wr)) (fun _ i _ => R.length - (intOf i).toNat)
    case atStart => exact ⟨0, Nat.zero_le _, rfl, Lib.hid (GotK.start (Nat.le_refl _)), Lib.hid ⟨Below.refl _ _, D2.out⟩⟩
    case round =>
      obtain ⟨k, hk, rfl, HG, HB⟩ := hrel
      obtain ⟨va, vc, hv⟩ := HG.out.slice
      obtain ⟨m, hm⟩ : ∃ m, (bsd l p (R.take k)).length = m := ⟨_, rfl⟩
      have HM : Hid ((bsd l p (R.take k)).length ≤ 100000) := Lib.hid (by
        unfold bsd
        refine Nat.le_trans (List.length_filterMap_le _ _) ?_
        rw [List.length_take]
        omega)
      rw [hm] at hv
      subst hv
      clear hm
      by_cases hlt : k < R.length
      · have e1 := AP.out k hlt
        have c1 : wr.cell? ⟨bb, oo + k, none⟩ = some (.int .i64 (R[k] : Int)) := by rw [HB.out.1.cell (Ap.cell_lt e1)]; exact e1
        have hu := HIN.out _ (List.getElem_mem hlt)
        have e2 := (HAT.out R[k] (by omega)).1
        have c2 : wr.cell? ⟨b, off + R[k] * 3, none⟩ = some (.int .i64 (l[R[k]]'(by omega)).k) := by rw [HB.out.2.cell (Ap.cell_lt e2)]; exact e2
        rw [← kiA_get (l := l) (u := R[k]) (by omega)] at c2
        have HX := Lib.hid (bsd_next (l := l) (p := p) hlt)
        have HO := Lib.hid (fun (h7 : kiA l (R[k]'hlt) = 7) => HOT.out wr HB.out.2 (R[k]'hlt) hu h7)
        obtain ⟨u, hu2⟩ : ∃ u, R[k] = u := ⟨_, rfl⟩
        rw [hu2] at c1 c2 HX HO hu
        obtain ⟨q, hq⟩ : ∃ q, kiA l u = q := ⟨_, rfl⟩
        rw [hq] at c2 HX HO
        have hui : (u : Int) < n := by omega
        clear e1 e2 hu2 hq
        by_cases h7 : q = 7
        · subst h7
          have HO2 := Lib.hid (HO.out rfl)
          have HX2 : Hid (bsd l p (R.take (k + 1)) = bsd l p (R.take k) ++ [oth l p u]) := Lib.hid (by rw [HX.out, if_pos rfl])
          clear HO HX
          generalize oth l p u = O at HO2 HX2
          go_wp2_with fail
          refine HO2.out.mono ?_
          rintro e w4 ⟨y4, rfl, hown, hb4⟩
          obtain ⟨v', w', hrun, hg', hb'⟩ := HG.out.next hown hb4 HM.out
          obtain ⟨a4, k4, rfl⟩ := Rx.own_sliceK hown
          have RUN := Lib.hid hrun
          have G' := Lib.hid hg'
          have hb5 : Below w2.heap.size w2 w' := (HB.out.1.trans (hb4.mono HB.out.1.size)).trans hb'
          have B' : Hid (Below w2.heap.size w2 w' ∧ Below w.heap.size w w') := Lib.hid ⟨hb5, D2.out.trans (hb5.mono D2.out.size)⟩
          clear hrun hg' hb' hown hb4 hb5
          go_wp2_with (at_builtin; refine Ap.wpList_append_run (by rfl) _ _ _ _ rfl _ _ rfl rfl v' w' RUN.out ?_)
          go_roundw
          case rel => exact ⟨k + 1, by omega, by go_num, by rw [HX2.out]; exact G', B'⟩
          case measure => simp [intOf]; omega
        · have g7 : (q == 7) = false := beq_eq_false_iff_ne.2 h7
          have HX2 : Hid (bsd l p (R.take (k + 1)) = bsd l p (R.take k)) := Lib.hid (by rw [HX.out, if_neg h7, List.append_nil])
          clear HO HX h7
          go_wp2_with fail
          go_roundw
          case rel => exact ⟨k + 1, by omega, by go_num, by rw [HX2.out]; exact HG, HB⟩
          case measure => simp [intOf]; omega
      · have hkl : k = R.length := by omega
        subst hkl
        rw [List.take_length] at HG
        go_wp2_with fail
        go_ret
        exact ⟨_, rfl, HG.out.rws, HB.out.2⟩
end Go.Proofs.Ytaapnkoooofalaa.Do

namespace Go.Proofs.Ytaapnkoooofalaa.Me
open Go Go.RowKit Rw So Se Do
set_option maxRecDepth 20000
theorem mv_ext {x y : Mv} : x = y ↔ x.p = y.p ∧ x.h = y.h := by
  cases x; cases y; simp
theorem eql_mv (d : Nat) (x y : Mv) (w : World) : (Op.equalIn (d + 2) 33 (.agg #[.int .i64 x.p, .int .i64 x.h]) (.agg #[.int .i64 y.p, .int .i64 y.h])).run Try.prog w = .ok (decide (x = y)) w := by
  rw [run_equalIn_struct w (d + 1) _ _ _ (by kernel_rfl) (by kernel_rfl)]
  simp only [Program.fieldsOf, Try.underlying33]
  by_cases h1 : x.p = y.p
  · by_cases h2 : x.h = y.h
    · rw [decide_eq_true (mv_ext.2 ⟨h1, h2⟩), h1, h2]
      simp [go_sem, Op.eqFields]
    · rw [decide_eq_false (fun e => h2 (mv_ext.1 e).2), h1]
      simp [go_sem, Op.eqFields, h2]
  · rw [decide_eq_false (fun e => h1 (mv_ext.1 e).1)]
    simp [go_sem, Op.eqFields, h1]
theorem eq_mv (x y : Mv) (w : World) : (binOp .eql 33 (.agg #[.int .i64 x.p, .int .i64 x.h]) (.agg #[.int .i64 y.p, .int .i64 y.h])).run Try.prog w = .ok (.bool (decide (x = y))) w := by
  rw [run_eql_struct, show (10000 : Nat) = 9998 + 2 from rfl, eql_mv]
  rfl
end Go.Proofs.Ytaapnkoooofalaa.Me

namespace Go.Proofs.Ytaapnkoooofalaa.Do
open Go Go.RowKit Rw So Se
set_option maxRecDepth 20000
theorem besideP_no (v : Value) (l : List Nd) (z : Int) (w : World) (hv : Nds w v l) (hA : Calls Try.prog 73 #[v, .int .i64 z] w fun e w' => e = .returned (.bool false) ∧ Below w.heap.size w w') :
    Calls Try.prog 76 #[v, .int .i64 z] w fun e w' => ∃ y, e = .returned y ∧ Rws w' y [] ∧ Below w.heap.size w w' := by
  have HA := Lib.hid hA
  obtain ⟨_, a, c, rfl, -⟩ := hv
  clear hA
  go_enter Try.func76, Try.ntmps76
  go_wp2_with fail
  refine HA.out.mono ?_
  rintro e w1 ⟨rfl, hb1⟩
  have D1 := Lib.hid hb1
  clear hb1
  go_wp2_with fail
  go_ret
  exact ⟨_, rfl, Rws.below (GotK.start (Nat.le_refl _)).rws (Below.refl _ _), D1.out⟩
theorem besP_any (v : Value) (l : List Nd) (z : Int) (w : World) (hv : Nds w v l) (hl : l.length ≤ 1000) (hm : Nms l) :
    Calls Try.prog 76 #[v, .int .i64 z] w fun e w' => ∃ y, e = .returned y ∧ Rws w' y (bs l z) ∧ Below w.heap.size w w' := by
  have hA := isActive_any v l z w hv hl hm
  by_cases hz : z ∈ av l
  · rw [decide_eq_true hz] at hA
    have hs : setB l = true := by
      cases hs : setB l with
      | true => rfl
      | false => rw [av_no hs] at hz; cases hz
    obtain ⟨t, rfl, hg, hn⟩ := set_iff.1 hs
    obtain ⟨k, hk, rfl⟩ := (mem_av hg hn).1 hz
    rw [bs_go hg hn hk]
    obtain ⟨b, off, c, rfl, hc, hat⟩ := go_form hv
    exact besideP_go b off c t k w hat hc (by have := hg.2.1; omega) (by have := wt_in t 0 k hk; omega) hA
  · rw [decide_eq_false hz] at hA
    rw [bs_no hz]
    exact besideP_no v l z w hv hA
theorem any_bang {t : Tm} {k : Nat} (hg : Goes t) (hn : Nf t) (hk : k ∈ wt t 0) : ((pth t 0 k).1.map flat).any dm = (pth t 0 k).1.any bangT := by
  have h := pth_goes t 0 k hk hg hn
  generalize (pth t 0 k).1 = L at h ⊢
  induction L with
  | nil => rfl
  | cons u L ih =>
    rw [List.map_cons, List.any_cons, List.any_cons, ih fun x hx => h x (List.mem_cons_of_mem _ hx)]
    obtain ⟨h1, h2⟩ := h u (List.mem_cons_self ..)
    rw [dm_go h1 h2]
set_option maxHeartbeats 1000000 in
theorem freP_any (v : Value) (l : List Nd) (z : Int) (w : World) (hv : Nds w v l) (hl : l.length ≤ 1000) (hm : Nms l) :
    Calls Try.prog 61 #[v, .int .i64 z] w fun e w' => e = .returned (.bool (fr l z)) ∧ Below w.heap.size w w' := by
  have HA := Lib.hid (isActive_any v l z w hv hl hm)
  by_cases hz : z ∈ av l
  · rw [decide_eq_true hz] at HA
    have HB := Lib.hid (fun w1 (hb : Below w.heap.size w w1) => besP_any v l z w1 (hv.below hb) hl hm)
    have hs : setB l = true := by
      cases hs : setB l with
      | true => rfl
      | false => rw [av_no hs] at hz; cases hz
    obtain ⟨t, rfl, hg, hn⟩ := set_iff.1 hs
    obtain ⟨k, hk, rfl⟩ := (mem_av hg hn).1 hz
    rw [bs_go hg hn hk] at HB
    rw [fr_go hg hn hk, ← any_bang hg hn hk]
    obtain ⟨b, off, c, rfl, hc, hat⟩ := go_form hv
    have hkt : k < sz t := by have := wt_in t 0 k hk; omega
    have HWI := Lib.hid (fun w1 (hb : Below w.heap.size w w1) => within_any b off c t k w1 (at_below hat hb rfl) hc (by have := hg.2.1; omega) hkt)
    rw [(up_all t (flat t) 0 k (AtT.self t) (Nat.zero_le _) (by omega)).2] at HWI
    have eg : ∀ args w, (callFunc 77 args).run Try.prog w = .ok (.enter 77 args) w := enters_of Try.func77 (by kernel_rfl) rfl
    have HC := Lib.hid (fun y w1 (hr : Rws w1 y ((pth t 0 k).1.map flat)) => containsR_any 77 eg dm y _ w1 hr (by rw [List.length_map]; have := pth_len t 0 k; have := hg.2.1; omega) fun r hr wr a hn' => by
      obtain ⟨u, hu, rfl⟩ := List.mem_map.1 hr
      obtain ⟨h1, h2⟩ := pth_goes t 0 k hk hg hn u hu
      exact doomP_any a (flat u) wr hn' (by rw [Se.flat_len]; have := h1.2.1; omega) (nms_goes h1.1))
    generalize ((pth t 0 k).1.map flat) = L at HB HC ⊢
    generalize (pth t 0 k).2 = d at HWI ⊢
    generalize (wth (flat t) (abv t 0 k).reverse).1 = R at HWI
    generalize L.any dm = x at HC ⊢
    generalize sz t = n at HA HB HWI
    clear hv hat hs hz hg hn hk hl hm eg hkt
    cases d with
    | false =>
      go_enter Try.func61, Try.ntmps61
      go_wp2_with fail
      refine HA.out.mono ?_
      rintro e w1 ⟨rfl, hb1⟩
      have D1 := Lib.hid hb1
      clear hb1
      go_wp2_with fail
      refine (HWI.out _ D1.out).mono ?_
      rintro e w2 ⟨y, rfl, hpl, hb2⟩
      have D2 := Lib.hid (D1.out.trans (hb2.mono D1.out.size))
      clear hpl hb2
      go_wp2_with fail
      go_ret
      exact ⟨rfl, D2.out⟩
    | true =>
      go_enter Try.func61, Try.ntmps61
      go_wp2_with fail
      refine HA.out.mono ?_
      rintro e w1 ⟨rfl, hb1⟩
      have D1 := Lib.hid hb1
      clear hb1
      go_wp2_with fail
      refine (HWI.out _ D1.out).mono ?_
      rintro e w2 ⟨y, rfl, hpl, hb2⟩
      have D2 := Lib.hid (D1.out.trans (hb2.mono D1.out.size))
      clear hpl hb2
      go_wp2_with fail
      refine (HB.out _ D2.out).mono ?_
      rintro e w3 ⟨y3, rfl, hr3, hb3⟩
      have D3 := Lib.hid (D2.out.trans (hb3.mono D2.out.size))
      have R3 := Lib.hid hr3
      obtain ⟨_, ⟨_, a3, c3, rfl, -⟩, -⟩ := id hr3
      clear hr3 hb3
      go_wp2_with fail
      refine (HC.out _ _ R3.out).mono ?_
      rintro e w4 ⟨rfl, hb4⟩
      have D4 := Lib.hid (D3.out.trans (hb4.mono D3.out.size))
      clear hb4
      go_wp2_with fail
      go_ret
      exact ⟨rfl, D4.out⟩
  · rw [decide_eq_false hz] at HA
    rw [fr_no hz]
    obtain ⟨_, a, c, rfl, -⟩ := hv
    clear hm hz
    go_enter Try.func61, Try.ntmps61
    go_wp2_with fail
    refine HA.out.mono ?_
    rintro e w1 ⟨rfl, hb1⟩
    have D1 := Lib.hid hb1
    clear hb1
    go_wp2_with fail
    go_ret
    exact ⟨rfl, D1.out⟩
theorem con : Con where
  act := actP_any
  doom := doomP_any
  bes := besP_any
  free := freP_any
end Go.Proofs.Ytaapnkoooofalaa.Do
