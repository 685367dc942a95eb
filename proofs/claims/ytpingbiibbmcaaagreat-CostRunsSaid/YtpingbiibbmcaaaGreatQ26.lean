/- Plain: what comes of a row by a move; that it is what comes of its tree. The program's within and other: the walks. The document's Beside, Free: the walks. The program's Active, Doomed, isActive: what they tell of any row; slices.ContainsFunc over rows. Plain: what follows of the costs of rows. Plain: what is played of a row by numbers. The document's leaf, made: the walks. The document's Enabled: the walk. -/
import Derived.Test.YtpingbiibbmcaaaGreatQ24
import Derived.Test.YtpingbiibbmcaaaGreatQ25
import Derived.Test.YtpingbiibbmcaaaGreatQ06
import Derived.Test.YtpingbiibbmcaaaGreatQ22
import Derived.Test.YtpingbiibbmcaaaGreatQ09
import Derived.Test.YtpingbiibbmcaaaGreatQ11
import Derived.Test.YtpingbiibbmcaaaGreatQ23
import Derived.Test.YtpingbiibbmcaaaGreatQ21
import Derived.Test.YtpingbiibbmcaaaGreatQ05
import Derived.Deep.QuietTactic
import Derived.StillTailTactics

namespace Go.Proofs.YtpingbiibbmcaaaGreat.St
open Go Go.Proofs.YtpingbiibbmcaaaGreat.Rw Go.Proofs.YtpingbiibbmcaaaGreat.So Go.Proofs.YtpingbiibbmcaaaGreat.Se Go.Proofs.YtpingbiibbmcaaaGreat.Tr Go.Proofs.YtpingbiibbmcaaaGreat.Mn Go.Proofs.YtpingbiibbmcaaaGreat.Do Go.Proofs.YtpingbiibbmcaaaGreat.Sp Go.Proofs.YtpingbiibbmcaaaGreat.Me

/-- What stands in a tree's place behind a move; the row from there on. -/
def mdR (L : List Nd) (h : Int) : List Nd :=
  if h = 2 then (kids L).getD 0 [] else if h = 3 then (kids L).getD 1 [] else if h = 4 ∧ kn L 0 = 10 then nOf 12 :: ((kids L).getD 0 [] ++ (kids L).getD 1 []) else if h = 5 ∧ kn L 0 = 10 then [nEnd 3, nOf 2] else if h = 5 then [⟨11, ⟨#[]⟩, 3⟩] else [⟨11, ⟨#[]⟩, 1⟩]
theorem md_made {s u : Tm} {h : Int} {o : Option ByteArray} (k : Made s h o u) (q : List Nd) : mdR (flat s ++ q) h = flat u := by
  have two : ∀ (n : Nd) (a b : Tm), ar n.k = 2 → kids ((n :: (flat a ++ flat b)) ++ q) = [flat a, flat b] := fun n a b hk => by
    have := kidsA_two (n := n) a b q hk
    rw [List.cons_append, List.append_assoc]
    exact this
  unfold mdR
  cases k with
  | act s => rfl
  | altl _ b => rw [if_pos rfl, show flat (.alt u b) = nOf 6 :: (flat u ++ flat b) from rfl, two _ _ _ rfl]; rfl
  | altr a _ => rw [if_neg (by decide), if_pos rfl, show flat (.alt a u) = nOf 6 :: (flat a ++ flat u) from rfl, two _ _ _ rfl]; rfl
  | yieldg => rfl
  | yields => rfl
  | pairg a b => rw [if_neg (by decide), if_neg (by decide), if_pos ⟨rfl, rfl⟩, show flat (.pair a b) = nOf 10 :: (flat a ++ flat b) from rfl, two _ _ _ rfl]; rfl
  | pairs a b => rw [if_neg (by decide), if_neg (by decide), if_neg (fun h => absurd h.1 (by decide)), if_pos ⟨rfl, rfl⟩]; rfl
/-- What comes of a row by a move, and the action. -/
noncomputable def nxL (l : List Nd) (m : Mv) : List Nd := if m ∈ enR l then st (putN l m.p.toNat (mdR (l.drop m.p.toNat) m.h)) else []
def nmAt (l : List Nd) (p : Nat) : ByteArray := match l[p]? with | some x => x.n | none => ⟨#[]⟩
noncomputable def nxS (l : List Nd) (m : Mv) : ByteArray := if m ∈ enR l ∧ m.h = 1 then nmAt l m.p.toNat else ⟨#[]⟩
noncomputable def nxE (l : List Nd) (m : Mv) : Int := if m ∈ enR l then 0 else 120
/-- The moves of a row are those of its tree. -/
def mvOf (m : Mo) : Mv := ⟨(m.p : Int), m.h⟩
theorem en_link {t : Tm} (hg : Goes t) (hn : Nf t) : enR (flat t) = (mvs true t 0).map mvOf := by
  have h1 : (mvs true t 0).map mvOf = ((mvs true t 0).map fun m => (m.p, m.h)).map fun x => (⟨(x.1 : Int), x.2⟩ : Mv) := by
    rw [List.map_map]
    rfl
  rw [h1, en_mvs]
  unfold enR en
  rw [av_go hg hn, List.flatMap_map, List.map_flatMap]
  have key : ∀ L : List Nat, (∀ p ∈ L, p ∈ wt t 0) → (L.flatMap fun p => hw (kn (flat t) (Int.ofNat p)) (fr (flat t) (Int.ofNat p)) (Int.ofNat p)) = L.flatMap fun p => (hows (kat t 0 p) (freeAt true t 0 p) p).map fun x => (⟨(x.1 : Int), x.2⟩ : Mv) := by
    intro L
    induction L with
    | nil => intro _; rfl
    | cons p L ih =>
      intro h
      rw [List.flatMap_cons, List.flatMap_cons, ih fun x hx => h x (List.mem_cons_of_mem _ hx)]
      congr 1
      have e1 : kn (flat t) (Int.ofNat p) = kat t 0 p := rfl
      have e2 : fr (flat t) (Int.ofNat p) = freeAt true t 0 p := by
        have := fr_go hg hn (h p (List.mem_cons_self ..))
        show fr (flat t) (p : Int) = _
        rw [this]
        unfold freeAt
        rw [Bool.and_true]
      rw [e1, e2]
      unfold hw hows
      split
      · rfl
      · split
        · rfl
        · cases freeAt true t 0 p <;> rfl
  exact key _ fun _ h => h
theorem mo_goes {t : Tm} (hg : Goes t) {mo : Mo} (h : mo ∈ mvs true t 0) : Goes mo.r := by
  obtain ⟨h1, h2, h3⟩ := hg
  refine ⟨mv_rg t true 0 mo h h1, Nat.le_trans (mv_sz t true 0 mo h) h2, ?_⟩
  obtain ⟨i3, i4⟩ := mv_is t true 0 mo h
  exact h3.imp i3 i4
theorem mo_in {t : Tm} (hg : Goes t) (hn : Nf t) {mo : Mo} (h : mo ∈ mvs true t 0) : mvOf mo ∈ enR (flat t) := by
  rw [en_link hg hn]
  exact List.mem_map_of_mem h
theorem put_row (pre f post x : List Nd) (hf : Tre f) : putN (pre ++ (f ++ post)) pre.length x = pre ++ (x ++ post) ∧ (pre ++ (f ++ post)).drop pre.length = f ++ post := by
  have hd : (pre ++ (f ++ post)).drop pre.length = f ++ post := List.drop_left ..
  refine ⟨?_, hd⟩
  obtain ⟨d, hT⟩ := hf
  have hs : size (f ++ post) = f.length := by
    unfold Rw.size
    rw [T_append post hT]
  have hp := (T_bd hT).1
  unfold putN
  rw [hd, hs, if_neg (by omega), List.take_left, show pre.length + f.length = (pre ++ f).length by simp, ← List.append_assoc, List.drop_left, List.append_assoc]
/-- What comes of a move of the tree. -/
theorem nx_of {t : Tm} (hg : Goes t) (hn : Nf t) {mo : Mo} (h : mo ∈ mvs true t 0) :
    nxL (flat t) (mvOf mo) = flat (S mo.r) ∧ nxS (flat t) (mvOf mo) = mo.l.getD ⟨#[]⟩ ∧ nxE (flat t) (mvOf mo) = 0 := by
  have hin := mo_in hg hn h
  obtain ⟨pre, s, post, u, e1, e2, e3, hm⟩ := mv_put t true 0 mo h
  have hp : (mvOf mo).p.toNat = pre.length := by
    show ((mo.p : Int)).toNat = _
    omega
  obtain ⟨p1, p2⟩ := put_row pre (flat s) post (flat u) (tre_flat s)
  refine ⟨?_, ?_, if_pos hin⟩
  · unfold nxL
    rw [if_pos hin, hp, e1, p2, show (mvOf mo).h = mo.h from rfl, md_made hm, p1, ← e3, st_go (mo_goes hg h)]
  · unfold nxS nmAt
    rw [hp, e1]
    have hget : (pre ++ (flat s ++ post))[pre.length]? = (flat s)[0]? := by
      rw [List.getElem?_append_right (Nat.le_refl _), Nat.sub_self, List.getElem?_append_left (by rw [Se.flat_len]; exact sz_pos s)]
    rw [hget, ← e1]
    have e : (mvOf mo).h = mo.h := rfl
    rw [e]
    generalize mo.h = hh at hm ⊢
    generalize mo.l = oo at hm ⊢
    cases hm with
    | act s => rw [if_pos ⟨hin, rfl⟩]; rfl
    | _ => rw [if_neg (fun k => absurd k.2 (by decide))]; rfl
/-- Each move of a row is one of its tree. -/
theorem en_mo {t : Tm} (hg : Goes t) (hn : Nf t) {m : Mv} (h : m ∈ enR (flat t)) : ∃ mo ∈ mvs true t 0, m = mvOf mo := by
  rw [en_link hg hn] at h
  obtain ⟨mo, h1, h2⟩ := List.mem_map.1 h
  exact ⟨mo, h1, h2.symm⟩
theorem en_set {l : List Nd} {m : Mv} (h : m ∈ enR l) : ∃ t, l = flat t ∧ Goes t ∧ Nf t := by
  cases hs : setB l with
  | true =>
    obtain ⟨t, rfl, hg, hn⟩ := set_iff.1 hs
    exact ⟨t, rfl, hg, hn⟩
  | false =>
    unfold enR at h
    rw [av_no hs] at h
    cases h
end Go.Proofs.YtpingbiibbmcaaaGreat.St

namespace Go.Proofs.YtpingbiibbmcaaaGreat.Do
open Go Go.RowKit Go.Proofs.YtpingbiibbmcaaaGreat.Rw Go.Proofs.YtpingbiibbmcaaaGreat.So Go.Proofs.YtpingbiibbmcaaaGreat.Se
set_option maxRecDepth 20000

theorem ovI_flat (t : Tm) {p : Nat} (hp : p < sz t) : Pl.ovI (flat t) (p : Int) = abv t 0 p := by
  have h1 : Pl.rounds (flat t) = sz t := by
    unfold Pl.rounds
    rw [if_pos (Pl.one_tre.2 (tre_flat t)), Se.flat_len]
  unfold Pl.ovI
  rw [h1, if_pos ⟨by omega, by omega⟩, Int.toNat_natCast, ov_abv t hp]
theorem own_form {w : World} {base : Nat} {y : Value} {L : List Nat} (h : w.ownsRow base 3 1 y L.length (Rx.ic L)) (h0 : 0 < L.length) : ∃ g c, y = .slice (some ⟨g, 0, none⟩) L.length c ∧ Rx.Stk base w g c L := by
  obtain ⟨h1, ⟨rfl, h2⟩ | ⟨g, cap, cur, rfl, h2⟩⟩ := h
  · exact absurd h2 (by omega)
  · exact ⟨g, cap, rfl, h1, .inr ⟨g, cap, cur, rfl, h2⟩⟩
theorem plc_of {w : World} {g c : Nat} {P : List Nat} {f : Nat → Nat} {n : Nat} (h : Nums n g f w) (hn : P.length ≤ n) (hc : P.length ≤ c) (hP : ∀ j (hj : j < P.length), P[j] = f j) : Rf.Plc w (.slice (some ⟨g, 0, none⟩) P.length c) P := by
  refine ⟨by simp, some ⟨g, 0, none⟩, c, rfl, hc, fun h => (by cases h), fun _ => ⟨g, 0, rfl, fun j u hu => ?_⟩⟩
  rw [List.getElem?_map] at hu
  cases hj : P[j]? with
  | none => rw [hj] at hu; cases hu
  | some x =>
    rw [hj] at hu
    obtain ⟨hj1, hj2⟩ := List.getElem?_eq_some_iff.1 hj
    simp only [Option.map_some, Option.some.injEq] at hu
    rw [Nat.zero_add, h.cell j (by omega), ← hP j hj1, hj2, hu]
/-- Of a row of places, those from place k on are still to be looked at. -/
def Left (l : List Nd) (R : List Nat) (k : Nat) : Prop := wth l R = (R.take k ++ (wth l (R.drop k)).1, (wth l (R.drop k)).2)
theorem Left.start (l : List Nd) (R : List Nat) : Left l R 0 := by unfold Left; simp
theorem Left.found {l : List Nd} {R : List Nat} {k : Nat} (h : Left l R k) (hk : k < R.length) (h9 : kiA l R[k] = 9) : wth l R = (R.take k, true) := by
  unfold Left at h
  rw [h, List.drop_eq_getElem_cons hk, wth, if_pos h9, List.append_nil]
theorem Left.next {l : List Nd} {R : List Nat} {k : Nat} (h : Left l R k) (hk : k < R.length) (h9 : kiA l R[k] ≠ 9) : Left l R (k + 1) := by
  unfold Left at h ⊢
  rw [h, List.drop_eq_getElem_cons hk, wth, if_neg h9, List.take_succ_eq_append_getElem hk, List.append_assoc]
  rfl
theorem Left.done {l : List Nd} {R : List Nat} (h : Left l R R.length) : wth l R = (R, false) := by
  unfold Left at h
  rw [h, List.take_length, List.drop_length]
  simp [wth]
theorem kiA_get {l : List Nd} {u : Nat} (h : u < l.length) : kiA l u = l[u].k := kiA_at (List.getElem?_eq_getElem h)
set_option maxHeartbeats 4000000 in
theorem within_any (b off c : Nat) (t : Tm) (p : Nat) (w : World) (hat : At w b off (flat t)) (hc : sz t ≤ c) (hl : sz t ≤ 400) (hp : p < sz t) :
    Calls Tryz.prog 106 #[.slice (some ⟨b, off, none⟩) (sz t) c, .int .i64 (p : Int)] w fun e w' => ∃ y, e = .returned (.tuple #[y, .bool (wth (flat t) (abv t 0 p).reverse).2]) ∧ Rf.Plc w' y (wth (flat t) (abv t 0 p).reverse).1 ∧ Below w.heap.size w w' := by
  have hV := nds_drop hat (by rw [Se.flat_len]; exact hc) 0 (Nat.zero_le _)
  rw [List.drop_zero, Nat.sub_zero, Nat.sub_zero, Nat.zero_mul, Nat.add_zero, Se.flat_len] at hV
  have HO := Lib.hid (Pl.overP_own _ (flat t) (p : Int) w hV (by rw [Se.flat_len]; omega))
  rw [ovI_flat t hp] at HO
  have hin : ∀ u ∈ abv t 0 p, u < sz t := fun u hu => Nat.lt_trans (abv_in hp u hu) hp
  have hlen : (abv t 0 p).length ≤ 1000 := by
    rw [← ov_abv t hp]
    unfold Pl.ov
    exact Nat.le_trans (List.length_filter_le _ _) (by simp; omega)
  have HAT := Lib.hid hat
  have hfl := Se.flat_len t
  generalize abv t 0 p = L at HO hin hlen ⊢
  obtain ⟨l, hlt⟩ : ∃ l, flat t = l := ⟨_, rfl⟩
  rw [hlt] at HAT hfl ⊢
  clear hV hat hlt hp
  cases L with
  | nil =>
    clear hin hlen
    go_enter Tryz.func106, Tryz.ntmps106
    go_wp2_with fail
    refine HO.out.mono ?_
    rintro e w1 ⟨y, rfl, hown, hb1⟩
    have HP : Hid (Rf.Plc w1 y []) := Lib.hid (Ap.Rd.owned hown)
    obtain ⟨_, a, k, rfl, -⟩ := HP.out
    have D1 := Lib.hid hb1
    clear hown hb1
    go_wp2_with fail
    refine (rev_empty a k _).mono ?_
    rintro e w2 ⟨rfl, rfl⟩
    go_wp2_with fail
    refine Go.wp_loop_rounds 1 ?_
    rw [rounds_succ]
    go_wp2_with fail
    go_ret2
    exact ⟨_, rfl, HP.out, D1.out⟩
  | cons x0 L0 =>
    obtain ⟨L, hL⟩ : ∃ L, x0 :: L0 = L := ⟨_, rfl⟩
    have h0 : 0 < L.length := by rw [← hL]; simp
    rw [hL] at HO hin hlen ⊢
    clear hL
    have HIN : Hid (∀ u ∈ L.reverse, u < l.length) := Lib.hid fun u hu => by rw [hfl]; exact hin u (List.mem_reverse.1 hu)
    obtain ⟨n, hn⟩ : ∃ n, L.length = n := ⟨_, rfl⟩
    have HREV : Hid (∀ j (hj : j < L.reverse.length), L.reverse[j] = L.getD (n - 1 - j) 0) := Lib.hid fun j hj => by
      rw [List.getElem_reverse, List.getD_eq_getElem?_getD, List.getElem?_eq_getElem (by rw [List.length_reverse] at hj; omega), Option.getD_some]
      congr 1
      omega
    have HRL : Hid (L.reverse.length = n) := Lib.hid (by rw [List.length_reverse]; exact hn)
    have HN := Lib.hid hn
    rw [hn] at h0 hlen
    obtain ⟨R, hR⟩ : ∃ R, L.reverse = R := ⟨_, rfl⟩
    rw [hR] at HIN HREV HRL ⊢
    clear hin hn hR
    go_enter Tryz.func106, Tryz.ntmps106
    go_wp2_with fail
    refine HO.out.mono ?_
    rintro e w1 ⟨y, rfl, hown, hb1⟩
    obtain ⟨g, cap, rfl, hst⟩ := own_form hown (by rw [HN.out]; exact h0)
    have hcap := hst.cap.1
    have hg0 : w.heap.size ≤ g := by obtain ⟨_, _, h, _⟩ := hst.parts; exact h
    have hg1 : g < w1.heap.size := by obtain ⟨_, h, _⟩ := hst.parts; exact Nat.lt_of_not_le fun hle => by rw [Array.getElem?_eq_none hle] at h; cases h
    have NU : Hid (Nums n g (fun j => L.getD j 0) w1) := Lib.hid ⟨fun j hj => by
      rw [hst.cell j (by rw [HN.out]; exact hj), List.getD_eq_getElem?_getD, List.getElem?_eq_getElem (by rw [HN.out]; exact hj)]; rfl, hst.soft⟩
    rw [HN.out] at hcap ⊢
    have D1 := Lib.hid hb1
    have HG : Hid (w.heap.size ≤ g ∧ g < w1.heap.size) := Lib.hid ⟨hg0, hg1⟩
    clear hown hb1 hst hg0 hg1
    go_wp2_with fail
    refine (rev_any g cap n _ _ hcap h0 hlen NU.out).mono ?_
    rintro e w2 ⟨rfl, hnu, hb2⟩
    have N2 := Lib.hid hnu
    have D2 : Hid (Below w.heap.size w w2) := Lib.hid (D1.out.trans (hb2.mono HG.out.1))
    have HG2 : Hid (g < w2.heap.size) := Lib.hid (Nat.lt_of_lt_of_le HG.out.2 hb2.size)
    clear hnu hb2
    clear NU HO HN
    go_wp2_with fail
    go_loopw [4, 5, 15] (fun a4 a5 i wr => ∃ k : Nat, k ≤ n ∧ a4 = .slice (some ⟨g, 0, none⟩) n cap ∧ a5 = .bool false ∧ i = .int .i64 k ∧ Hid (Below w2.heap.size w2 wr) ∧ Hid (Left l R k)) (fun _ _ i _ => n - (intOf i).toNat)
    case atStart => exact ⟨0, Nat.zero_le _, rfl, rfl, rfl, Lib.hid (Below.refl _ _), Lib.hid (Left.start l R)⟩
    case round =>
      obtain ⟨k, hk, rfl, rfl, rfl, HB, HS⟩ := hrel
      have NR := Lib.hid (N2.out.below HB.out HG2.out)
      have DR : Hid (Below w.heap.size w wr) := Lib.hid (D2.out.trans (HB.out.mono D2.out.size))
      by_cases hlt : k < n
      · have e1 := NR.out.cell k hlt
        have hk2 : k < R.length := by rw [HRL.out]; exact hlt
        have hu := HIN.out _ (List.getElem_mem hk2)
        rw [← HREV.out k hk2] at e1
        have e2 := (HAT.out _ hu).1
        have e3 : wr.cell? ⟨b, off + R[k] * 3, none⟩ = some (.int .i64 l[R[k]].k) := by rw [DR.out.cell (Ap.cell_lt e2)]; exact e2
        have hki := kiA_get hu
        rw [← hki] at e3
        have FND := Lib.hid (fun h => HS.out.found hk2 h)
        have NXT := Lib.hid (fun h => HS.out.next hk2 h)
        obtain ⟨u, hu2⟩ : ∃ u, R[k] = u := ⟨_, rfl⟩
        rw [hu2] at e1 e3 hu FND NXT
        obtain ⟨q, hq⟩ : ∃ q, kiA l u = q := ⟨_, rfl⟩
        rw [hq] at e3 FND NXT
        have hus : (u : Int) < sz t := by omega
        clear hu2 hki e2 hq HS
        by_cases h9 : q = 9
        · subst h9
          have HF := Lib.hid (FND.out rfl)
          have HP : Hid (Rf.Plc wr (.slice (some ⟨g, 0, none⟩) k cap) (R.take k)) := Lib.hid (by
            have hkt : (R.take k).length = k := by rw [List.length_take, HRL.out]; omega
            have := plc_of (P := R.take k) (c := cap) NR.out (by rw [hkt]; omega) (by rw [hkt]; omega) (fun j hj => by
              rw [List.getElem_take, HREV.out])
            rwa [hkt] at this)
          clear FND NXT
          go_wp2_with fail
          go_ret2
          rw [HF.out]
          exact ⟨_, rfl, HP.out, DR.out⟩
        · have g9 : (q == 9) = false := beq_eq_false_iff_ne.2 h9
          have HX := Lib.hid (NXT.out h9)
          clear FND NXT h9
          go_wp2_with fail
          go_roundw
          case rel => exact ⟨k + 1, by omega, rfl, rfl, by go_num, HB, HX⟩
          case measure => simp [intOf]; omega
      · have hkl : k = n := by omega
        subst hkl
        have HF : Hid (wth l R = (R, false)) := Lib.hid (by
          have := HS.out
          rw [← HRL.out] at this
          exact this.done)
        have HP : Hid (Rf.Plc wr (.slice (some ⟨g, 0, none⟩) k cap) R) := Lib.hid (by
          have := plc_of (P := R) (c := cap) NR.out (by rw [HRL.out]; omega) (by rw [HRL.out]; omega) (fun j hj => HREV.out j hj)
          rwa [HRL.out] at this)
        clear HS
        go_wp2_with fail
        go_ret2
        rw [HF.out]
        exact ⟨_, rfl, HP.out, DR.out⟩
/-- A row of two rows, each of the call's own. -/
theorem two_own {base : Nat} {out : Option Nat} {w : World} {y : Value} {cs : List Value} {A B : List Nd} (h : Ap.Rd w 1 y 2 cs) (hk : Rx.OwnK base out w cs [A, B]) :
    ∃ b o c a0 a1, y = .slice (some ⟨b, o, none⟩) 2 c ∧ w.cell? ⟨b, o, none⟩ = some a0 ∧ w.cell? ⟨b, o + 1, none⟩ = some a1 ∧ w.ownsRow base 39 3 a0 A.length (cls A) ∧ w.ownsRow base 39 3 a1 B.length (cls B) := by
  obtain ⟨_, a, c, rfl, _, _, hcell⟩ := h
  obtain ⟨b, o, rfl, hj⟩ := hcell (by omega)
  match cs, hk with
  | [a0, a1], hk => exact ⟨b, o, c, a0, a1, rfl, hj 0 _ rfl, hj 1 _ rfl, hk.1.1, hk.2.1.1⟩
set_option maxHeartbeats 2000000 in
theorem other_any (b off c : Nat) (l : List Nd) (u p : Nat) (A B : List Nd) (w : World) (hat : At w b off l) (hc : l.length ≤ c) (hl : l.length ≤ 1000) (hu : u + 1 < l.length) (hk : kids (l.drop u) = [A, B]) :
    Calls Tryz.prog 115 #[.slice (some ⟨b, off, none⟩) l.length c, .int .i64 (u : Int), .int .i64 (p : Int)] w fun e w' => ∃ y, e = .returned y ∧ w'.ownsRow w.heap.size 39 3 y (oth l p u).length (cls (oth l p u)) ∧ Below w.heap.size w w' := by
  have HN := Lib.hid (nds_drop hat hc u (by omega))
  have HK := Lib.hid (Rx.kidsP_own _ (l.drop u) w HN.out (by rw [List.length_drop]; omega))
  rw [hk] at HK
  have HS := Lib.hid (fun w1 (hb : Below w.heap.size w w1) => second_any b off c l u w1 (fun k hk => ⟨by rw [hb.cell (Ap.cell_lt (hat k hk).1)]; exact (hat k hk).1, by rw [hb.cell (Ap.cell_lt (hat k hk).2.1)]; exact (hat k hk).2.1, by rw [hb.cell (Ap.cell_lt (hat k hk).2.2)]; exact (hat k hk).2.2⟩) hc hl hu)
  have hO : oth l p u = if p < u + 1 + size (l.drop (u + 1)) then B else A := by unfold oth; rw [hk]; rfl
  rw [hO]
  generalize u + 1 + size (l.drop (u + 1)) = z at HS ⊢
  obtain ⟨O, hO2⟩ : ∃ O, (if p < z then B else A) = O := ⟨_, rfl⟩
  have O1 : Hid (p < z → O = B) := Lib.hid fun h => by rw [← hO2, if_pos h]
  have O2 : Hid (¬ p < z → O = A) := Lib.hid fun h => by rw [← hO2, if_neg h]
  rw [hO2]
  clear hO hat hk hO2
  go_enter Tryz.func115, Tryz.ntmps115
  go_wp2_with fail
  refine HK.out.mono ?_
  rintro e w1 ⟨y, cs, rfl, hown, hrow, hb1⟩
  obtain ⟨bk, ok, ck, y0, y1, rfl, q0, q1, n0, n1⟩ := two_own (Ap.Rd.owned hown) hrow
  have hkl : bk < w1.heap.size := Ap.cell_lt q0
  have D1 := Lib.hid hb1
  have N0 := Lib.hid (fun w2 (hb : Below w1.heap.size w1 w2) => Ap.own_below n0 hb)
  have N1 := Lib.hid (fun w2 (hb : Below w1.heap.size w1 w2) => Ap.own_below n1 hb)
  clear hown hrow hb1 n0 n1
  go_wp2_with fail
  refine (HS.out _ D1.out).mono ?_
  rintro e w2 ⟨rfl, hb2⟩
  have e0 : w2.cell? ⟨bk, ok, none⟩ = some y0 := by rw [hb2.cell (p := ⟨bk, ok, none⟩) hkl]; exact q0
  have e1 : w2.cell? ⟨bk, ok + 1, none⟩ = some y1 := by rw [hb2.cell (p := ⟨bk, ok + 1, none⟩) hkl]; exact q1
  have D2 := Lib.hid (D1.out.trans (hb2.mono D1.out.size))
  have M0 := Lib.hid (N0.out _ hb2)
  have M1 := Lib.hid (N1.out _ hb2)
  clear hb2 q0 q1
  by_cases hpz : p < z
  · have g : (p : Int) < z := by omega
    have O3 := Lib.hid (O1.out hpz)
    clear hpz
    go_wp2_with fail
    go_ret
    exact ⟨_, rfl, by rw [O3.out]; exact M1.out, D2.out⟩
  · have g : ¬ (p : Int) < z := by omega
    have O3 := Lib.hid (O2.out hpz)
    clear hpz
    go_wp2_with fail
    go_ret
    exact ⟨_, rfl, by rw [O3.out]; exact M0.out, D2.out⟩
end Go.Proofs.YtpingbiibbmcaaaGreat.Do

namespace Go.Proofs.YtpingbiibbmcaaaGreat.Do
open Go Go.RowKit Go.Proofs.YtpingbiibbmcaaaGreat.Rw Go.Proofs.YtpingbiibbmcaaaGreat.So Go.Proofs.YtpingbiibbmcaaaGreat.Se
set_option maxRecDepth 20000

end Go.Proofs.YtpingbiibbmcaaaGreat.Do

namespace Go.Proofs.YtpingbiibbmcaaaGreat.Do
open Go Go.RowKit Go.Proofs.YtpingbiibbmcaaaGreat.Rw Go.Proofs.YtpingbiibbmcaaaGreat.So Go.Proofs.YtpingbiibbmcaaaGreat.Se
set_option maxRecDepth 20000

theorem setP_any (v : Value) (l : List Nd) (w : World) (hv : Nds w v l) (hl : l.length ≤ 1000) (hm : Nms l) :
    Calls Tryz.prog 68 #[v] w fun e w' => e = .returned (.bool (setB l)) ∧ Below w.heap.size w w' := settledQ_any v l w hv hl hm
/-- A row that is a tree that goes on stands in cells. -/
theorem go_form {w : World} {v : Value} {t : Tm} (hv : Nds w v (flat t)) : ∃ b off c, v = .slice (some ⟨b, off, none⟩) (sz t) c ∧ sz t ≤ c ∧ At w b off (flat t) := by
  rcases hv.form with ⟨h, _⟩ | ⟨b, off, c, rfl, hc, hat⟩
  · exact absurd h (flat_ne t)
  · rw [Se.flat_len] at hc ⊢
    exact ⟨b, off, c, rfl, hc, hat⟩
theorem actP_any (v : Value) (l : List Nd) (w : World) (hv : Nds w v l) (hl : l.length ≤ 1000) (hm : Nms l) :
    Calls Tryz.prog 56 #[v] w fun e w' => ∃ y, e = .returned y ∧ Ints w' y (av l) ∧ Below w.heap.size w w' := by
  have hS := setP_any v l w hv hl hm
  cases hs : setB l with
  | false =>
    rw [hs] at hS
    rw [av_no hs]
    exact activeP_no v l w hv hS
  | true =>
    rw [hs] at hS
    obtain ⟨t, rfl, hg, hn⟩ := set_iff.1 hs
    obtain ⟨b, off, c, rfl, hc, hat⟩ := go_form hv
    rw [av_go hg hn]
    exact activeP_go b off c t w hat hc (by have := hg.2.1; omega) hS
set_option maxHeartbeats 1000000 in
theorem doomP_any (v : Value) (l : List Nd) (w : World) (hv : Nds w v l) (hl : l.length ≤ 1000) (hm : Nms l) :
    Calls Tryz.prog 109 #[v] w fun e w' => e = .returned (.bool (dm l)) ∧ Below w.heap.size w w' := by
  have HS := Lib.hid (setP_any v l w hv hl hm)
  cases hs : setB l with
  | false =>
    rw [hs] at HS
    rw [dm_no hs]
    obtain ⟨_, a, c, rfl, -⟩ := hv
    clear hs hm
    go_enter Tryz.func109, Tryz.ntmps109
    go_wp2_with fail
    refine HS.out.mono ?_
    rintro e w1 ⟨rfl, hb1⟩
    have D1 := Lib.hid hb1
    clear hb1
    go_wp2_with fail
    go_ret
    exact ⟨rfl, D1.out⟩
  | true =>
    rw [hs] at HS
    obtain ⟨t, rfl, hg, hn⟩ := set_iff.1 hs
    obtain ⟨b, off, c, rfl, hc, hat⟩ := go_form hv
    rw [dm_go hg hn]
    have HD := Lib.hid (fun w1 (hb : Below w.heap.size w w1) => doomed_any t b off c (flat t) 0 w1 (at_below hat hb rfl) (AtT.self t) (by rw [Se.flat_len]; exact hc) hl)
    rw [Se.flat_len] at HD
    generalize bangT t = r at HD ⊢
    generalize sz t = n at HS HD hc
    clear hs hm hv hat hg hn hl
    go_enter Tryz.func109, Tryz.ntmps109
    go_wp2_with fail
    refine HS.out.mono ?_
    rintro e w1 ⟨rfl, hb1⟩
    have D1 := Lib.hid hb1
    clear hb1
    go_wp2_with fail
    refine (HD.out _ D1.out).mono ?_
    rintro e w2 ⟨rfl, hb2⟩
    have D2 := Lib.hid (D1.out.trans (hb2.mono D1.out.size))
    clear hb2
    go_wp2_with fail
    go_ret
    exact ⟨rfl, D2.out⟩
set_option maxHeartbeats 1000000 in
theorem isActive_any (v : Value) (l : List Nd) (z : Int) (w : World) (hv : Nds w v l) (hl : l.length ≤ 1000) (hm : Nms l) :
    Calls Tryz.prog 105 #[v, .int .i64 z] w fun e w' => e = .returned (.bool (decide (z ∈ av l))) ∧ Below w.heap.size w w' := by
  have HA := Lib.hid (actP_any v l w hv hl hm)
  have HL : Hid ((av l).length ≤ 1000000) := Lib.hid (Nat.le_trans (av_len l) (by omega))
  obtain ⟨_, a, c, rfl, -⟩ := hv
  generalize av l = L at HA HL ⊢
  clear hm hl
  go_enter Tryz.func105, Tryz.ntmps105
  go_wp2_with fail
  refine HA.out.mono ?_
  rintro e w1 ⟨y, rfl, hi, hb1⟩
  have D1 := Lib.hid hb1
  have I1 := Lib.hid hi
  clear hb1 hi
  go_wp2_with fail
  refine (Rx.has_any _ _ z _ I1.out HL.out).mono ?_
  rintro e w2 ⟨rfl, hb2⟩
  have D2 := Lib.hid (D1.out.trans (hb2.mono D1.out.size))
  clear hb2
  go_wp2_with fail
  go_ret
  exact ⟨rfl, D2.out⟩

/-- Where the first row stands of which something is told. -/
def idxB (F : List Nd → Bool) : List (List Nd) → Nat → Int
  | [], _ => -1
  | r :: rs, k => if F r = true then (k : Int) else idxB F rs (k + 1)
theorem idxB_any (F : List Nd → Bool) (ls : List (List Nd)) (k : Nat) : decide (0 ≤ idxB F ls k) = ls.any F := by
  induction ls generalizing k with
  | nil => rfl
  | cons r rs ih =>
    unfold idxB
    cases hr : F r with
    | true => simp [hr]
    | false => simp [hr, ih]
theorem idxB_end {F : List Nd → Bool} {ls : List (List Nd)} {k : Nat} (h : ¬ k < ls.length) : idxB F (ls.drop k) k = -1 := by rw [List.drop_eq_nil_of_le (by omega)]; rfl
theorem idxB_at {F : List Nd → Bool} {ls : List (List Nd)} {k : Nat} (h : k < ls.length) : idxB F (ls.drop k) k = if F ls[k] = true then (k : Int) else idxB F (ls.drop (k + 1)) (k + 1) := by
  rw [List.drop_eq_getElem_cons h, idxB]
set_option maxHeartbeats 800000 in
theorem indexR_empty (fn : Nat) (a : Option Addr) (cap : Nat) (w : World) :
    Calls Tryz.prog 114 #[.slice a 0 cap, .func (.func fn) #[] #[]] w fun e w' => e = .returned (.int .i64 (-1)) ∧ Below w.heap.size w w' := by
  go_enter Tryz.func114, Tryz.ntmps114
  go_wp2_with fail
  refine Go.wp_loop_rounds 1 ?_
  rw [rounds_succ]
  go_wp2_with fail
  go_ret
  exact ⟨rfl, Below.refl _ _⟩
set_option maxHeartbeats 2000000 in
theorem indexR_cells (fn : Nat) (eg : ∀ args w, (callFunc fn args).run Tryz.prog w = .ok (.enter fn args) w) (F : List Nd → Bool) (b off cap : Nat) (ls : List (List Nd)) (w : World) (hat : AtR w b off ls) (hl : ls.length ≤ 1000000)
    (hF : ∀ r ∈ ls, ∀ (wr : World) (a : Value), Nds wr a r → Calls Tryz.prog fn #[a] wr fun e w' => e = .returned (.bool (F r)) ∧ Below wr.heap.size wr w') :
    Calls Tryz.prog 114 #[.slice (some ⟨b, off, none⟩) ls.length cap, .func (.func fn) #[] #[]] w fun e w' => e = .returned (.int .i64 (idxB F ls 0)) ∧ Below w.heap.size w w' := by
  have HA := Lib.hid hat
  have HF := Lib.hid hF
  clear hat hF
  go_enter Tryz.func114, Tryz.ntmps114
  go_wp2_with fail
  go_loopw [8] (fun i wr => ∃ k : Nat, k ≤ ls.length ∧ i = .int .i64 k ∧ Hid (Below w.heap.size w wr) ∧ Hid (idxB F ls 0 = idxB F (ls.drop k) k)) (fun i _ => ls.length - (intOf i).toNat)
  case atStart => exact ⟨0, Nat.zero_le _, rfl, Lib.hid (Below.refl _ _), Lib.hid rfl⟩
  case round =>
    obtain ⟨k, hk, rfl, HB, HK⟩ := hrel
    by_cases hlt : k < ls.length
    · obtain ⟨a, e1, hn⟩ := HA.out k hlt
      have c1 : wr.cell? ⟨b, off + k, none⟩ = some a := by rw [HB.out.cell (Ap.cell_lt e1)]; exact e1
      have HC := Lib.hid (HF.out _ (List.getElem_mem hlt) wr a (hn.below HB.out))
      have HX := Lib.hid (HK.out.trans (idxB_at hlt))
      obtain ⟨_, a', c', rfl, _⟩ := hn
      obtain ⟨x, hx⟩ : ∃ x, F ls[k] = x := ⟨_, rfl⟩
      rw [hx] at HC HX
      clear hx e1
      cases x with
      | true =>
        go_wp2_with fail
        refine HC.out.mono ?_
        rintro e w' ⟨rfl, hb'⟩
        have HB' := Lib.hid hb'
        clear hb'
        go_wp2_with fail
        go_ret
        exact ⟨ret_int HX.out.symm, HB.out.trans (HB'.out.mono HB.out.size)⟩
      | false =>
        go_wp2_with fail
        refine HC.out.mono ?_
        rintro e w' ⟨rfl, hb'⟩
        have HB' := Lib.hid (HB.out.trans (hb'.mono HB.out.size))
        clear hb'
        go_wp2_with fail
        go_roundw
        case rel => exact ⟨k + 1, by omega, by go_num, HB', Lib.hid (by have := HX.out; simpa using this)⟩
        case measure => simp [intOf]; omega
    · go_wp2_with fail
      go_ret
      exact ⟨ret_int (by rw [HK.out, idxB_end hlt]), HB.out⟩
set_option maxHeartbeats 800000 in
theorem containsR_any (fn : Nat) (eg : ∀ args w, (callFunc fn args).run Tryz.prog w = .ok (.enter fn args) w) (F : List Nd → Bool) (v : Value) (ls : List (List Nd)) (w : World) (hv : Rws w v ls) (hl : ls.length ≤ 1000000)
    (hF : ∀ r ∈ ls, ∀ (wr : World) (a : Value), Nds wr a r → Calls Tryz.prog fn #[a] wr fun e w' => e = .returned (.bool (F r)) ∧ Below wr.heap.size wr w') :
    Calls Tryz.prog 107 #[v, .func (.func fn) #[] #[]] w fun e w' => e = .returned (.bool (ls.any F)) ∧ Below w.heap.size w w' := by
  have HI : Hid (Calls Tryz.prog 114 #[v, .func (.func fn) #[] #[]] w fun e w' => e = .returned (.int .i64 (idxB F ls 0)) ∧ Below w.heap.size w w') := by
    rcases hv.form with ⟨rfl, a, cap, rfl⟩ | ⟨b, off, cap, rfl, hat⟩
    · exact Lib.hid (indexR_empty fn a cap w)
    · exact Lib.hid (indexR_cells fn eg F b off cap ls w hat hl hF)
  have HQ := Lib.hid (idxB_any F ls 0)
  obtain ⟨q, hq⟩ : ∃ q, idxB F ls 0 = q := ⟨_, rfl⟩
  rw [hq] at HQ HI
  obtain ⟨_, ⟨_, a, c, rfl, -⟩, -⟩ := hv
  clear hq hF
  go_enter Tryz.func107, Tryz.ntmps107
  go_wp2_with fail
  refine HI.out.mono ?_
  rintro e w' ⟨rfl, hb⟩
  have HB := Lib.hid hb
  clear hb
  go_wp2_with fail
  go_ret
  exact ⟨ret_bool HQ.out, HB.out⟩
end Go.Proofs.YtpingbiibbmcaaaGreat.Do

namespace Go.Proofs.YtpingbiibbmcaaaGreat.Co
open Go Go.RowKit Go.Proofs.YtpingbiibbmcaaaGreat.Rw Go.Proofs.YtpingbiibbmcaaaGreat.So Go.Proofs.YtpingbiibbmcaaaGreat.Se Go.Proofs.YtpingbiibbmcaaaGreat.Do Go.Proofs.YtpingbiibbmcaaaGreat.Sp Go.Proofs.YtpingbiibbmcaaaGreat.Me Go.Proofs.YtpingbiibbmcaaaGreat.St
set_option maxRecDepth 20000

/-- Each move leaves a lesser most. -/
theorem cr_fall {l : List Nd} {m : Mv} (h : m ∈ enR l) : cr false (nxL l m) < cr false l := by
  obtain ⟨t, rfl, hg, hn⟩ := en_set h
  obtain ⟨mo', h1, rfl⟩ := en_mo hg hn h
  rw [(nx_of hg hn h1).1, cr_go _ (mo_goes hg h1).S, cr_go _ hg]
  exact Nat.lt_of_le_of_lt (S_mo _) (mv_mo t true 0 mo' h1)
/-- What is settled costs no more. -/
theorem st_fall (l : List Nd) : cr false (st l) ≤ cr false l := by
  by_cases h : of l = 0
  · rw [st_no h, cr_no false (l := []) (by decide +kernel)]
    exact Nat.zero_le _
  · obtain ⟨t, rfl, hg⟩ := goes_of h
    rw [st_go hg, cr_go _ hg.S, cr_go _ hg]
    exact S_mo t
/-- The statements' own tree of a choice. -/
abbrev tA : Tm := .alt (.act ⟨#[97]⟩) (.seq (.act ⟨#[97]⟩) (.act ⟨#[97]⟩))
abbrev tB : Tm := .pair (.act ⟨#[97]⟩) (.act ⟨#[97]⟩)
theorem gA : Goes tA := ⟨by decide +kernel, by decide, by decide⟩
theorem gB : Goes tB := ⟨by decide +kernel, by decide, by decide⟩
theorem chA : chR (flat tA) = 4 := by rw [chR_flat]; decide
theorem moA : cr false (flat tA) = 3 := by rw [cr_go _ gA]; decide
theorem leA : cr true (flat tA) = 2 := by rw [cr_go _ gA]; decide
theorem moB : cr false (flat tB) = 3 := by rw [cr_go _ gB]; decide
theorem crA : crash (flat tA) 2 = 15 ∧ crash (flat tA) (-1) = 0 := by
  unfold crash
  rw [chA]
  exact ⟨by decide, by decide⟩
theorem moC : cr false ((flat tA).take 3) = 0 := cr_no _ (by decide +kernel)
end Go.Proofs.YtpingbiibbmcaaaGreat.Co

namespace Go.Proofs.YtpingbiibbmcaaaGreat.Ru
open Go Go.Proofs.YtpingbiibbmcaaaGreat.Rw Go.Proofs.YtpingbiibbmcaaaGreat.So Go.Proofs.YtpingbiibbmcaaaGreat.Se Go.Proofs.YtpingbiibbmcaaaGreat.Do Go.Proofs.YtpingbiibbmcaaaGreat.Sp Go.Proofs.YtpingbiibbmcaaaGreat.Me Go.Proofs.YtpingbiibbmcaaaGreat.St
set_option maxRecDepth 20000

/-- How far something has gone on. -/
structure Rn where
  l : List Nd
  a : List ByteArray
  n : Nat
/-- One number more. -/
noncomputable def stepR (r : Rn) (z : Int) : Rn :=
  if enR r.l = [] then r else ⟨nxL r.l (pkM r.l z), if (pkM r.l z).h = 1 then r.a ++ [nxS r.l (pkM r.l z)] else r.a, r.n + 1⟩
noncomputable def play (l : List Nd) (ps : List Int) : Rn := ps.foldl stepR ⟨l, [], 0⟩
theorem stepR_stop {r : Rn} (h : enR r.l = []) (z : Int) : stepR r z = r := if_pos h
theorem stepR_go {r : Rn} (h : enR r.l ≠ []) (z : Int) : stepR r z = ⟨nxL r.l (pkM r.l z), if (pkM r.l z).h = 1 then r.a ++ [nxS r.l (pkM r.l z)] else r.a, r.n + 1⟩ := if_neg h
theorem fold_stop : ∀ (ps : List Int) {r : Rn}, enR r.l = [] → ps.foldl stepR r = r
  | [], _, _ => rfl
  | z :: ps, r, h => by rw [List.foldl_cons, stepR_stop h]; exact fold_stop ps h
theorem pk_in {l : List Nd} (h : enR l ≠ []) (z : Int) : pkM l z ∈ enR l := pkM_mem (by cases e : enR l with | nil => exact absurd e h | cons a b => simp)
/-- What stands ahead does not matter. -/
theorem fold_shift : ∀ (ps : List Int) (l : List Nd) (a : List ByteArray) (n : Nat), ps.foldl stepR ⟨l, a, n⟩ = ⟨(play l ps).l, a ++ (play l ps).a, n + (play l ps).n⟩
  | [], l, a, n => by simp [play]
  | z :: ps, l, a, n => by
    unfold play
    rw [List.foldl_cons, List.foldl_cons]
    by_cases h : enR l = []
    · rw [stepR_stop (r := ⟨l, a, n⟩) h, stepR_stop (r := ⟨l, [], 0⟩) h, fold_stop ps (r := ⟨l, a, n⟩) h, fold_stop ps (r := ⟨l, [], 0⟩) h]
      simp
    · rw [stepR_go (r := ⟨l, a, n⟩) h, stepR_go (r := ⟨l, [], 0⟩) h]
      simp only
      rw [fold_shift ps, fold_shift ps (nxL l (pkM l z)) (if (pkM l z).h = 1 then [] ++ [nxS l (pkM l z)] else [])]
      split <;> simp <;> omega
theorem play_cons (l : List Nd) (z : Int) (ps : List Int) (h : enR l ≠ []) : play l (z :: ps) = ⟨(play (nxL l (pkM l z)) ps).l, (if (pkM l z).h = 1 then [nxS l (pkM l z)] else []) ++ (play (nxL l (pkM l z)) ps).a, 1 + (play (nxL l (pkM l z)) ps).n⟩ := by
  conv => lhs; unfold play; rw [List.foldl_cons, stepR_go (r := ⟨l, [], 0⟩) h]
  rw [fold_shift]
  simp only [List.nil_append, Nat.zero_add]
theorem play_n (l : List Nd) (ps : List Int) : (play l ps).n ≤ ps.length ∧ ((play l ps).n < ps.length → enR (play l ps).l = []) := by
  induction ps generalizing l with
  | nil => exact ⟨Nat.le_refl _, fun h => absurd h (Nat.lt_irrefl _)⟩
  | cons z ps ih =>
    by_cases h : enR l = []
    · have e : play l (z :: ps) = ⟨l, [], 0⟩ := fold_stop (z :: ps) (r := ⟨l, [], 0⟩) h
      rw [e]
      exact ⟨Nat.zero_le _, fun _ => h⟩
    · rw [play_cons l z ps h]
      obtain ⟨h1, h2⟩ := ih (nxL l (pkM l z))
      simp only [List.length_cons]
      exact ⟨by omega, fun k => h2 (by omega)⟩
/-- Rows stay short. -/
theorem play_len {l : List Nd} (hl : l.length ≤ 1000) (hm : Nms l) (ps : List Int) : (play l ps).l.length ≤ 1000 ∧ Nms (play l ps).l := by
  induction ps generalizing l with
  | nil => exact ⟨hl, hm⟩
  | cons z ps ih =>
    by_cases he : enR l = []
    · have e : play l (z :: ps) = ⟨l, [], 0⟩ := fold_stop (z :: ps) (r := ⟨l, [], 0⟩) he
      rw [e]
      exact ⟨hl, hm⟩
    · rw [play_cons l z ps he]
      have hin := pk_in he z
      obtain ⟨t, rfl, hg, hn⟩ := en_set hin
      obtain ⟨mo, h1, h2⟩ := en_mo hg hn hin
      rw [h2, (nx_of hg hn h1).1]
      have hS := (mo_goes hg h1).S
      refine ih ?_ (nms_goes hS.1)
      rw [Se.flat_len]
      have := hS.2.1
      omega
end Go.Proofs.YtpingbiibbmcaaaGreat.Ru

namespace Go.Proofs.YtpingbiibbmcaaaGreat.St
open Go Go.RowKit Go.Proofs.YtpingbiibbmcaaaGreat.Rw Go.Proofs.YtpingbiibbmcaaaGreat.So Go.Proofs.YtpingbiibbmcaaaGreat.Se Go.Proofs.YtpingbiibbmcaaaGreat.Do Go.Proofs.YtpingbiibbmcaaaGreat.Sp Go.Proofs.YtpingbiibbmcaaaGreat.Me
set_option maxRecDepth 20000

end Go.Proofs.YtpingbiibbmcaaaGreat.St

namespace Go.Proofs.YtpingbiibbmcaaaGreat.Me
open Go Go.RowKit Go.Proofs.YtpingbiibbmcaaaGreat.Rw Go.Proofs.YtpingbiibbmcaaaGreat.So Go.Proofs.YtpingbiibbmcaaaGreat.Se Go.Proofs.YtpingbiibbmcaaaGreat.Do
set_option maxRecDepth 20000

end Go.Proofs.YtpingbiibbmcaaaGreat.Me
