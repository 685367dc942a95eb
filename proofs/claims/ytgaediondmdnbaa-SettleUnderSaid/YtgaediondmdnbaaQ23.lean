/- SettleUnder: the walk. SettleLess: the walk. -/
import Derived.Test.YtgaediondmdnbaaQ22
import Derived.Test.YtgaediondmdnbaaQ15
import Derived.Deep.RegionHeld3
import Derived.Test.YtgaediondmdnbaaQ09
import Derived.BigQuiet

namespace Go.Proofs.Ytgaediondmdnbaa.Se
open Go Go.RowKit Go.Proofs.Ytgaediondmdnbaa.Rw Go.Proofs.Ytgaediondmdnbaa.So
set_option maxRecDepth 20000

set_option maxHeartbeats 8000000 in
theorem under_law (va vb : Value) (l r : List Nd) (w0 : World) (ha : Nds w0 va l) (hb : Nds w0 vb r) (hm : Nms l) (hm' : Nms r) :
    Calls Try.prog 7 #[va, vb] w0 fun e w' => e = .returned (.bool true) ∧ Below w0.heap.size w0 w' := by
  have A := Lib.hid ha
  have B := Lib.hid hb
  have D := Lib.hid (Below.refl w0.heap.size w0)
  have HSA := Lib.hid (fun v w1 (h : Nds w1 v l) (hl : l.length ≤ 120) => settleP_any v l w1 h (by omega) hm)
  have HSB := Lib.hid (fun v w1 (h : Nds w1 v r) (hl : r.length ≤ 120) => settleP_any v r w1 h (by omega) hm')
  have HOA := Lib.hid (fun v w1 (h : Nds w1 v l) (hl : l.length ≤ 120) => Sx.onP_any l true v w1 h (by omega) hm)
  have HOB := Lib.hid (fun v w1 (h : Nds w1 v r) (hl : r.length ≤ 120) => Sx.onP_any r true v w1 h (by omega) hm')
  have n2 : Nms (nOf 7 :: (l ++ r)) := fun z hz => by
    rcases List.mem_cons.1 hz with rfl | hz
    · exact Nat.zero_le _
    · exact (List.mem_append.1 hz).elim (hm z) (hm' z)
  have n3 : Nms (nOf 7 :: (st l ++ st r)) := fun z hz => by
    rcases List.mem_cons.1 hz with rfl | hz
    · exact Nat.zero_le _
    · exact (List.mem_append.1 hz).elim (nms_st l z) (nms_st r z)
  have n4 : Nms (nOf 9 :: l) := fun z hz => by
    rcases List.mem_cons.1 hz with rfl | hz
    · exact Nat.zero_le _
    · exact hm z hz
  have n5 : Nms (nOf 9 :: st l) := fun z hz => by
    rcases List.mem_cons.1 hz with rfl | hz
    · exact Nat.zero_le _
    · exact nms_st l z hz
  have TW : ∀ (a b : List Nd) (v u : Value) (w1 : World), Nds w1 v a → Nds w1 u b → a.length ≤ 120 → b.length ≤ 120 → Calls Try.prog 21 #[.agg #[.int .i64 7, .string ⟨#[]⟩, .int .i64 0], v, u] w1 (OutL (nOf 7 :: (a ++ b)) w1) := fun a b v u w1 h1 h2 l1 l2 => twoR_any (nOf 7) v u a b w1 h1 h2 (by omega) (by omega)
  have ON : ∀ (a : List Nd) (v : Value) (w1 : World), Nds w1 v a → a.length ≤ 120 → Calls Try.prog 22 #[.agg #[.int .i64 9, .string ⟨#[]⟩, .int .i64 0], v] w1 (OutL (nOf 9 :: a) w1) := fun a v w1 h1 l1 => (oneR_any (nOf 9) v a w1 h1 (by omega)).mono fun _ _ ⟨y, he, ho, hb⟩ => ⟨y, he, Ap.Rd.owned ho, hb⟩
  have SL : ∀ (a : List Nd), Nms a → ∀ (v : Value) (w1 : World), Nds w1 v a → a.length ≤ 300 → Calls Try.prog 11 #[v] w1 (OutL (st a) w1) := fun a ha v w1 h1 l1 => settleP_any v a w1 h1 (by omega) ha
  have SM : ∀ (a : List Nd), ∀ (x y : Value) (w1 : World), Nds w1 x (st a) → Nds w1 y (st a) → a.length ≤ 300 → Calls Try.prog 12 #[x, y] w1 fun e w' => e = .returned (.bool true) ∧ Below w1.heap.size w1 w' := fun a x y w1 h1 h2 l1 => (sameR_any x y (st a) (st a) w1 h1 h2 (by have := st_len a; omega)).mono fun _ _ h => ⟨h.1.trans (ret_bool (same_self _)), h.2⟩
  have HT := Lib.hid (TW l r)
  have HT2 := Lib.hid (TW (st l) (st r))
  have lp : (nOf 7 :: (l ++ r)).length = l.length + r.length + 1 := by simp
  have lk : (nOf 9 :: l).length = l.length + 1 := by simp
  have lp2 : (nOf 7 :: (st l ++ st r)).length ≤ l.length + r.length + 1 := by have := st_len l; have := st_len r; simp; omega
  have lk2 : (nOf 9 :: st l).length ≤ l.length + 1 := by have := st_len l; simp; omega
  have HP1 := Lib.hid (fun v w1 (h : Nds w1 v (nOf 7 :: (l ++ r))) (hl : l.length + r.length ≤ 120) => SL _ n2 v w1 h (by omega))
  have HP2 := Lib.hid (fun v w1 (h : Nds w1 v (nOf 7 :: (st l ++ st r))) (hl : l.length + r.length ≤ 120) => SL _ n3 v w1 h (by omega))
  have HQ := Lib.hid (fun x y w1 (h1 : Nds w1 x (st (nOf 7 :: (l ++ r)))) (h2 : Nds w1 y (st (nOf 7 :: (l ++ r)))) (hl : l.length + r.length ≤ 120) => SM _ x y w1 h1 h2 (by omega))
  have HO1 := Lib.hid (ON l)
  have HO2 := Lib.hid (ON (st l))
  have HB1 := Lib.hid (fun v w1 (h : Nds w1 v (nOf 9 :: l)) (hl : l.length ≤ 120) => SL _ n4 v w1 h (by omega))
  have HB2 := Lib.hid (fun v w1 (h : Nds w1 v (nOf 9 :: st l)) (hl : l.length ≤ 120) => SL _ n5 v w1 h (by omega))
  have HQ3 := Lib.hid (fun x y w1 (h1 : Nds w1 x (st (nOf 9 :: l))) (h2 : Nds w1 y (st (nOf 9 :: l))) (hl : l.length ≤ 120) => SM _ x y w1 h1 h2 (by omega))
  have HE : Hid (st l ≠ [] → st r ≠ [] → l.length + r.length ≤ 120 → (onB l true = onB r true → st (nOf 7 :: (st l ++ st r)) = st (nOf 7 :: (l ++ r))) ∧ st (nOf 9 :: st l) = st (nOf 9 :: l)) := Lib.hid fun h1 h2 h3 => ⟨fun h4 => (st_par h1 h2 h4 h3).symm, (st_block h1 (by omega)).symm⟩
  have HXL0 := st_len l
  have HYL0 := st_len r
  clear n2 n3 n4 n5 TW ON SL SM lp lk lp2 lk2
  generalize st (nOf 7 :: (st l ++ st r)) = P2 at HE HP2
  generalize st (nOf 7 :: (l ++ r)) = P1 at HE HP1 HQ
  generalize st (nOf 9 :: st l) = K2 at HE HB2
  generalize st (nOf 9 :: l) = K1 at HE HB1 HQ3
  generalize st l = x at *
  generalize st r = y at *
  have HXL := Lib.hid HXL0
  have HYL := Lib.hid HYL0
  obtain ⟨_, aA, cA, rfl, -⟩ := ha
  obtain ⟨_, aB, cB, rfl, -⟩ := hb
  clear hm hm' HXL0 HYL0
  go_enter Try.func7, Try.ntmps7
  go_wp2_with fail
  refine (few_any _ l _ A.out).mono ?_
  cases hf : fewB l with
  | false =>
    rintro e w' ⟨rfl, rfl⟩
    go_wp2_with fail
    refine (alive_any w0).mono ?_
    rintro e w1 ⟨rfl, hb⟩
    replace D := Lib.hid (D.out.trans (hb.mono D.out.size))
    clear hb
    go_wp2_with fail
    go_ret
    exact ⟨rfl, D.out⟩
  | true =>
    have hl := few_len hf
    clear hf
    rintro e w' ⟨rfl, rfl⟩
    go_wp2_with fail
    refine (few_any _ r _ B.out).mono ?_
    cases hf : fewB r with
    | false =>
      rintro e w' ⟨rfl, rfl⟩
      go_wp2_with fail
      refine (alive_any w0).mono ?_
      rintro e w1 ⟨rfl, hb⟩
      replace D := Lib.hid (D.out.trans (hb.mono D.out.size))
      clear hb
      go_wp2_with fail
      go_ret
      exact ⟨rfl, D.out⟩
    | true =>
      have hr := few_len hf
      clear hf
      rintro e w' ⟨rfl, rfl⟩
      have hwr : IntKind.i64.wrap ((l.length : Int) + (r.length : Int)) = (l.length : Int) + (r.length : Int) := by rw [IntKind.wrap_i64]; omega
      by_cases hlr : 120 < l.length + r.length
      case pos =>
        have g1 : (120 : Int) < (l.length : Int) + (r.length : Int) := by omega
        go_wp2_with fail
        refine (alive_any w0).mono ?_
        rintro e w1 ⟨rfl, hb⟩
        replace D := Lib.hid (D.out.trans (hb.mono D.out.size))
        clear hb
        go_wp2_with fail
        go_ret
        exact ⟨rfl, D.out⟩
      case neg =>
        have g1 : ¬ (120 : Int) < (l.length : Int) + (r.length : Int) := by omega
        have g2 : (l.length : Int) + (r.length : Int) ≤ 120 := by omega
        go_wp2_with fail
        refine (HSA.out _ _ A.out hl).mono ?_
        rintro e w1 ⟨yX, rfl, hn, hb⟩
        obtain ⟨_, aX, cX, rfl, -⟩ := id hn
        replace A := Lib.hid (A.out.below hb)
        replace B := Lib.hid (B.out.below hb)
        replace D := Lib.hid (D.out.trans (hb.mono D.out.size))
        have X := Lib.hid hn
        clear hn
        clear hb
        go_wp2_with fail
        refine (HSB.out _ _ B.out hr).mono ?_
        rintro e w2 ⟨yY, rfl, hn, hb⟩
        obtain ⟨_, aY, cY, rfl, -⟩ := id hn
        replace A := Lib.hid (A.out.below hb)
        replace B := Lib.hid (B.out.below hb)
        replace X := Lib.hid (X.out.below hb)
        replace D := Lib.hid (D.out.trans (hb.mono D.out.size))
        have Y := Lib.hid hn
        clear hn
        clear hb
        obtain ⟨n, hnn⟩ : ∃ n, x.length = n := ⟨_, rfl⟩
        rw [hnn] at X ⊢
        obtain ⟨p, hpp⟩ : ∃ p, y.length = p := ⟨_, rfl⟩
        rw [hpp] at Y ⊢
        by_cases hn0 : n = 0
        case pos =>
          subst hn0
          go_wp2_with fail
          refine (alive_any w2).mono ?_
          rintro e w3 ⟨rfl, hb⟩
          replace A := Lib.hid (A.out.below hb)
          replace B := Lib.hid (B.out.below hb)
          replace X := Lib.hid (X.out.below hb)
          replace Y := Lib.hid (Y.out.below hb)
          replace D := Lib.hid (D.out.trans (hb.mono D.out.size))
          clear hb
          go_wp2_with fail
          go_ret
          exact ⟨rfl, D.out⟩
        case neg =>
          have gn : ((n : Int) == 0) = false := by rw [beq_eq_false_iff_ne]; omega
          by_cases hp0 : p = 0
          case pos =>
            subst hp0
            go_wp2_with fail
            refine (alive_any w2).mono ?_
            rintro e w3 ⟨rfl, hb⟩
            replace A := Lib.hid (A.out.below hb)
            replace B := Lib.hid (B.out.below hb)
            replace X := Lib.hid (X.out.below hb)
            replace Y := Lib.hid (Y.out.below hb)
            replace D := Lib.hid (D.out.trans (hb.mono D.out.size))
            clear hb
            go_wp2_with fail
            go_ret
            exact ⟨rfl, D.out⟩
          case neg =>
            have gp : ((p : Int) == 0) = false := by rw [beq_eq_false_iff_ne]; omega
            have hx0 : x ≠ [] := fun e => hn0 (by rw [← hnn, e]; rfl)
            have hy0 : y ≠ [] := fun e => hp0 (by rw [← hpp, e]; rfl)
            go_wp2_with fail
            refine (HOA.out _ _ A.out hl).mono ?_
            rintro e w3 ⟨rfl, hb⟩
            replace A := Lib.hid (A.out.below hb)
            replace B := Lib.hid (B.out.below hb)
            replace X := Lib.hid (X.out.below hb)
            replace Y := Lib.hid (Y.out.below hb)
            replace D := Lib.hid (D.out.trans (hb.mono D.out.size))
            clear hb
            go_wp2_with fail
            refine (HOB.out _ _ B.out hr).mono ?_
            rintro e w4 ⟨rfl, hb⟩
            replace A := Lib.hid (A.out.below hb)
            replace B := Lib.hid (B.out.below hb)
            replace X := Lib.hid (X.out.below hb)
            replace Y := Lib.hid (Y.out.below hb)
            replace D := Lib.hid (D.out.trans (hb.mono D.out.size))
            clear hb
            have HOE := Lib.hid (HE.out hx0 hy0 (by omega))
            have HNX := Lib.hid hnn
            have HNY := Lib.hid hpp
            clear hx0 hy0 hnn hpp
            obtain ⟨q1, hq1⟩ : ∃ q, onB l true = q := ⟨_, rfl⟩
            obtain ⟨q2, hq2⟩ : ∃ q, onB r true = q := ⟨_, rfl⟩
            rw [hq1, hq2]
            by_cases hq : q1 = q2
            case neg =>
              have gq : (q1 == q2) = false := by cases q1 <;> cases q2 <;> first | rfl | exact absurd rfl hq
              clear hq hq1 hq2
              go_wp2_with fail
              refine (alive_any w4).mono ?_
              rintro e w5 ⟨rfl, hb⟩
              replace A := Lib.hid (A.out.below hb)
              replace B := Lib.hid (B.out.below hb)
              replace X := Lib.hid (X.out.below hb)
              replace Y := Lib.hid (Y.out.below hb)
              replace D := Lib.hid (D.out.trans (hb.mono D.out.size))
              clear hb
              go_wp2_with fail
              go_ret
              exact ⟨rfl, D.out⟩
            case pos =>
              have gq : (q1 == q2) = true := by rw [hq]; cases q2 <;> rfl
              have HP := Lib.hid (HOE.out.1 (by rw [hq1, hq2, hq]))
              have HK := Lib.hid HOE.out.2
              clear hq hq1 hq2 HOE
              go_wp2_with fail
              have BW0 := below1 w4 (.cells #[.int .i64 7, .string ⟨#[]⟩, .int .i64 0] 30)
              have BC := box_cells w4 7 0 ⟨#[]⟩ 30
              obtain ⟨bn, hbn⟩ : ∃ b, w4.heap.size = b := ⟨_, rfl⟩
              rw [hbn] at BC ⊢
              generalize w4.alloc (.cells #[.int .i64 7, .string ⟨#[]⟩, .int .i64 0] 30) = W at BW0 BC ⊢
              replace D := Lib.hid (D.out.trans (BW0.mono D.out.size))
              replace A := Lib.hid (A.out.below BW0)
              replace B := Lib.hid (B.out.below BW0)
              replace X := Lib.hid (X.out.below BW0)
              replace Y := Lib.hid (Y.out.below BW0)
              have SW := Lib.hid BC
              obtain ⟨z0, z1, z2⟩ := BC W (Below.refl _ _)
              clear BW0 BC hbn
              go_region_held3 (fun w' => w'.cell? ⟨bn, 0, none⟩ = some (.int .i64 7) ∧ w'.cell? ⟨bn, 1, none⟩ = some (.string ⟨#[]⟩) ∧ w'.cell? ⟨bn, 2, none⟩ = some (.int .i64 0)) (first | exact SW.out _ (Below.refl _ _).drew | exact SW.out _ E1.out | exact SW.out _ E2.out | exact SW.out _ E3.out | exact SW.out _ E4.out | fail) (first
                | (go_at_call 21
                   (with_reducible refine (HT.out _ _ _ (A.out.below (Below.refl _ _).drew) (B.out.below (Below.refl _ _).drew) hl hr).mono ?_)
                   rintro e u1 ⟨y1, rfl, hn, hb⟩
                   obtain ⟨_, a1, c1, rfl, -⟩ := id hn
                   have E1 := Lib.hid ((Below.refl W.heap.size W).drew.trans hb)
                   rw [show (nOf 7 :: (l ++ r)).length = l.length + r.length + 1 by simp] at hn
                   have M1 := Lib.hid hn
                   clear hn hb)
                | (go_at_call 11
                   (with_reducible refine (HP1.out _ _ M1.out (by omega)).mono ?_)
                   rintro e u2 ⟨y2, rfl, hn, hb⟩
                   obtain ⟨_, a2, c2, rfl, -⟩ := id hn
                   have E2 := Lib.hid (E1.out.trans (hb.mono E1.out.size))
                   have M2 := Lib.hid hn
                   clear hn hb)
                | (go_at_call 21
                   (with_reducible refine (HT2.out _ _ _ (X.out.below E2.out) (Y.out.below E2.out) (by have := HXL.out; omega) (by have := HYL.out; omega)).mono ?_)
                   rintro e u3 ⟨y3, rfl, hn, hb⟩
                   obtain ⟨_, a3, c3, rfl, -⟩ := id hn
                   have E3 := Lib.hid (E2.out.trans (hb.mono E2.out.size))
                   replace M2 := Lib.hid (M2.out.below hb)
                   rw [show (nOf 7 :: (x ++ y)).length = x.length + y.length + 1 by simp] at hn
                   have M3 := Lib.hid hn
                   clear hn hb)
                | (go_at_call 11
                   (with_reducible refine (HP2.out _ _ M3.out (by omega)).mono ?_)
                   rintro e u4 ⟨y4, rfl, hn, hb⟩
                   obtain ⟨_, a4, c4, rfl, -⟩ := id hn
                   have E4 := Lib.hid (E3.out.trans (hb.mono E3.out.size))
                   replace M2 := Lib.hid (M2.out.below hb)
                   have M4 := Lib.hid hn
                   clear hn hb)
                | fail)
              replace D := Lib.hid (D.out.trans (E4.out.mono D.out.size))
              replace A := Lib.hid (A.out.below E4.out)
              replace X := Lib.hid (X.out.below E4.out)
              clear SW z0 z1 z2
              go_wp2_with fail
              refine (HQ.out _ _ _ M2.out (HP.out ▸ M4.out) (by omega)).mono ?_
              rintro e v1 ⟨rfl, hb⟩
              replace A := Lib.hid (A.out.below hb)
              replace X := Lib.hid (X.out.below hb)
              replace D := Lib.hid (D.out.trans (hb.mono D.out.size))
              clear hb M2 M4 E1 E2 E3 E4 M1 M3 HP
              go_wp2_with fail
              refine (HO1.out _ _ A.out hl).mono ?_
              rintro e v5 ⟨yP1, rfl, hn, hb⟩
              obtain ⟨_, aP1, cP1, rfl, -⟩ := id hn
              replace A := Lib.hid (A.out.below hb)
              replace X := Lib.hid (X.out.below hb)
              replace D := Lib.hid (D.out.trans (hb.mono D.out.size))
              rw [show (nOf 9 :: l).length = l.length + 1 by simp] at hn
              have P1 := Lib.hid hn
              clear hn
              clear hb
              go_wp2_with fail
              refine (HB1.out _ _ P1.out (by omega)).mono ?_
              rintro e v6 ⟨yP2, rfl, hn, hb⟩
              obtain ⟨_, aP2, cP2, rfl, -⟩ := id hn
              replace A := Lib.hid (A.out.below hb)
              replace X := Lib.hid (X.out.below hb)
              replace P1 := Lib.hid (P1.out.below hb)
              replace D := Lib.hid (D.out.trans (hb.mono D.out.size))
              have P2 := Lib.hid hn
              clear hn
              clear hb
              go_wp2_with fail
              refine (HO2.out _ _ X.out (by have := HXL.out; omega)).mono ?_
              rintro e v7 ⟨yP3, rfl, hn, hb⟩
              obtain ⟨_, aP3, cP3, rfl, -⟩ := id hn
              replace A := Lib.hid (A.out.below hb)
              replace X := Lib.hid (X.out.below hb)
              replace P1 := Lib.hid (P1.out.below hb)
              replace P2 := Lib.hid (P2.out.below hb)
              replace D := Lib.hid (D.out.trans (hb.mono D.out.size))
              rw [show (nOf 9 :: x).length = x.length + 1 by simp] at hn
              have P3 := Lib.hid hn
              clear hn
              clear hb
              go_wp2_with fail
              refine (HB2.out _ _ P3.out (by have := HXL.out; omega)).mono ?_
              rintro e v8 ⟨yP4, rfl, hn, hb⟩
              obtain ⟨_, aP4, cP4, rfl, -⟩ := id hn
              replace A := Lib.hid (A.out.below hb)
              replace X := Lib.hid (X.out.below hb)
              replace P1 := Lib.hid (P1.out.below hb)
              replace P2 := Lib.hid (P2.out.below hb)
              replace P3 := Lib.hid (P3.out.below hb)
              replace D := Lib.hid (D.out.trans (hb.mono D.out.size))
              have P4 := Lib.hid hn
              clear hn
              clear hb
              go_wp2_with fail
              refine (alive_any _).mono ?_
              rintro e v9 ⟨rfl, hb⟩
              replace A := Lib.hid (A.out.below hb)
              replace X := Lib.hid (X.out.below hb)
              replace P1 := Lib.hid (P1.out.below hb)
              replace P2 := Lib.hid (P2.out.below hb)
              replace P3 := Lib.hid (P3.out.below hb)
              replace P4 := Lib.hid (P4.out.below hb)
              replace D := Lib.hid (D.out.trans (hb.mono D.out.size))
              clear hb
              go_wp2_with fail
              refine (HQ3.out _ _ _ P2.out (HK.out ▸ P4.out) (by omega)).mono ?_
              rintro e v10 ⟨rfl, hb⟩
              replace A := Lib.hid (A.out.below hb)
              replace X := Lib.hid (X.out.below hb)
              replace P1 := Lib.hid (P1.out.below hb)
              replace P2 := Lib.hid (P2.out.below hb)
              replace P3 := Lib.hid (P3.out.below hb)
              replace P4 := Lib.hid (P4.out.below hb)
              replace D := Lib.hid (D.out.trans (hb.mono D.out.size))
              clear hb
              go_wp2_with fail
              go_ret
              exact ⟨rfl, D.out⟩
end Go.Proofs.Ytgaediondmdnbaa.Se

namespace Go.Proofs.Ytgaediondmdnbaa.Se
open Go Go.RowKit Go.Proofs.Ytgaediondmdnbaa.Rw Go.Proofs.Ytgaediondmdnbaa.So
set_option maxRecDepth 20000

/-- How many nodes are of a kind. -/
def ofK (k : Nat) (l : List Nd) : Nat := l.countP fun x => decide (x.k = (k : Int))
theorem cnt_takeK {α : Type} (f : α → Bool) (l : List α) (k : Nat) (h : k < l.length) : (l.take (k + 1)).countP f = (l.take k).countP f + if f l[k] then 1 else 0 := by
  rw [List.take_succ_eq_append_getElem h, List.countP_append, List.countP_singleton]
theorem any_take (f : Nd → Bool) (l : List Nd) (k : Nat) (h : k < l.length) : (l.take (k + 1)).any f = ((l.take k).any f || f l[k]) := by
  rw [List.take_succ_eq_append_getElem h, List.any_append]
  simp
def lessK (k : Nat) : Prop := k = 1 ∨ k = 3 ∨ k = 4 ∨ k = 6 ∨ k = 8 ∨ k = 9 ∨ k = 10
theorem plainK {k : Nat} (h : lessK k) : Plain (fun x => decide (x.k = (k : Int))) := by
  unfold lessK at h
  refine ⟨fun _ => ?_, fun _ => ?_, ?_, ?_, ?_, ?_, ?_⟩ <;> refine decide_eq_false ?_ <;> simp only [nOf] <;> omega
theorem less_k (l : List Nd) {k : Nat} (h : lessK k) : ofK k (st l) ≤ ofK k l := by
  by_cases h0 : st l = []
  · rw [h0]; exact Nat.zero_le _
  · obtain ⟨t, rfl, hg, e⟩ := st_some h0
    rw [e]
    exact S_ct (plainK h) t
theorem acts_memF : ∀ (l : List Nd) (os : List ByteArray) (s : ByteArray), s ∈ l.foldl addA os → s ∈ os ∨ ∃ x ∈ l, x.k = 1 ∧ x.n = s
  | [], os, s, h => .inl h
  | x :: l, os, s, h => by
    rcases acts_memF l (addA os x) s h with h | ⟨y, hy, h⟩
    · unfold addA at h
      split at h
      · exact .inl h
      · rename_i hm
        rcases List.mem_append.1 h with h | h
        · exact .inl h
        · rw [List.mem_singleton] at h
          refine .inr ⟨x, by simp, ?_, h.symm⟩
          unfold met at hm
          simp at hm
          exact hm.1
    · exact .inr ⟨y, by simp [hy], h⟩
theorem less_acts (l : List Nd) {s : ByteArray} (h : s ∈ acts (st l)) : l.any (fun x => decide (x = (⟨1, s, 0⟩ : Nd))) = true := by
  rcases acts_memF (st l) [] s h with h | ⟨x, hx, hk, hn⟩
  · cases h
  · have h0 : st l ≠ [] := fun e => by rw [e] at hx; cases hx
    obtain ⟨t, rfl, hg, e⟩ := st_some h0
    rw [e] at hx
    have hr : rgt x = true := (List.all_eq_true.1 hg.S.1) x hx
    have hx2 := rgt_name hr hk
    rw [hn] at hx2
    have hp : Plain (fun x => decide (x = (⟨1, s, 0⟩ : Nd))) := by
      refine ⟨fun _ => ?_, fun _ => ?_, ?_, ?_, ?_, ?_, ?_⟩ <;> exact decide_eq_false (fun e => absurd (congrArg Nd.k e) (by simp [nOf]))
    have hc := S_ct hp t
    have hpos : 0 < ct (fun x => decide (x = (⟨1, s, 0⟩ : Nd))) (S t) := List.countP_pos_iff.2 ⟨x, hx, decide_eq_true hx2⟩
    obtain ⟨y, hy, hd⟩ := List.countP_pos_iff.1 (Nat.lt_of_lt_of_le hpos hc)
    exact List.any_eq_true.2 ⟨y, hy, hd⟩
theorem nds_at {w : World} {a : Option Addr} {c : Nat} {l : List Nd} (h : Nds w (.slice a l.length c) l) (h0 : 0 < l.length) : ∃ b o, a = some ⟨b, o, none⟩ ∧ At w b o l := by
  rcases h.form with ⟨rfl, _⟩ | ⟨b, o, c', e, _, hat⟩
  · simp at h0
  · injection e with e1 _ _
    exact ⟨b, o, e1, hat⟩
theorem strs_at {w : World} {a : Option Addr} {c : Nat} {l : List ByteArray} (h : Strs w (.slice a l.length c) l) (h0 : 0 < l.length) : ∃ b o, a = some ⟨b, o, none⟩ ∧ AtS w b o l := by
  rcases h.form with ⟨rfl, _⟩ | ⟨b, o, c', e, hat⟩
  · simp at h0
  · injection e with e1 _ _
    exact ⟨b, o, e1, hat⟩
set_option maxHeartbeats 8000000 in
theorem less_law (v : Value) (l : List Nd) (w0 : World) (hv : Nds w0 v l) (hm : Nms l) :
    Calls Try.prog 8 #[v] w0 fun e w' => e = .returned (.bool true) ∧ Below w0.heap.size w0 w' := by
  have V := Lib.hid hv
  have D := Lib.hid (Below.refl w0.heap.size w0)
  have HS := Lib.hid (fun v w1 (h : Nds w1 v l) (hl : l.length ≤ 120) => settleP_any v l w1 h (by omega) hm)
  have HL := Lib.hid (st_len l)
  have HC := Lib.hid (fun k h => less_k l (k := k) h)
  have HA := Lib.hid (fun v w1 (h : Nds w1 v (st l)) (hl : (st l).length ≤ 120) => Sx.actsP_any v (st l) w1 h (by omega) (nms_st l))
  have HY := Lib.hid (fun s (h : s ∈ acts (st l)) => less_acts l h)
  have HAL := Lib.hid (acts_le (st l))
  obtain ⟨m, hmm⟩ : ∃ m, st l = m := ⟨_, rfl⟩
  rw [hmm] at HS HL HC HA HY HAL
  obtain ⟨_, a, cap, rfl, -⟩ := hv
  clear hm hmm
  go_enter Try.func8, Try.ntmps8
  go_wp2_with fail
  refine (few_any _ l _ V.out).mono ?_
  cases hf : fewB l with
  | false =>
    rintro e w' ⟨rfl, rfl⟩
    go_wp2_with fail
    refine (alive_any _).mono ?_
    rintro e wn ⟨rfl, hb⟩
    go_wp2_with fail
    go_ret
    exact ⟨rfl, hb⟩
  | true =>
    have hl := few_len hf
    clear hf
    rintro e w' ⟨rfl, rfl⟩
    go_wp2_with fail
    refine (HS.out _ _ V.out hl).mono ?_
    rintro e w1 ⟨yA, rfl, hn, hb⟩
    obtain ⟨_, aA, cA, rfl, -⟩ := id hn
    replace V := Lib.hid (V.out.below hb)
    replace D := Lib.hid (D.out.trans (hb.mono D.out.size))
    have A := Lib.hid hn
    have hml : m.length ≤ l.length := HL.out
    have g0 : ¬ (l.length : Int) < (m.length : Int) := by omega
    have g1 : (m.length : Int) ≤ (l.length : Int) := by omega
    have gd : decide (l.length < m.length) = false := decide_eq_false (by omega)
    have gd' : decide ((l.length : Int) < (m.length : Int)) = false := decide_eq_false (by omega)
    have hm120 : m.length ≤ 120 := by omega
    clear hn hb HS
    go_wp2_with fail
    go_loopw [4] (fun kv wr => ∃ k : Nat, 1 ≤ k ∧ k ≤ 11 ∧ kv = .int .i64 k ∧ Below w1.heap.size w1 wr) (fun kv _ => 11 - (intOf kv).toNat)
    case atStart => exact ⟨1, by omega, by omega, rfl, Below.refl _ _⟩
    case round =>
      obtain ⟨k, hk1, hk11, rfl, hb⟩ := hrel
      have WB := Lib.hid hb
      clear hb
      by_cases hlt : k ≤ 10
      · obtain ⟨wo, hwo⟩ : ∃ wo, wo = wr := ⟨_, rfl⟩
        subst hwo
        go_wp2_with fail
        go_loopw [5, 32] (fun n i wx => ∃ j : Nat, j ≤ m.length ∧ i = .int .i64 j ∧ n = .int .i64 (ofK k (m.take j) : Nat) ∧ Below wo.heap.size wo wx) (fun _ i _ => m.length - (intOf i).toNat)
        case atStart => exact ⟨0, Nat.zero_le _, rfl, rfl, Below.refl _ _⟩
        case round =>
          obtain ⟨j, hj, rfl, rfl, hb⟩ := hrel
          have XB := Lib.hid hb
          have XW := Lib.hid (WB.out.trans (hb.mono WB.out.size))
          clear hb
          by_cases hjl : j < m.length
          · obtain ⟨bn, on, rfl, hat⟩ := nds_at A.out (by omega)
            obtain ⟨n0, n1, n2⟩ := hat j hjl
            have q0 : wr.cell? ⟨bn, on + j * 3, none⟩ = some (.int .i64 m[j].k) := by rw [XW.out.cell (Ap.cell_lt n0)]; exact n0
            have q1 : wr.cell? ⟨bn, on + j * 3 + 1, none⟩ = some (.string m[j].n) := by rw [XW.out.cell (Ap.cell_lt n1)]; exact n1
            have q2 : wr.cell? ⟨bn, on + j * 3 + 2, none⟩ = some (.int .i64 m[j].s) := by rw [XW.out.cell (Ap.cell_lt n2)]; exact n2
            have HTK := Lib.hid (cnt_takeK (fun x => decide (x.k = (k : Int))) m j hjl)
            have hC : ofK k (m.take j) ≤ 120 := Nat.le_trans List.countP_le_length (by rw [List.length_take]; omega)
            generalize m[j] = y at *
            obtain ⟨C, hCC⟩ : ∃ C, ofK k (m.take j) = C := ⟨_, rfl⟩
            have HT2 : Hid (ofK k (m.take (j + 1)) = C + if decide (y.k = (k : Int)) then 1 else 0) := Lib.hid (by rw [← hCC]; exact HTK.out)
            rw [hCC] at hC ⊢
            clear n0 n1 n2 hat HTK hCC
            have BX := Lib.hid (XB.out.trans ((below1 wr (.cells #[.int .i64 y.k, .string y.n, .int .i64 y.s] 30)).mono XB.out.size))
            by_cases hky : y.k = (k : Int)
            · have HT3 : Hid (ofK k (m.take (j + 1)) = C + 1) := Lib.hid (by rw [HT2.out, decide_eq_true hky]; rfl)
              rw [hky] at q0 BX
              clear hky HT2
              go_wp2_with fail
              go_roundw
              case rel => exact ⟨j + 1, by omega, by go_num, by rw [HT3.out]; go_num, BX.out⟩
              case measure => simp [intOf]; omega
            · have HT3 : Hid (ofK k (m.take (j + 1)) = C) := Lib.hid (by rw [HT2.out, decide_eq_false hky]; rfl)
              have gky : (y.k == (k : Int)) = false := by rw [beq_eq_false_iff_ne]; exact hky
              clear hky HT2
              go_wp2_with fail
              go_roundw
              case rel => exact ⟨j + 1, by omega, by go_num, by rw [HT3.out], BX.out⟩
              case measure => simp [intOf]; omega
          · have hje : j = m.length := by omega
            subst hje
            rw [List.take_length]
            have hC : ofK k m ≤ 120 := Nat.le_trans List.countP_le_length hm120
            have HC' := Lib.hid (HC.out k)
            obtain ⟨C, hCC⟩ : ∃ C, ofK k m = C := ⟨_, rfl⟩
            rw [hCC] at hC HC' ⊢
            clear hCC
            obtain ⟨wp, hwp⟩ : ∃ wp, wp = wr := ⟨_, rfl⟩
            subst hwp
            go_wp2_with fail
            go_loopw [5, 45] (fun n i wx => ∃ j : Nat, j ≤ l.length ∧ i = .int .i64 j ∧ n = .int .i64 ((C : Nat) - (ofK k (l.take j) : Nat) : Int) ∧ Below wp.heap.size wp wx) (fun _ i _ => l.length - (intOf i).toNat)
            case atStart => exact ⟨0, Nat.zero_le _, rfl, by simp [ofK], Below.refl _ _⟩
            case round =>
              obtain ⟨j, hj2, rfl, rfl, hb⟩ := hrel
              have YB := Lib.hid hb
              have YW := Lib.hid (XW.out.trans (hb.mono XW.out.size))
              clear hb
              by_cases hjl2 : j < l.length
              · obtain ⟨bn, on, rfl, hat⟩ := nds_at V.out (by omega)
                obtain ⟨n0, n1, n2⟩ := hat j hjl2
                have q0 : wr.cell? ⟨bn, on + j * 3, none⟩ = some (.int .i64 l[j].k) := by rw [YW.out.cell (Ap.cell_lt n0)]; exact n0
                have q1 : wr.cell? ⟨bn, on + j * 3 + 1, none⟩ = some (.string l[j].n) := by rw [YW.out.cell (Ap.cell_lt n1)]; exact n1
                have q2 : wr.cell? ⟨bn, on + j * 3 + 2, none⟩ = some (.int .i64 l[j].s) := by rw [YW.out.cell (Ap.cell_lt n2)]; exact n2
                have HTK := Lib.hid (cnt_takeK (fun x => decide (x.k = (k : Int))) l j hjl2)
                have hE : ofK k (l.take j) ≤ 120 := Nat.le_trans List.countP_le_length (by rw [List.length_take]; omega)
                generalize l[j] = y at *
                obtain ⟨E, hEE⟩ : ∃ E, ofK k (l.take j) = E := ⟨_, rfl⟩
                have HT2 : Hid (ofK k (l.take (j + 1)) = E + if decide (y.k = (k : Int)) then 1 else 0) := Lib.hid (by rw [← hEE]; exact HTK.out)
                rw [hEE] at hE ⊢
                clear n0 n1 n2 hat HTK hEE
                have BX := Lib.hid (YB.out.trans ((below1 wr (.cells #[.int .i64 y.k, .string y.n, .int .i64 y.s] 30)).mono YB.out.size))
                by_cases hky : y.k = (k : Int)
                · have HT3 : Hid (ofK k (l.take (j + 1)) = E + 1) := Lib.hid (by rw [HT2.out, decide_eq_true hky]; rfl)
                  rw [hky] at q0 BX
                  clear hky HT2
                  go_wp2_with fail
                  go_roundw
                  case rel => exact ⟨j + 1, by omega, by go_num, by rw [HT3.out]; go_num, BX.out⟩
                  case measure => simp [intOf]; omega
                · have HT3 : Hid (ofK k (l.take (j + 1)) = E) := Lib.hid (by rw [HT2.out, decide_eq_false hky]; rfl)
                  have gky : (y.k == (k : Int)) = false := by rw [beq_eq_false_iff_ne]; exact hky
                  clear hky HT2
                  go_wp2_with fail
                  go_roundw
                  case rel => exact ⟨j + 1, by omega, by go_num, by rw [HT3.out], BX.out⟩
                  case measure => simp [intOf]; omega
              · have hje2 : j = l.length := by omega
                subst hje2
                rw [List.take_length]
                obtain ⟨E, hEE⟩ : ∃ E, ofK k l = E := ⟨_, rfl⟩
                have hE : E ≤ 120 := by rw [← hEE]; exact Nat.le_trans List.countP_le_length hl
                rw [hEE] at HC' ⊢
                clear hEE
                have YO := Lib.hid (YW.out)
                by_cases hpos : E < C
                · have hno : ¬ lessK k := fun h => by have := HC'.out h; omega
                  unfold lessK at hno
                  have f1 : ((k : Int) == 1) = false := by rw [beq_eq_false_iff_ne]; omega
                  have f3 : ((k : Int) == 3) = false := by rw [beq_eq_false_iff_ne]; omega
                  have f4 : ((k : Int) == 4) = false := by rw [beq_eq_false_iff_ne]; omega
                  have f6 : ((k : Int) == 6) = false := by rw [beq_eq_false_iff_ne]; omega
                  have f8 : ((k : Int) == 8) = false := by rw [beq_eq_false_iff_ne]; omega
                  have f9 : ((k : Int) == 9) = false := by rw [beq_eq_false_iff_ne]; omega
                  have f10 : ((k : Int) == 10) = false := by rw [beq_eq_false_iff_ne]; omega
                  have gp : decide ((0 : Int) < (C : Int) - (E : Int)) = true := decide_eq_true (by omega)
                  have gp' : decide ((C : Int) - (E : Int) > 0) = true := decide_eq_true (by omega)
                  have gp2 : (0 : Int) < (C : Int) - (E : Int) := by omega
                  clear hno hpos
                  go_wp2_with fail
                  go_roundw
                  case rel => exact ⟨k + 1, by omega, by omega, by go_num, YO.out⟩
                  case measure => simp [intOf]; omega
                · have gp : decide ((0 : Int) < (C : Int) - (E : Int)) = false := decide_eq_false (by omega)
                  have gp' : decide ((C : Int) - (E : Int) > 0) = false := decide_eq_false (by omega)
                  have gp2 : ¬ (0 : Int) < (C : Int) - (E : Int) := by omega
                  have gp3 : (C : Int) - (E : Int) ≤ 0 := by omega
                  have gp4 : (C : Int) ≤ (E : Int) := by omega
                  have gp5 : C ≤ E := by omega
                  clear hpos
                  go_wp2_with fail
                  go_roundw
                  case rel => exact ⟨k + 1, by omega, by omega, by go_num, YO.out⟩
                  case measure => simp [intOf]; omega
      · have hke : k = 11 := by omega
        subst hke
        have DW := Lib.hid (D.out.trans (WB.out.mono D.out.size))
        have AW := Lib.hid (A.out.below WB.out)
        have VW := Lib.hid (V.out.below WB.out)
        go_wp2_with fail
        refine (HA.out _ _ AW.out hm120).mono ?_
        rintro e w2 ⟨yn, rfl, hs, hb⟩
        obtain ⟨_, an, cn, rfl, -⟩ := id hs
        have SN := Lib.hid hs
        have D2 := Lib.hid (DW.out.trans (hb.mono DW.out.size))
        have V2 := Lib.hid (VW.out.below hb)
        have hal : (acts m).length ≤ 120 := by have := HAL.out; omega
        clear hs hb
        obtain ⟨names, hnames⟩ : ∃ n, acts m = n := ⟨_, rfl⟩
        rw [hnames] at SN hal HY ⊢
        clear hnames
        go_wp2_with fail
        go_loopw [89] (fun i wr => ∃ j : Nat, j ≤ names.length ∧ i = .int .i64 j ∧ Below w2.heap.size w2 wr) (fun i _ => names.length - (intOf i).toNat)
        case atStart => exact ⟨0, Nat.zero_le _, rfl, Below.refl _ _⟩
        case round =>
          obtain ⟨j, hj, rfl, hb⟩ := hrel
          have XB := Lib.hid hb
          clear hb
          by_cases hjl : j < names.length
          · obtain ⟨bs, os, rfl, hss⟩ := strs_at SN.out (by omega)
            have hxa := hss j hjl
            have qx : wr.cell? ⟨bs, os + j, none⟩ = some (.string names[j]) := by rw [XB.out.cell (Ap.cell_lt hxa)]; exact hxa
            have HYS := Lib.hid (HY.out names[j] (List.getElem_mem hjl))
            generalize names[j] = s at *
            clear hss hxa
            obtain ⟨wo, hwo⟩ : ∃ wo, wo = wr := ⟨_, rfl⟩
            subst hwo
            go_wp2_with fail
            clear qx
            go_loopw [12, 95] (fun q i wx => ∃ k : Nat, k ≤ l.length ∧ i = .int .i64 k ∧ q = .bool ((l.take k).any (fun x => decide (x = (⟨1, s, 0⟩ : Nd)))) ∧ Below wo.heap.size wo wx) (fun _ i _ => l.length - (intOf i).toNat)
            case atStart => exact ⟨0, Nat.zero_le _, rfl, rfl, Below.refl _ _⟩
            case round =>
              obtain ⟨k, hk, rfl, rfl, hb⟩ := hrel
              have YB := Lib.hid hb
              have YW := Lib.hid (XB.out.trans (hb.mono XB.out.size))
              clear hb
              by_cases hkl : k < l.length
              · obtain ⟨bn, on, rfl, hat⟩ := nds_at V2.out (by omega)
                obtain ⟨n0, n1, n2⟩ := hat k hkl
                have q0 : wr.cell? ⟨bn, on + k * 3, none⟩ = some (.int .i64 l[k].k) := by rw [YW.out.cell (Ap.cell_lt n0)]; exact n0
                have q1 : wr.cell? ⟨bn, on + k * 3 + 1, none⟩ = some (.string l[k].n) := by rw [YW.out.cell (Ap.cell_lt n1)]; exact n1
                have q2 : wr.cell? ⟨bn, on + k * 3 + 2, none⟩ = some (.int .i64 l[k].s) := by rw [YW.out.cell (Ap.cell_lt n2)]; exact n2
                have HTK := Lib.hid (any_take (fun x => decide (x = (⟨1, s, 0⟩ : Nd))) l k hkl)
                have hq := eq_ndP l[k] ⟨1, s, 0⟩
                generalize l[k] = y at *
                obtain ⟨Q, hQ⟩ : ∃ Q, (l.take k).any (fun x => decide (x = (⟨1, s, 0⟩ : Nd))) = Q := ⟨_, rfl⟩
                rw [hQ] at HTK ⊢
                clear n0 n1 n2 hat hQ
                have CX := Lib.hid (box_cells wr y.k y.s y.n 30)
                have BW := Lib.hid (YB.out.trans ((below1 wr (.cells #[.int .i64 y.k, .string y.n, .int .i64 y.s] 30)).mono YB.out.size))
                have bsz : (wr.alloc (.cells #[.int .i64 y.k, .string y.n, .int .i64 y.s] 30)).heap.size = wr.heap.size + 1 := by simp
                have hys := YB.out.size
                obtain ⟨dd, hdd⟩ : ∃ d, decide (y = (⟨1, s, 0⟩ : Nd)) = d := ⟨_, rfl⟩
                rw [hdd] at hq HTK
                clear hdd
                cases Q with
                | true =>
                  have HT2 : Hid ((l.take (k + 1)).any (fun x => decide (x = (⟨1, s, 0⟩ : Nd))) = true) := Lib.hid HTK.out
                  clear HTK
                  go_wp2_with fail
                  go_quiet (fail)
                  go_wp2_with fail
                  go_roundw
                  case rel => exact ⟨k + 1, by omega, by go_num, by rw [HT2.out], by first | exact BW.out.trans (Below.drewN _ _ _) | exact BW.out⟩
                  case measure => simp [intOf]; omega
                | false =>
                  have HT2 : Hid ((l.take (k + 1)).any (fun x => decide (x = (⟨1, s, 0⟩ : Nd))) = dd) := Lib.hid HTK.out
                  clear HTK
                  go_wp2_with fail
                  go_region_held3 (fun w' => w'.cell? ⟨wr.heap.size, 0, none⟩ = some (.int .i64 y.k) ∧ w'.cell? ⟨wr.heap.size, 1, none⟩ = some (.string y.n) ∧ w'.cell? ⟨wr.heap.size, 2, none⟩ = some (.int .i64 y.s)) (first | exact CX.out _ (Below.refl _ _).drew | exact CX.out _ BX.out | fail) (first
                    | (go_at_call 24
                       (with_reducible refine (act_any s _).mono ?_)
                       rintro e wq ⟨rfl, hb1⟩
                       have BX : Hid (Below (wr.alloc (.cells #[.int .i64 y.k, .string y.n, .int .i64 y.s] 30)).heap.size (wr.alloc (.cells #[.int .i64 y.k, .string y.n, .int .i64 y.s] 30)) wq) := Lib.hid ((Below.refl _ _).drew.trans hb1)
                       have BY := Lib.hid (BW.out.trans (BX.out.mono (by rw [bsz]; omega)))
                       clear hb1)
                    | fail)
                  go_wp2_with fail
                  go_roundw
                  case rel => exact ⟨k + 1, by omega, by go_num, by rw [HT2.out], BY.out⟩
                  case measure => simp [intOf]; omega
              · have hke : k = l.length := by omega
                subst hke
                rw [List.take_length, HYS.out]
                go_wp2_with fail
                go_roundw
                case rel => exact ⟨j + 1, by omega, by go_num, YW.out⟩
                case measure => simp [intOf]; omega
          · have hje : j = names.length := by omega
            subst hje
            go_wp2_with fail
            refine (alive_any _).mono ?_
            rintro e wn ⟨rfl, hb⟩
            have D3 := Lib.hid (D2.out.trans (XB.out.mono D2.out.size))
            have D4 := Lib.hid (D3.out.trans (hb.mono D3.out.size))
            clear hb
            go_wp2_with fail
            go_ret
            exact ⟨rfl, D4.out⟩
end Go.Proofs.Ytgaediondmdnbaa.Se
