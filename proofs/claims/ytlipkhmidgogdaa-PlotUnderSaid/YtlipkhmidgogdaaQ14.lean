/- PlotUnder: plain; what holds in the midst of its last region. PlotUnder. -/
import Derived.Test.YtlipkhmidgogdaaQ13
import Derived.Test.YtlipkhmidgogdaaQ04

namespace Go.Proofs.Ytlipkhmidgogdaa.Pl
open Go Go.RowKit Go.Proofs.Ytlipkhmidgogdaa.Rw Go.Proofs.Ytlipkhmidgogdaa.So Go.Proofs.Ytlipkhmidgogdaa.Ro
set_option maxRecDepth 20000

def nBlk : Nd := ⟨9, ⟨#[]⟩, 0⟩
def nPar : Nd := ⟨7, ⟨#[]⟩, 0⟩
theorem tre_blk {a : List Nd} (h : Tre a) : Tre (nBlk :: a) := by
  obtain ⟨d, hd⟩ := h
  refine ⟨d + 1, ?_⟩
  rw [T_cons, if_neg (show ¬ ar nBlk.k < 0 by decide), show (ar nBlk.k).toNat = 0 + 1 from rfl, S_succ, S_zero]
  simp only [List.drop_zero, hd]
  simp
theorem tre_par {a b : List Nd} (h : Tre a) (h' : Tre b) : Tre (nPar :: (a ++ b)) := by
  obtain ⟨d, hd⟩ := h
  obtain ⟨d', hd'⟩ := h'
  refine ⟨max d d' + 1, ?_⟩
  rw [T_cons, if_neg (show ¬ ar nPar.k < 0 by decide), show (ar nPar.k).toNat = 0 + 1 + 1 from rfl, S_succ, S_succ, S_zero]
  simp only [List.drop_zero, T_append b hd]
  have e : (a ++ b).drop (0 + a.length) = b := by simp
  rw [e]
  simp only [hd']
  simp
theorem pts_one {l : List Nd} (h : Tre l) : (pts l).length = l.length := by
  unfold pts rounds
  rw [one_tre.2 h, ptsN_len]
  rfl
theorem at_u {a : List Nd} (h : Tre a) {k : Nat} (hk : k < a.length) : pt (nBlk :: a) (k + 1) = ((pt a k).1, (pt a k).2 + 1) := by
  have ht := tre_blk h
  unfold pt
  rw [xl_cons (by decide), ov_cons (by rw [zz_zero ht]; simpa using hk)]
theorem at_v {a b : List Nd} (h : Tre a) (h' : Tre b) {k : Nat} (hk : k < a.length) : pt (nPar :: (a ++ b)) (k + 1) = ((pt a k).1, (pt a k).2 + 1) := by
  have ht := tre_par h h'
  unfold pt
  rw [xl_cons (by decide), ov_cons (by rw [zz_zero ht]; simp; omega), xl_left _ _ (by omega), ov_left h b hk]
theorem at_w {a b : List Nd} (h : Tre a) (h' : Tre b) {k : Nat} (hk : k < b.length) : pt (nPar :: (a ++ b)) (a.length + k + 1) = ((bxs a).1 + (pt b k).1, (pt b k).2 + 1) := by
  have ht := tre_par h h'
  have e : (bxs a).1 = xl a a.length := by unfold bxs; rw [one_tre.2 h]; rfl
  rw [e]
  unfold pt
  rw [xl_cons (by decide), ov_cons (by rw [zz_zero ht]; simp; omega), xl_right, ov_right h]
theorem one_row' {w : World} {y1 : Value} {l1 : List Nd} (h1 : Nds w y1 l1) (ty : TypeId) : Rws (w.alloc (.cells #[y1] ty)) (.slice (some ⟨w.heap.size, 0, none⟩) 1 1) [l1] := by
  refine ⟨[y1], ⟨rfl, _, 1, rfl, Nat.le_refl _, fun h => (by cases h), fun _ => ⟨w.heap.size, 0, rfl, fun j u hu => ?_⟩⟩, h1.below (below1 w _), trivial⟩
  match j with
  | 0 => simp at hu; subst hu; simp
  | j + 1 => simp at hu
theorem two_row' {w : World} {y1 y2 : Value} {l1 l2 : List Nd} (h1 : Nds w y1 l1) (h2 : Nds w y2 l2) (ty : TypeId) : Rws (w.alloc (.cells #[y1, y2] ty)) (.slice (some ⟨w.heap.size, 0, none⟩) 2 2) [l1, l2] := by
  refine ⟨[y1, y2], ⟨rfl, _, 2, rfl, Nat.le_refl _, fun h => (by cases h), fun _ => ⟨w.heap.size, 0, rfl, fun j u hu => ?_⟩⟩, h1.below (below1 w _), h2.below (below1 w _), trivial⟩
  match j with
  | 0 => simp at hu; subst hu; simp
  | 1 => simp at hu; subst hu; simp
  | j + 2 => simp at hu
theorem make_blk {w : World} {y1 : Value} {a : List Nd} (h1 : Nds w y1 a) (hl : a.length ≤ 1000) (ty : TypeId) :
    Calls Try.prog 25 #[.agg #[.int .i64 9, .string ⟨#[]⟩, .int .i64 0], .slice (some ⟨w.heap.size, 0, none⟩) 1 1] (w.alloc (.cells #[y1] ty)) fun e w' => ∃ y, e = .returned y ∧ Nds w' y (nBlk :: a) ∧ Below w.heap.size w w' := by
  refine (Rx.makeP_any nBlk _ [a] _ (one_row' h1 ty) (by simp) (by simp; omega)).mono ?_
  rintro e w' ⟨y, rfl, hy, hb⟩
  have e0 : nBlk :: [a].flatten = nBlk :: a := by simp
  rw [e0] at hy
  exact ⟨_, rfl, hy.rd, (below1 w _).trans (hb.mono (below1 w _).size)⟩
theorem make_par {w : World} {y1 y2 : Value} {a b : List Nd} (h1 : Nds w y1 a) (h2 : Nds w y2 b) (hl : a.length + b.length ≤ 1000) (ty : TypeId) :
    Calls Try.prog 25 #[.agg #[.int .i64 7, .string ⟨#[]⟩, .int .i64 0], .slice (some ⟨w.heap.size, 0, none⟩) 2 2] (w.alloc (.cells #[y1, y2] ty)) fun e w' => ∃ y, e = .returned y ∧ Nds w' y (nPar :: (a ++ b)) ∧ Below w.heap.size w w' := by
  refine (Rx.makeP_any nPar _ [a, b] _ (two_row' h1 h2 ty) (by simp) (by simp; omega)).mono ?_
  rintro e w' ⟨y, rfl, hy, hb⟩
  have e0 : nPar :: [a, b].flatten = nPar :: (a ++ b) := by simp
  rw [e0] at hy
  exact ⟨_, rfl, hy.rd, (below1 w _).trans (hb.mono (below1 w _).size)⟩
theorem cell_of {w : World} {v : Value} {P : List (Nat × Nat)} (h : Cxs w v P) {k : Nat} (hk : k < P.length) : ∃ b off c, v = .slice (some ⟨b, off, none⟩) P.length c ∧ ∀ j, (hj : j < P.length) → w.cell? ⟨b, off + j, none⟩ = some (.complex .f64 (fo P[j].1) (fo P[j].2)) := by
  rcases h.form with ⟨rfl, _⟩ | ⟨b, off, c, e, hat⟩
  · exact absurd hk (Nat.not_lt_zero k)
  · exact ⟨b, off, c, e, hat⟩

/-- The last region. -/
def Ru (vv vx vy va : Value) (na k bv ov_ by_ oy f1 f2 g1 g2 g3 d1 d2 h1 : Nat) (i : Nat) (u : Value) (_ : World) : Prop := match i with
  | 0 => u = vv
  | 1 => u = vx
  | 2 => u = .int .i64 (na : Nat)
  | 3 => u = .int .i64 (k : Nat)
  | 4 => u = .int .i64 (na + k : Nat)
  | 5 => u = .int .i64 (na + k + 1 : Nat)
  | 6 => u = .pointer (some ⟨bv, ov_ + (na + k + 1), none⟩)
  | 7 => u = .complex .f64 f1 f2
  | 8 => u = vy
  | 9 => u = .int .i64 (k : Nat)
  | 10 => u = .pointer (some ⟨by_, oy + k, none⟩)
  | 11 => u = .complex .f64 g1 g2
  | 12 => u = .complex .f64 g1 g3
  | 13 => u = va
  | 14 => u = .complex .f64 d1 d2
  | 15 => u = .float .f64 d1
  | 16 => u = .complex .f64 d1 h1
  | 17 => u = .complex .f64 f1 f2
  | 18 => u = .bool false
  | _ => True
def tabU : List (List Nat) := []
end Go.Proofs.Ytlipkhmidgogdaa.Pl

namespace Go.Proofs.Ytlipkhmidgogdaa.Pl
open Go Go.RowKit Go.Proofs.Ytlipkhmidgogdaa.Rw Go.Proofs.Ytlipkhmidgogdaa.So Go.Proofs.Ytlipkhmidgogdaa.Ro
set_option maxRecDepth 20000

set_option maxHeartbeats 1500000 in
theorem under_law (v v' : Value) (a b : List Nd) (w : World) (hv : Nds w v a) (hv' : Nds w v' b) (hla : a.length ≤ 4398046511104) (hlb : b.length ≤ 4398046511104) :
    Calls Try.prog 8 #[v, v'] w fun e w' => e = .returned (.bool true) ∧ Below w.heap.size w w' := by
  have HN := Lib.hid hv
  have HN' := Lib.hid hv'
  obtain ⟨_, aa, ca, rfl, -⟩ := hv
  obtain ⟨_, ab, cb, rfl, -⟩ := hv'
  obtain ⟨na, hna⟩ : ∃ na, (pts a).length = na := ⟨_, rfl⟩
  obtain ⟨nb', hnb⟩ : ∃ nb', (pts b).length = nb' := ⟨_, rfl⟩
  have HNA := Lib.hid hna
  have HNB := Lib.hid hnb
  have hnal : na ≤ a.length := by rw [← hna]; exact pts_len a
  have hnbl : nb' ≤ b.length := by rw [← hnb]; exact pts_len b
  clear hna hnb
  go_enter Try.func8, Try.ntmps8
  go_wp2_with fail
  refine (pointsP_any _ a _ HN.out hla).mono ?_
  rintro e w1 ⟨vx, rfl, hvx, hb1⟩
  have HB1 := Lib.hid hb1
  have HVX := Lib.hid hvx
  obtain ⟨ax, cx', rfl⟩ : ∃ ax cx', vx = .slice ax na cx' := by
    obtain ⟨_, ax, cx', e, -⟩ := hvx
    exact ⟨ax, cx', by rw [e, HNA.out]⟩
  clear hvx hb1
  go_wp2_with fail
  refine (pointsP_any _ b _ (HN'.out.below HB1.out) hlb).mono ?_
  rintro e w2 ⟨vy, rfl, hvy, hb2⟩
  replace HB1 := Lib.hid (HB1.out.trans (hb2.mono HB1.out.size))
  replace HVX := Lib.hid (HVX.out.below hb2)
  have HVY := Lib.hid hvy
  obtain ⟨ay, cy', rfl⟩ : ∃ ay cy', vy = .slice ay nb' cy' := by
    obtain ⟨_, ay, cy', e, -⟩ := hvy
    exact ⟨ay, cy', by rw [e, HNB.out]⟩
  clear hvy hb2
  by_cases h200 : 200 < a.length + b.length
  · have g1 : decide ((200 : Int) < (a.length : Int) + (b.length : Int)) = true := decide_eq_true (by omega)
    go_wp2_with fail
    refine (alive_any _).mono ?_
    rintro e w3 ⟨rfl, hb⟩
    replace HB1 := Lib.hid (HB1.out.trans (hb.mono HB1.out.size))
    clear hb
    go_wp2_with fail
    go_ret
    exact ⟨rfl, HB1.out⟩
  by_cases hx0 : na = 0
  · subst hx0
    have g1 : decide ((200 : Int) < (a.length : Int) + (b.length : Int)) = false := decide_eq_false (by omega)
    go_wp2_with fail
    refine (alive_any _).mono ?_
    rintro e w3 ⟨rfl, hb⟩
    replace HB1 := Lib.hid (HB1.out.trans (hb.mono HB1.out.size))
    clear hb
    go_wp2_with fail
    go_ret
    exact ⟨rfl, HB1.out⟩
  by_cases hy0 : nb' = 0
  · subst hy0
    have g1 : decide ((200 : Int) < (a.length : Int) + (b.length : Int)) = false := decide_eq_false (by omega)
    have g2 : ((na : Int) == 0) = false := by rw [beq_eq_false_iff_ne]; omega
    go_wp2_with fail
    refine (alive_any _).mono ?_
    rintro e w3 ⟨rfl, hb⟩
    replace HB1 := Lib.hid (HB1.out.trans (hb.mono HB1.out.size))
    clear hb
    go_wp2_with fail
    go_ret
    exact ⟨rfl, HB1.out⟩
  have h1a : one a = true := (pts_at (l := a) (k := 0) (by rw [HNA.out]; omega)).2.1
  have h1b : one b = true := (pts_at (l := b) (k := 0) (by rw [HNB.out]; omega)).2.1
  have hta := one_tre.1 h1a
  have htb := one_tre.1 h1b
  have hea : a.length = na := by rw [← HNA.out, pts_one hta]
  have heb : b.length = nb' := by rw [← HNB.out, pts_one htb]
  have HEA := Lib.hid hea
  have HEB := Lib.hid heb
  -- the points of the three rows
  have hpa : ∀ k, (hk : k < na) → (pts a)[k]? = some (pt a k) ∧ (pt a k).1 ≤ 200 ∧ (pt a k).2 ≤ 200 := fun k hk => by
    have h := pts_at (l := a) (k := k) (by rw [HNA.out]; exact hk)
    refine ⟨by rw [List.getElem?_eq_getElem (by rw [HNA.out]; exact hk), h.1], ?_, ?_⟩
    · exact Nat.le_trans (Nat.le_trans List.countP_le_length (by rw [List.length_take]; exact Nat.min_le_right _ _)) (by omega : a.length ≤ 200)
    · show (ov a k).length ≤ 200
      unfold ov
      exact Nat.le_trans (List.length_filter_le _ _) (by simp; omega)
  have hpb : ∀ k, (hk : k < nb') → (pts b)[k]? = some (pt b k) ∧ (pt b k).1 ≤ 200 ∧ (pt b k).2 ≤ 200 := fun k hk => by
    have h := pts_at (l := b) (k := k) (by rw [HNB.out]; exact hk)
    refine ⟨by rw [List.getElem?_eq_getElem (by rw [HNB.out]; exact hk), h.1], ?_, ?_⟩
    · exact Nat.le_trans (Nat.le_trans List.countP_le_length (by rw [List.length_take]; exact Nat.min_le_right _ _)) (by omega : b.length ≤ 200)
    · show (ov b k).length ≤ 200
      unfold ov
      exact Nat.le_trans (List.length_filter_le _ _) (by simp; omega)
  have hul : (pts (nBlk :: a)).length = na + 1 := by rw [pts_one (tre_blk hta), List.length_cons, hea]
  have hvl : (pts (nPar :: (a ++ b))).length = na + nb' + 1 := by rw [pts_one (tre_par hta htb), List.length_cons, List.length_append, hea, heb]
  have hpu : ∀ k, (hk : k < na) → (pts (nBlk :: a))[k + 1]? = some ((pt a k).1, (pt a k).2 + 1) := fun k hk => by
    have h := pts_at (l := nBlk :: a) (k := k + 1) (by rw [hul]; omega)
    rw [List.getElem?_eq_getElem (by rw [hul]; omega), h.1, at_u hta (by rw [hea]; exact hk)]
  have hpv : ∀ k, (hk : k < na) → (pts (nPar :: (a ++ b)))[k + 1]? = some ((pt a k).1, (pt a k).2 + 1) := fun k hk => by
    have h := pts_at (l := nPar :: (a ++ b)) (k := k + 1) (by rw [hvl]; omega)
    rw [List.getElem?_eq_getElem (by rw [hvl]; omega), h.1, at_v hta htb (by rw [hea]; exact hk)]
  have hpw : ∀ k, (hk : k < nb') → (pts (nPar :: (a ++ b)))[na + k + 1]? = some ((bxs a).1 + (pt b k).1, (pt b k).2 + 1) := fun k hk => by
    have h := pts_at (l := nPar :: (a ++ b)) (k := na + k + 1) (by rw [hvl]; omega)
    rw [List.getElem?_eq_getElem (by rw [hvl]; omega), h.1, ← hea, at_w hta htb (by rw [heb]; exact hk)]
  have hbx : (bxs a).1 ≤ 200 := by
    unfold bxs
    rw [h1a]
    exact Nat.le_trans (Nat.le_trans List.countP_le_length (by rw [List.length_take]; exact Nat.min_le_right _ _)) (by omega : a.length ≤ 200)
  have hmp := fun wx (h1 : Nds wx (.slice aa a.length ca) a) (h2 : Nds wx (.slice ab b.length cb) b) => make_par h1 h2 (by omega) 22
  have hlpl : (nPar :: (a ++ b)).length ≤ 4398046511104 := by simp; omega
  obtain ⟨lp, hlp⟩ : ∃ lp, nPar :: (a ++ b) = lp := ⟨_, rfl⟩
  rw [hlp] at hvl hlpl hmp
  simp only [hlp] at hpv hpw
  have HMPA := Lib.hid hmp
  have HLPL := Lib.hid hlpl
  have HPA := Lib.hid hpa
  have HPB := Lib.hid hpb
  have HPU := Lib.hid hpu
  have HPV := Lib.hid hpv
  have HPW := Lib.hid hpw
  have HUL := Lib.hid hul
  have HVL := Lib.hid hvl
  have HBXL := Lib.hid hbx
  have hn200 : na + nb' ≤ 200 := by omega
  have g1 : decide ((200 : Int) < (a.length : Int) + (b.length : Int)) = false := decide_eq_false (by omega)
  have g2 : ((na : Int) == 0) = false := by rw [beq_eq_false_iff_ne]; omega
  have g3 : ((nb' : Int) == 0) = false := by rw [beq_eq_false_iff_ne]; omega
  clear hpa hpb hpu hpv hpw hul hvl hbx hmp hlpl hlp h1a h1b hta htb hea heb
  go_wp2_with fail
  have HMB := Lib.hid (make_blk (HN.out.below HB1.out) (by omega) 22)
  refine HMB.out.mono ?_
  rintro e w3 ⟨y, rfl, hy, hb⟩
  replace HB1 := Lib.hid (HB1.out.trans (hb.mono HB1.out.size))
  replace HVX := Lib.hid (HVX.out.below hb)
  replace HVY := Lib.hid (HVY.out.below hb)
  have HY := Lib.hid hy
  obtain ⟨_, yu, yc, rfl, -⟩ := hy
  clear hb HMB
  go_wp2_with fail
  refine (pointsP_any _ (nBlk :: a) _ HY.out (by simp; omega)).mono ?_
  rintro e w4 ⟨vu, rfl, hvu, hb⟩
  replace HB1 := Lib.hid (HB1.out.trans (hb.mono HB1.out.size))
  replace HVX := Lib.hid (HVX.out.below hb)
  replace HVY := Lib.hid (HVY.out.below hb)
  have HVU := Lib.hid hvu
  obtain ⟨au, cu, rfl⟩ : ∃ au cu, vu = .slice au (na + 1) cu := by
    obtain ⟨_, au, cu, e, -⟩ := hvu
    exact ⟨au, cu, by rw [e, HUL.out]⟩
  clear hvu hb HY
  go_wp2_with fail
  refine (HMPA.out _ (HN.out.below HB1.out) (HN'.out.below HB1.out)).mono ?_
  rintro e w5 ⟨y, rfl, hy, hb⟩
  replace HB1 := Lib.hid (HB1.out.trans (hb.mono HB1.out.size))
  replace HVX := Lib.hid (HVX.out.below hb)
  replace HVY := Lib.hid (HVY.out.below hb)
  replace HVU := Lib.hid (HVU.out.below hb)
  have HY := Lib.hid hy
  obtain ⟨_, yv, yw, rfl, -⟩ := hy
  clear hb
  go_wp2_with fail
  refine (pointsP_any _ lp _ HY.out HLPL.out).mono ?_
  rintro e w6 ⟨vv, rfl, hvv, hb⟩
  replace HB1 := Lib.hid (HB1.out.trans (hb.mono HB1.out.size))
  replace HVX := Lib.hid (HVX.out.below hb)
  replace HVY := Lib.hid (HVY.out.below hb)
  replace HVU := Lib.hid (HVU.out.below hb)
  have HVV := Lib.hid hvv
  obtain ⟨av, cv, rfl⟩ : ∃ av cv, vv = .slice av (na + nb' + 1) cv := by
    obtain ⟨_, av, cv, e, -⟩ := hvv
    exact ⟨av, cv, by rw [e, HVL.out]⟩
  clear hvv hb HY
  -- where all of them lie
  obtain ⟨bX, oX, cX, eX, hX⟩ := cell_of HVX.out (k := 0) (by rw [HNA.out]; omega)
  obtain ⟨bY, oY, cY, eY, hY⟩ := cell_of HVY.out (k := 0) (by rw [HNB.out]; omega)
  obtain ⟨bU, oU, cU, eU, hU⟩ := cell_of HVU.out (k := 0) (by rw [HUL.out]; omega)
  obtain ⟨bV, oV, cV, eV, hV⟩ := cell_of HVV.out (k := 0) (by rw [HVL.out]; omega)
  simp only [Value.slice.injEq] at eX eY eU eV
  obtain ⟨rfl, -, -⟩ := eX
  obtain ⟨rfl, -, -⟩ := eY
  obtain ⟨rfl, -, -⟩ := eU
  obtain ⟨rfl, -, -⟩ := eV
  have key : ∀ {P : List (Nat × Nat)} {bb oo : Nat} (h : ∀ j, (hj : j < P.length) → w6.cell? ⟨bb, oo + j, none⟩ = some (.complex .f64 (fo P[j].1) (fo P[j].2))) {j : Nat} {p : Nat × Nat} (hp : P[j]? = some p) (wx : World) (hb : Below w6.heap.size w6 wx), wx.cell? ⟨bb, oo + j, none⟩ = some (.complex .f64 (fo p.1) (fo p.2)) := by
    intro P bb oo h j p hp wx hb
    obtain ⟨hj, rfl⟩ := List.getElem?_eq_some_iff.1 hp
    rw [hb.cell (Ap.cell_lt (h j hj))]
    exact h j hj
  have HX : Hid (∀ k, (hk : k < na) → ∀ wx, Below w6.heap.size w6 wx → wx.cell? ⟨bX, oX + k, none⟩ = some (.complex .f64 (fo (pt a k).1) (fo (pt a k).2)) ∧ wx.cell? ⟨bU, oU + (k + 1), none⟩ = some (.complex .f64 (fo (pt a k).1) (fo ((pt a k).2 + 1 : Nat))) ∧ wx.cell? ⟨bV, oV + (k + 1), none⟩ = some (.complex .f64 (fo (pt a k).1) (fo ((pt a k).2 + 1 : Nat)))) := Lib.hid fun k hk wx hb =>
    ⟨key hX (HPA.out k hk).1 wx hb, key hU (HPU.out k hk) wx hb, key hV (HPV.out k hk) wx hb⟩
  have HW : Hid (∀ k, (hk : k < nb') → ∀ wx, Below w6.heap.size w6 wx → wx.cell? ⟨bY, oY + k, none⟩ = some (.complex .f64 (fo (pt b k).1) (fo (pt b k).2)) ∧ wx.cell? ⟨bV, oV + (na + k + 1), none⟩ = some (.complex .f64 (fo ((bxs a).1 + (pt b k).1 : Nat)) (fo ((pt b k).2 + 1 : Nat)))) := Lib.hid fun k hk wx hb =>
    ⟨key hY (HPB.out k hk).1 wx hb, key hV (HPW.out k hk) wx hb⟩
  clear hX hY hU hV HVX HVY HVU HVV
  have g4 : ((na : Int) + 1 != (na : Int) + 1) = false := by rw [bne_eq_false_iff_eq]
  go_wp2_with fail
  go_loopw [62] (fun iv wr => ∃ k : Nat, k ≤ na ∧ iv = .int .i64 k ∧ Hid (Below w6.heap.size w6 wr)) (fun iv _ => na - (intOf iv).toNat)
  case atStart => exact ⟨0, Nat.zero_le _, rfl, Lib.hid (Below.refl _ _)⟩
  case round =>
    obtain ⟨k, hk, rfl, HB⟩ := hrel
    by_cases hlt : k < na
    · obtain ⟨c1, c2, c3⟩ := HX.out k hlt wr HB.out
      obtain ⟨_, s1, s2⟩ := HPA.out k hlt
      obtain ⟨p, hp⟩ : ∃ p, pt a k = p := ⟨_, rfl⟩
      rw [hp] at c1 c2 c3 s1 s2
      have ha : ∀ w, (binOp .add 27 (.complex .f64 (fo p.1) (fo p.2)) (.complex .f64 0 4607182418800017408)).run Try.prog w = .ok (.complex .f64 (fo p.1) (fo ((p.2 + 1 : Nat) : Int))) w := fun w => by
        rw [← fo_one, ← fo_zero, add_run (by omega) (by omega) (by omega) (by omega)]
        rw [Int.add_zero]
        rfl
      have q1 := order_same (n := (p.1 : Int)) (by omega)
      have q2 := order_same (n := ((p.2 + 1 : Nat) : Int)) (by omega)
      obtain ⟨ff1, hf1⟩ : ∃ f, fo (p.1 : Int) = f := ⟨_, rfl⟩
      obtain ⟨ff2, hf2⟩ : ∃ f, fo (p.2 : Int) = f := ⟨_, rfl⟩
      obtain ⟨ff3, hf3⟩ : ∃ f, fo ((p.2 + 1 : Nat) : Int) = f := ⟨_, rfl⟩
      simp only [hf1, hf2, hf3] at c1 c2 c3 ha q1 q2
      have i1 : (k : Int) < (na : Int) := by omega
      have i2 : (k : Int) + 1 < (na : Int) + 1 := by omega
      have i3 : (k : Int) + 1 < (na : Int) + (nb' : Int) + 1 := by omega
      clear hp hf1 hf2 hf3 s1 s2
      go_wp2_with fail
      go_quiet (fail)
      have HB' := Lib.hid (HB.out.trans ((Below.drewN w6.heap.size nq wr)))
      go_wp2_with fail
      go_roundw
      case rel => exact ⟨k + 1, by omega, by go_num, HB'⟩
      case measure => simp [intOf]; omega
    · have HBA := Lib.hid HB.out
      go_wp2_with fail
      go_loopw [92] (fun iv wy => ∃ k : Nat, k ≤ nb' ∧ iv = .int .i64 k ∧ Hid (Below w6.heap.size w6 wy)) (fun iv _ => nb' - (intOf iv).toNat)
      case atStart => exact ⟨0, Nat.zero_le _, rfl, HBA⟩
      case round =>
        obtain ⟨k, hk, rfl, HB⟩ := hrel
        by_cases hlt : k < nb'
        · obtain ⟨_, s1, s2⟩ := HPB.out k hlt
          have hs3 := HBXL.out
          have HC : Hid (∀ wx, Below w6.heap.size w6 wx → _) := Lib.hid (HW.out k hlt)
          obtain ⟨p, hp⟩ : ∃ p, pt b k = p := ⟨_, rfl⟩
          have hbs := bxs_small (l := a) hla
          have HBox := Lib.hid (fun wx (h : Nds wx (.slice aa a.length ca) a) => boxP_any _ a wx h (by omega))
          obtain ⟨bx, hbx⟩ : ∃ bx, bxs a = bx := ⟨_, rfl⟩
          rw [hp] at HC s1 s2
          rw [hbx] at HC hs3 HBox hbs
          unfold cx at HBox
          have ha : ∀ w, (binOp .add 27 (.complex .f64 (fo p.1) (fo p.2)) (.complex .f64 0 4607182418800017408)).run Try.prog w = .ok (.complex .f64 (fo p.1) (fo ((p.2 + 1 : Nat) : Int))) w := fun w => by
            rw [← fo_one, ← fo_zero, add_run (by omega) (by omega) (by omega) (by omega)]
            rw [Int.add_zero]
            rfl
          have ha2 : ∀ w, (binOp .add 27 (.complex .f64 (fo p.1) (fo ((p.2 + 1 : Nat) : Int))) (.complex .f64 (fo bx.1) 0)).run Try.prog w = .ok (.complex .f64 (fo ((bx.1 + p.1 : Nat) : Int)) (fo ((p.2 + 1 : Nat) : Int))) w := fun w => by
            rw [← fo_zero, add_run (by omega) (by omega) (by omega) (by omega)]
            rw [Int.add_zero, show ((p.1 : Int) + (bx.1 : Int)) = ((bx.1 + p.1 : Nat) : Int) by omega]
          have q1 := order_same (n := ((bx.1 + p.1 : Nat) : Int)) (by omega)
          have q2 := order_same (n := ((p.2 + 1 : Nat) : Int)) (by omega)
          obtain ⟨ff1, hf1⟩ : ∃ f, fo ((bx.1 + p.1 : Nat) : Int) = f := ⟨_, rfl⟩
          obtain ⟨ff2, hf2⟩ : ∃ f, fo ((p.2 + 1 : Nat) : Int) = f := ⟨_, rfl⟩
          obtain ⟨g1', hg1⟩ : ∃ f, fo (p.1 : Int) = f := ⟨_, rfl⟩
          obtain ⟨g2', hg2⟩ : ∃ f, fo (p.2 : Int) = f := ⟨_, rfl⟩
          obtain ⟨dd1, hd1⟩ : ∃ f, fo (bx.1 : Int) = f := ⟨_, rfl⟩
          obtain ⟨dd2, hd2⟩ : ∃ f, fo (bx.2 : Int) = f := ⟨_, rfl⟩
          simp only [hf1, hf2, hg1, hg2, hd1, hd2] at HC ha ha2 q1 q2 HBox
          have i1 : (k : Int) < (nb' : Int) := by omega
          have i2 : (na : Int) + (k : Int) + 1 < (na : Int) + (nb' : Int) + 1 := by omega
          have HBW := Lib.hid (HB1.out.trans (HB.out.mono HB1.out.size))
          clear hp hbx hf1 hf2 hg1 hg2 hd1 hd2 s1 s2 hs3 hbs
          go_wp2_with fail
          refine Rq.wp_region_steps (by kernel_rfl) [(0, some 95), (1, some 96), (2, some 97), (3, some 98), (4, some 99), (5, some 100), (6, some 101), (7, some 102), (8, some 103), (9, some 104), (10, some 105), (11, some 106), (12, some 107), (13, some 108), (14, some 109), (15, some 110), (16, some 111), (17, some 112), (18, some 113)] (by rfl) (by kernel_rfl) (by kernel_rfl) tabU (by kernel_rfl) (by kernel_rfl) (fun _ _ => False) (Below w6.heap.size w6) (Ru (.slice (some ⟨bV, oV, none⟩) (na + nb' + 1) cv) (.slice (some ⟨bX, oX, none⟩) na cx') (.slice (some ⟨bY, oY, none⟩) nb' cy') (.slice aa a.length ca) na k bV oV bY oY ff1 ff2 g1' g2' ff2 dd1 dd2 0) (fun _ _ => True) (fun _ _ _ _ => True) (fun i w w' h ht => h.trans ((ht.below (Nat.le_refl _) fun _ h => h.elim).mono h.size)) (fun _ _ _ _ _ _ _ _ _ h _ => h) (fun _ _ _ _ _ _ _ _ _ => trivial) (HB.out.trans ((Below.drewN w6.heap.size 1 _))) (fun i v w hi => ?_) (fun i hi => trivial) ⟨⟨⟨⟨⟨⟨⟨⟨⟨⟨⟨⟨⟨⟨⟨⟨⟨⟨⟨True.intro, ?_⟩, ?_⟩, ?_⟩, ?_⟩, ?_⟩, ?_⟩, ?_⟩, ?_⟩, ?_⟩, ?_⟩, ?_⟩, ?_⟩, ?_⟩, ?_⟩, ?_⟩, ?_⟩, ?_⟩, ?_⟩, ?_⟩ ?_
          · unfold Ru
            split
            case h_20 => trivial
            all_goals exact absurd hi (by decide)
          · intro o ho us wl al ha hB hN hdep hslot K hKf
            obtain rfl := Option.some.inj ho
            have e8 : al.tmps[8]?.getD undef = .slice (some ⟨bV, oV, none⟩) (na + nb' + 1) cv := by rw [← Rg.eval_getD, ha]; exact (Rg.puts_eval_ne _ _ _ (by rfl)).trans rfl
            clear ha hdep hslot
            refine Rg.wpOp_of rfl rfl ?_
            go_simp
            exact hKf _ _ (rfl) (Turn.refl _ _) (fun _ _ _ _ _ _ => ⟨trivial, trivial⟩)
          · intro o ho us wl al ha hB hN hdep hslot K hKf
            obtain rfl := Option.some.inj ho
            have e5 : al.tmps[5]?.getD undef = .slice (some ⟨bX, oX, none⟩) na cx' := by rw [← Rg.eval_getD, ha]; exact (Rg.puts_eval_ne _ _ _ (by rfl)).trans rfl
            clear ha hdep hslot
            refine Rg.wpOp_of rfl rfl ?_
            go_simp
            exact hKf _ _ (rfl) (Turn.refl _ _) (fun _ _ _ _ _ _ => ⟨trivial, trivial⟩)
          · intro o ho us wl al ha hB hN hdep hslot K hKf
            obtain rfl := Option.some.inj ho
            have d1 : (Ru (.slice (some ⟨bV, oV, none⟩) (na + nb' + 1) cv) (.slice (some ⟨bX, oX, none⟩) na cx') (.slice (some ⟨bY, oY, none⟩) nb' cy') (.slice aa a.length ca) na k bV oV bY oY ff1 ff2 g1' g2' ff2 dd1 dd2 0) 1 (us 1) wl := hdep ⟨1, .data⟩ (by simp) rfl
            have e96 : al.tmps[96]?.getD undef = us 1 := by rw [← Rg.eval_getD, ha]; exact Rg.puts_eval _ _ _ (by rfl) (by simp) (by simp)
            clear ha hdep hslot
            have f1 : us 1 = .slice (some ⟨bX, oX, none⟩) na cx' := d1
            clear d1
            refine Rg.wpOp_of rfl rfl ?_
            go_simp
            exact hKf _ _ (rfl) (Turn.refl _ _) (fun _ _ _ _ _ _ => ⟨trivial, trivial⟩)
          · intro o ho us wl al ha hB hN hdep hslot K hKf
            obtain rfl := Option.some.inj ho
            have e10 : al.tmps[10]?.getD undef = .int .i64 (k : Nat) := by rw [← Rg.eval_getD, ha]; exact (Rg.puts_eval_ne _ _ _ (by rfl)).trans rfl
            clear ha hdep hslot
            refine Rg.wpOp_of rfl rfl ?_
            go_simp
            exact hKf _ _ (rfl) (Turn.refl _ _) (fun _ _ _ _ _ _ => ⟨trivial, trivial⟩)
          · intro o ho us wl al ha hB hN hdep hslot K hKf
            obtain rfl := Option.some.inj ho
            have d2 : (Ru (.slice (some ⟨bV, oV, none⟩) (na + nb' + 1) cv) (.slice (some ⟨bX, oX, none⟩) na cx') (.slice (some ⟨bY, oY, none⟩) nb' cy') (.slice aa a.length ca) na k bV oV bY oY ff1 ff2 g1' g2' ff2 dd1 dd2 0) 2 (us 2) wl := hdep ⟨2, .data⟩ (by simp) rfl
            have e97 : al.tmps[97]?.getD undef = us 2 := by rw [← Rg.eval_getD, ha]; exact Rg.puts_eval _ _ _ (by rfl) (by simp) (by simp)
            have d3 : (Ru (.slice (some ⟨bV, oV, none⟩) (na + nb' + 1) cv) (.slice (some ⟨bX, oX, none⟩) na cx') (.slice (some ⟨bY, oY, none⟩) nb' cy') (.slice aa a.length ca) na k bV oV bY oY ff1 ff2 g1' g2' ff2 dd1 dd2 0) 3 (us 3) wl := hdep ⟨3, .data⟩ (by simp) rfl
            have e98 : al.tmps[98]?.getD undef = us 3 := by rw [← Rg.eval_getD, ha]; exact Rg.puts_eval _ _ _ (by rfl) (by simp) (by simp)
            clear ha hdep hslot
            have f2 : us 2 = .int .i64 (na : Nat) := d2
            clear d2
            have f3 : us 3 = .int .i64 (k : Nat) := d3
            clear d3
            refine Rg.wpOp_of rfl rfl ?_
            go_simp
            exact hKf _ _ (congrArg (Value.int .i64) (by rw [IntKind.wrap_i64]; omega)) (Turn.refl _ _) (fun _ _ _ _ _ _ => ⟨trivial, trivial⟩)
          · intro o ho us wl al ha hB hN hdep hslot K hKf
            obtain rfl := Option.some.inj ho
            have d4 : (Ru (.slice (some ⟨bV, oV, none⟩) (na + nb' + 1) cv) (.slice (some ⟨bX, oX, none⟩) na cx') (.slice (some ⟨bY, oY, none⟩) nb' cy') (.slice aa a.length ca) na k bV oV bY oY ff1 ff2 g1' g2' ff2 dd1 dd2 0) 4 (us 4) wl := hdep ⟨4, .data⟩ (by simp) rfl
            have e99 : al.tmps[99]?.getD undef = us 4 := by rw [← Rg.eval_getD, ha]; exact Rg.puts_eval _ _ _ (by rfl) (by simp) (by simp)
            clear ha hdep hslot
            have f4 : us 4 = .int .i64 (na + k : Nat) := d4
            clear d4
            refine Rg.wpOp_of rfl rfl ?_
            go_simp
            exact hKf _ _ (congrArg (Value.int .i64) (by rw [IntKind.wrap_i64]; omega)) (Turn.refl _ _) (fun _ _ _ _ _ _ => ⟨trivial, trivial⟩)
          · intro o ho us wl al ha hB hN hdep hslot K hKf
            obtain rfl := Option.some.inj ho
            have d0 : (Ru (.slice (some ⟨bV, oV, none⟩) (na + nb' + 1) cv) (.slice (some ⟨bX, oX, none⟩) na cx') (.slice (some ⟨bY, oY, none⟩) nb' cy') (.slice aa a.length ca) na k bV oV bY oY ff1 ff2 g1' g2' ff2 dd1 dd2 0) 0 (us 0) wl := hdep ⟨0, .data⟩ (by simp) rfl
            have e95 : al.tmps[95]?.getD undef = us 0 := by rw [← Rg.eval_getD, ha]; exact Rg.puts_eval _ _ _ (by rfl) (by simp) (by simp)
            have d5 : (Ru (.slice (some ⟨bV, oV, none⟩) (na + nb' + 1) cv) (.slice (some ⟨bX, oX, none⟩) na cx') (.slice (some ⟨bY, oY, none⟩) nb' cy') (.slice aa a.length ca) na k bV oV bY oY ff1 ff2 g1' g2' ff2 dd1 dd2 0) 5 (us 5) wl := hdep ⟨5, .data⟩ (by simp) rfl
            have e100 : al.tmps[100]?.getD undef = us 5 := by rw [← Rg.eval_getD, ha]; exact Rg.puts_eval _ _ _ (by rfl) (by simp) (by simp)
            clear ha hdep hslot
            have f0 : us 0 = .slice (some ⟨bV, oV, none⟩) (na + nb' + 1) cv := d0
            clear d0
            have f5 : us 5 = .int .i64 (na + k + 1 : Nat) := d5
            clear d5
            refine Rg.wpOp_of rfl rfl ?_
            go_simp
            exact hKf _ _ ((congrArg (fun j => Value.pointer (some ⟨bV, oV + j, none⟩)) (by omega))) (Turn.refl _ _) (fun _ _ _ _ _ _ => ⟨trivial, trivial⟩)
          · intro o ho us wl al ha hB hN hdep hslot K hKf
            obtain rfl := Option.some.inj ho
            have d6 : (Ru (.slice (some ⟨bV, oV, none⟩) (na + nb' + 1) cv) (.slice (some ⟨bX, oX, none⟩) na cx') (.slice (some ⟨bY, oY, none⟩) nb' cy') (.slice aa a.length ca) na k bV oV bY oY ff1 ff2 g1' g2' ff2 dd1 dd2 0) 6 (us 6) wl := hdep ⟨6, .data⟩ (by simp) rfl
            have e101 : al.tmps[101]?.getD undef = us 6 := by rw [← Rg.eval_getD, ha]; exact Rg.puts_eval _ _ _ (by rfl) (by simp) (by simp)
            clear ha hdep hslot
            have f6 : us 6 = .pointer (some ⟨bV, oV + (na + k + 1), none⟩) := d6
            clear d6
            obtain ⟨c1, c2⟩ := HC.out wl hB
            refine Rg.wpOp_of rfl rfl ?_
            go_simp
            exact hKf _ _ (rfl) (Turn.refl _ _) (fun _ _ _ _ _ _ => ⟨trivial, trivial⟩)
          · intro o ho us wl al ha hB hN hdep hslot K hKf
            obtain rfl := Option.some.inj ho
            have e6 : al.tmps[6]?.getD undef = .slice (some ⟨bY, oY, none⟩) nb' cy' := by rw [← Rg.eval_getD, ha]; exact (Rg.puts_eval_ne _ _ _ (by rfl)).trans rfl
            clear ha hdep hslot
            refine Rg.wpOp_of rfl rfl ?_
            go_simp
            exact hKf _ _ (rfl) (Turn.refl _ _) (fun _ _ _ _ _ _ => ⟨trivial, trivial⟩)
          · intro o ho us wl al ha hB hN hdep hslot K hKf
            obtain rfl := Option.some.inj ho
            have e10 : al.tmps[10]?.getD undef = .int .i64 (k : Nat) := by rw [← Rg.eval_getD, ha]; exact (Rg.puts_eval_ne _ _ _ (by rfl)).trans rfl
            clear ha hdep hslot
            refine Rg.wpOp_of rfl rfl ?_
            go_simp
            exact hKf _ _ (rfl) (Turn.refl _ _) (fun _ _ _ _ _ _ => ⟨trivial, trivial⟩)
          · intro o ho us wl al ha hB hN hdep hslot K hKf
            obtain rfl := Option.some.inj ho
            have d8 : (Ru (.slice (some ⟨bV, oV, none⟩) (na + nb' + 1) cv) (.slice (some ⟨bX, oX, none⟩) na cx') (.slice (some ⟨bY, oY, none⟩) nb' cy') (.slice aa a.length ca) na k bV oV bY oY ff1 ff2 g1' g2' ff2 dd1 dd2 0) 8 (us 8) wl := hdep ⟨8, .data⟩ (by simp) rfl
            have e103 : al.tmps[103]?.getD undef = us 8 := by rw [← Rg.eval_getD, ha]; exact Rg.puts_eval _ _ _ (by rfl) (by simp) (by simp)
            have d9 : (Ru (.slice (some ⟨bV, oV, none⟩) (na + nb' + 1) cv) (.slice (some ⟨bX, oX, none⟩) na cx') (.slice (some ⟨bY, oY, none⟩) nb' cy') (.slice aa a.length ca) na k bV oV bY oY ff1 ff2 g1' g2' ff2 dd1 dd2 0) 9 (us 9) wl := hdep ⟨9, .data⟩ (by simp) rfl
            have e104 : al.tmps[104]?.getD undef = us 9 := by rw [← Rg.eval_getD, ha]; exact Rg.puts_eval _ _ _ (by rfl) (by simp) (by simp)
            clear ha hdep hslot
            have f8 : us 8 = .slice (some ⟨bY, oY, none⟩) nb' cy' := d8
            clear d8
            have f9 : us 9 = .int .i64 (k : Nat) := d9
            clear d9
            refine Rg.wpOp_of rfl rfl ?_
            go_simp
            exact hKf _ _ (rfl) (Turn.refl _ _) (fun _ _ _ _ _ _ => ⟨trivial, trivial⟩)
          · intro o ho us wl al ha hB hN hdep hslot K hKf
            obtain rfl := Option.some.inj ho
            have d10 : (Ru (.slice (some ⟨bV, oV, none⟩) (na + nb' + 1) cv) (.slice (some ⟨bX, oX, none⟩) na cx') (.slice (some ⟨bY, oY, none⟩) nb' cy') (.slice aa a.length ca) na k bV oV bY oY ff1 ff2 g1' g2' ff2 dd1 dd2 0) 10 (us 10) wl := hdep ⟨10, .data⟩ (by simp) rfl
            have e105 : al.tmps[105]?.getD undef = us 10 := by rw [← Rg.eval_getD, ha]; exact Rg.puts_eval _ _ _ (by rfl) (by simp) (by simp)
            clear ha hdep hslot
            have f10 : us 10 = .pointer (some ⟨bY, oY + k, none⟩) := d10
            clear d10
            obtain ⟨c1, c2⟩ := HC.out wl hB
            refine Rg.wpOp_of rfl rfl ?_
            go_simp
            exact hKf _ _ (rfl) (Turn.refl _ _) (fun _ _ _ _ _ _ => ⟨trivial, trivial⟩)
          · intro o ho us wl al ha hB hN hdep hslot K hKf
            obtain rfl := Option.some.inj ho
            have d11 : (Ru (.slice (some ⟨bV, oV, none⟩) (na + nb' + 1) cv) (.slice (some ⟨bX, oX, none⟩) na cx') (.slice (some ⟨bY, oY, none⟩) nb' cy') (.slice aa a.length ca) na k bV oV bY oY ff1 ff2 g1' g2' ff2 dd1 dd2 0) 11 (us 11) wl := hdep ⟨11, .data⟩ (by simp) rfl
            have e106 : al.tmps[106]?.getD undef = us 11 := by rw [← Rg.eval_getD, ha]; exact Rg.puts_eval _ _ _ (by rfl) (by simp) (by simp)
            clear ha hdep hslot
            have f11 : us 11 = .complex .f64 g1' g2' := d11
            clear d11
            refine Rg.wpOp_of rfl rfl ?_
            go_simp
            exact hKf _ _ (rfl) (Turn.refl _ _) (fun _ _ _ _ _ _ => ⟨trivial, trivial⟩)
          · intro o ho us wl al ha hB hN hdep hslot K hKf
            obtain rfl := Option.some.inj ho
            have e0 : al.tmps[0]?.getD undef = .slice aa a.length ca := by rw [← Rg.eval_getD, ha]; exact (Rg.puts_eval_ne _ _ _ (by rfl)).trans rfl
            clear ha hdep hslot
            refine Rg.wpOp_of rfl rfl ?_
            go_simp
            exact hKf _ _ (rfl) (Turn.refl _ _) (fun _ _ _ _ _ _ => ⟨trivial, trivial⟩)
          · intro o ho us wl al ha hB hN hdep hslot K hKf
            obtain rfl := Option.some.inj ho
            have d13 : (Ru (.slice (some ⟨bV, oV, none⟩) (na + nb' + 1) cv) (.slice (some ⟨bX, oX, none⟩) na cx') (.slice (some ⟨bY, oY, none⟩) nb' cy') (.slice aa a.length ca) na k bV oV bY oY ff1 ff2 g1' g2' ff2 dd1 dd2 0) 13 (us 13) wl := hdep ⟨13, .data⟩ (by simp) rfl
            have e108 : al.tmps[108]?.getD undef = us 13 := by rw [← Rg.eval_getD, ha]; exact Rg.puts_eval _ _ _ (by rfl) (by simp) (by simp)
            clear ha hdep hslot
            have f13 : us 13 = .slice aa a.length ca := d13
            clear d13
            refine Rg.wpOp_of rfl rfl ?_
            go_simp
            refine (HBox.out _ (HN.out.below (HB1.out.trans (hB.mono HB1.out.size)))).mono ?_
            rintro e w' ⟨rfl, hb⟩
            exact hKf _ _ rfl (Turn.of_below hb) (fun _ _ _ _ _ _ => ⟨trivial, trivial⟩)
          · intro o ho us wl al ha hB hN hdep hslot K hKf
            obtain rfl := Option.some.inj ho
            have d14 : (Ru (.slice (some ⟨bV, oV, none⟩) (na + nb' + 1) cv) (.slice (some ⟨bX, oX, none⟩) na cx') (.slice (some ⟨bY, oY, none⟩) nb' cy') (.slice aa a.length ca) na k bV oV bY oY ff1 ff2 g1' g2' ff2 dd1 dd2 0) 14 (us 14) wl := hdep ⟨14, .data⟩ (by simp) rfl
            have e109 : al.tmps[109]?.getD undef = us 14 := by rw [← Rg.eval_getD, ha]; exact Rg.puts_eval _ _ _ (by rfl) (by simp) (by simp)
            clear ha hdep hslot
            have f14 : us 14 = .complex .f64 dd1 dd2 := d14
            clear d14
            refine Rg.wpOp_of rfl rfl ?_
            go_simp
            exact hKf _ _ (rfl) (Turn.refl _ _) (fun _ _ _ _ _ _ => ⟨trivial, trivial⟩)
          · intro o ho us wl al ha hB hN hdep hslot K hKf
            obtain rfl := Option.some.inj ho
            have d15 : (Ru (.slice (some ⟨bV, oV, none⟩) (na + nb' + 1) cv) (.slice (some ⟨bX, oX, none⟩) na cx') (.slice (some ⟨bY, oY, none⟩) nb' cy') (.slice aa a.length ca) na k bV oV bY oY ff1 ff2 g1' g2' ff2 dd1 dd2 0) 15 (us 15) wl := hdep ⟨15, .data⟩ (by simp) rfl
            have e110 : al.tmps[110]?.getD undef = us 15 := by rw [← Rg.eval_getD, ha]; exact Rg.puts_eval _ _ _ (by rfl) (by simp) (by simp)
            clear ha hdep hslot
            have f15 : us 15 = .float .f64 dd1 := d15
            clear d15
            refine Rg.wpOp_of rfl rfl ?_
            go_simp
            exact hKf _ _ (rfl) (Turn.refl _ _) (fun _ _ _ _ _ _ => ⟨trivial, trivial⟩)
          · intro o ho us wl al ha hB hN hdep hslot K hKf
            obtain rfl := Option.some.inj ho
            have d12 : (Ru (.slice (some ⟨bV, oV, none⟩) (na + nb' + 1) cv) (.slice (some ⟨bX, oX, none⟩) na cx') (.slice (some ⟨bY, oY, none⟩) nb' cy') (.slice aa a.length ca) na k bV oV bY oY ff1 ff2 g1' g2' ff2 dd1 dd2 0) 12 (us 12) wl := hdep ⟨12, .data⟩ (by simp) rfl
            have e107 : al.tmps[107]?.getD undef = us 12 := by rw [← Rg.eval_getD, ha]; exact Rg.puts_eval _ _ _ (by rfl) (by simp) (by simp)
            have d16 : (Ru (.slice (some ⟨bV, oV, none⟩) (na + nb' + 1) cv) (.slice (some ⟨bX, oX, none⟩) na cx') (.slice (some ⟨bY, oY, none⟩) nb' cy') (.slice aa a.length ca) na k bV oV bY oY ff1 ff2 g1' g2' ff2 dd1 dd2 0) 16 (us 16) wl := hdep ⟨16, .data⟩ (by simp) rfl
            have e111 : al.tmps[111]?.getD undef = us 16 := by rw [← Rg.eval_getD, ha]; exact Rg.puts_eval _ _ _ (by rfl) (by simp) (by simp)
            clear ha hdep hslot
            have f12 : us 12 = .complex .f64 g1' ff2 := d12
            clear d12
            have f16 : us 16 = .complex .f64 dd1 0 := d16
            clear d16
            refine Rg.wpOp_of rfl rfl ?_
            go_simp
            exact hKf _ _ (rfl) (Turn.refl _ _) (fun _ _ _ _ _ _ => ⟨trivial, trivial⟩)
          · intro o ho us wl al ha hB hN hdep hslot K hKf
            obtain rfl := Option.some.inj ho
            have d7 : (Ru (.slice (some ⟨bV, oV, none⟩) (na + nb' + 1) cv) (.slice (some ⟨bX, oX, none⟩) na cx') (.slice (some ⟨bY, oY, none⟩) nb' cy') (.slice aa a.length ca) na k bV oV bY oY ff1 ff2 g1' g2' ff2 dd1 dd2 0) 7 (us 7) wl := hdep ⟨7, .data⟩ (by simp) rfl
            have e102 : al.tmps[102]?.getD undef = us 7 := by rw [← Rg.eval_getD, ha]; exact Rg.puts_eval _ _ _ (by rfl) (by simp) (by simp)
            have d17 : (Ru (.slice (some ⟨bV, oV, none⟩) (na + nb' + 1) cv) (.slice (some ⟨bX, oX, none⟩) na cx') (.slice (some ⟨bY, oY, none⟩) nb' cy') (.slice aa a.length ca) na k bV oV bY oY ff1 ff2 g1' g2' ff2 dd1 dd2 0) 17 (us 17) wl := hdep ⟨17, .data⟩ (by simp) rfl
            have e112 : al.tmps[112]?.getD undef = us 17 := by rw [← Rg.eval_getD, ha]; exact Rg.puts_eval _ _ _ (by rfl) (by simp) (by simp)
            clear ha hdep hslot
            have f7 : us 7 = .complex .f64 ff1 ff2 := d7
            clear d7
            have f17 : us 17 = .complex .f64 ff1 ff2 := d17
            clear d17
            refine Rg.wpOp_of rfl rfl ?_
            go_simp
            exact hKf _ _ (rfl) (Turn.refl _ _) (fun _ _ _ _ _ _ => ⟨trivial, trivial⟩)
          · intro us wz hBz hRz hPz
            have hu : us 18 = .bool false := hRz 18
            have HBZ : Hid (Below w6.heap.size w6 wz) := Lib.hid hBz
            simp only [Rg.puts, Act.put, List.setIfInBounds_toArray, List.set_cons_zero, List.set_cons_succ]
            rw [hu]
            clear hRz hPz hBz hu
            go_wp2_with fail
            go_roundw
            case rel => exact ⟨k + 1, by omega, by go_num, HBZ⟩
            case measure => simp [intOf]; omega
        · have HBZ := Lib.hid (HB1.out.trans (HB.out.mono HB1.out.size))
          go_wp2_with fail
          refine (alive_any _).mono ?_
          rintro e w9 ⟨rfl, hb⟩
          replace HBZ := Lib.hid (HBZ.out.trans (hb.mono HBZ.out.size))
          clear hb
          go_wp2_with fail
          go_ret
          exact ⟨rfl, HBZ.out⟩
end Go.Proofs.Ytlipkhmidgogdaa.Pl
