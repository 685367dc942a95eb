/- StepBeside: the walk. The contracts of package step, met. -/
import Derived.Test.YtaapnkoooofalaaQ31
import Derived.Test.YtaapnkoooofalaaQ32
import Derived.Test.YtaapnkoooofalaaQ33
import Derived.Test.YtaapnkoooofalaaQ28

namespace Go.Proofs.Ytaapnkoooofalaa.St
open Go Go.RowKit Rw So Se Do Sp Me
set_option maxRecDepth 20000
theorem nds_slice {w : World} {y : Value} {l : List Nd} {n : Nat} (h : Nds w y l) (hn : l.length = n) : ∃ a c, y = .slice a n c := by
  obtain ⟨_, a, c, e, -⟩ := h
  exact ⟨a, c, by rw [e, hn]⟩
theorem two_new (w : World) (x y : Mv) : Below w.heap.size w ((w.alloc (.cells #[.int .i64 x.p, .int .i64 x.h] 33)).alloc (.cells #[.int .i64 y.p, .int .i64 y.h] 33)).drew ∧ Bm ((w.alloc (.cells #[.int .i64 x.p, .int .i64 x.h] 33)).alloc (.cells #[.int .i64 y.p, .int .i64 y.h] 33)).drew w.heap.size x ∧ Bm ((w.alloc (.cells #[.int .i64 x.p, .int .i64 x.h] 33)).alloc (.cells #[.int .i64 y.p, .int .i64 y.h] 33)).drew (w.heap.size + 1) y := by
  have d1 := below1 w (.cells #[.int .i64 x.p, .int .i64 x.h] 33)
  obtain ⟨s1, m1, n1⟩ := Me.step1 y.p y.h d1 (Bm.new w x) (Below.refl _ _)
  refine ⟨s1.drew, m1, ?_⟩
  have e : (w.alloc (.cells #[.int .i64 x.p, .int .i64 x.h] 33)).heap.size = w.heap.size + 1 := by simp
  rw [e] at n1
  exact n1
set_option maxHeartbeats 8000000 in
theorem beside_law (M : Me.Con) (C : Con) (A : Alive) (v vb : Value) (a b : List Nd) (z0 z1 : Int) (w0 : World) (hv : Nds w0 v a) (hvb : Nds w0 vb b) (hm : Nms a) (hmb : Nms b) (hz0 : In64 z0) (hz1 : In64 z1) :
    Calls Try.prog 7 #[v, vb, .agg #[.int .i64 z0, .int .i64 z1]] w0 fun e w' => e = .returned (.bool true) ∧ Below w0.heap.size w0 w' := by
  have HA := Lib.hid A
  unfold Alive at HA
  have D0 := Lib.hid (below1 w0 (.cells #[.int .i64 z0, .int .i64 z1] 43))
  have HBX : Hid (∀ w', Below (w0.alloc (.cells #[.int .i64 z0, .int .i64 z1] 43)).heap.size (w0.alloc (.cells #[.int .i64 z0, .int .i64 z1] 43)) w' → w'.cell? ⟨w0.heap.size, 0, none⟩ = some (.int .i64 z0) ∧ w'.cell? ⟨w0.heap.size, 1, none⟩ = some (.int .i64 z1)) := Lib.hid fun w' hb => ⟨by rw [hb.cell (p := ⟨w0.heap.size, 0, none⟩) (by simp), World.cell?_alloc_new]; rfl, by rw [hb.cell (p := ⟨w0.heap.size, 1, none⟩) (by simp), World.cell?_alloc_new]; rfl⟩
  obtain ⟨bx, hbx⟩ : ∃ bx, w0.heap.size = bx := ⟨_, rfl⟩
  have HVA := Lib.hid (fun w1 (hb : Below w0.heap.size w0 w1) => hv.below hb)
  have HVB := Lib.hid (fun w1 (hb : Below w0.heap.size w0 w1) => hvb.below hb)
  have HF1 := Lib.hid (fun w1 (hb : Below w0.heap.size w0 w1) => few_any v a w1 (hv.below hb))
  have HF2 := Lib.hid (fun w1 (hb : Below w0.heap.size w0 w1) => few_any vb b w1 (hvb.below hb))
  by_cases hf1 : Do.fewB a = false
  · rw [hf1] at HF1
    obtain ⟨_, aa, ca, rfl, -⟩ := id hv
    obtain ⟨_, ab, cb, rfl, -⟩ := id hvb
    clear hv hvb hm hmb hbx
    go_enter Try.func7, Try.ntmps7
    go_wp2_with fail
    generalize w0.alloc (.cells #[.int .i64 z0, .int .i64 z1] 43) = wB at D0 HBX ⊢
    refine (HF1.out _ D0.out).mono ?_
    rintro e w1 ⟨rfl, rfl⟩
    have E0 := Lib.hid (Below.refl wB.heap.size wB)
    go_wp2_with fail
    refine (HA.out _).mono ?_
    rintro e wz ⟨rfl, hbz⟩
    have DZ := Lib.hid (D0.out.trans ((E0.out.trans (hbz.mono E0.out.size)).mono D0.out.size))
    clear hbz
    go_wp2_with fail
    go_ret
    exact ⟨rfl, DZ.out⟩
  have hf1 : Do.fewB a = true := by simpa using hf1
  rw [hf1] at HF1
  by_cases hf2 : Do.fewB b = false
  · rw [hf2] at HF2
    obtain ⟨_, aa, ca, rfl, -⟩ := id hv
    obtain ⟨_, ab, cb, rfl, -⟩ := id hvb
    clear hv hvb hm hmb hbx
    go_enter Try.func7, Try.ntmps7
    go_wp2_with fail
    generalize w0.alloc (.cells #[.int .i64 z0, .int .i64 z1] 43) = wB at D0 HBX ⊢
    refine (HF1.out _ D0.out).mono ?_
    rintro e w1 ⟨rfl, rfl⟩
    go_wp2_with fail
    refine (HF2.out _ D0.out).mono ?_
    rintro e w1 ⟨rfl, rfl⟩
    have E0 := Lib.hid (Below.refl wB.heap.size wB)
    go_wp2_with fail
    refine (HA.out _).mono ?_
    rintro e wz ⟨rfl, hbz⟩
    have DZ := Lib.hid (D0.out.trans ((E0.out.trans (hbz.mono E0.out.size)).mono D0.out.size))
    clear hbz
    go_wp2_with fail
    go_ret
    exact ⟨rfl, DZ.out⟩
  have hf2 : Do.fewB b = true := by simpa using hf2
  rw [hf2] at HF2
  have hla := Do.few_len hf1
  have hlb := Do.few_len hf2
  have HO1 := Lib.hid (fun w1 (hb : Below w0.heap.size w0 w1) => Sx.onP_any a false v w1 (hv.below hb) (by omega) hm)
  have HO2 := Lib.hid (fun w1 (hb : Below w0.heap.size w0 w1) => Sx.onP_any b false vb w1 (hvb.below hb) (by omega) hmb)
  have HS1 := Lib.hid (fun w1 (hb : Below w0.heap.size w0 w1) => setP_any v a w1 (hv.below hb) (by omega) hm)
  have HS2 := Lib.hid (fun w1 (hb : Below w0.heap.size w0 w1) => setP_any vb b w1 (hvb.below hb) (by omega) hmb)
  have HP1 := Lib.hid (fun w1 (hb : Below w0.heap.size w0 w1) => M.pk v a z0 w1 (hv.below hb) (by omega) hm hz0)
  have HP2 := Lib.hid (fun w1 (hb : Below w0.heap.size w0 w1) => M.pk vb b z1 w1 (hvb.below hb) (by omega) hmb hz1)
  have HTW := Lib.hid (fun w1 (hb : Below w0.heap.size w0 w1) => twoR_any (nOf 7) v vb a b w1 (hv.below hb) (hvb.below hb) (by omega) (by omega))
  have HB := Lib.hid (fun (s1 : setB a = true) (s2 : setB b = true) (o1 : onB a false = true) (o2 : onB b false = true) (hl : a.length + b.length ≤ 90) (h1 : pkE a = 0) (h2 : pkE b = 0) => bes_all s1 s2 o1 o2 hl (pkM_mem (n := z0) (Nat.pos_of_ne_zero fun h => by unfold pkE at h1; rw [if_pos h] at h1; exact absurd h1 (by decide))) (pkM_mem (n := z1) (Nat.pos_of_ne_zero fun h => by unfold pkE at h2; rw [if_pos h] at h2; exact absurd h2 (by decide))))
  have he1 : pkE a = 0 ∨ pkE a = 120 := (pkE_cases a).imp (fun h => h.1) id
  have he2 : pkE b = 0 ∨ pkE b = 120 := (pkE_cases b).imp (fun h => h.1) id
  generalize onB a false = o1 at HO1 HB
  generalize onB b false = o2 at HO2 HB
  generalize setB a = s1 at HS1 HB
  generalize setB b = s2 at HS2 HB
  generalize pkE a = e1 at HP1 HB he1
  generalize pkE b = e2 at HP2 HB he2
  generalize pkM a z0 = m at HP1 HB
  generalize pkM b z1 = n at HP2 HB
  obtain ⟨mp, mh⟩ := m
  obtain ⟨np, nh⟩ := n
  have HE1 := Lib.hid he1
  have HE2 := Lib.hid he2
  have hnL : (nOf 7 :: (a ++ b)).length = a.length + b.length + 1 := by simp
  have HNL := Lib.hid hnL
  clear he1 he2 hnL hf1 hf2
  obtain ⟨_, aa, ca, rfl, -⟩ := id hv
  obtain ⟨_, ab, cb, rfl, -⟩ := id hvb
  clear hv hvb hm hmb hbx
  go_enter Try.func7, Try.ntmps7
  go_wp2_with fail
  generalize w0.alloc (.cells #[.int .i64 z0, .int .i64 z1] 43) = wB at D0 HBX ⊢
  refine (HF1.out _ D0.out).mono ?_
  rintro e w1 ⟨rfl, rfl⟩
  go_wp2_with fail
  refine (HF2.out _ D0.out).mono ?_
  rintro e w1 ⟨rfl, rfl⟩
  have E0 := Lib.hid (Below.refl wB.heap.size wB)
  have HW : Hid (∀ w1, Below wB.heap.size wB w1 → Below w0.heap.size w0 w1) := Lib.hid fun w1 hb => D0.out.trans (hb.mono D0.out.size)
  by_cases h90 : a.length + b.length > 90
  · have g90 : decide ((90 : Int) < (a.length : Int) + (b.length : Int)) = true := decide_eq_true (by omega)
    go_wp2_with fail
    refine (HA.out _).mono ?_
    rintro e wz ⟨rfl, hbz⟩
    have DZ := Lib.hid (D0.out.trans ((E0.out.trans (hbz.mono E0.out.size)).mono D0.out.size))
    clear hbz
    go_wp2_with fail
    go_ret
    exact ⟨rfl, DZ.out⟩
  have g90 : decide ((90 : Int) < (a.length : Int) + (b.length : Int)) = false := decide_eq_false (by omega)
  have H90 : Hid (a.length + b.length ≤ 90) := Lib.hid (by omega)
  clear h90
  go_wp2_with fail
  refine (HO1.out _ (HW.out _ E0.out)).mono ?_
  rintro e w1 ⟨rfl, hb1⟩
  have E1 := Lib.hid (E0.out.trans (hb1.mono E0.out.size))
  clear hb1
  by_cases ho1 : o1 = false
  · subst ho1
    go_wp2_with fail
    refine (HA.out _).mono ?_
    rintro e wz ⟨rfl, hbz⟩
    have DZ := Lib.hid (D0.out.trans ((E1.out.trans (hbz.mono E1.out.size)).mono D0.out.size))
    clear hbz
    go_wp2_with fail
    go_ret
    exact ⟨rfl, DZ.out⟩
  obtain rfl : o1 = true := by simpa using ho1
  clear ho1
  go_wp2_with fail
  refine (HO2.out _ (HW.out _ E1.out)).mono ?_
  rintro e w2 ⟨rfl, hb2⟩
  have E2 := Lib.hid (E1.out.trans (hb2.mono E1.out.size))
  clear hb2
  by_cases ho2 : o2 = false
  · subst ho2
    go_wp2_with fail
    refine (HA.out _).mono ?_
    rintro e wz ⟨rfl, hbz⟩
    have DZ := Lib.hid (D0.out.trans ((E2.out.trans (hbz.mono E2.out.size)).mono D0.out.size))
    clear hbz
    go_wp2_with fail
    go_ret
    exact ⟨rfl, DZ.out⟩
  obtain rfl : o2 = true := by simpa using ho2
  clear ho2
  go_wp2_with fail
  refine (HS1.out _ (HW.out _ E2.out)).mono ?_
  rintro e w3 ⟨rfl, hb3⟩
  have E3 := Lib.hid (E2.out.trans (hb3.mono E2.out.size))
  clear hb3
  by_cases hs1 : s1 = false
  · subst hs1
    go_wp2_with fail
    refine (HA.out _).mono ?_
    rintro e wz ⟨rfl, hbz⟩
    have DZ := Lib.hid (D0.out.trans ((E3.out.trans (hbz.mono E3.out.size)).mono D0.out.size))
    clear hbz
    go_wp2_with fail
    go_ret
    exact ⟨rfl, DZ.out⟩
  obtain rfl : s1 = true := by simpa using hs1
  clear hs1
  go_wp2_with fail
  refine (HS2.out _ (HW.out _ E3.out)).mono ?_
  rintro e w4 ⟨rfl, hb4⟩
  have E4 := Lib.hid (E3.out.trans (hb4.mono E3.out.size))
  clear hb4
  by_cases hs2 : s2 = false
  · subst hs2
    go_wp2_with fail
    refine (HA.out _).mono ?_
    rintro e wz ⟨rfl, hbz⟩
    have DZ := Lib.hid (D0.out.trans ((E4.out.trans (hbz.mono E4.out.size)).mono D0.out.size))
    clear hbz
    go_wp2_with fail
    go_ret
    exact ⟨rfl, DZ.out⟩
  obtain rfl : s2 = true := by simpa using hs2
  clear hs2
  obtain ⟨x0, x1⟩ := HBX.out _ E4.out
  go_wp2_with fail
  refine (HP1.out _ (HW.out _ E4.out)).mono ?_
  rintro e w5 ⟨rfl, hb5⟩
  clear x0 x1
  obtain ⟨F5, M5⟩ := Me.step0 mp mh (E4.out.trans (hb5.mono E4.out.size))
  obtain ⟨x0, x1⟩ := HBX.out _ F5
  go_wp2_with fail
  refine (HP2.out _ (HW.out _ F5)).mono ?_
  rintro e w6 ⟨rfl, hb6⟩
  obtain ⟨F6, M6, N6⟩ := Me.step1 np nh F5 M5 hb6
  have E6 := Lib.hid F6
  clear x0 x1 F5 M5 F6 hb5 hb6
  rcases HE1.out with rfl | rfl
  case' inr =>
    go_wp2_with fail
    refine (HA.out _).mono ?_
    rintro e wz ⟨rfl, hbz⟩
    have DZ := Lib.hid (D0.out.trans ((E6.out.trans (hbz.mono E6.out.size)).mono D0.out.size))
    clear hbz
    go_wp2_with fail
    go_ret
    exact ⟨rfl, DZ.out⟩
  rcases HE2.out with rfl | rfl
  case' inr =>
    go_wp2_with fail
    refine (HA.out _).mono ?_
    rintro e wz ⟨rfl, hbz⟩
    have DZ := Lib.hid (D0.out.trans ((E6.out.trans (hbz.mono E6.out.size)).mono D0.out.size))
    clear hbz
    go_wp2_with fail
    go_ret
    exact ⟨rfl, DZ.out⟩
  obtain ⟨X, U, hB⟩ := HB.out (by trivial) (by trivial) (by trivial) (by trivial) H90.out (by trivial) (by trivial)
  have BM := Lib.hid M6
  have BN := Lib.hid N6
  clear M6 N6 HB HO1 HO2 HS1 HS2 HP1 HP2 HE1 HE2 HBX HF1 HF2 E0 E1 E2 E3 E4
  have HX1 := Lib.hid (fun y w1 (h : Nds w1 y (nOf 7 :: (a ++ b))) => C.nx y _ ⟨mp + 1, mh⟩ w1 h (by simp; omega) hB.ln)
  rw [hB.ex, hB.e1, hB.s1] at HX1
  have HX2 := Lib.hid (fun y w1 (h : Nds w1 y X) => C.nx y _ ⟨np + 1 + a.length + X.length - (1 + a.length + b.length), nh⟩ w1 h (by have := hB.xl; omega) hB.xn)
  rw [hB.l, hB.e3, hB.s2] at HX2
  have HX3 := Lib.hid (fun y w1 (h : Nds w1 y (nOf 7 :: (a ++ b))) => C.nx y _ ⟨np + 1 + a.length, nh⟩ w1 h (by simp; omega) hB.ln)
  rw [hB.eu, hB.e2] at HX3
  have HX4 := Lib.hid (fun y w1 (h : Nds w1 y U) => C.nx y _ ⟨mp + 1, mh⟩ w1 h (by have := hB.ul; omega) hB.un)
  rw [hB.e4] at HX4
  have hyl := hB.yl
  have hxl := hB.xl
  have hmp : 0 ≤ mp ∧ mp ≤ 90 := hB.mp
  have hnp : 0 ≤ np ∧ np ≤ 90 := hB.np
  clear hB
  generalize nxS U ⟨mp + 1, mh⟩ = S1 at HX1 HX4
  generalize nxS (nOf 7 :: (a ++ b)) ⟨np + 1 + a.length, nh⟩ = S2 at HX2 HX3
  generalize nxL U ⟨mp + 1, mh⟩ = Y at HX2 HX4 hyl
  have HYL : Hid (Y.length ≤ 1000000) := Lib.hid (by omega)
  obtain ⟨nX, hnX⟩ : ∃ nX, X.length = nX := ⟨_, rfl⟩
  rw [hnX] at HX2 hxl
  have HNX := Lib.hid hnX
  have HXL := Lib.hid hxl
  generalize nOf 7 :: (a ++ b) = L at HTW HNL HX1 HX3
  obtain ⟨nL, hnL⟩ : ∃ nL, nL = a.length + b.length + 1 := ⟨_, rfl⟩
  rw [← hnL] at HNL
  have HnL := Lib.hid hnL
  have HMP := Lib.hid hmp
  have HNP := Lib.hid hnp
  clear hyl hxl hnX hnL hmp hnp
  go_wp2_with fail
  refine (HTW.out _ (HW.out _ E6.out)).mono ?_
  rintro e w7 ⟨y7, rfl, hl7, hb7⟩
  obtain ⟨al, cl, rfl⟩ := nds_slice hl7 HNL.out
  have E7 := Lib.hid (E6.out.trans (hb7.mono E6.out.size))
  have NL7 := Lib.hid hl7
  have BM7 := Lib.hid (BM.out.below hb7 BM.out.lt)
  have BN7 := Lib.hid (BN.out.below hb7 BN.out.lt)
  clear hl7 hb7 E6 BM BN HTW
  generalize w5.heap.size = bM at BM7 ⊢
  generalize w6.heap.size = bN at BN7 ⊢
  go_upto_region 8 with fail
  go_cut [12, 13] (fun s12 s13 wx => ∃ b2 b3 : Nat, s12 = .pointer (some ⟨b2, 0, none⟩) ∧ s13 = .pointer (some ⟨b3, 0, none⟩) ∧ ∃ wq : World, wq = wx ∧ Below w7.heap.size w7 wq ∧ Bm wq b2 ⟨mp + 1, mh⟩ ∧ Bm wq b3 ⟨np + 1 + a.length, nh⟩)
  case first =>
    obtain ⟨m1, m2, -⟩ := BM7.out.cells
    obtain ⟨n1, n2, -⟩ := BN7.out.cells
    obtain ⟨hp1, hp2⟩ := HMP.out
    obtain ⟨hn1, hn2⟩ := HNP.out
    simp only at m1 m2 n1 n2
    have ltm := BM7.out.lt
    have ltn := BN7.out.lt
    go_region
    all_goals go_wp2_with fail
    all_goals go_meet
    · exact ⟨_, _, rfl, rfl, _, rfl, two_new w7 ⟨mp + 1, mh⟩ ⟨np + 1 + a.length, nh⟩⟩
    · obtain ⟨q1, q2, q3⟩ := two_new w7 ⟨np + 1 + a.length, nh⟩ ⟨mp + 1, mh⟩
      exact ⟨_, _, rfl, rfl, _, rfl, q1, q3, q2⟩
  case rest =>
    obtain ⟨b2, b3, rfl, rfl, w8, rfl, hb8, hm8, hn8⟩ := hcut
    have E8 := Lib.hid (E7.out.trans (hb8.mono E7.out.size))
    have NL := Lib.hid (fun w' (hb : Below w8.heap.size w8 w') => (NL7.out.below hb8).below hb)
    have K2 := Lib.hid (Me.bm_keep hm8)
    have K3 := Lib.hid (Me.bm_keep hn8)
    have KN := Lib.hid (Me.bm_keep (BN7.out.below hb8 BN7.out.lt))
    simp only at K2 K3 KN
    clear hb8 hm8 hn8 NL7 BM7 BN7 E7
    obtain ⟨c0, c1⟩ := K2.out _ (Below.refl _ _)
    go_wp2_with fail
    refine (HX1.out _ _ (NL.out _ (Below.refl _ _))).mono ?_
    rintro e w9 ⟨y9, rfl, hx9, hb9⟩
    obtain ⟨ax, cx, rfl⟩ := nds_slice hx9 HNX.out
    have F9 := Lib.hid hb9
    have X9 := Lib.hid (fun w' (hb : Below w9.heap.size w9 w') => hx9.below hb)
    clear hx9 hb9 c0 c1 HX1
    obtain ⟨c0, c1⟩ := K3.out _ F9.out
    obtain ⟨d0, d1⟩ := KN.out _ F9.out
    obtain ⟨hn1, hn2⟩ := HNP.out
    have hxl := HXL.out
    have hnl : nL ≤ 300 := by have := HnL.out; have := H90.out; omega
    have h90 := H90.out
    have T10 := Lib.hid (fun z => F9.out.trans ((below1 w9 (.cells #[.int .i64 z, .int .i64 nh] 33)).mono F9.out.size))
    have X10 := Lib.hid (fun z => X9.out _ (below1 w9 (.cells #[.int .i64 z, .int .i64 nh] 33)))
    have HX2' : Hid (∀ z : Int, z = np + 1 + a.length + nX - nL → ∀ y w1, Nds w1 y X → Calls Try.prog 14 #[y, .agg #[.int .i64 z, .int .i64 nh]] w1 fun e w' => ∃ y, e = .returned (.tuple #[y, .string S2, .int .i64 0]) ∧ Nds w' y Y ∧ Below w1.heap.size w1 w') := Lib.hid fun z hz y w1 h => by
      have := HX2.out y w1 h
      have hnl := HnL.out
      rwa [show np + 1 + (a.length : Int) + nX - (1 + a.length + b.length) = z by omega] at this
    clear HX2
    go_wp2_with fail
    refine (HX2'.out _ rfl _ _ (X10.out _)).mono ?_
    rintro e w11 ⟨y11, rfl, hy11, hb11⟩
    have F11 := Lib.hid ((T10.out _).trans (hb11.mono (T10.out _).size))
    have Y11 := Lib.hid (fun w' (hb : Below w11.heap.size w11 w') => hy11.below hb)
    clear hy11 hb11 c0 c1 d0 d1 HX2' T10 X10 X9 hn1 hn2 hxl hnl h90
    obtain ⟨c0, c1⟩ := K3.out _ F11.out
    go_wp2_with fail
    refine (HX3.out _ _ (NL.out _ F11.out)).mono ?_
    rintro e w12 ⟨y12, rfl, hu12, hb12⟩
    have F12 := Lib.hid (F11.out.trans (hb12.mono F11.out.size))
    have Y12 := Lib.hid (Y11.out _ hb12)
    have U12 := Lib.hid hu12
    clear hu12 hb12 c0 c1 HX3
    obtain ⟨c0, c1⟩ := K2.out _ F12.out
    go_wp2_with fail
    refine (HX4.out _ _ U12.out).mono ?_
    rintro e w13 ⟨y13, rfl, hy13, hb13⟩
    have F13 := Lib.hid (F12.out.trans (hb13.mono F12.out.size))
    have Y13 := Lib.hid (Y12.out.below hb13)
    have V13 := Lib.hid hy13
    clear hy13 hb13 c0 c1 HX4
    go_wp2_with fail
    refine (HA.out _).mono ?_
    rintro e w14 ⟨rfl, hb14⟩
    have F14 := Lib.hid (F13.out.trans (hb14.mono F13.out.size))
    have Y14 := Lib.hid (Y13.out.below hb14)
    have V14 := Lib.hid (V13.out.below hb14)
    clear hb14
    go_wp2_with fail
    refine (sameR_any _ _ Y Y _ Y14.out V14.out HYL.out).mono ?_
    rw [show sameN Y Y = true from decide_eq_true rfl]
    rintro e w15 ⟨rfl, hb15⟩
    have DZ := Lib.hid (D0.out.trans ((E8.out.trans ((F14.out.trans (hb15.mono F14.out.size)).mono E8.out.size)).mono D0.out.size))
    clear hb15
    go_wp2_with fail
    go_ret
    exact ⟨rfl, DZ.out⟩
  end Go.Proofs.Ytaapnkoooofalaa.St

namespace Go.Proofs.Ytaapnkoooofalaa.St
open Go Go.RowKit Rw So Se Do Sp Me
set_option maxRecDepth 20000
theorem way_of {s u : Tm} {h : Int} {o : Option ByteArray} (k : Made s h o u) (q : List Nd) : Way (kn (flat s ++ q) 0) h ∧ (kn (flat s ++ q) 0 ≠ 1 → kn (flat s ++ q) 0 ≠ 4 → (kids (flat s ++ q)).length = 2) ∧ nmAt (flat s ++ q) 0 = o.getD ⟨#[]⟩ := by
  have two : ∀ (n : Nd) (a b : Tm), ar n.k = 2 → kids ((n :: (flat a ++ flat b)) ++ q) = [flat a, flat b] := fun n a b hk => by
    have := kidsA_two (n := n) a b q hk
    rw [List.cons_append, List.append_assoc]
    exact this
  cases k with
  | act s => exact ⟨.inl ⟨rfl, rfl⟩, fun h => absurd rfl h, rfl⟩
  | altl _ b => exact ⟨.inr (.inr (.inr (.inl ⟨rfl, rfl⟩))), fun _ _ => by rw [show flat (.alt u b) = nOf 6 :: (flat u ++ flat b) from rfl, two _ _ _ rfl]; rfl, rfl⟩
  | altr a _ => exact ⟨.inr (.inr (.inr (.inr (.inl ⟨rfl, rfl⟩)))), fun _ _ => by rw [show flat (.alt a u) = nOf 6 :: (flat a ++ flat u) from rfl, two _ _ _ rfl]; rfl, rfl⟩
  | yieldg => exact ⟨.inr (.inl ⟨rfl, rfl⟩), fun _ h => absurd rfl h, rfl⟩
  | yields => exact ⟨.inr (.inr (.inl ⟨rfl, rfl⟩)), fun _ h => absurd rfl h, rfl⟩
  | pairg a b => exact ⟨.inr (.inr (.inr (.inr (.inr (.inl ⟨rfl, rfl⟩))))), fun _ _ => by rw [show flat (.pair a b) = nOf 10 :: (flat a ++ flat b) from rfl, two _ _ _ rfl]; rfl, rfl⟩
  | pairs a b => exact ⟨.inr (.inr (.inr (.inr (.inr (.inr ⟨rfl, rfl⟩))))), fun _ _ => by rw [show flat (.pair a b) = nOf 10 :: (flat a ++ flat b) from rfl, two _ _ _ rfl]; rfl, rfl⟩
theorem kids_sum (l : List Nd) : (kids l).flatten.length ≤ l.length := by
  by_cases h : size l = 0
  · rw [show kids l = [] from if_pos h]; simp
  · cases l with
    | nil => exact absurd rfl h
    | cons n r =>
      have := congrArg List.length (kids_flat h)
      rw [List.length_cons, List.length_take] at this
      omega
theorem put_at (l : List Nd) (q : Nat) (x : List Nd) (hq : q < l.length) : putR l (q : Int) x = putN l q x := if_neg (by omega)
set_option maxHeartbeats 1000000 in
theorem nextP_no (v : Value) (l : List Nd) (m : Mv) (w : World) (hv : Nds w v l) (hl : l.length ≤ 1000) (hm : Nms l) (h0 : m ∉ enR l) :
    Calls Try.prog 14 #[v, mvV m] w fun e w' => ∃ y, e = .returned (.tuple #[y, .string (nxS l m), .int .i64 (nxE l m)]) ∧ Nds w' y (nxL l m) ∧ Below w.heap.size w w' := by
  rw [show nxL l m = [] from if_neg h0, show nxS l m = ⟨#[]⟩ from if_neg fun h => h0 h.1, show nxE l m = 120 from if_neg h0]
  have HI := Lib.hid (fun w1 (hb : Below w.heap.size w w1) => isP_any v l m w1 (hv.below hb) hl hm)
  rw [decide_eq_false h0] at HI
  have D0 := Lib.hid (below1 w (.cells #[.int .i64 m.p, .int .i64 m.h] 33))
  obtain ⟨mp, mh⟩ := m
  obtain ⟨_, a, c, rfl, -⟩ := id hv
  clear hv hm h0
  go_enter Try.func14, Try.ntmps14
  go_wp2_with fail
  refine (HI.out _ D0.out).mono ?_
  rintro e w1 ⟨rfl, hb⟩
  have D := Lib.hid (D0.out.trans (hb.mono D0.out.size))
  clear hb
  go_wp2_with fail
  go_ret3
  exact ⟨_, rfl, nds_nil _, D.out⟩
set_option maxHeartbeats 1000000 in
theorem refuseP_no (v : Value) (l : List Nd) (m : Mv) (w : World) (hv : Nds w v l) (hl : l.length ≤ 1000) (hm : Nms l) (h0 : ¬ (m ∈ enR l ∧ m.h = 1)) :
    Calls Try.prog 17 #[v, mvV m] w fun e w' => ∃ y, e = .returned (.tuple #[y, .int .i64 (rfE l m)]) ∧ Nds w' y (rfL l m) ∧ Below w.heap.size w w' := by
  rw [show rfL l m = [] from if_neg h0, show rfE l m = 120 from if_neg h0]
  have HI := Lib.hid (fun w1 (hb : Below w.heap.size w w1) => isP_any v l m w1 (hv.below hb) hl hm)
  have D0 := Lib.hid (below1 w (.cells #[.int .i64 m.p, .int .i64 m.h] 33))
  have CM := Lib.hid (bm_keep3 (Bm.new w m))
  obtain ⟨_, a, c, rfl, -⟩ := id hv
  obtain ⟨mp, mh⟩ := m
  obtain ⟨c0, c1⟩ := CM.out _ (Below.refl _ _)
  change (w.alloc (.cells #[.int .i64 mp, .int .i64 mh] 33)).cell? ⟨w.heap.size, 0, none⟩ = some (.int .i64 mp) at c0
  change (w.alloc (.cells #[.int .i64 mp, .int .i64 mh] 33)).cell? ⟨w.heap.size, 1, none⟩ = some (.int .i64 mh) at c1
  by_cases h1 : mh = 1
  · have h2 : (⟨mp, mh⟩ : Mv) ∉ enR l := fun h => h0 ⟨h, h1⟩
    rw [decide_eq_false h2] at HI
    subst h1
    clear hv hm h0 h2 CM
    go_enter Try.func17, Try.ntmps17
    go_wp2_with fail
    refine (HI.out _ D0.out).mono ?_
    rintro e w1 ⟨rfl, hb⟩
    have D := Lib.hid (D0.out.trans (hb.mono D0.out.size))
    clear hb
    go_wp2_with fail
    go_ret2
    exact ⟨_, rfl, nds_nil _, D.out⟩
  · clear hv hm h0 CM HI
    have hb : (mh != 1) = true := bne_iff_ne.2 h1
    go_enter Try.func17, Try.ntmps17
    go_wp2_with fail
    go_ret2
    exact ⟨_, rfl, nds_nil _, D0.out⟩
theorem nextP_any (v : Value) (l : List Nd) (m : Mv) (w : World) (hv : Nds w v l) (hl : l.length ≤ 1000) (hm : Nms l) :
    Calls Try.prog 14 #[v, mvV m] w fun e w' => ∃ y, e = .returned (.tuple #[y, .string (nxS l m), .int .i64 (nxE l m)]) ∧ Nds w' y (nxL l m) ∧ Below w.heap.size w w' := by
  by_cases h0 : m ∈ enR l
  · obtain ⟨t, rfl, hg, hn⟩ := en_set h0
    obtain ⟨mo, h1, rfl⟩ := en_mo hg hn h0
    obtain ⟨n1, n2, n3⟩ := nx_of hg hn h1
    have hI := fun w1 (hb : Below w.heap.size w w1) => isP_any v (flat t) (mvOf mo) w1 (hv.below hb) hl hm
    rw [decide_eq_true h0] at hI
    obtain ⟨pre, s, post, u, e1, e2, e3, hmd⟩ := mv_put t true 0 mo h1
    obtain ⟨p1, p2⟩ := put_row pre (flat s) post (flat u) (tre_flat s)
    have hr := mo_goes hg h1
    have ht := hg.2.1
    have hr2 := hr.2.1
    have l1 := congrArg List.length e1
    have l3 := congrArg List.length e3
    rw [Se.flat_len] at l1 l3
    simp only [List.length_append, Se.flat_len] at l1 l3
    have hq : pre.length < (flat t).length := by rw [Se.flat_len, l1]; have := sz_pos s; omega
    have e2' : mo.p = pre.length := by omega
    have ev : mvV (mvOf mo) = .agg #[.int .i64 (pre.length : Int), .int .i64 mo.h] := by
      show Value.agg #[.int .i64 (mo.p : Int), .int .i64 mo.h] = _
      rw [e2']
    rw [n1, n2, n3, ev]
    rw [ev] at hI
    obtain ⟨w1, w2, w3⟩ := way_of hmd post
    have d1 : (flat t).drop pre.length = flat s ++ post := by rw [e1]; exact p2
    have pR : putR (flat t) (pre.length : Int) (flat u) = flat mo.r := by rw [put_at _ _ _ hq, e1, p1, ← e3]
    have hX : mdK (kids ((flat t).drop pre.length)) (kn (flat s ++ post) 0) mo.h = flat u := by
      rw [d1, ← mdR_K]
      exact md_made hmd post
    have hget : (flat t)[pre.length]? = (flat s ++ post)[0]? := by
      rw [e1, List.getElem?_append_right (Nat.le_refl _), Nat.sub_self]
    have hk : (flat t)[pre.length].k = kn (flat s ++ post) 0 ∧ (flat t)[pre.length].n = nmAt (flat s ++ post) 0 := by
      rw [List.getElem?_eq_getElem hq] at hget
      constructor
      · unfold kn
        rw [show ((0 : Int)).toNat = 0 from rfl, ← hget]
      · unfold nmAt
        rw [← hget]
    rcases hv.form with ⟨hz, _⟩ | ⟨b, o, c, rfl, hc, hat⟩
    · rw [hz] at hq; simp at hq
    have hA := at_keep hat pre.length hq
    rw [hk.1, hk.2, w3] at hA
    refine next_core b o c (flat t).length pre.length (kn (flat s ++ post) 0) mo.h (mo.l.getD ⟨#[]⟩) (kids ((flat t).drop pre.length)) (flat u) _ w hq hA hI ?_ ?_
    · intro wx
      have := done_any (kn (flat s ++ post) 0) mo.h w1 (kids ((flat t).drop pre.length)) wx (by rw [d1]; exact w2) (by
        have := kids_sum ((flat t).drop pre.length)
        rw [List.length_drop] at this
        omega)
      rwa [hX] at this
    · intro wx f hb hf
      have := after_any _ f (flat t) (flat u) pre.length wx (hv.below hb) (by rw [Se.flat_len]; omega) (by rw [Se.flat_len]; omega) hq hf (by rw [pR]; exact nms_goes hr.1) (by rw [pR, Se.flat_len]; omega)
      rwa [pR, st_go hr] at this
  · exact nextP_no v l m w hv hl hm h0
theorem refuseP_any (v : Value) (l : List Nd) (m : Mv) (w : World) (hv : Nds w v l) (hl : l.length ≤ 1000) (hm : Nms l) :
    Calls Try.prog 17 #[v, mvV m] w fun e w' => ∃ y, e = .returned (.tuple #[y, .int .i64 (rfE l m)]) ∧ Nds w' y (rfL l m) ∧ Below w.heap.size w w' := by
  by_cases h0 : m ∈ enR l ∧ m.h = 1
  · have h0' := h0.1
    obtain ⟨t, rfl, hg, hn⟩ := en_set h0'
    obtain ⟨mo, h1, rfl⟩ := en_mo hg hn h0'
    have hh : mo.h = 1 := h0.2
    obtain ⟨n1, n2⟩ := rf_of hg hn h1 hh
    have hI := fun w1 (hb : Below w.heap.size w w1) => isP_any v (flat t) (mvOf mo) w1 (hv.below hb) hl hm
    rw [decide_eq_true h0'] at hI
    obtain ⟨s, hs, _, hp, _⟩ := refused hn h1 hh
    obtain ⟨pre, post, e1, e2⟩ := plug_row t 0 mo.p hp
    have hsub := plug_sub t 0 mo.p hp
    have et : flat t = pre ++ (flat (sub t 0 mo.p) ++ post) := by rw [← e2, hsub]
    have hr := rf_goes hg hp hs
    have ht := hg.2.1
    have hr2 := hr.2.1
    have l1 := congrArg List.length et
    rw [Se.flat_len] at l1
    simp only [List.length_append, Se.flat_len] at l1
    have hq : pre.length < (flat t).length := by rw [Se.flat_len, l1]; have := sz_pos (sub t 0 mo.p); omega
    have e2' : mo.p = pre.length := by omega
    have ev : mvV (mvOf mo) = .agg #[.int .i64 (pre.length : Int), .int .i64 1] := by
      show Value.agg #[.int .i64 (mo.p : Int), .int .i64 mo.h] = _
      rw [e2', hh]
    rw [n1, n2, ev]
    rw [ev] at hI
    have pR : putR (flat t) (pre.length : Int) [nOf 3] = flat (plug t 0 mo.p .throw) := by
      rw [put_at _ _ _ hq]
      have := (put_row pre (flat (sub t 0 mo.p)) post [nOf 3] (tre_flat _)).1
      rw [← et] at this
      rw [this]
      exact (e2 .throw).symm
    rcases hv.form with ⟨hz, _⟩ | ⟨b, o, c, rfl, hc, hat⟩
    · rw [hz] at hq; simp at hq
    refine refuse_core b o c (flat t).length pre.length (kids ((flat t).drop pre.length)) _ w hI ?_
    intro wx f hb hf
    have := after_any _ f (flat t) [nOf 3] pre.length wx (hv.below hb) (by rw [Se.flat_len]; omega) (by simp) hq hf (by rw [pR]; exact nms_goes hr.1) (by rw [pR, Se.flat_len]; omega)
    rwa [pR, st_go hr] at this
  · exact refuseP_no v l m w hv hl hm h0
theorem con : Con := ⟨putP_any, nextP_any, refuseP_any⟩
end Go.Proofs.Ytaapnkoooofalaa.St
