/- The statements' own first look at the program, walked from the contracts. -/
import Derived.Test.YtmhmfnjjdcdkcaaDoorTrk
namespace Go.Proofs.YtmhmfnjjdcdkcaaDoor.Tr
open Go Go.RowKit
set_option maxRecDepth 20000

/-- What the first look has laid, two rows of actions and two traces, from block n on. -/
def Al (n : Nat) (w : World) : Prop :=
  (w.cell? ⟨n + 1 + 1, 0, none⟩ = some (.slice (some ⟨n, 0, none⟩) 1 1) ∧ w.cell? ⟨n + 1 + 1, 1, none⟩ = some (.int .i64 1) ∧ w.cell? ⟨n + 1 + 1 + 1, 0, none⟩ = some (.slice (some ⟨n + 1, 0, none⟩) 2 2) ∧ w.cell? ⟨n + 1 + 1 + 1, 1, none⟩ = some (.int .i64 2)) ∧
  Strs w (.slice (some ⟨n, 0, none⟩) 1 1) [bA] ∧ Strs w (.slice (some ⟨n + 1, 0, none⟩) 2 2) [bB, bC] ∧ Sg.Tab w
theorem Al.below {n : Nat} {w w' : World} (h : Al n w) (hb : Below w.heap.size w w') : Al n w' := by
  obtain ⟨⟨h1, h2, h3, h4⟩, h5, h6, h7⟩ := h
  refine ⟨⟨?_, ?_, ?_, ?_⟩, h5.below hb, h6.below hb, Tab.below h7 hb⟩
  · rw [hb.cell (Ap.cell_lt h1)]; exact h1
  · rw [hb.cell (Ap.cell_lt h2)]; exact h2
  · rw [hb.cell (Ap.cell_lt h3)]; exact h3
  · rw [hb.cell (Ap.cell_lt h4)]; exact h4
theorem strs_new2 (w : World) (s t : ByteArray) (ty : TypeId) : Strs (w.alloc (.cells #[.string s, .string t] ty)) (.slice (some ⟨w.heap.size, 0, none⟩) 2 2) [s, t] := by
  refine ⟨rfl, _, 2, rfl, Nat.le_refl _, fun h => (by cases h), fun _ => ⟨w.heap.size, 0, rfl, fun j u hu => ?_⟩⟩
  rw [Nat.zero_add, World.cell?_alloc_new]
  simpa using hu
theorem al_new (w : World) (h : Sg.Tab w) (t1 t2 t3 t4 : TypeId) : Al w.heap.size ((((w.alloc (.cells #[.string bA] t1)).alloc (.cells #[.string bB, .string bC] t2)).alloc (.cells #[.slice (some ⟨w.heap.size, 0, none⟩) 1 1, .int .i64 1] t3)).alloc (.cells #[.slice (some ⟨w.heap.size + 1, 0, none⟩) 2 2, .int .i64 2] t4)) := by
  have hs1 := strs_new w bA t1
  have hs2 := strs_new2 (w.alloc (.cells #[.string bA] t1)) bB bC t2
  have b1 : ∀ (v : World) (o : Obj), Below v.heap.size v (v.alloc o) := fun v o => (Below.refl _ _).alloc (Nat.le_refl _) o
  rw [show (w.alloc (.cells #[.string bA] t1)).heap.size = w.heap.size + 1 by simp] at hs2
  refine ⟨⟨?_, ?_, ?_, ?_⟩, ((hs1.below (b1 _ _)).below (b1 _ _)).below (b1 _ _), (hs2.below (b1 _ _)).below (b1 _ _), Tab.below (Tab.below (Tab.below (Tab.below h (b1 _ _)) (b1 _ _)) (b1 _ _)) (b1 _ _)⟩
  all_goals simp [go_sem]
theorem below4 (w : World) (x y z u : Obj) : Below w.heap.size w ((((w.alloc x).alloc y).alloc z).alloc u) :=
  ((((Below.refl _ _).alloc (Nat.le_refl _) x).alloc (by simp) y).alloc (by simp; omega) z).alloc (by simp; omega) u
theorem trs_three {w : World} {v : Value} {t0 t1 t2 : Tr} (h : Trs w v [t0, t1, t2]) : ∃ b o c a1 a2, v = .slice (some ⟨b, o, none⟩) 3 c ∧ w.cell? ⟨b, o + 2, none⟩ = some a1 ∧ w.cell? ⟨b, o + 2 + 1, none⟩ = some (.int .i64 t1.e) ∧ Strs w a1 t1.a ∧
    w.cell? ⟨b, o + 4, none⟩ = some a2 ∧ w.cell? ⟨b, o + 4 + 1, none⟩ = some (.int .i64 t2.e) ∧ Strs w a2 t2.a := by
  rcases h.form with ⟨h, _⟩ | ⟨b, o, c, rfl, hc⟩
  · cases h
  obtain ⟨a1, h1, h2, h3⟩ := hc 1 (by simp)
  obtain ⟨a2, h4, h5, h6⟩ := hc 2 (by simp)
  exact ⟨b, o, c, a1, a2, rfl, h1, h2, h3, h4, h5, h6⟩
theorem Mine.strs {base : Nat} {w : World} {v : Value} {l : List ByteArray} (h : Mine base w v l) : Strs w v l := h.1.rd
theorem new3 {w : World} {v0 v1 v2 : Value} {t0 t1 t2 : Tr} (h0 : Strs w v0 t0.a) (h1 : Strs w v1 t1.a) (h2 : Strs w v2 t2.a) (ty : TypeId) :
    Trs (w.alloc (.cells #[v0, .int .i64 t0.e, v1, .int .i64 t1.e, v2, .int .i64 t2.e] ty)) (.slice (some ⟨w.heap.size, 0, none⟩) 3 3) [t0, t1, t2] := by
  have b1 : Below w.heap.size w (w.alloc (.cells #[v0, .int .i64 t0.e, v1, .int .i64 t1.e, v2, .int .i64 t2.e] ty)) := (Below.refl _ _).alloc (Nat.le_refl _) _
  refine ⟨[v0, .int .i64 t0.e, v1, .int .i64 t1.e, v2, .int .i64 t2.e], ⟨rfl, _, 3, rfl, Nat.le_refl _, fun h => (by cases h), fun _ => ⟨w.heap.size, 0, rfl, fun j u hu => ?_⟩⟩, h0.below b1, rfl, h1.below b1, rfl, h2.below b1, rfl, trivial⟩
  rw [Nat.zero_add, World.cell?_alloc_new]
  simpa using hu

abbrev t3 : List Tr := [⟨[bA, bB, bC], 2⟩, ⟨[bB, bA, bC], 2⟩, ⟨[bB, bC, bA], 2⟩]
theorem up_t3 : Up t3 := by
  have h := up_norm ((mx 19 tP.a tQ.a).map fun r => (⟨r, Sg.both tP.e tQ.e⟩ : Tr))
  have e : norm ((mx 19 tP.a tQ.a).map fun r => (⟨r, Sg.both tP.e tQ.e⟩ : Tr)) = t3 := pr_PQ
  rw [e] at h
  exact h
theorem or_T : (norm (t3 ++ t3)).length = 3 := by
  have e : t3 = norm (t3 ++ t3) := norm_eq up_t3 fun t => by rw [List.mem_append, or_self]
  rw [← e]
  rfl
theorem has_T : (t3.any fun u => cmp u ⟨[bB, bC, bA], 2⟩ == 0) = true := (any_cmp _ _).2 (by simp)
theorem has_P : (t3.any fun u => cmp u tP == 0) = false := by
  rw [Bool.eq_false_iff, ne_eq, any_cmp]
  simp

set_option maxHeartbeats 4000000 in
theorem alive_any (C : Con) (w : World) (h : Sg.Tab w) :
    Calls Tryd.prog 12 #[] w fun e w' => e = .returned (.bool true) ∧ Below w.heap.size w w' := by
  have A0 := Lib.hid (al_new w h 9 9 30 30)
  have B0 := Lib.hid (below4 w)
  go_enter Tryd.func12, Tryd.ntmps12
  go_wp2_with fail
  refine (C.cPar _ _ tP tQ _ A0.out.2.2.2 A0.out.2.1 A0.out.2.2.1 (by simp)).mono ?_
  rintro e w1 ⟨v1, rfl, ht1, hb1⟩
  rw [pr_PQ] at ht1
  have T1 := Lib.hid ht1
  have A1 := Lib.hid (A0.out.below hb1)
  have B1 := Lib.hid ((B0.out _ _ _ _).trans (hb1.mono (B0.out _ _ _ _).size))
  obtain ⟨bl, ol, cl, _, _, rfl, -⟩ := trs_three ht1
  clear ht1 hb1 A0 B0
  obtain ⟨c1, c2, c3, c4⟩ := A1.out.1
  go_wp2_with fail
  refine (C.cThn _ _ tP tQ _ A1.out.2.2.2 A1.out.2.1 A1.out.2.2.1 (by simp)).mono ?_
  rintro e w2 ⟨v2, rfl, hm2, hb2⟩
  rw [thn_PQ] at hm2 ⊢
  have M2 := Lib.hid hm2.strs
  have A2 := Lib.hid (A1.out.below hb2)
  have T2 := Lib.hid (T1.out.below hb2)
  have B2 := Lib.hid (B1.out.trans (hb2.mono B1.out.size))
  clear hm2 hb2 c1 c2 c3 c4 A1 T1 B1
  go_wp2_with fail
  refine (C.cText _ ⟨[bA, bB, bC], 2⟩ _ A2.out.2.2.2 M2.out (by simp) (by decide)).mono ?_
  rintro e w3 ⟨rfl, hb3⟩
  rw [txt_PQ]
  have A3 := Lib.hid (A2.out.below hb3)
  have T3 := Lib.hid (T2.out.below hb3)
  have B3 := Lib.hid (B2.out.trans (hb3.mono B2.out.size))
  clear hb3 A2 T2 B2
  obtain ⟨c1, c2, c3, c4⟩ := A3.out.1
  go_wp2_with fail
  refine (C.cThn _ _ tQ tP _ A3.out.2.2.2 A3.out.2.2.1 A3.out.2.1 (by simp)).mono ?_
  rintro e w4 ⟨v4, rfl, hm4, hb4⟩
  rw [thn_QP] at hm4 ⊢
  have M4 := Lib.hid hm4.strs
  have A4 := Lib.hid (A3.out.below hb4)
  have T4 := Lib.hid (T3.out.below hb4)
  have B4 := Lib.hid (B3.out.trans (hb4.mono B3.out.size))
  clear hb4 A3 T3 B3 hm4 c1 c2 c3 c4
  go_wp2_with fail
  refine (C.cText _ tQ _ A4.out.2.2.2 M4.out (by simp) (by decide)).mono ?_
  rintro e w5 ⟨rfl, hb5⟩
  rw [txt_Q]
  have A5 := Lib.hid (A4.out.below hb5)
  have T5 := Lib.hid (T4.out.below hb5)
  have B5 := Lib.hid (B4.out.trans (hb5.mono B4.out.size))
  clear hb5 A4 T4 B4
  obtain ⟨c1, c2, c3, c4⟩ := A5.out.1
  go_wp2_with fail
  refine (C.cMix _ _ [bA] [bB, bC] _ A5.out.2.2.2 A5.out.2.1 A5.out.2.2.1 (by simp)).mono ?_
  rintro e w6 ⟨v6, rfl, hr6, hb6⟩
  obtain ⟨a6, d6, rfl, -⟩ := hr6.val
  rw [mix_PQ]
  have A6 := Lib.hid (A5.out.below hb6)
  have T6 := Lib.hid (T5.out.below hb6)
  have B6 := Lib.hid (B5.out.trans (hb6.mono B5.out.size))
  clear hb6 A5 T5 B5 hr6 c1 c2 c3 c4
  obtain ⟨b6, o6, e6, x1, x2, hv6, y1, y2, y3, y4, y5, y6⟩ := trs_three T6.out
  cases hv6
  have Y3 := Lib.hid y3
  clear y3 y4 y5 y6
  go_wp2_with fail
  refine (C.cText _ ⟨[bB, bA, bC], 2⟩ _ A6.out.2.2.2 Y3.out (by simp) (by decide)).mono ?_
  rintro e w7 ⟨rfl, hb7⟩
  rw [txt_BAC]
  have A7 := Lib.hid (A6.out.below hb7)
  have T7 := Lib.hid (T6.out.below hb7)
  have B7 := Lib.hid (B6.out.trans (hb7.mono B6.out.size))
  clear hb7 A6 T6 B6 y1 y2
  obtain ⟨c1, c2, c3, c4⟩ := A7.out.1
  go_wp2_with fail
  refine (C.cCmp _ _ tP tQ _ A7.out.2.2.2 A7.out.2.1 A7.out.2.2.1 (by simp) (by simp)).mono ?_
  rintro e w8 ⟨c, rfl, k1, k2, hc, hb8⟩
  have hneg : c < 0 := by
    rw [cmp_PQ] at hc
    unfold sgn at hc
    by_cases h0 : c < 0
    · exact h0
    · rw [if_neg h0] at hc
      split at hc <;> omega
  have A8 := Lib.hid (A7.out.below hb8)
  have T8 := Lib.hid (T7.out.below hb8)
  have B8 := Lib.hid (B7.out.trans (hb8.mono B7.out.size))
  clear hb8 A7 T7 B7 hc c1 c2 c3 c4 k1 k2
  obtain ⟨c1, c2, c3, c4⟩ := A8.out.1
  go_wp2_with fail
  refine (C.cSet _ [tQ, tP, tQ] _ (Tab.below A8.out.2.2.2 ((Below.refl _ _).alloc (Nat.le_refl _) _)) (new3 A8.out.2.2.1 A8.out.2.1 A8.out.2.2.1 _) (by simp) (by simp)).mono ?_
  rintro e w9 ⟨v9, rfl, ht9, hb9'⟩
  obtain ⟨a9, d9, rfl, -⟩ := ht9.val
  rw [norm_QPQ]
  have hb9 : Below w8.heap.size w8 w9 := ((Below.refl _ _).alloc (Nat.le_refl _) _).trans (hb9'.mono (by simp))
  have A9 := Lib.hid (A8.out.below hb9)
  have T9 := Lib.hid (T8.out.below hb9)
  have B9 := Lib.hid (B8.out.trans (hb9.mono B8.out.size))
  clear hb9 A8 T8 B8 ht9 hb9' c1 c2 c3 c4 hneg
  go_wp2_with fail
  refine (C.cOr _ _ _ _ _ A9.out.2.2.2 T9.out T9.out (by simp) (by simp)).mono ?_
  rintro e w10 ⟨v10, rfl, ht10, hb10⟩
  obtain ⟨a10, d10, rfl, -⟩ := ht10.val
  rw [or_T]
  have A10 := Lib.hid (A9.out.below hb10)
  have T10 := Lib.hid (T9.out.below hb10)
  have B10 := Lib.hid (B9.out.trans (hb10.mono B9.out.size))
  clear hb10 A9 T9 B9 ht10
  obtain ⟨b7, o7, e7, x3, x4, hv7, z1, z2, z3, z4, z5, z6⟩ := trs_three T10.out
  cases hv7
  have Z6 := Lib.hid z6
  clear z1 z2 z3 z6
  go_wp2_with fail
  refine (C.cHas _ _ _ ⟨[bB, bC, bA], 2⟩ _ A10.out.2.2.2 T10.out Z6.out (by simp) (by simp) (by simp)).mono ?_
  rintro e w11 ⟨rfl, hb11⟩
  rw [has_T]
  have A11 := Lib.hid (A10.out.below hb11)
  have T11 := Lib.hid (T10.out.below hb11)
  have B11 := Lib.hid (B10.out.trans (hb11.mono B10.out.size))
  clear hb11 A10 T10 B10 z4 z5
  obtain ⟨c1, c2, c3, c4⟩ := A11.out.1
  go_wp2_with fail
  refine (C.cHas _ _ _ tP _ A11.out.2.2.2 T11.out A11.out.2.1 (by simp) (by simp) (by simp)).mono ?_
  rintro e w12 ⟨rfl, hb12⟩
  rw [has_P]
  have A12 := Lib.hid (A11.out.below hb12)
  have T12 := Lib.hid (T11.out.below hb12)
  have B12 := Lib.hid (B11.out.trans (hb12.mono B11.out.size))
  clear hb12 A11 T11 B11 c1 c2 c3 c4
  go_wp2_with fail
  go_ret
  exact ⟨rfl, B12.out⟩
end Go.Proofs.YtmhmfnjjdcdkcaaDoor.Tr
