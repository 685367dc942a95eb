/- ParseJoins from the contracts. ParseSpaces from the contracts. -/
import Derived.Test.YtdhaghabhdeakaaQ27
import Derived.Test.YtdhaghabhdeakaaQ06
import Derived.Laws.RangeAny

namespace Go.Proofs.Ytdhaghabhdeakaa.Pa
open Go Go.RowKit Rw So
set_option maxRecDepth 20000

theorem err_ne {e : Int} (h : e ≠ 0) : (e != 0) = true := by rw [bne_iff_ne]; exact h
/-- The numbers of kinds in a block of the call's own. -/
structure Ks (kb : Nat) (w : World) : Prop where
  c0 : w.cell? ⟨kb, 0, none⟩ = some (.int .i64 7)
  c1 : w.cell? ⟨kb, 1, none⟩ = some (.int .i64 6)
  c2 : w.cell? ⟨kb, 2, none⟩ = some (.int .i64 8)
  c3 : w.cell? ⟨kb, 3, none⟩ = some (.int .i64 5)
theorem Ks.below {kb : Nat} {w w' : World} (h : Ks kb w) (hb : Below w.heap.size w w') : Ks kb w' :=
  ⟨by rw [hb.cell (Ap.cell_lt h.c0)]; exact h.c0, by rw [hb.cell (Ap.cell_lt h.c1)]; exact h.c1, by rw [hb.cell (Ap.cell_lt h.c2)]; exact h.c2, by rw [hb.cell (Ap.cell_lt h.c3)]; exact h.c3⟩
theorem Ks.new (w : World) (ty : TypeId) : Ks w.heap.size (w.alloc (.cells #[.int .i64 7, .int .i64 6, .int .i64 8, .int .i64 5] ty)) := ⟨by simp, by simp, by simp, by simp⟩
set_option maxHeartbeats 1000000 in
theorem joins_e1 (C : Con) (s t : ByteArray) (k : Int) (w : World) (hz : s.size + t.size ≤ 900) (L M : List Nd) (a1 a2 e1 e2 : Int) (HP : Hid (∀ w', Calls Try.prog 11 #[.string s] w' (ParsePost ⟨L, a1, e1⟩ w'))) (HQ : Hid (∀ w', Calls Try.prog 11 #[.string t] w' (ParsePost ⟨M, a2, e2⟩ w'))) (_hf1 : L.length ≤ 60) (_hf2 : M.length ≤ 60) (h : e1 ≠ 0) : Calls Try.prog 8 #[.string s, .string t, .int .i64 k] w fun e w' => e = .returned (.bool true) ∧ Below w.heap.size w w' := by
  have d1 : decide ((s.size : Int) + (t.size : Int) > 900) = false := by simp; omega
  have HA := Lib.hid (alive_any C)
  have KS := Lib.hid (Ks.new w 33)
  have BK := Lib.hid (below1 w (.cells #[.int .i64 7, .int .i64 6, .int .i64 8, .int .i64 5] 33))
  have g1 := err_ne h
  go_enter Try.func8, Try.ntmps8
  go_wp2_with fail
  refine (HP.out _).mono ?_
  rintro e w1 ⟨y, rfl, hy, hb⟩
  have B1 := Lib.hid (BK.out.trans (hb.mono BK.out.size))
  have K1 := Lib.hid (KS.out.below hb)
  have Y1 := Lib.hid hy
  obtain ⟨_, ya, yc, rfl, -⟩ := hy
  clear hb
  go_wp2_with fail
  refine (HQ.out _).mono ?_
  rintro e w2 ⟨z, rfl, hz, hb⟩
  have B2 := Lib.hid (B1.out.trans (hb.mono B1.out.size))
  have K2 := Lib.hid (K1.out.below hb)
  have Y2 := Lib.hid (Y1.out.below hb)
  have Z2 := Lib.hid hz
  obtain ⟨_, za, zc, rfl, -⟩ := hz
  clear hb B1 K1 Y1
  go_wp2_with fail
  refine (HA.out _).mono ?_
  rintro e wz ⟨rfl, hb⟩
  go_wp2_with fail
  go_ret
  exact ⟨rfl, B2.out.trans (hb.mono B2.out.size)⟩
set_option maxHeartbeats 1000000 in
theorem joins_e2 (C : Con) (s t : ByteArray) (k : Int) (w : World) (hz : s.size + t.size ≤ 900) (L M : List Nd) (a1 a2 e1 e2 : Int) (HP : Hid (∀ w', Calls Try.prog 11 #[.string s] w' (ParsePost ⟨L, a1, e1⟩ w'))) (HQ : Hid (∀ w', Calls Try.prog 11 #[.string t] w' (ParsePost ⟨M, a2, e2⟩ w'))) (_hf1 : L.length ≤ 60) (_hf2 : M.length ≤ 60) (h1 : e1 = 0) (h : e2 ≠ 0) : Calls Try.prog 8 #[.string s, .string t, .int .i64 k] w fun e w' => e = .returned (.bool true) ∧ Below w.heap.size w w' := by
  have d1 : decide ((s.size : Int) + (t.size : Int) > 900) = false := by simp; omega
  have HA := Lib.hid (alive_any C)
  have KS := Lib.hid (Ks.new w 33)
  have BK := Lib.hid (below1 w (.cells #[.int .i64 7, .int .i64 6, .int .i64 8, .int .i64 5] 33))
  have g1 := err_ne h
  subst h1
  go_enter Try.func8, Try.ntmps8
  go_wp2_with fail
  refine (HP.out _).mono ?_
  rintro e w1 ⟨y, rfl, hy, hb⟩
  have B1 := Lib.hid (BK.out.trans (hb.mono BK.out.size))
  have K1 := Lib.hid (KS.out.below hb)
  have Y1 := Lib.hid hy
  obtain ⟨_, ya, yc, rfl, -⟩ := hy
  clear hb
  go_wp2_with fail
  refine (HQ.out _).mono ?_
  rintro e w2 ⟨z, rfl, hz, hb⟩
  have B2 := Lib.hid (B1.out.trans (hb.mono B1.out.size))
  have K2 := Lib.hid (K1.out.below hb)
  have Y2 := Lib.hid (Y1.out.below hb)
  have Z2 := Lib.hid hz
  obtain ⟨_, za, zc, rfl, -⟩ := hz
  clear hb B1 K1 Y1
  go_wp2_with fail
  refine (HA.out _).mono ?_
  rintro e wz ⟨rfl, hb⟩
  go_wp2_with fail
  go_ret
  exact ⟨rfl, B2.out.trans (hb.mono B2.out.size)⟩
set_option maxHeartbeats 1000000 in
theorem joins_len (C : Con) (s t : ByteArray) (k : Int) (w : World) (hz : s.size + t.size ≤ 900) (L M : List Nd) (a1 a2 e1 e2 : Int) (HP : Hid (∀ w', Calls Try.prog 11 #[.string s] w' (ParsePost ⟨L, a1, e1⟩ w'))) (HQ : Hid (∀ w', Calls Try.prog 11 #[.string t] w' (ParsePost ⟨M, a2, e2⟩ w'))) (_hf1 : L.length ≤ 60) (_hf2 : M.length ≤ 60) (h1 : e1 = 0) (h2 : e2 = 0) (h : 60 ≤ L.length + M.length) : Calls Try.prog 8 #[.string s, .string t, .int .i64 k] w fun e w' => e = .returned (.bool true) ∧ Below w.heap.size w w' := by
  have d1 : decide ((s.size : Int) + (t.size : Int) > 900) = false := by simp; omega
  have HA := Lib.hid (alive_any C)
  have KS := Lib.hid (Ks.new w 33)
  have BK := Lib.hid (below1 w (.cells #[.int .i64 7, .int .i64 6, .int .i64 8, .int .i64 5] 33))
  have g1 : decide ((L.length : Int) + (M.length : Int) ≥ 60) = true := by simp; omega
  subst h1 h2
  go_enter Try.func8, Try.ntmps8
  go_wp2_with fail
  refine (HP.out _).mono ?_
  rintro e w1 ⟨y, rfl, hy, hb⟩
  have B1 := Lib.hid (BK.out.trans (hb.mono BK.out.size))
  have K1 := Lib.hid (KS.out.below hb)
  have Y1 := Lib.hid hy
  obtain ⟨_, ya, yc, rfl, -⟩ := hy
  clear hb
  go_wp2_with fail
  refine (HQ.out _).mono ?_
  rintro e w2 ⟨z, rfl, hz, hb⟩
  have B2 := Lib.hid (B1.out.trans (hb.mono B1.out.size))
  have K2 := Lib.hid (K1.out.below hb)
  have Y2 := Lib.hid (Y1.out.below hb)
  have Z2 := Lib.hid hz
  obtain ⟨_, za, zc, rfl, -⟩ := hz
  clear hb B1 K1 Y1
  go_wp2_with fail
  refine (HA.out _).mono ?_
  rintro e wz ⟨rfl, hb⟩
  go_wp2_with fail
  go_ret
  exact ⟨rfl, B2.out.trans (hb.mono B2.out.size)⟩
set_option maxHeartbeats 1000000 in
theorem joins_deep (C : Con) (s t : ByteArray) (k : Int) (w : World) (hz : s.size + t.size ≤ 900) (L M : List Nd) (a1 a2 e1 e2 : Int) (HP : Hid (∀ w', Calls Try.prog 11 #[.string s] w' (ParsePost ⟨L, a1, e1⟩ w'))) (HQ : Hid (∀ w', Calls Try.prog 11 #[.string t] w' (ParsePost ⟨M, a2, e2⟩ w'))) (_hf1 : L.length ≤ 60) (_hf2 : M.length ≤ 60) (h1 : e1 = 0) (h2 : e2 = 0) (h : L.length + M.length < 60) (hd : 16 ≤ max (depth L) (depth M)) : Calls Try.prog 8 #[.string s, .string t, .int .i64 k] w fun e w' => e = .returned (.bool true) ∧ Below w.heap.size w w' := by
  have d1 : decide ((s.size : Int) + (t.size : Int) > 900) = false := by simp; omega
  have HA := Lib.hid (alive_any C)
  have KS := Lib.hid (Ks.new w 33)
  have BK := Lib.hid (below1 w (.cells #[.int .i64 7, .int .i64 6, .int .i64 8, .int .i64 5] 33))
  have g1 : decide ((L.length : Int) + (M.length : Int) ≥ 60) = false := by simp; omega
  obtain ⟨x1, hx1⟩ : ∃ d, depth L = d := ⟨_, rfl⟩
  obtain ⟨x2, hx2⟩ : ∃ d, depth M = d := ⟨_, rfl⟩
  rw [hx1, hx2] at hd
  have HD1 := Lib.hid hx1
  have HD2 := Lib.hid hx2
  obtain ⟨m, hm, hm16⟩ : ∃ m : Int, (if x1 < x2 then (x2 : Int) else (x1 : Int)) = m ∧ 16 ≤ m := ⟨_, rfl, by split <;> omega⟩
  subst h1 h2
  clear hx1 hx2 hd
  go_enter Try.func8, Try.ntmps8
  go_wp2_with fail
  refine (HP.out _).mono ?_
  rintro e w1 ⟨y, rfl, hy, hb⟩
  have B1 := Lib.hid (BK.out.trans (hb.mono BK.out.size))
  have K1 := Lib.hid (KS.out.below hb)
  have Y1 := Lib.hid hy
  obtain ⟨_, ya, yc, rfl, -⟩ := hy
  clear hb
  go_wp2_with fail
  refine (HQ.out _).mono ?_
  rintro e w2 ⟨z, rfl, hz, hb⟩
  have B2 := Lib.hid (B1.out.trans (hb.mono B1.out.size))
  have K2 := Lib.hid (K1.out.below hb)
  have Y2 := Lib.hid (Y1.out.below hb)
  have Z2 := Lib.hid hz
  obtain ⟨_, za, zc, rfl, -⟩ := hz
  clear hb B1 K1 Y1
  go_wp2_with fail
  refine (C.cDepth _ L _ Y2.out (by omega)).mono ?_
  rintro e w3 ⟨rfl, hb⟩
  rw [HD1.out]
  have B3 := Lib.hid (B2.out.trans (hb.mono B2.out.size))
  have K3 := Lib.hid (K2.out.below hb)
  have Y3 := Lib.hid (Y2.out.below hb)
  have Z3 := Lib.hid (Z2.out.below hb)
  clear hb B2 K2 Y2 Z2
  go_wp2_with fail
  refine (C.cDepth _ M _ Z3.out (by omega)).mono ?_
  rintro e w4 ⟨rfl, hb⟩
  rw [HD2.out]
  have B4 := Lib.hid (B3.out.trans (hb.mono B3.out.size))
  have K4 := Lib.hid (K3.out.below hb)
  have Y4 := Lib.hid (Y3.out.below hb)
  have Z4 := Lib.hid (Z3.out.below hb)
  clear hb B3 K3 Y3 Z3
  go_wp2_with fail
  refine (HA.out _).mono ?_
  rintro e wz ⟨rfl, hb⟩
  go_wp2_with fail
  go_ret
  exact ⟨rfl, B4.out.trans (hb.mono B4.out.size)⟩
set_option maxHeartbeats 4000000 in
theorem joins_go (C : Con) (s t : ByteArray) (k : Int) (w : World) (hz : s.size + t.size ≤ 900) (L M : List Nd) (a1 a2 e1 e2 : Int) (HP : Hid (∀ w', Calls Try.prog 11 #[.string s] w' (ParsePost ⟨L, a1, e1⟩ w'))) (HQ : Hid (∀ w', Calls Try.prog 11 #[.string t] w' (ParsePost ⟨M, a2, e2⟩ w'))) (_hf1 : L.length ≤ 60) (_hf2 : M.length ≤ 60) (h1 : e1 = 0) (h2 : e2 = 0) (h : L.length + M.length < 60) (hd : max (depth L) (depth M) < 16) 
    (HJ : ∀ (u : ByteArray) (j : Nat), j < 4 → u.data.toList = (40 :: (s.data.toList ++ [41])) ++ jb j :: (40 :: (t.data.toList ++ [41])) → u.size ≤ 1000 → parseR u = ⟨nOf (sg j) :: (L ++ M), u.size, 0⟩) : Calls Try.prog 8 #[.string s, .string t, .int .i64 k] w fun e w' => e = .returned (.bool true) ∧ Below w.heap.size w w' := by
  have d1 : decide ((s.size : Int) + (t.size : Int) > 900) = false := by simp; omega
  have HA := Lib.hid (alive_any C)
  have KS := Lib.hid (Ks.new w 33)
  have BK := Lib.hid (below1 w (.cells #[.int .i64 7, .int .i64 6, .int .i64 8, .int .i64 5] 33))
  have g1 : decide ((L.length : Int) + (M.length : Int) ≥ 60) = false := by simp; omega
  obtain ⟨x1, hx1⟩ : ∃ d, depth L = d := ⟨_, rfl⟩
  obtain ⟨x2, hx2⟩ : ∃ d, depth M = d := ⟨_, rfl⟩
  rw [hx1, hx2] at hd
  have HD1 := Lib.hid hx1
  have HD2 := Lib.hid hx2
  obtain ⟨m, hm, hm16⟩ : ∃ m : Int, (if x1 < x2 then (x2 : Int) else (x1 : Int)) = m ∧ m < 16 := ⟨_, rfl, by split <;> omega⟩
  subst h1 h2
  obtain ⟨j, hj, hkj⟩ := and3 k
  have HU := Lib.hid (fun (x : ByteArray) (hx : x.data.toList = [jb j]) => HJ ((⟨#[40]⟩ : ByteArray) ++ s ++ ⟨#[41]⟩ ++ x ++ ⟨#[40]⟩ ++ t ++ ⟨#[41]⟩) j hj (by simp only [bytes_app, hx]; simp))
  have h4 : j = 0 ∨ j = 1 ∨ j = 2 ∨ j = 3 := by omega
  clear hx1 hx2 HJ hj hd
  rcases h4 with rfl | rfl | rfl | rfl
  · have hp := HU.out ⟨#[124]⟩ rfl
    have hux : ((⟨#[40]⟩ : ByteArray) ++ s ++ ⟨#[41]⟩ ++ ⟨#[124]⟩ ++ ⟨#[40]⟩ ++ t ++ ⟨#[41]⟩).size = s.size + t.size + 5 := by
      rw [← bytes_len]
      simp only [bytes_app, List.length_append, bytes_len, List.length_cons, List.length_nil]
      omega
    have hp := hp (by omega)
    have HPA := Lib.hid (fun w' => C.cParse ((⟨#[40]⟩ : ByteArray) ++ s ++ ⟨#[41]⟩ ++ ⟨#[124]⟩ ++ ⟨#[40]⟩ ++ t ++ ⟨#[41]⟩) w' (by omega))
    rw [hp] at HPA
    change Hid (∀ w', Calls Try.prog 11 _ w' (ParsePost ⟨nOf 7 :: (L ++ M), _, 0⟩ w')) at HPA
    have hcut : (⟨#[124, 43, 62, 59]⟩ : ByteArray).extract 0 (0 + 1) = ⟨#[124]⟩ := by decide
    clear HU hux hp
    obtain ⟨U, hU⟩ : ∃ U, ((⟨#[40]⟩ : ByteArray) ++ s ++ ⟨#[41]⟩ ++ ⟨#[124]⟩ ++ ⟨#[40]⟩ ++ t ++ ⟨#[41]⟩) = U := ⟨_, rfl⟩
    rw [hU] at HPA
    obtain ⟨pl, hpl⟩ : ∃ pl : Int, (U.size : Int) = pl := ⟨_, rfl⟩
    rw [hpl] at HPA
    obtain ⟨Q, hQ⟩ : ∃ Q, nOf 7 :: (L ++ M) = Q := ⟨_, rfl⟩
    have hQl : Q.length ≤ 1000000 := by rw [← hQ, List.length_cons, List.length_append]; omega
    rw [hQ] at HPA
    have HQQ := Lib.hid hQ
    have HQL := Lib.hid hQl
    clear hpl hQ hQl
    go_enter Try.func8, Try.ntmps8
    go_wp2_with fail
    refine (HP.out _).mono ?_
    rintro e w1 ⟨y, rfl, hy, hb⟩
    have B1 := Lib.hid (BK.out.trans (hb.mono BK.out.size))
    have K1 := Lib.hid (KS.out.below hb)
    have Y1 := Lib.hid hy
    obtain ⟨_, ya, yc, rfl, -⟩ := hy
    clear hb
    go_wp2_with fail
    refine (HQ.out _).mono ?_
    rintro e w2 ⟨z, rfl, hz, hb⟩
    have B2 := Lib.hid (B1.out.trans (hb.mono B1.out.size))
    have K2 := Lib.hid (K1.out.below hb)
    have Y2 := Lib.hid (Y1.out.below hb)
    have Z2 := Lib.hid hz
    obtain ⟨_, za, zc, rfl, -⟩ := hz
    clear hb B1 K1 Y1
    go_wp2_with fail
    refine (C.cDepth _ L _ Y2.out (by omega)).mono ?_
    rintro e w3 ⟨rfl, hb⟩
    rw [HD1.out]
    have B3 := Lib.hid (B2.out.trans (hb.mono B2.out.size))
    have K3 := Lib.hid (K2.out.below hb)
    have Y3 := Lib.hid (Y2.out.below hb)
    have Z3 := Lib.hid (Z2.out.below hb)
    clear hb B2 K2 Y2 Z2
    go_wp2_with fail
    refine (C.cDepth _ M _ Z3.out (by omega)).mono ?_
    rintro e w4 ⟨rfl, hb⟩
    rw [HD2.out]
    have B4 := Lib.hid (B3.out.trans (hb.mono B3.out.size))
    have K4 := Lib.hid (K3.out.below hb)
    have Y4 := Lib.hid (Y3.out.below hb)
    have Z4 := Lib.hid (Z3.out.below hb)
    clear hb B3 K3 Y3 Z3
    go_wp2_with fail
    refine (HPA.out _).mono ?_
    rintro e w5 ⟨x, rfl, hx, hb⟩
    have B5 := Lib.hid (B4.out.trans (hb.mono B4.out.size))
    have K5 := Lib.hid (K4.out.below hb)
    have Y5 := Lib.hid (Y4.out.below hb)
    have Z5 := Lib.hid (Z4.out.below hb)
    have X5 := Lib.hid hx
    obtain ⟨_, xa, xc, rfl, -⟩ := hx
    clear hb B4 K4 Y4 Z4
    go_wp2_with fail
    refine (HA.out _).mono ?_
    rintro e w6 ⟨rfl, hb⟩
    have B6 := Lib.hid (B5.out.trans (hb.mono B5.out.size))
    have K6 := Lib.hid (K5.out.below hb)
    have Y6 := Lib.hid (Y5.out.below hb)
    have Z6 := Lib.hid (Z5.out.below hb)
    have X6 := Lib.hid (X5.out.below hb)
    have cK := K6.out.c0
    clear hb B5 K5 Y5 Z5 X5
    go_wp2_with fail
    refine (twoR_any (nOf 7) _ _ L M _ Y6.out Z6.out (by omega) (by omega)).mono ?_
    rintro e w7 ⟨v, rfl, hv, hb⟩
    rw [show (nOf 7 :: (L ++ M)) = Q from HQQ.out] at hv
    have B7 := Lib.hid (B6.out.trans (hb.mono B6.out.size))
    have X7 := Lib.hid (X6.out.below hb)
    have V7 := Lib.hid hv
    obtain ⟨_, va, vc, rfl, -⟩ := hv
    clear hb B6 K6 Y6 Z6 X6 cK
    go_wp2_with fail
    refine (sameR_any _ _ _ _ _ X7.out V7.out HQL.out).mono ?_
    rw [sameN_refl]
    rintro e w8 ⟨rfl, hb⟩
    go_wp2_with fail
    go_ret
    exact ⟨rfl, B7.out.trans (hb.mono B7.out.size)⟩
  · have hp := HU.out ⟨#[43]⟩ rfl
    have hux : ((⟨#[40]⟩ : ByteArray) ++ s ++ ⟨#[41]⟩ ++ ⟨#[43]⟩ ++ ⟨#[40]⟩ ++ t ++ ⟨#[41]⟩).size = s.size + t.size + 5 := by
      rw [← bytes_len]
      simp only [bytes_app, List.length_append, bytes_len, List.length_cons, List.length_nil]
      omega
    have hp := hp (by omega)
    have HPA := Lib.hid (fun w' => C.cParse ((⟨#[40]⟩ : ByteArray) ++ s ++ ⟨#[41]⟩ ++ ⟨#[43]⟩ ++ ⟨#[40]⟩ ++ t ++ ⟨#[41]⟩) w' (by omega))
    rw [hp] at HPA
    change Hid (∀ w', Calls Try.prog 11 _ w' (ParsePost ⟨nOf 6 :: (L ++ M), _, 0⟩ w')) at HPA
    have hcut : (⟨#[124, 43, 62, 59]⟩ : ByteArray).extract 1 (1 + 1) = ⟨#[43]⟩ := by decide
    clear HU hux hp
    obtain ⟨U, hU⟩ : ∃ U, ((⟨#[40]⟩ : ByteArray) ++ s ++ ⟨#[41]⟩ ++ ⟨#[43]⟩ ++ ⟨#[40]⟩ ++ t ++ ⟨#[41]⟩) = U := ⟨_, rfl⟩
    rw [hU] at HPA
    obtain ⟨pl, hpl⟩ : ∃ pl : Int, (U.size : Int) = pl := ⟨_, rfl⟩
    rw [hpl] at HPA
    obtain ⟨Q, hQ⟩ : ∃ Q, nOf 6 :: (L ++ M) = Q := ⟨_, rfl⟩
    have hQl : Q.length ≤ 1000000 := by rw [← hQ, List.length_cons, List.length_append]; omega
    rw [hQ] at HPA
    have HQQ := Lib.hid hQ
    have HQL := Lib.hid hQl
    clear hpl hQ hQl
    go_enter Try.func8, Try.ntmps8
    go_wp2_with fail
    refine (HP.out _).mono ?_
    rintro e w1 ⟨y, rfl, hy, hb⟩
    have B1 := Lib.hid (BK.out.trans (hb.mono BK.out.size))
    have K1 := Lib.hid (KS.out.below hb)
    have Y1 := Lib.hid hy
    obtain ⟨_, ya, yc, rfl, -⟩ := hy
    clear hb
    go_wp2_with fail
    refine (HQ.out _).mono ?_
    rintro e w2 ⟨z, rfl, hz, hb⟩
    have B2 := Lib.hid (B1.out.trans (hb.mono B1.out.size))
    have K2 := Lib.hid (K1.out.below hb)
    have Y2 := Lib.hid (Y1.out.below hb)
    have Z2 := Lib.hid hz
    obtain ⟨_, za, zc, rfl, -⟩ := hz
    clear hb B1 K1 Y1
    go_wp2_with fail
    refine (C.cDepth _ L _ Y2.out (by omega)).mono ?_
    rintro e w3 ⟨rfl, hb⟩
    rw [HD1.out]
    have B3 := Lib.hid (B2.out.trans (hb.mono B2.out.size))
    have K3 := Lib.hid (K2.out.below hb)
    have Y3 := Lib.hid (Y2.out.below hb)
    have Z3 := Lib.hid (Z2.out.below hb)
    clear hb B2 K2 Y2 Z2
    go_wp2_with fail
    refine (C.cDepth _ M _ Z3.out (by omega)).mono ?_
    rintro e w4 ⟨rfl, hb⟩
    rw [HD2.out]
    have B4 := Lib.hid (B3.out.trans (hb.mono B3.out.size))
    have K4 := Lib.hid (K3.out.below hb)
    have Y4 := Lib.hid (Y3.out.below hb)
    have Z4 := Lib.hid (Z3.out.below hb)
    clear hb B3 K3 Y3 Z3
    go_wp2_with fail
    refine (HPA.out _).mono ?_
    rintro e w5 ⟨x, rfl, hx, hb⟩
    have B5 := Lib.hid (B4.out.trans (hb.mono B4.out.size))
    have K5 := Lib.hid (K4.out.below hb)
    have Y5 := Lib.hid (Y4.out.below hb)
    have Z5 := Lib.hid (Z4.out.below hb)
    have X5 := Lib.hid hx
    obtain ⟨_, xa, xc, rfl, -⟩ := hx
    clear hb B4 K4 Y4 Z4
    go_wp2_with fail
    refine (HA.out _).mono ?_
    rintro e w6 ⟨rfl, hb⟩
    have B6 := Lib.hid (B5.out.trans (hb.mono B5.out.size))
    have K6 := Lib.hid (K5.out.below hb)
    have Y6 := Lib.hid (Y5.out.below hb)
    have Z6 := Lib.hid (Z5.out.below hb)
    have X6 := Lib.hid (X5.out.below hb)
    have cK := K6.out.c1
    clear hb B5 K5 Y5 Z5 X5
    go_wp2_with fail
    refine (twoR_any (nOf 6) _ _ L M _ Y6.out Z6.out (by omega) (by omega)).mono ?_
    rintro e w7 ⟨v, rfl, hv, hb⟩
    rw [show (nOf 6 :: (L ++ M)) = Q from HQQ.out] at hv
    have B7 := Lib.hid (B6.out.trans (hb.mono B6.out.size))
    have X7 := Lib.hid (X6.out.below hb)
    have V7 := Lib.hid hv
    obtain ⟨_, va, vc, rfl, -⟩ := hv
    clear hb B6 K6 Y6 Z6 X6 cK
    go_wp2_with fail
    refine (sameR_any _ _ _ _ _ X7.out V7.out HQL.out).mono ?_
    rw [sameN_refl]
    rintro e w8 ⟨rfl, hb⟩
    go_wp2_with fail
    go_ret
    exact ⟨rfl, B7.out.trans (hb.mono B7.out.size)⟩
  · have hp := HU.out ⟨#[62]⟩ rfl
    have hux : ((⟨#[40]⟩ : ByteArray) ++ s ++ ⟨#[41]⟩ ++ ⟨#[62]⟩ ++ ⟨#[40]⟩ ++ t ++ ⟨#[41]⟩).size = s.size + t.size + 5 := by
      rw [← bytes_len]
      simp only [bytes_app, List.length_append, bytes_len, List.length_cons, List.length_nil]
      omega
    have hp := hp (by omega)
    have HPA := Lib.hid (fun w' => C.cParse ((⟨#[40]⟩ : ByteArray) ++ s ++ ⟨#[41]⟩ ++ ⟨#[62]⟩ ++ ⟨#[40]⟩ ++ t ++ ⟨#[41]⟩) w' (by omega))
    rw [hp] at HPA
    change Hid (∀ w', Calls Try.prog 11 _ w' (ParsePost ⟨nOf 8 :: (L ++ M), _, 0⟩ w')) at HPA
    have hcut : (⟨#[124, 43, 62, 59]⟩ : ByteArray).extract 2 (2 + 1) = ⟨#[62]⟩ := by decide
    clear HU hux hp
    obtain ⟨U, hU⟩ : ∃ U, ((⟨#[40]⟩ : ByteArray) ++ s ++ ⟨#[41]⟩ ++ ⟨#[62]⟩ ++ ⟨#[40]⟩ ++ t ++ ⟨#[41]⟩) = U := ⟨_, rfl⟩
    rw [hU] at HPA
    obtain ⟨pl, hpl⟩ : ∃ pl : Int, (U.size : Int) = pl := ⟨_, rfl⟩
    rw [hpl] at HPA
    obtain ⟨Q, hQ⟩ : ∃ Q, nOf 8 :: (L ++ M) = Q := ⟨_, rfl⟩
    have hQl : Q.length ≤ 1000000 := by rw [← hQ, List.length_cons, List.length_append]; omega
    rw [hQ] at HPA
    have HQQ := Lib.hid hQ
    have HQL := Lib.hid hQl
    clear hpl hQ hQl
    go_enter Try.func8, Try.ntmps8
    go_wp2_with fail
    refine (HP.out _).mono ?_
    rintro e w1 ⟨y, rfl, hy, hb⟩
    have B1 := Lib.hid (BK.out.trans (hb.mono BK.out.size))
    have K1 := Lib.hid (KS.out.below hb)
    have Y1 := Lib.hid hy
    obtain ⟨_, ya, yc, rfl, -⟩ := hy
    clear hb
    go_wp2_with fail
    refine (HQ.out _).mono ?_
    rintro e w2 ⟨z, rfl, hz, hb⟩
    have B2 := Lib.hid (B1.out.trans (hb.mono B1.out.size))
    have K2 := Lib.hid (K1.out.below hb)
    have Y2 := Lib.hid (Y1.out.below hb)
    have Z2 := Lib.hid hz
    obtain ⟨_, za, zc, rfl, -⟩ := hz
    clear hb B1 K1 Y1
    go_wp2_with fail
    refine (C.cDepth _ L _ Y2.out (by omega)).mono ?_
    rintro e w3 ⟨rfl, hb⟩
    rw [HD1.out]
    have B3 := Lib.hid (B2.out.trans (hb.mono B2.out.size))
    have K3 := Lib.hid (K2.out.below hb)
    have Y3 := Lib.hid (Y2.out.below hb)
    have Z3 := Lib.hid (Z2.out.below hb)
    clear hb B2 K2 Y2 Z2
    go_wp2_with fail
    refine (C.cDepth _ M _ Z3.out (by omega)).mono ?_
    rintro e w4 ⟨rfl, hb⟩
    rw [HD2.out]
    have B4 := Lib.hid (B3.out.trans (hb.mono B3.out.size))
    have K4 := Lib.hid (K3.out.below hb)
    have Y4 := Lib.hid (Y3.out.below hb)
    have Z4 := Lib.hid (Z3.out.below hb)
    clear hb B3 K3 Y3 Z3
    go_wp2_with fail
    refine (HPA.out _).mono ?_
    rintro e w5 ⟨x, rfl, hx, hb⟩
    have B5 := Lib.hid (B4.out.trans (hb.mono B4.out.size))
    have K5 := Lib.hid (K4.out.below hb)
    have Y5 := Lib.hid (Y4.out.below hb)
    have Z5 := Lib.hid (Z4.out.below hb)
    have X5 := Lib.hid hx
    obtain ⟨_, xa, xc, rfl, -⟩ := hx
    clear hb B4 K4 Y4 Z4
    go_wp2_with fail
    refine (HA.out _).mono ?_
    rintro e w6 ⟨rfl, hb⟩
    have B6 := Lib.hid (B5.out.trans (hb.mono B5.out.size))
    have K6 := Lib.hid (K5.out.below hb)
    have Y6 := Lib.hid (Y5.out.below hb)
    have Z6 := Lib.hid (Z5.out.below hb)
    have X6 := Lib.hid (X5.out.below hb)
    have cK := K6.out.c2
    clear hb B5 K5 Y5 Z5 X5
    go_wp2_with fail
    refine (twoR_any (nOf 8) _ _ L M _ Y6.out Z6.out (by omega) (by omega)).mono ?_
    rintro e w7 ⟨v, rfl, hv, hb⟩
    rw [show (nOf 8 :: (L ++ M)) = Q from HQQ.out] at hv
    have B7 := Lib.hid (B6.out.trans (hb.mono B6.out.size))
    have X7 := Lib.hid (X6.out.below hb)
    have V7 := Lib.hid hv
    obtain ⟨_, va, vc, rfl, -⟩ := hv
    clear hb B6 K6 Y6 Z6 X6 cK
    go_wp2_with fail
    refine (sameR_any _ _ _ _ _ X7.out V7.out HQL.out).mono ?_
    rw [sameN_refl]
    rintro e w8 ⟨rfl, hb⟩
    go_wp2_with fail
    go_ret
    exact ⟨rfl, B7.out.trans (hb.mono B7.out.size)⟩
  · have hp := HU.out ⟨#[59]⟩ rfl
    have hux : ((⟨#[40]⟩ : ByteArray) ++ s ++ ⟨#[41]⟩ ++ ⟨#[59]⟩ ++ ⟨#[40]⟩ ++ t ++ ⟨#[41]⟩).size = s.size + t.size + 5 := by
      rw [← bytes_len]
      simp only [bytes_app, List.length_append, bytes_len, List.length_cons, List.length_nil]
      omega
    have hp := hp (by omega)
    have HPA := Lib.hid (fun w' => C.cParse ((⟨#[40]⟩ : ByteArray) ++ s ++ ⟨#[41]⟩ ++ ⟨#[59]⟩ ++ ⟨#[40]⟩ ++ t ++ ⟨#[41]⟩) w' (by omega))
    rw [hp] at HPA
    change Hid (∀ w', Calls Try.prog 11 _ w' (ParsePost ⟨nOf 5 :: (L ++ M), _, 0⟩ w')) at HPA
    have hcut : (⟨#[124, 43, 62, 59]⟩ : ByteArray).extract 3 (3 + 1) = ⟨#[59]⟩ := by decide
    clear HU hux hp
    obtain ⟨U, hU⟩ : ∃ U, ((⟨#[40]⟩ : ByteArray) ++ s ++ ⟨#[41]⟩ ++ ⟨#[59]⟩ ++ ⟨#[40]⟩ ++ t ++ ⟨#[41]⟩) = U := ⟨_, rfl⟩
    rw [hU] at HPA
    obtain ⟨pl, hpl⟩ : ∃ pl : Int, (U.size : Int) = pl := ⟨_, rfl⟩
    rw [hpl] at HPA
    obtain ⟨Q, hQ⟩ : ∃ Q, nOf 5 :: (L ++ M) = Q := ⟨_, rfl⟩
    have hQl : Q.length ≤ 1000000 := by rw [← hQ, List.length_cons, List.length_append]; omega
    rw [hQ] at HPA
    have HQQ := Lib.hid hQ
    have HQL := Lib.hid hQl
    clear hpl hQ hQl
    go_enter Try.func8, Try.ntmps8
    go_wp2_with fail
    refine (HP.out _).mono ?_
    rintro e w1 ⟨y, rfl, hy, hb⟩
    have B1 := Lib.hid (BK.out.trans (hb.mono BK.out.size))
    have K1 := Lib.hid (KS.out.below hb)
    have Y1 := Lib.hid hy
    obtain ⟨_, ya, yc, rfl, -⟩ := hy
    clear hb
    go_wp2_with fail
    refine (HQ.out _).mono ?_
    rintro e w2 ⟨z, rfl, hz, hb⟩
    have B2 := Lib.hid (B1.out.trans (hb.mono B1.out.size))
    have K2 := Lib.hid (K1.out.below hb)
    have Y2 := Lib.hid (Y1.out.below hb)
    have Z2 := Lib.hid hz
    obtain ⟨_, za, zc, rfl, -⟩ := hz
    clear hb B1 K1 Y1
    go_wp2_with fail
    refine (C.cDepth _ L _ Y2.out (by omega)).mono ?_
    rintro e w3 ⟨rfl, hb⟩
    rw [HD1.out]
    have B3 := Lib.hid (B2.out.trans (hb.mono B2.out.size))
    have K3 := Lib.hid (K2.out.below hb)
    have Y3 := Lib.hid (Y2.out.below hb)
    have Z3 := Lib.hid (Z2.out.below hb)
    clear hb B2 K2 Y2 Z2
    go_wp2_with fail
    refine (C.cDepth _ M _ Z3.out (by omega)).mono ?_
    rintro e w4 ⟨rfl, hb⟩
    rw [HD2.out]
    have B4 := Lib.hid (B3.out.trans (hb.mono B3.out.size))
    have K4 := Lib.hid (K3.out.below hb)
    have Y4 := Lib.hid (Y3.out.below hb)
    have Z4 := Lib.hid (Z3.out.below hb)
    clear hb B3 K3 Y3 Z3
    go_wp2_with fail
    refine (HPA.out _).mono ?_
    rintro e w5 ⟨x, rfl, hx, hb⟩
    have B5 := Lib.hid (B4.out.trans (hb.mono B4.out.size))
    have K5 := Lib.hid (K4.out.below hb)
    have Y5 := Lib.hid (Y4.out.below hb)
    have Z5 := Lib.hid (Z4.out.below hb)
    have X5 := Lib.hid hx
    obtain ⟨_, xa, xc, rfl, -⟩ := hx
    clear hb B4 K4 Y4 Z4
    go_wp2_with fail
    refine (HA.out _).mono ?_
    rintro e w6 ⟨rfl, hb⟩
    have B6 := Lib.hid (B5.out.trans (hb.mono B5.out.size))
    have K6 := Lib.hid (K5.out.below hb)
    have Y6 := Lib.hid (Y5.out.below hb)
    have Z6 := Lib.hid (Z5.out.below hb)
    have X6 := Lib.hid (X5.out.below hb)
    have cK := K6.out.c3
    clear hb B5 K5 Y5 Z5 X5
    go_wp2_with fail
    refine (twoR_any (nOf 5) _ _ L M _ Y6.out Z6.out (by omega) (by omega)).mono ?_
    rintro e w7 ⟨v, rfl, hv, hb⟩
    rw [show (nOf 5 :: (L ++ M)) = Q from HQQ.out] at hv
    have B7 := Lib.hid (B6.out.trans (hb.mono B6.out.size))
    have X7 := Lib.hid (X6.out.below hb)
    have V7 := Lib.hid hv
    obtain ⟨_, va, vc, rfl, -⟩ := hv
    clear hb B6 K6 Y6 Z6 X6 cK
    go_wp2_with fail
    refine (sameR_any _ _ _ _ _ X7.out V7.out HQL.out).mono ?_
    rw [sameN_refl]
    rintro e w8 ⟨rfl, hb⟩
    go_wp2_with fail
    go_ret
    exact ⟨rfl, B7.out.trans (hb.mono B7.out.size)⟩
theorem joins_law (C : Con) (s t : ByteArray) (k : Int) (w : World) (hs : s.size ≤ 140737488355328) (ht : t.size ≤ 140737488355328) : Calls Try.prog 8 #[.string s, .string t, .int .i64 k] w fun e w' => e = .returned (.bool true) ∧ Below w.heap.size w w' := by
  by_cases h1 : s.size + t.size ≤ 900
  case neg =>
    have HA := Lib.hid (alive_any C)
    have d1 : decide ((s.size : Int) + (t.size : Int) > 900) = true := by simp; omega
    go_enter Try.func8, Try.ntmps8
    go_wp2_with fail
    refine (HA.out _).mono ?_
    rintro e w1 ⟨rfl, hb⟩
    go_wp2_with fail
    go_ret
    exact ⟨rfl, hb⟩
  have HP := Lib.hid (fun w' => C.cParse s w' hs)
  have HQ := Lib.hid (fun w' => C.cParse t w' ht)
  have hf1 := (parse_few s).1
  have hf2 := (parse_few t).1
  have HJ := fun (u : ByteArray) (j : Nat) hj e1 e2 hl hd hu hz => parse_joins (s := s) (t := t) (u := u) (j := j) hj e1 e2 hl hd hu hz
  obtain ⟨r1, hr1⟩ : ∃ r, parseR s = r := ⟨_, rfl⟩
  obtain ⟨r2, hr2⟩ : ∃ r, parseR t = r := ⟨_, rfl⟩
  rw [hr1] at HP hf1 HJ
  rw [hr2] at HQ hf2 HJ
  clear hr1 hr2
  obtain ⟨L, a1, e1⟩ := r1
  obtain ⟨M, a2, e2⟩ := r2
  by_cases h2 : e1 = 0
  case neg => exact joins_e1 C s t k w h1 L M a1 a2 e1 e2 HP HQ hf1 hf2 h2
  by_cases h3 : e2 = 0
  case neg => exact joins_e2 C s t k w h1 L M a1 a2 e1 e2 HP HQ hf1 hf2 h2 h3
  by_cases h4 : L.length + M.length < 60
  case neg => exact joins_len C s t k w h1 L M a1 a2 e1 e2 HP HQ hf1 hf2 h2 h3 (by omega)
  by_cases h5 : max (depth L) (depth M) < 16
  case neg => exact joins_deep C s t k w h1 L M a1 a2 e1 e2 HP HQ hf1 hf2 h2 h3 h4 (by omega)
  exact joins_go C s t k w h1 L M a1 a2 e1 e2 HP HQ hf1 hf2 h2 h3 h4 h5 (fun u j hj hu hz => HJ u j hj h2 h3 h4 h5 hu hz)
end Go.Proofs.Ytdhaghabhdeakaa.Pa

namespace Go.Proofs.Ytdhaghabhdeakaa.Pa
open Go Go.RowKit Rw So
set_option maxRecDepth 20000

theorem ascii_txt (sp : Bool) : ∀ (t : Tm), t.nam → ∀ b ∈ t.txt sp, b.toNat < 128
  | .leaf x, h, b, hb => by
    have h : To.named (word x) = true := h
    unfold To.named at h
    simp only [Bool.and_eq_true, decide_eq_true_eq, List.all_eq_true] at h
    have := h.1 b hb
    unfold To.letB at this
    simp at this
    omega
  | .blk a, h, b, hb => by
    have hb : b ∈ 91 :: (a.txt sp ++ [93]) := hb
    simp only [List.mem_cons, List.mem_append, List.not_mem_nil, or_false] at hb
    rcases hb with rfl | hb | rfl
    · decide
    · exact ascii_txt sp a h b hb
    · decide
  | .bin k a c, h, b, hb => by
    have hbrk : ∀ (q : Bool) (l : List UInt8), (∀ x ∈ l, x.toNat < 128) → ∀ x ∈ brkT q l, x.toNat < 128 := fun q l hl x hx => by
      cases q
      · exact hl x hx
      · have hx : x ∈ 40 :: (l ++ [41]) := hx
        simp only [List.mem_cons, List.mem_append, List.not_mem_nil, or_false] at hx
        rcases hx with rfl | hx | rfl
        · decide
        · exact hl x hx
        · decide
    have hsep : ∀ x ∈ sep sp k, x.toNat < 128 := fun x hx => by
      unfold sep at hx
      have hs : (sgB k).toNat < 128 := by
        unfold sgB
        repeat' split
        all_goals decide
      repeat' split at hx
      all_goals
        simp only [List.mem_cons, List.not_mem_nil, or_false] at hx
        first
          | (subst hx; decide)
          | (rcases hx with rfl | rfl | rfl; decide; exact hs; decide)
          | (subst hx; exact hs)
    have hb : b ∈ brkT (decide (a.rank < lim k)) (a.txt sp) ++ sep sp k ++ brkT (decide (c.rank < limR k)) (c.txt sp) := hb
    rcases List.mem_append.1 hb with hb | hb
    · rcases List.mem_append.1 hb with hb | hb
      · exact hbrk _ _ (ascii_txt sp a h.1) b hb
      · exact hsep b hb
    · exact hbrk _ _ (ascii_txt sp c h.2) b hb
theorem noB_take {s : ByteArray} {p : Nat} (h : p < s.size) : noB (s.data.toList.take (p + 1)) = noB (s.data.toList.take p) ++ if s[p] = 32 then [] else [s[p]] := by
  rw [List.take_succ_eq_append_getElem (by simpa using h), noB_append]
  have e : s.data.toList[p]'(by simpa using h) = s[p] := by simp; rfl
  rw [e]
  congr 1
  unfold noB
  by_cases hc : s[p] = 32
  · rw [if_pos hc, hc]; rfl
  · rw [if_neg hc]
    simp [hc]
theorem ext_one {s : ByteArray} {p : Nat} (h : p < s.size) : (s.extract p (p + 1)).data.toList = [s[p]] := by
  rw [To.ext_take, show p + 1 - p = 1 by omega]
  have hl : p < s.data.toList.length := by simpa using h
  rw [List.drop_eq_getElem_cons hl]
  simp
  rfl
theorem noB_len (l : List UInt8) : (noB l).length ≤ l.length := List.length_filter_le ..
theorem below_any' (w : World) (s : ByteArray) (p : Nat) : Below w.heap.size w (w.iter s p) := (Below.refl _ _).alloc (Nat.le_refl _) _
set_option maxHeartbeats 4000000 in
theorem spaces_law (C : Con) (v : Value) (l : List Nd) (w : World) (hv : Nds w v l) (hm : Nms l) :
    Calls Try.prog 9 #[v] w fun e w' => e = .returned (.bool true) ∧ Below w.heap.size w w' := by
  have HV := Lib.hid hv
  have HM := Lib.hid hm
  have HA := Lib.hid (alive_any C)
  have HF := Lib.hid (fewP_any l v w hv)
  cases hf : fewP l with
  | false =>
    rw [hf] at HF
    clear hf
    obtain ⟨_, a, cap, rfl, -⟩ := hv
    go_enter Try.func9, Try.ntmps9
    go_wp2_with fail
    refine HF.out.mono ?_
    rintro e w1 ⟨rfl, rfl⟩
    go_wp2_with fail
    refine (HA.out _).mono ?_
    rintro e w1 ⟨rfl, hb⟩
    go_wp2_with fail
    go_ret
    exact ⟨rfl, hb⟩
  | true =>
    rw [hf] at HF
    have hl : l.length ≤ 120 := by
      unfold fewP at hf
      simp only [Bool.and_eq_true, decide_eq_true_eq] at hf
      exact hf.1
    have HR := Lib.hid (rightSR_any l v w hv (by omega) hm)
    have HL := Lib.hid hl
    clear hf hl
    cases hr : rightB l with
    | false =>
      rw [hr] at HR
      clear hr
      obtain ⟨_, a, cap, rfl, -⟩ := hv
      go_enter Try.func9, Try.ntmps9
      go_wp2_with fail
      refine HF.out.mono ?_
      rintro e w1 ⟨rfl, rfl⟩
      go_wp2_with fail
      refine HR.out.mono ?_
      rintro e w1 ⟨rfl, hb⟩
      have B1 := Lib.hid hb
      clear hb
      go_wp2_with fail
      refine (HA.out _).mono ?_
      rintro e w2 ⟨rfl, hb⟩
      go_wp2_with fail
      go_ret
      exact ⟨rfl, B1.out.trans (hb.mono B1.out.size)⟩
    | true =>
      rw [hr] at HR
      obtain ⟨t, hc, ho, hn⟩ := right_conv hr
      have h60 : l.length ≤ 60 := by
        have hr2 := hr
        unfold rightB at hr2
        simp only [Bool.and_eq_true, decide_eq_true_eq] at hr2
        omega
      have HPN : Hid (∀ u : ByteArray, u.data.toList = noB (t.txt true) → u.size ≤ 1000 → parseR u = ⟨l, u.size, 0⟩) := fun u hu hs => parse_noB hr hc ho hn hu hs
      have HLEN : Hid (∀ u : ByteArray, u.data.toList = t.txt true → u.size ≤ 480) := fun u hu => by
        have h1 := txt_len true t hn
        rw [hc.row] at h1
        rw [← bytes_len, hu]
        omega
      have HAS := Lib.hid (ascii_txt true t hn)
      have HT := Lib.hid (fun w' h => text_any t ho hn l v w' hc h (by omega))
      clear hr hc ho hn
      obtain ⟨_, a, cap, rfl, -⟩ := hv
      go_enter Try.func9, Try.ntmps9
      go_wp2_with fail
      refine HF.out.mono ?_
      rintro e w1 ⟨rfl, rfl⟩
      go_wp2_with fail
      refine HR.out.mono ?_
      rintro e w1 ⟨rfl, hb⟩
      have B1 := Lib.hid hb
      clear hb
      go_wp2_with fail
      refine (HT.out _ (HV.out.below B1.out)).mono ?_
      rintro e w2 ⟨s, rfl, hs, hb⟩
      have B2 := Lib.hid (B1.out.trans (hb.mono B1.out.size))
      have hsz := HLEN.out s hs
      rw [← hs] at HPN HAS
      clear hb hs B1
      go_wp2_with fail
      go_loopw [4] (fun tv wr => ∃ (pos : Nat) (u : ByteArray), pos ≤ s.size ∧ u.size ≤ pos ∧ tv = .string u ∧ wr = w2.iter s pos ∧ Hid (u.data.toList = noB (s.data.toList.take pos))) (fun _ wr => s.size - wr.iterPos w2.heap.size)
      case atStart => exact ⟨0, ⟨#[]⟩, Nat.zero_le _, Nat.le_refl _, rfl, rfl, Lib.hid rfl⟩
      case round =>
        obtain ⟨pos, u, hp, hus, rfl, rfl, HU⟩ := hrel
        by_cases hlt : pos < s.size
        · have ha : (s[pos]'hlt).toNat < 128 := HAS.out _ (by
            have e : s.data.toList[pos]'(by simpa using hlt) = s[pos] := by simp; rfl
            rw [← e]
            exact List.getElem_mem _)
          have hnx : ∀ ty, (Instr.next (.pointer (some ⟨w2.heap.size, 0, none⟩)) true ty).run Try.prog (w2.iter s pos) = _ := fun ty => run_next_ascii w2 s pos ty hlt ha
          have hex := ext_one hlt
          obtain ⟨c, hcc⟩ : ∃ c, (s[pos]'hlt).toNat = c := ⟨_, rfl⟩
          have hc32 : c = 32 ↔ s[pos] = 32 := by rw [← hcc]; exact ⟨fun e => UInt8.toNat.inj e, fun e => by rw [e]; rfl⟩
          obtain ⟨x, hx⟩ : ∃ x, s.extract pos (pos + 1) = x := ⟨_, rfl⟩
          rw [hx] at hex
          have hxs : x.size = 1 := by rw [← bytes_len, hex]; rfl
          by_cases h32 : c = 32
          · have HTK : Hid (u.data.toList = noB (s.data.toList.take (pos + 1))) := Lib.hid (by rw [noB_take hlt, if_pos (hc32.1 h32), List.append_nil]; exact HU.out)
            subst h32
            have g1 : (((s[pos]'hlt).toNat : Int) != 32) = false := by rw [hcc]; rfl
            clear hex hx hc32 hxs ha hcc
            go_wp2_with fail
            go_roundw
            case rel => exact ⟨pos + 1, u, by omega, by omega, rfl, rfl, HTK⟩
            case measure => simp only [World.iterPos_iter]; omega
          · have HTK : Hid ((u ++ x).data.toList = noB (s.data.toList.take (pos + 1))) := Lib.hid (by rw [noB_take hlt, if_neg (fun e => h32 (hc32.2 e)), bytes_app, HU.out, hex])
            have HUX : Hid ((u ++ x).size ≤ pos + 1) := Lib.hid (by rw [← bytes_len, bytes_app, List.length_append, bytes_len, bytes_len]; omega)
            have g1 : (((s[pos]'hlt).toNat : Int) != 32) = true := by rw [hcc, bne_iff_ne]; omega
            have HXX := Lib.hid hx
            clear hex hx hc32 ha hcc h32
            go_wp2_with fail
            go_roundw
            case rel => exact ⟨pos + 1, u ++ x, by omega, HUX.out, by rw [HXX.out], rfl, HTK⟩
            case measure => simp only [World.iterPos_iter]; omega
        · have hnx : ∀ ty, (Instr.next (.pointer (some ⟨w2.heap.size, 0, none⟩)) true ty).run Try.prog (w2.iter s pos) = _ := fun ty => run_next_end w2 s pos ty hlt
          have hpn := HPN.out u (by rw [HU.out, List.take_of_length_le (by simp; omega)]) (by omega)
          have HPA := Lib.hid (fun w' => C.cParse u w' (by omega))
          rw [hpn] at HPA
          have BI := Lib.hid (below_any' w2 s pos)
          have d1 : decide ((1000 : Int) < (s.size : Int)) = false := by simp; omega
          clear hpn
          go_wp2_with fail
          refine (HPA.out _).mono ?_
          rintro e w3 ⟨y, rfl, hy, hb⟩
          have B3 := Lib.hid ((B2.out.trans (BI.out.mono B2.out.size)).trans (hb.mono (Nat.le_trans B2.out.size BI.out.size)))
          have HY := Lib.hid hy
          clear hb hy
          go_wp2_with fail
          refine (HA.out _).mono ?_
          rintro e w4 ⟨rfl, hb⟩
          have B4 := Lib.hid (B3.out.trans (hb.mono B3.out.size))
          have HY4 := Lib.hid (HY.out.below hb)
          clear hb B3 HY
          go_wp2_with fail
          refine (sameR_any _ _ _ _ _ HY4.out (HV.out.below B4.out) (by have := HL.out; omega)).mono ?_
          rw [sameN_refl]
          rintro e w5 ⟨rfl, hb⟩
          go_wp2_with fail
          go_ret
          exact ⟨rfl, B4.out.trans (hb.mono B4.out.size)⟩
end Go.Proofs.Ytdhaghabhdeakaa.Pa
