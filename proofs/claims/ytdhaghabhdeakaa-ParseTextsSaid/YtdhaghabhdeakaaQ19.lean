/- The program's join, many, oneOrTwo, level. -/
import Derived.Test.YtdhaghabhdeakaaQ17
import Derived.Test.YtdhaghabhdeakaaQ14
import Derived.OwnWalk
import Derived.Deep.LoopGhost

namespace Go.Proofs.Ytdhaghabhdeakaa.Pa
open Go Go.RowKit Rw
set_option maxRecDepth 20000

theorem Rb.way0 {w : World} {b p : Nat} {tv : Value} (h : Rb w b tv p) : w.cell? ⟨b, 2, none⟩ = some (.int .i64 7) ∧ w.cell? ⟨b, 3, none⟩ = some (.int .i64 7) ∧ w.cell? ⟨b, 4, none⟩ = some (mvM b) := by
  unfold Rb at h
  simp [World.cell?, h]
theorem Rb.way1 {w : World} {b p : Nat} {tv : Value} (h : Rb w b tv p) : w.cell? ⟨b, 5, none⟩ = some (.int .i64 6) ∧ w.cell? ⟨b, 6, none⟩ = some (.int .i64 6) ∧ w.cell? ⟨b, 7, none⟩ = some (mvM b) := by
  unfold Rb at h
  simp [World.cell?, h]
theorem Rb.way2 {w : World} {b p : Nat} {tv : Value} (h : Rb w b tv p) : w.cell? ⟨b, 8, none⟩ = some (.int .i64 8) ∧ w.cell? ⟨b, 9, none⟩ = some (.int .i64 8) ∧ w.cell? ⟨b, 10, none⟩ = some (mvM b) := by
  unfold Rb at h
  simp [World.cell?, h]
theorem Rb.way3 {w : World} {b p : Nat} {tv : Value} (h : Rb w b tv p) : w.cell? ⟨b, 11, none⟩ = some (.int .i64 5) ∧ w.cell? ⟨b, 12, none⟩ = some (.int .i64 5) ∧ w.cell? ⟨b, 13, none⟩ = some (mvM b) := by
  unfold Rb at h
  simp [World.cell?, h]
theorem Rb.way4 {w : World} {b p : Nat} {tv : Value} (h : Rb w b tv p) : w.cell? ⟨b, 14, none⟩ = some (.int .i64 10) ∧ w.cell? ⟨b, 15, none⟩ = some (.int .i64 9) ∧ w.cell? ⟨b, 16, none⟩ = some (mvO b) := by
  unfold Rb at h
  simp [World.cell?, h]
abbrev rp (b : Nat) : Value := .pointer (some ⟨b, 0, none⟩)
abbrev LvCall (b : Nat) (tv : Value) (ts : List To.Tk) (en k : Nat) (h : Got) (w : World) : Prop := Calls Try.prog 45 #[rp b, .int .i64 (k : Int)] w (RdPost b tv ts en h w)
set_option maxHeartbeats 1000000 in
theorem join_0 {b en : Nat} {tv : Value} {ts : List To.Tk} (g h : Got) (w : World) (y : Value) (hy : Ap.RdO (fun k => k ≠ b) w 3 y g.L.length (cls g.L)) (hl : g.L.length + h.L.length ≤ 900000) (hc : LvCall b tv ts en 1 h w) :
    Calls Try.prog 63 #[rp b, .int .i64 0, y] w (RdPost b tv ts en (two 7 g h) w) := by
  have HC := Lib.hid hc
  have HY := Lib.hid hy
  have HL := Lib.hid hl
  obtain ⟨_, a0, c0, rfl, -⟩ := hy.rd
  clear hc hy hl
  cases hb : h.bad with
  | true =>
    have HB := Lib.hid hb
    clear hb
    go_enter Try.func63, Try.ntmps63
    go_wp2_with fail
    refine HC.out.mono ?_
    intro e w1 hpost
    obtain ⟨a, n, c, rfl, -, hr, hm⟩ := hpost.up
    rw [HB.out]
    have HR := Lib.hid hr
    have HM := Lib.hid hm
    clear hr hm hpost
    go_wp2_with fail
    go_ret2
    exact RdPost.no HB.out HR.out HM.out
  | false =>
    have HB := Lib.hid hb
    clear hb
    go_enter Try.func63, Try.ntmps63
    go_wp2_with fail
    refine HC.out.mono ?_
    intro e w1 hpost
    obtain ⟨a, n, c, rfl, hz, hr, hm⟩ := hpost.up
    rw [HB.out]
    have HR := Lib.hid hr
    have HM := Lib.hid hm
    obtain ⟨d1, d2, d3⟩ := hr.blk.way0
    have MK := Lib.hid (make_two 7 (Ap.RdO.rd (rdo_mv HY.out hm)) (hz HB.out).rd (by have := HL.out; omega) 23)
    clear hr hm hpost hz
    go_wp2_with fail
    refine MK.out.mono ?_
    rintro e w2 ⟨z, rfl, hz, hbl⟩
    have HZ := Lib.hid (rdo_new (b := b) hz HR.out.blk.lt)
    have HR2 := Lib.hid (HR.out.below hbl)
    have HM2 := Lib.hid (HM.out.trans (Mv.of hbl))
    obtain ⟨N, hN⟩ : ∃ N, (nOf 7 :: (g.L ++ h.L)).length = N := ⟨_, rfl⟩
    rw [hN] at HZ hz
    have HNN := Lib.hid hN
    obtain ⟨_, za, zc, rfl, -⟩ := hz.rd
    clear hz hbl hN d1 d2 d3
    go_wp2_with fail
    go_ret2
    exact RdPost.yes HB.out (by rw [show (two 7 g h).L.length = N from HNN.out]; exact HZ.out) HR2.out HM2.out
set_option maxHeartbeats 1000000 in
theorem join_1 {b en : Nat} {tv : Value} {ts : List To.Tk} (g h : Got) (w : World) (y : Value) (hy : Ap.RdO (fun k => k ≠ b) w 3 y g.L.length (cls g.L)) (hl : g.L.length + h.L.length ≤ 900000) (hc : LvCall b tv ts en 2 h w) :
    Calls Try.prog 63 #[rp b, .int .i64 1, y] w (RdPost b tv ts en (two 6 g h) w) := by
  have HC := Lib.hid hc
  have HY := Lib.hid hy
  have HL := Lib.hid hl
  obtain ⟨_, a0, c0, rfl, -⟩ := hy.rd
  clear hc hy hl
  cases hb : h.bad with
  | true =>
    have HB := Lib.hid hb
    clear hb
    go_enter Try.func63, Try.ntmps63
    go_wp2_with fail
    refine HC.out.mono ?_
    intro e w1 hpost
    obtain ⟨a, n, c, rfl, -, hr, hm⟩ := hpost.up
    rw [HB.out]
    have HR := Lib.hid hr
    have HM := Lib.hid hm
    clear hr hm hpost
    go_wp2_with fail
    go_ret2
    exact RdPost.no HB.out HR.out HM.out
  | false =>
    have HB := Lib.hid hb
    clear hb
    go_enter Try.func63, Try.ntmps63
    go_wp2_with fail
    refine HC.out.mono ?_
    intro e w1 hpost
    obtain ⟨a, n, c, rfl, hz, hr, hm⟩ := hpost.up
    rw [HB.out]
    have HR := Lib.hid hr
    have HM := Lib.hid hm
    obtain ⟨d1, d2, d3⟩ := hr.blk.way1
    have MK := Lib.hid (make_two 6 (Ap.RdO.rd (rdo_mv HY.out hm)) (hz HB.out).rd (by have := HL.out; omega) 23)
    clear hr hm hpost hz
    go_wp2_with fail
    refine MK.out.mono ?_
    rintro e w2 ⟨z, rfl, hz, hbl⟩
    have HZ := Lib.hid (rdo_new (b := b) hz HR.out.blk.lt)
    have HR2 := Lib.hid (HR.out.below hbl)
    have HM2 := Lib.hid (HM.out.trans (Mv.of hbl))
    obtain ⟨N, hN⟩ : ∃ N, (nOf 6 :: (g.L ++ h.L)).length = N := ⟨_, rfl⟩
    rw [hN] at HZ hz
    have HNN := Lib.hid hN
    obtain ⟨_, za, zc, rfl, -⟩ := hz.rd
    clear hz hbl hN d1 d2 d3
    go_wp2_with fail
    go_ret2
    exact RdPost.yes HB.out (by rw [show (two 6 g h).L.length = N from HNN.out]; exact HZ.out) HR2.out HM2.out
set_option maxHeartbeats 1000000 in
theorem join_2 {b en : Nat} {tv : Value} {ts : List To.Tk} (g h : Got) (w : World) (y : Value) (hy : Ap.RdO (fun k => k ≠ b) w 3 y g.L.length (cls g.L)) (hl : g.L.length + h.L.length ≤ 900000) (hc : LvCall b tv ts en 3 h w) :
    Calls Try.prog 63 #[rp b, .int .i64 2, y] w (RdPost b tv ts en (two 8 g h) w) := by
  have HC := Lib.hid hc
  have HY := Lib.hid hy
  have HL := Lib.hid hl
  obtain ⟨_, a0, c0, rfl, -⟩ := hy.rd
  clear hc hy hl
  cases hb : h.bad with
  | true =>
    have HB := Lib.hid hb
    clear hb
    go_enter Try.func63, Try.ntmps63
    go_wp2_with fail
    refine HC.out.mono ?_
    intro e w1 hpost
    obtain ⟨a, n, c, rfl, -, hr, hm⟩ := hpost.up
    rw [HB.out]
    have HR := Lib.hid hr
    have HM := Lib.hid hm
    clear hr hm hpost
    go_wp2_with fail
    go_ret2
    exact RdPost.no HB.out HR.out HM.out
  | false =>
    have HB := Lib.hid hb
    clear hb
    go_enter Try.func63, Try.ntmps63
    go_wp2_with fail
    refine HC.out.mono ?_
    intro e w1 hpost
    obtain ⟨a, n, c, rfl, hz, hr, hm⟩ := hpost.up
    rw [HB.out]
    have HR := Lib.hid hr
    have HM := Lib.hid hm
    obtain ⟨d1, d2, d3⟩ := hr.blk.way2
    have MK := Lib.hid (make_two 8 (Ap.RdO.rd (rdo_mv HY.out hm)) (hz HB.out).rd (by have := HL.out; omega) 23)
    clear hr hm hpost hz
    go_wp2_with fail
    refine MK.out.mono ?_
    rintro e w2 ⟨z, rfl, hz, hbl⟩
    have HZ := Lib.hid (rdo_new (b := b) hz HR.out.blk.lt)
    have HR2 := Lib.hid (HR.out.below hbl)
    have HM2 := Lib.hid (HM.out.trans (Mv.of hbl))
    obtain ⟨N, hN⟩ : ∃ N, (nOf 8 :: (g.L ++ h.L)).length = N := ⟨_, rfl⟩
    rw [hN] at HZ hz
    have HNN := Lib.hid hN
    obtain ⟨_, za, zc, rfl, -⟩ := hz.rd
    clear hz hbl hN d1 d2 d3
    go_wp2_with fail
    go_ret2
    exact RdPost.yes HB.out (by rw [show (two 8 g h).L.length = N from HNN.out]; exact HZ.out) HR2.out HM2.out
set_option maxHeartbeats 1000000 in
theorem join_3 {b en : Nat} {tv : Value} {ts : List To.Tk} (g h : Got) (w : World) (y : Value) (hy : Ap.RdO (fun k => k ≠ b) w 3 y g.L.length (cls g.L)) (hl : g.L.length + h.L.length ≤ 900000) (hc : LvCall b tv ts en 4 h w) :
    Calls Try.prog 63 #[rp b, .int .i64 3, y] w (RdPost b tv ts en (two 5 g h) w) := by
  have HC := Lib.hid hc
  have HY := Lib.hid hy
  have HL := Lib.hid hl
  obtain ⟨_, a0, c0, rfl, -⟩ := hy.rd
  clear hc hy hl
  cases hb : h.bad with
  | true =>
    have HB := Lib.hid hb
    clear hb
    go_enter Try.func63, Try.ntmps63
    go_wp2_with fail
    refine HC.out.mono ?_
    intro e w1 hpost
    obtain ⟨a, n, c, rfl, -, hr, hm⟩ := hpost.up
    rw [HB.out]
    have HR := Lib.hid hr
    have HM := Lib.hid hm
    clear hr hm hpost
    go_wp2_with fail
    go_ret2
    exact RdPost.no HB.out HR.out HM.out
  | false =>
    have HB := Lib.hid hb
    clear hb
    go_enter Try.func63, Try.ntmps63
    go_wp2_with fail
    refine HC.out.mono ?_
    intro e w1 hpost
    obtain ⟨a, n, c, rfl, hz, hr, hm⟩ := hpost.up
    rw [HB.out]
    have HR := Lib.hid hr
    have HM := Lib.hid hm
    obtain ⟨d1, d2, d3⟩ := hr.blk.way3
    have MK := Lib.hid (make_two 5 (Ap.RdO.rd (rdo_mv HY.out hm)) (hz HB.out).rd (by have := HL.out; omega) 23)
    clear hr hm hpost hz
    go_wp2_with fail
    refine MK.out.mono ?_
    rintro e w2 ⟨z, rfl, hz, hbl⟩
    have HZ := Lib.hid (rdo_new (b := b) hz HR.out.blk.lt)
    have HR2 := Lib.hid (HR.out.below hbl)
    have HM2 := Lib.hid (HM.out.trans (Mv.of hbl))
    obtain ⟨N, hN⟩ : ∃ N, (nOf 5 :: (g.L ++ h.L)).length = N := ⟨_, rfl⟩
    rw [hN] at HZ hz
    have HNN := Lib.hid hN
    obtain ⟨_, za, zc, rfl, -⟩ := hz.rd
    clear hz hbl hN d1 d2 d3
    go_wp2_with fail
    go_ret2
    exact RdPost.yes HB.out (by rw [show (two 5 g h).L.length = N from HNN.out]; exact HZ.out) HR2.out HM2.out
set_option maxHeartbeats 1000000 in
theorem join_4 {b en : Nat} {tv : Value} {ts : List To.Tk} (g h : Got) (w : World) (y : Value) (hy : Ap.RdO (fun k => k ≠ b) w 3 y g.L.length (cls g.L)) (hl : g.L.length + h.L.length ≤ 900000) (hc : LvCall b tv ts en 5 h w) :
    Calls Try.prog 63 #[rp b, .int .i64 4, y] w (RdPost b tv ts en (two 10 g h) w) := by
  have HC := Lib.hid hc
  have HY := Lib.hid hy
  have HL := Lib.hid hl
  obtain ⟨_, a0, c0, rfl, -⟩ := hy.rd
  clear hc hy hl
  cases hb : h.bad with
  | true =>
    have HB := Lib.hid hb
    clear hb
    go_enter Try.func63, Try.ntmps63
    go_wp2_with fail
    refine HC.out.mono ?_
    intro e w1 hpost
    obtain ⟨a, n, c, rfl, -, hr, hm⟩ := hpost.up
    rw [HB.out]
    have HR := Lib.hid hr
    have HM := Lib.hid hm
    clear hr hm hpost
    go_wp2_with fail
    go_ret2
    exact RdPost.no HB.out HR.out HM.out
  | false =>
    have HB := Lib.hid hb
    clear hb
    go_enter Try.func63, Try.ntmps63
    go_wp2_with fail
    refine HC.out.mono ?_
    intro e w1 hpost
    obtain ⟨a, n, c, rfl, hz, hr, hm⟩ := hpost.up
    rw [HB.out]
    have HR := Lib.hid hr
    have HM := Lib.hid hm
    obtain ⟨d1, d2, d3⟩ := hr.blk.way4
    have MK := Lib.hid (make_two 10 (Ap.RdO.rd (rdo_mv HY.out hm)) (hz HB.out).rd (by have := HL.out; omega) 23)
    clear hr hm hpost hz
    go_wp2_with fail
    refine MK.out.mono ?_
    rintro e w2 ⟨z, rfl, hz, hbl⟩
    have HZ := Lib.hid (rdo_new (b := b) hz HR.out.blk.lt)
    have HR2 := Lib.hid (HR.out.below hbl)
    have HM2 := Lib.hid (HM.out.trans (Mv.of hbl))
    obtain ⟨N, hN⟩ : ∃ N, (nOf 10 :: (g.L ++ h.L)).length = N := ⟨_, rfl⟩
    rw [hN] at HZ hz
    have HNN := Lib.hid hN
    obtain ⟨_, za, zc, rfl, -⟩ := hz.rd
    clear hz hbl hN d1 d2 d3
    go_wp2_with fail
    go_ret2
    exact RdPost.yes HB.out (by rw [show (two 10 g h).L.length = N from HNN.out]; exact HZ.out) HR2.out HM2.out
set_option maxHeartbeats 2000000 in
theorem many_0 {f b en : Nat} {tv : Value} {ts : List To.Tk} (hts : ts.length ≤ 1000) (ih : LvP f b tv ts en) (x g : Got) (w : World) (hm : mo f (tkn ts) 0 x = some g) (hn : x.next ≤ ts.length) (hl : x.L.length ≤ 3 * x.next) (hc : LvCall b tv ts en 1 x w) :
    Calls Try.prog 43 #[rp b, .int .i64 0] w (RdPost b tv ts en g w) := by
  have IH := Lib.hid ih
  have HC := Lib.hid hc
  have HMO := Lib.hid hm
  clear ih hc hm
  go_enter Try.func43, Try.ntmps43
  go_wp2_with fail
  refine HC.out.mono ?_
  intro e w1 hpost
  obtain ⟨a, n, c, rfl, hz, hr, hm⟩ := hpost.up
  have HZ := Lib.hid hz
  have HR := Lib.hid hr
  have HM := Lib.hid hm
  clear hr hm hpost hz
  go_wp2_with fail
  go_loopg [6, 7] f (fun n0 tr ok wr => ∃ (c : Got) (a : Option Addr) (m cc : Nat), tr = .slice a m cc ∧ ok = .bool (!c.bad) ∧ Hid (mo n0 (tkn ts) 0 c = some g) ∧ n0 ≤ f ∧ c.next ≤ ts.length ∧ c.L.length ≤ 3 * c.next ∧ Hid (c.bad = false → Ap.RdO (fun k => k ≠ b) wr 3 (.slice a m cc) c.L.length (cls c.L)) ∧ Hid (Rdr wr b tv ts en c.next) ∧ Hid (Mv b w wr))
  case atStart => exact ⟨x, a, n, c, rfl, rfl, HMO, Nat.le_refl _, hn, hl, HZ, HR, HM⟩
  case round =>
    clear HZ HR HM
    obtain ⟨c, a, m, cc, rfl, rfl, HC1, hnf, hcn, hcl, HZ, HR, HM⟩ := hrel
    obtain ⟨kk, hkk⟩ : ∃ kk, kd (tkn ts) c.next = kk := ⟨_, rfl⟩
    have TK := Lib.hid (take_any b tv ts en c.next 7 wr HR.out (by decide) hts)
    unfold TakePost at TK
    rw [hkk] at TK
    have HKK := Lib.hid hkk
    cases hcb : c.bad with
    | true =>
      have hg : g = c := mo_stop HC1.out (by rw [hcb]; simp)
      subst hg
      have HCB := Lib.hid hcb
      clear hcb hkk
      go_wp2_with fail
      go_ret2
      exact RdPost.no HCB.out HR.out HM.out
    | false =>
      obtain ⟨d1, d2, d3⟩ := HR.out.blk.way0
      have HCB := Lib.hid hcb
      by_cases hks : kk = 7
      · obtain ⟨n', x2, rfl, hx2, hm2⟩ := mo_go HC1.out hcb (hkk.trans (by rw [hks]; rfl))
        have hlt : c.next < ts.length := by
          apply Nat.lt_of_not_le
          intro hle
          rw [kd_out (by rw [tkn_len]; exact hle)] at hkk
          omega
        obtain ⟨r1, r2, r3⟩ := (few n').1 _ _ _ _ (by rw [tkn_len]; omega) hx2
        rw [tkn_len] at r2
        have IX2 := Lib.hid (fun w' hr' => IH.out (c.next + 1) 1 x2 w' (by decide) (by have := lv_more hx2 (f - n'); rwa [show n' + (f - n') = f by omega] at this) hr')
        have HM2 := Lib.hid hm2
        rw [decide_eq_true hks, if_pos hks] at TK
        have HY := Lib.hid (HZ.out hcb)
        clear hcb hkk hx2 hm2 hks
        go_wp2_with fail
        refine TK.out.mono ?_
        rintro e w2 ⟨rfl, hr2, hmv2⟩
        have HR2 := Lib.hid hr2
        have HMV2 := Lib.hid (HM.out.trans hmv2)
        have JN := Lib.hid (join_0 c x2 w2 _ (rdo_mv HY.out hmv2) (by omega) (IX2.out w2 hr2))
        clear hr2 hmv2 d1 d2 d3
        go_wp2_with fail
        refine JN.out.mono ?_
        intro e w3 hpost
        obtain ⟨a3, n3, c3, rfl, hz3, hr3, hm3⟩ := hpost.up
        have HZ3 := Lib.hid hz3
        have HR3 := Lib.hid hr3
        have HM3 := Lib.hid (HMV2.out.trans hm3)
        clear hz3 hr3 hm3 hpost
        go_wp2_with fail
        go_roundg n'
        case measure => omega
        case rel => exact ⟨two 7 c x2, a3, n3, c3, rfl, rfl, HM2, by omega, r2, by show (nOf 7 :: (c.L ++ x2.L)).length ≤ 3 * x2.next; rw [List.length_cons, List.length_append]; omega, HZ3, HR3, HM3⟩
      · have hg : g = c := mo_stop HC1.out (fun hc => hks (hkk.symm.trans (hc.2.trans rfl)))
        subst hg
        rw [decide_eq_false hks, if_neg hks] at TK
        have HY := Lib.hid (HZ.out hcb)
        clear hcb hkk hks
        go_wp2_with fail
        refine TK.out.mono ?_
        rintro e w2 ⟨rfl, hr2, hmv2⟩
        have HR2 := Lib.hid hr2
        have HMV2 := Lib.hid (HM.out.trans hmv2)
        have HY2 := Lib.hid (rdo_mv HY.out hmv2)
        obtain ⟨N, hN⟩ : ∃ N, g.L.length = N := ⟨_, rfl⟩
        clear hr2 hmv2 d1 d2 d3
        go_wp2_with fail
        go_ret2
        exact RdPost.yes HCB.out HY2.out HR2.out HMV2.out
set_option maxHeartbeats 2000000 in
theorem many_1 {f b en : Nat} {tv : Value} {ts : List To.Tk} (hts : ts.length ≤ 1000) (ih : LvP f b tv ts en) (x g : Got) (w : World) (hm : mo f (tkn ts) 1 x = some g) (hn : x.next ≤ ts.length) (hl : x.L.length ≤ 3 * x.next) (hc : LvCall b tv ts en 2 x w) :
    Calls Try.prog 43 #[rp b, .int .i64 1] w (RdPost b tv ts en g w) := by
  have IH := Lib.hid ih
  have HC := Lib.hid hc
  have HMO := Lib.hid hm
  clear ih hc hm
  go_enter Try.func43, Try.ntmps43
  go_wp2_with fail
  refine HC.out.mono ?_
  intro e w1 hpost
  obtain ⟨a, n, c, rfl, hz, hr, hm⟩ := hpost.up
  have HZ := Lib.hid hz
  have HR := Lib.hid hr
  have HM := Lib.hid hm
  clear hr hm hpost hz
  go_wp2_with fail
  go_loopg [6, 7] f (fun n0 tr ok wr => ∃ (c : Got) (a : Option Addr) (m cc : Nat), tr = .slice a m cc ∧ ok = .bool (!c.bad) ∧ Hid (mo n0 (tkn ts) 1 c = some g) ∧ n0 ≤ f ∧ c.next ≤ ts.length ∧ c.L.length ≤ 3 * c.next ∧ Hid (c.bad = false → Ap.RdO (fun k => k ≠ b) wr 3 (.slice a m cc) c.L.length (cls c.L)) ∧ Hid (Rdr wr b tv ts en c.next) ∧ Hid (Mv b w wr))
  case atStart => exact ⟨x, a, n, c, rfl, rfl, HMO, Nat.le_refl _, hn, hl, HZ, HR, HM⟩
  case round =>
    clear HZ HR HM
    obtain ⟨c, a, m, cc, rfl, rfl, HC1, hnf, hcn, hcl, HZ, HR, HM⟩ := hrel
    obtain ⟨kk, hkk⟩ : ∃ kk, kd (tkn ts) c.next = kk := ⟨_, rfl⟩
    have TK := Lib.hid (take_any b tv ts en c.next 6 wr HR.out (by decide) hts)
    unfold TakePost at TK
    rw [hkk] at TK
    have HKK := Lib.hid hkk
    cases hcb : c.bad with
    | true =>
      have hg : g = c := mo_stop HC1.out (by rw [hcb]; simp)
      subst hg
      have HCB := Lib.hid hcb
      clear hcb hkk
      go_wp2_with fail
      go_ret2
      exact RdPost.no HCB.out HR.out HM.out
    | false =>
      obtain ⟨d1, d2, d3⟩ := HR.out.blk.way1
      have HCB := Lib.hid hcb
      by_cases hks : kk = 6
      · obtain ⟨n', x2, rfl, hx2, hm2⟩ := mo_go HC1.out hcb (hkk.trans (by rw [hks]; rfl))
        have hlt : c.next < ts.length := by
          apply Nat.lt_of_not_le
          intro hle
          rw [kd_out (by rw [tkn_len]; exact hle)] at hkk
          omega
        obtain ⟨r1, r2, r3⟩ := (few n').1 _ _ _ _ (by rw [tkn_len]; omega) hx2
        rw [tkn_len] at r2
        have IX2 := Lib.hid (fun w' hr' => IH.out (c.next + 1) 2 x2 w' (by decide) (by have := lv_more hx2 (f - n'); rwa [show n' + (f - n') = f by omega] at this) hr')
        have HM2 := Lib.hid hm2
        rw [decide_eq_true hks, if_pos hks] at TK
        have HY := Lib.hid (HZ.out hcb)
        clear hcb hkk hx2 hm2 hks
        go_wp2_with fail
        refine TK.out.mono ?_
        rintro e w2 ⟨rfl, hr2, hmv2⟩
        have HR2 := Lib.hid hr2
        have HMV2 := Lib.hid (HM.out.trans hmv2)
        have JN := Lib.hid (join_1 c x2 w2 _ (rdo_mv HY.out hmv2) (by omega) (IX2.out w2 hr2))
        clear hr2 hmv2 d1 d2 d3
        go_wp2_with fail
        refine JN.out.mono ?_
        intro e w3 hpost
        obtain ⟨a3, n3, c3, rfl, hz3, hr3, hm3⟩ := hpost.up
        have HZ3 := Lib.hid hz3
        have HR3 := Lib.hid hr3
        have HM3 := Lib.hid (HMV2.out.trans hm3)
        clear hz3 hr3 hm3 hpost
        go_wp2_with fail
        go_roundg n'
        case measure => omega
        case rel => exact ⟨two 6 c x2, a3, n3, c3, rfl, rfl, HM2, by omega, r2, by show (nOf 6 :: (c.L ++ x2.L)).length ≤ 3 * x2.next; rw [List.length_cons, List.length_append]; omega, HZ3, HR3, HM3⟩
      · have hg : g = c := mo_stop HC1.out (fun hc => hks (hkk.symm.trans (hc.2.trans rfl)))
        subst hg
        rw [decide_eq_false hks, if_neg hks] at TK
        have HY := Lib.hid (HZ.out hcb)
        clear hcb hkk hks
        go_wp2_with fail
        refine TK.out.mono ?_
        rintro e w2 ⟨rfl, hr2, hmv2⟩
        have HR2 := Lib.hid hr2
        have HMV2 := Lib.hid (HM.out.trans hmv2)
        have HY2 := Lib.hid (rdo_mv HY.out hmv2)
        obtain ⟨N, hN⟩ : ∃ N, g.L.length = N := ⟨_, rfl⟩
        clear hr2 hmv2 d1 d2 d3
        go_wp2_with fail
        go_ret2
        exact RdPost.yes HCB.out HY2.out HR2.out HMV2.out
set_option maxHeartbeats 2000000 in
theorem many_2 {f b en : Nat} {tv : Value} {ts : List To.Tk} (hts : ts.length ≤ 1000) (ih : LvP f b tv ts en) (x g : Got) (w : World) (hm : mo f (tkn ts) 2 x = some g) (hn : x.next ≤ ts.length) (hl : x.L.length ≤ 3 * x.next) (hc : LvCall b tv ts en 3 x w) :
    Calls Try.prog 43 #[rp b, .int .i64 2] w (RdPost b tv ts en g w) := by
  have IH := Lib.hid ih
  have HC := Lib.hid hc
  have HMO := Lib.hid hm
  clear ih hc hm
  go_enter Try.func43, Try.ntmps43
  go_wp2_with fail
  refine HC.out.mono ?_
  intro e w1 hpost
  obtain ⟨a, n, c, rfl, hz, hr, hm⟩ := hpost.up
  have HZ := Lib.hid hz
  have HR := Lib.hid hr
  have HM := Lib.hid hm
  clear hr hm hpost hz
  go_wp2_with fail
  go_loopg [6, 7] f (fun n0 tr ok wr => ∃ (c : Got) (a : Option Addr) (m cc : Nat), tr = .slice a m cc ∧ ok = .bool (!c.bad) ∧ Hid (mo n0 (tkn ts) 2 c = some g) ∧ n0 ≤ f ∧ c.next ≤ ts.length ∧ c.L.length ≤ 3 * c.next ∧ Hid (c.bad = false → Ap.RdO (fun k => k ≠ b) wr 3 (.slice a m cc) c.L.length (cls c.L)) ∧ Hid (Rdr wr b tv ts en c.next) ∧ Hid (Mv b w wr))
  case atStart => exact ⟨x, a, n, c, rfl, rfl, HMO, Nat.le_refl _, hn, hl, HZ, HR, HM⟩
  case round =>
    clear HZ HR HM
    obtain ⟨c, a, m, cc, rfl, rfl, HC1, hnf, hcn, hcl, HZ, HR, HM⟩ := hrel
    obtain ⟨kk, hkk⟩ : ∃ kk, kd (tkn ts) c.next = kk := ⟨_, rfl⟩
    have TK := Lib.hid (take_any b tv ts en c.next 8 wr HR.out (by decide) hts)
    unfold TakePost at TK
    rw [hkk] at TK
    have HKK := Lib.hid hkk
    cases hcb : c.bad with
    | true =>
      have hg : g = c := mo_stop HC1.out (by rw [hcb]; simp)
      subst hg
      have HCB := Lib.hid hcb
      clear hcb hkk
      go_wp2_with fail
      go_ret2
      exact RdPost.no HCB.out HR.out HM.out
    | false =>
      obtain ⟨d1, d2, d3⟩ := HR.out.blk.way2
      have HCB := Lib.hid hcb
      by_cases hks : kk = 8
      · obtain ⟨n', x2, rfl, hx2, hm2⟩ := mo_go HC1.out hcb (hkk.trans (by rw [hks]; rfl))
        have hlt : c.next < ts.length := by
          apply Nat.lt_of_not_le
          intro hle
          rw [kd_out (by rw [tkn_len]; exact hle)] at hkk
          omega
        obtain ⟨r1, r2, r3⟩ := (few n').1 _ _ _ _ (by rw [tkn_len]; omega) hx2
        rw [tkn_len] at r2
        have IX2 := Lib.hid (fun w' hr' => IH.out (c.next + 1) 3 x2 w' (by decide) (by have := lv_more hx2 (f - n'); rwa [show n' + (f - n') = f by omega] at this) hr')
        have HM2 := Lib.hid hm2
        rw [decide_eq_true hks, if_pos hks] at TK
        have HY := Lib.hid (HZ.out hcb)
        clear hcb hkk hx2 hm2 hks
        go_wp2_with fail
        refine TK.out.mono ?_
        rintro e w2 ⟨rfl, hr2, hmv2⟩
        have HR2 := Lib.hid hr2
        have HMV2 := Lib.hid (HM.out.trans hmv2)
        have JN := Lib.hid (join_2 c x2 w2 _ (rdo_mv HY.out hmv2) (by omega) (IX2.out w2 hr2))
        clear hr2 hmv2 d1 d2 d3
        go_wp2_with fail
        refine JN.out.mono ?_
        intro e w3 hpost
        obtain ⟨a3, n3, c3, rfl, hz3, hr3, hm3⟩ := hpost.up
        have HZ3 := Lib.hid hz3
        have HR3 := Lib.hid hr3
        have HM3 := Lib.hid (HMV2.out.trans hm3)
        clear hz3 hr3 hm3 hpost
        go_wp2_with fail
        go_roundg n'
        case measure => omega
        case rel => exact ⟨two 8 c x2, a3, n3, c3, rfl, rfl, HM2, by omega, r2, by show (nOf 8 :: (c.L ++ x2.L)).length ≤ 3 * x2.next; rw [List.length_cons, List.length_append]; omega, HZ3, HR3, HM3⟩
      · have hg : g = c := mo_stop HC1.out (fun hc => hks (hkk.symm.trans (hc.2.trans rfl)))
        subst hg
        rw [decide_eq_false hks, if_neg hks] at TK
        have HY := Lib.hid (HZ.out hcb)
        clear hcb hkk hks
        go_wp2_with fail
        refine TK.out.mono ?_
        rintro e w2 ⟨rfl, hr2, hmv2⟩
        have HR2 := Lib.hid hr2
        have HMV2 := Lib.hid (HM.out.trans hmv2)
        have HY2 := Lib.hid (rdo_mv HY.out hmv2)
        obtain ⟨N, hN⟩ : ∃ N, g.L.length = N := ⟨_, rfl⟩
        clear hr2 hmv2 d1 d2 d3
        go_wp2_with fail
        go_ret2
        exact RdPost.yes HCB.out HY2.out HR2.out HMV2.out
set_option maxHeartbeats 2000000 in
theorem many_3 {f b en : Nat} {tv : Value} {ts : List To.Tk} (hts : ts.length ≤ 1000) (ih : LvP f b tv ts en) (x g : Got) (w : World) (hm : mo f (tkn ts) 3 x = some g) (hn : x.next ≤ ts.length) (hl : x.L.length ≤ 3 * x.next) (hc : LvCall b tv ts en 4 x w) :
    Calls Try.prog 43 #[rp b, .int .i64 3] w (RdPost b tv ts en g w) := by
  have IH := Lib.hid ih
  have HC := Lib.hid hc
  have HMO := Lib.hid hm
  clear ih hc hm
  go_enter Try.func43, Try.ntmps43
  go_wp2_with fail
  refine HC.out.mono ?_
  intro e w1 hpost
  obtain ⟨a, n, c, rfl, hz, hr, hm⟩ := hpost.up
  have HZ := Lib.hid hz
  have HR := Lib.hid hr
  have HM := Lib.hid hm
  clear hr hm hpost hz
  go_wp2_with fail
  go_loopg [6, 7] f (fun n0 tr ok wr => ∃ (c : Got) (a : Option Addr) (m cc : Nat), tr = .slice a m cc ∧ ok = .bool (!c.bad) ∧ Hid (mo n0 (tkn ts) 3 c = some g) ∧ n0 ≤ f ∧ c.next ≤ ts.length ∧ c.L.length ≤ 3 * c.next ∧ Hid (c.bad = false → Ap.RdO (fun k => k ≠ b) wr 3 (.slice a m cc) c.L.length (cls c.L)) ∧ Hid (Rdr wr b tv ts en c.next) ∧ Hid (Mv b w wr))
  case atStart => exact ⟨x, a, n, c, rfl, rfl, HMO, Nat.le_refl _, hn, hl, HZ, HR, HM⟩
  case round =>
    clear HZ HR HM
    obtain ⟨c, a, m, cc, rfl, rfl, HC1, hnf, hcn, hcl, HZ, HR, HM⟩ := hrel
    obtain ⟨kk, hkk⟩ : ∃ kk, kd (tkn ts) c.next = kk := ⟨_, rfl⟩
    have TK := Lib.hid (take_any b tv ts en c.next 5 wr HR.out (by decide) hts)
    unfold TakePost at TK
    rw [hkk] at TK
    have HKK := Lib.hid hkk
    cases hcb : c.bad with
    | true =>
      have hg : g = c := mo_stop HC1.out (by rw [hcb]; simp)
      subst hg
      have HCB := Lib.hid hcb
      clear hcb hkk
      go_wp2_with fail
      go_ret2
      exact RdPost.no HCB.out HR.out HM.out
    | false =>
      obtain ⟨d1, d2, d3⟩ := HR.out.blk.way3
      have HCB := Lib.hid hcb
      by_cases hks : kk = 5
      · obtain ⟨n', x2, rfl, hx2, hm2⟩ := mo_go HC1.out hcb (hkk.trans (by rw [hks]; rfl))
        have hlt : c.next < ts.length := by
          apply Nat.lt_of_not_le
          intro hle
          rw [kd_out (by rw [tkn_len]; exact hle)] at hkk
          omega
        obtain ⟨r1, r2, r3⟩ := (few n').1 _ _ _ _ (by rw [tkn_len]; omega) hx2
        rw [tkn_len] at r2
        have IX2 := Lib.hid (fun w' hr' => IH.out (c.next + 1) 4 x2 w' (by decide) (by have := lv_more hx2 (f - n'); rwa [show n' + (f - n') = f by omega] at this) hr')
        have HM2 := Lib.hid hm2
        rw [decide_eq_true hks, if_pos hks] at TK
        have HY := Lib.hid (HZ.out hcb)
        clear hcb hkk hx2 hm2 hks
        go_wp2_with fail
        refine TK.out.mono ?_
        rintro e w2 ⟨rfl, hr2, hmv2⟩
        have HR2 := Lib.hid hr2
        have HMV2 := Lib.hid (HM.out.trans hmv2)
        have JN := Lib.hid (join_3 c x2 w2 _ (rdo_mv HY.out hmv2) (by omega) (IX2.out w2 hr2))
        clear hr2 hmv2 d1 d2 d3
        go_wp2_with fail
        refine JN.out.mono ?_
        intro e w3 hpost
        obtain ⟨a3, n3, c3, rfl, hz3, hr3, hm3⟩ := hpost.up
        have HZ3 := Lib.hid hz3
        have HR3 := Lib.hid hr3
        have HM3 := Lib.hid (HMV2.out.trans hm3)
        clear hz3 hr3 hm3 hpost
        go_wp2_with fail
        go_roundg n'
        case measure => omega
        case rel => exact ⟨two 5 c x2, a3, n3, c3, rfl, rfl, HM2, by omega, r2, by show (nOf 5 :: (c.L ++ x2.L)).length ≤ 3 * x2.next; rw [List.length_cons, List.length_append]; omega, HZ3, HR3, HM3⟩
      · have hg : g = c := mo_stop HC1.out (fun hc => hks (hkk.symm.trans (hc.2.trans rfl)))
        subst hg
        rw [decide_eq_false hks, if_neg hks] at TK
        have HY := Lib.hid (HZ.out hcb)
        clear hcb hkk hks
        go_wp2_with fail
        refine TK.out.mono ?_
        rintro e w2 ⟨rfl, hr2, hmv2⟩
        have HR2 := Lib.hid hr2
        have HMV2 := Lib.hid (HM.out.trans hmv2)
        have HY2 := Lib.hid (rdo_mv HY.out hmv2)
        obtain ⟨N, hN⟩ : ∃ N, g.L.length = N := ⟨_, rfl⟩
        clear hr2 hmv2 d1 d2 d3
        go_wp2_with fail
        go_ret2
        exact RdPost.yes HCB.out HY2.out HR2.out HMV2.out
end Go.Proofs.Ytdhaghabhdeakaa.Pa
