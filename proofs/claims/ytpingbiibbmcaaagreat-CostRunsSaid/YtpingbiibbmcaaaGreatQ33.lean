/- CostRuns: the walk (gen_cos.py). -/
import Derived.Test.YtpingbiibbmcaaaGreatQ28
import Derived.Test.YtpingbiibbmcaaaGreatQ23
import Derived.Test.YtpingbiibbmcaaaGreatQ32
import Derived.Test.YtpingbiibbmcaaaGreatQ29
import Derived.Test.YtpingbiibbmcaaaGreatQ06
import Derived.Test.YtpingbiibbmcaaaGreatQ03

namespace Go.Proofs.YtpingbiibbmcaaaGreat.Co
open Go Go.RowKit Go.Proofs.YtpingbiibbmcaaaGreat.Rw Go.Proofs.YtpingbiibbmcaaaGreat.So Go.Proofs.YtpingbiibbmcaaaGreat.Se Go.Proofs.YtpingbiibbmcaaaGreat.Do Go.Proofs.YtpingbiibbmcaaaGreat.Sp Go.Proofs.YtpingbiibbmcaaaGreat.Me
set_option maxRecDepth 20000

theorem ints3_new (w : World) (l : List Int) (ty : TypeId) : Rw.Ints (w.alloc (.cells (l.map (Value.int .i64)).toArray ty)) (.slice (some ⟨w.heap.size, 0, none⟩) l.length l.length) l := by
  refine ⟨by simp, some ⟨w.heap.size, 0, none⟩, l.length, rfl, Nat.le_refl _, fun h => (by cases h), fun _ => ⟨w.heap.size, 0, rfl, fun j u hu => ?_⟩⟩
  rw [Nat.zero_add, World.cell?_alloc_new]
  simpa using hu
theorem three_new (w : World) (o : Obj) : Rw.Ints ((w.alloc o).alloc (.cells #[.int .i64 1, .int .i64 5, .int .i64 7] 3)) (.slice (some ⟨w.heap.size + 1, 0, none⟩) 3 3) [1, 5, 7] := by
  have h := ints3_new (w.alloc o) [1, 5, 7] 3
  rw [show (w.alloc o).heap.size = w.heap.size + 1 by simp] at h
  exact h
/-- What each operation of the region yields. -/
def RCno (va ya : Option Addr) (nl vc nx yc B rn mx ml : Nat) (k : Nat) (v : Value) (_w' : World) : Prop := match k with
  | 0 => v = .bool true
  | 1 => v = .bool true
  | 2 => v = .pointer (some ⟨B, 2, none⟩)
  | 3 => v = .int .i64 (rn : Nat)
  | 4 => v = .slice ya nx yc
  | 5 => v = .int .i64 (mx : Nat)
  | 6 => v = .bool true
  | 7 => v = .bool true
  | 8 => v = .bool true
  | 9 => v = .slice ya nx yc
  | 10 => v = .int .i64 (mx : Nat)
  | 11 => v = .slice va nl vc
  | 12 => v = .int .i64 (ml : Nat)
  | 13 => v = .bool true
  | 14 => v = .bool true
  | 15 => v = .bool true
  | 16 => v = .bool false
  | 17 => v = .bool true
  | 18 => v = .bool true
  | 19 => v = undef
  | 20 => v = undef
  | 21 => v = .bool true
  | 22 => v = .bool true
  | 23 => v = undef
  | 24 => v = undef
  | 25 => v = undef
  | 26 => v = undef
  | 27 => v = undef
  | 28 => v = .bool true
  | 29 => v = .bool true
  | 30 => v = .bool true
  | _ => True
theorem RCno.below {va ya : Option Addr} {nl vc nx yc B rn mx ml : Nat} {k : Nat} {v : Value} {w w' : World} (h : RCno va ya nl vc nx yc B rn mx ml k v w) (_hb : Below w.heap.size w w') : RCno va ya nl vc nx yc B rn mx ml k v w' := by
  unfold RCno at h ⊢
  split at h
  all_goals exact h
set_option maxHeartbeats 8000000 in
theorem runs_no (iv : Bool) (va pa : Option Addr) (nl vc np pc nx rn mx ml lx cn : Nat) (w : World) (T : Option Addr → Nat → World → Prop) (hT : ∀ ya yc w1 w2, T ya yc w1 → Below w1.heap.size w1 w2 → T ya yc w2)
    (HSt : Hid (Calls Tryz.prog 4 #[.slice va nl vc] w fun e w' => ∃ ya yc, e = .returned (.slice ya nx yc) ∧ T ya yc w' ∧ Below w.heap.size w w'))
    (HF : Hid (∀ w1, Below w.heap.size w w1 → Calls Tryz.prog 5 #[.slice va nl vc] w1 fun e w' => e = .returned (.bool true) ∧ w1 = w'))
    (HA : Hid (∀ w1, Calls Tryz.prog 6 #[] w1 fun e w' => e = .returned (.bool true) ∧ Below w1.heap.size w1 w'))
    (HPl : Hid (∀ ya yc w1, Below w.heap.size w w1 → T ya yc w1 → Calls Tryz.prog 7 #[.slice ya nx yc, .slice pa np pc] w1 fun e w' => ∃ ra rn1 rc aa an1 ac, e = .returned (.agg #[.slice ra rn1 rc, .slice aa an1 ac, .int .i64 (rn : Nat)]) ∧ Below w1.heap.size w1 w' ∧ ∀ w2, Below w'.heap.size w' w2 → Calls Tryz.prog 9 #[.agg #[.slice ra rn1 rc, .slice aa an1 ac, .int .i64 (rn : Nat)]] w2 fun e w3 => ∃ ta tn tc z, e = .returned (.tuple #[.agg #[.slice ta tn tc, .int .i64 z], .bool iv]) ∧ Below w2.heap.size w2 w3))
    (HC : Hid (∀ ya yc y w1, T ya yc w1 → Rw.Ints w1 y [1, 5, 7] → Calls Tryz.prog 8 #[.slice ya nx yc, y] w1 fun e w' => e = .returned (.int .i64 (cn : Nat)) ∧ Below w1.heap.size w1 w'))
    (MX : Hid (∀ ya yc w1, T ya yc w1 → Calls Tryz.prog 10 #[.slice ya nx yc] w1 fun e w' => e = .returned (.int .i64 (mx : Nat)) ∧ Below w1.heap.size w1 w'))
    (ML : Hid (∀ w1, Below w.heap.size w w1 → Calls Tryz.prog 10 #[.slice va nl vc] w1 fun e w' => e = .returned (.int .i64 (ml : Nat)) ∧ Below w1.heap.size w1 w'))
    (LX : Hid (∀ ya yc w1, T ya yc w1 → Calls Tryz.prog 11 #[.slice ya nx yc] w1 fun e w' => e = .returned (.int .i64 (lx : Nat)) ∧ Below w1.heap.size w1 w'))
    (hx0 : nx ≠ 0) (h60 : np ≤ 60) (h1 : rn ≤ mx) (h2 : mx ≤ ml) (hcn : cn ≠ nx) :
    Calls Tryz.prog 3 #[.slice va nl vc, .slice pa np pc] w (Law w) := by
  have g0 : ((nx : Int) == 0) = false := beq_eq_false_iff_ne.2 (by omega)
  have g60 : ¬ (60 : Int) < np := by omega
  have g1 : (rn : Int) ≤ mx := by omega
  have g2 : (mx : Int) ≤ ml := by omega
  have gp : ((cn : Int) == (nx : Int)) = false := beq_eq_false_iff_ne.2 (by omega)
  have HT := Lib.hid hT
  unfold Law
  clear hx0 h60 h1 h2 hcn hT
  go_enter Tryz.func3, Tryz.ntmps3
  go_wp2_with fail
  refine HSt.out.mono ?_
  rintro e w1 ⟨ya, yc, rfl, hy, hb1⟩
  replace HPl := Lib.hid (HPl.out ya yc)
  replace HC := Lib.hid (HC.out ya yc)
  replace MX := Lib.hid (MX.out ya yc)
  replace LX := Lib.hid (LX.out ya yc)
  replace HT := Lib.hid (HT.out ya yc)
  have T1 := Lib.hid hb1
  have Y1 := Lib.hid hy
  have F1 := Lib.hid (HF.out w1 hb1)
  clear hb1 hy HSt HF
  go_wp2_with fail
  refine F1.out.mono ?_
  rintro e w2 ⟨rfl, rfl⟩
  have P1 := Lib.hid (HPl.out _ T1.out Y1.out)
  clear F1 HPl
  go_wp2_with fail
  refine P1.out.mono ?_
  rintro e w2 ⟨ra, rn1, rc, aa, an1, ac, rfl, hb2, hTr⟩
  have B2 := Rw.below1 w2 (.cells #[.slice ra rn1 rc, .slice aa an1 ac, .int .i64 (rn : Nat)] 29)
  have B3 := hb2.trans (B2.mono hb2.size)
  have B4 := Rw.below1 (w2.alloc (.cells #[.slice ra rn1 rc, .slice aa an1 ac, .int .i64 (rn : Nat)] 29)) (.cells #[.int .i64 1, .int .i64 5, .int .i64 7] 3)
  have V3 := Lib.hid (B2.trans (B4.mono B2.size))
  have T3 := Lib.hid (T1.out.trans ((B3.trans (B4.mono B3.size)).mono T1.out.size))
  have Y3 := Lib.hid (HT.out _ _ (HT.out _ _ Y1.out B3) B4)
  have TR := Lib.hid hTr
  have r0 : (w2.alloc (.cells #[.slice ra rn1 rc, .slice aa an1 ac, .int .i64 (rn : Nat)] 29)).cell? ⟨w2.heap.size, 0, none⟩ = some (.slice ra rn1 rc) := by simp [go_sem]
  have r1 : (w2.alloc (.cells #[.slice ra rn1 rc, .slice aa an1 ac, .int .i64 (rn : Nat)] 29)).cell? ⟨w2.heap.size, 1, none⟩ = some (.slice aa an1 ac) := by simp [go_sem]
  have r2 : (w2.alloc (.cells #[.slice ra rn1 rc, .slice aa an1 ac, .int .i64 (rn : Nat)] 29)).cell? ⟨w2.heap.size, 2, none⟩ = some (.int .i64 (rn : Nat)) := by simp [go_sem]
  replace r0 := Ru.kc B4 r0
  replace r1 := Ru.kc B4 r1
  replace r2 := Ru.kc B4 r2
  have C3 := Lib.hid (HC.out _ _ Y3.out (three_new w2 (.cells #[.slice ra rn1 rc, .slice aa an1 ac, .int .i64 (rn : Nat)] 29)))
  clear hb2 hTr B2 B3 B4 P1 HC Y1 T1
  go_wp2_with fail
  refine C3.out.mono ?_
  rintro e w3 ⟨rfl, hb3⟩
  have T4 := Lib.hid (T3.out.trans (hb3.mono T3.out.size))
  have Y4 := Lib.hid (HT.out _ _ Y3.out hb3)
  have TQ := Lib.hid (TR.out w3 (V3.out.trans (hb3.mono V3.out.size)))
  replace r0 := Ru.kc hb3 r0
  replace r1 := Ru.kc hb3 r1
  replace r2 := Ru.kc hb3 r2
  clear hb3 C3 T3 Y3 TR V3
  go_wp2_with fail
  refine TQ.out.mono ?_
  rintro e w5 ⟨ta, tn, tc, z, rfl, hb5⟩
  have U5 := Rw.below1 w5 (.cells #[.slice ta tn tc, .int .i64 z] 33)
  have V5 := hb5.trans (U5.mono hb5.size)
  have T6 := Lib.hid (T4.out.trans (V5.mono T4.out.size))
  have Y6 := Lib.hid (HT.out _ _ Y4.out V5)
  replace r2 := Ru.kc V5 r2
  obtain ⟨w4, hw4⟩ : ∃ w4, w5.alloc (.cells #[.slice ta tn tc, .int .i64 z] 33) = w4 := ⟨_, rfl⟩
  rw [hw4] at T6 Y6 r2
  have CM := Lib.hid (fun w' (hb : Below w4.heap.size w4 w') => (Ru.kc hb r2 : w'.cell? ⟨w2.heap.size, 2, none⟩ = some (.int .i64 (rn : Nat))))
  replace MX := Lib.hid (fun w' (hb : Below w4.heap.size w4 w') => MX.out w' (HT.out _ _ Y6.out hb))
  replace LX := Lib.hid (fun w' (hb : Below w4.heap.size w4 w') => LX.out w' (HT.out _ _ Y6.out hb))
  replace ML := Lib.hid (fun w' (hb : Below w4.heap.size w4 w') => ML.out w' (T6.out.trans (hb.mono T6.out.size)))
  obtain ⟨B, hB0⟩ : ∃ B, w2.heap.size = B := ⟨_, rfl⟩
  rw [hB0] at CM r0 r1 r2 ⊢
  clear hb5 U5 V5 T4 Y4 TQ HT Y6 hB0 r0 r1
  go_wp2_with fail
  clear hw4 r2
  refine Rg.wp_region_owes (by kernel_rfl) [(0, some 40), (1, some 41), (2, some 42), (3, some 43), (4, some 44), (5, some 45), (6, some 46), (7, some 47), (8, some 48), (9, some 49), (10, some 50), (11, some 51), (12, some 52), (13, some 53), (14, some 54), (15, some 55), (16, some 56), (17, some 57), (18, some 58), (19, some 59), (20, some 60), (21, some 61), (22, some 62), (23, some 63), (24, some 64), (25, some 65), (26, some 66), (27, some 67), (28, some 68), (29, some 69), (30, some 4)] (by rfl) (by kernel_rfl) (by kernel_rfl) (fun w' => Below w4.heap.size w4 w') (RCno va ya nl vc nx yc B rn mx ml) (Below.refl _ _).drew ?_ (fun _ _ h hb => h.trans (hb.mono h.size)) (fun _ _ _ _ h hb => RCno.below h hb) ⟨⟨⟨⟨⟨⟨⟨⟨⟨⟨⟨⟨⟨⟨⟨⟨⟨⟨⟨⟨⟨⟨⟨⟨⟨⟨⟨⟨⟨⟨⟨True.intro, ?_⟩, ?_⟩, ?_⟩, ?_⟩, ?_⟩, ?_⟩, ?_⟩, ?_⟩, ?_⟩, ?_⟩, ?_⟩, ?_⟩, ?_⟩, ?_⟩, ?_⟩, ?_⟩, ?_⟩, ?_⟩, ?_⟩, ?_⟩, ?_⟩, ?_⟩, ?_⟩, ?_⟩, ?_⟩, ?_⟩, ?_⟩, ?_⟩, ?_⟩, ?_⟩, ?_⟩ ?_
  · intro k v w' hk
    unfold RCno
    split
    case h_32 => trivial
    all_goals exact absurd hk (by decide)
  · intro o ho us wl al ha hB D K hK
    obtain rfl := Option.some.inj ho
    have HB := Lib.hid hB
    refine Rg.wpOp_of rfl rfl ?_
    clear ha D hB
    go_simp
    refine (HA.out _).mono ?_
    rintro e wn ⟨rfl, hb⟩
    exact hK _ _ rfl hb
  · intro o ho us wl al ha hB D K hK
    obtain rfl := Option.some.inj ho
    have e40 := Rg.e_in (i := 0) (d := 40) ha (by rfl) (by simp) (by simp)
    have f0 : us 0 = .bool true := D ⟨0, .data⟩ (by simp) rfl
    have HB := Lib.hid hB
    refine Rg.wpOp_of rfl rfl ?_
    clear ha D hB
    go_simp
    exact hK _ _ rfl (Below.refl _ _)
  · intro o ho us wl al ha hB D K hK
    obtain rfl := Option.some.inj ho
    have e6 : al.tmps[6]?.getD undef = .pointer (some ⟨B, 0, none⟩) := (Rg.e_out ha (by rfl)).trans rfl
    have HB := Lib.hid hB
    refine Rg.wpOp_of rfl (Rg.wanted_of rfl (Rg.yielded_of (d := 41) (by rfl) (Rg.g_in (d := 41) ha (by rfl) (by simp) (by simp) (D ⟨1, .guard⟩ (by simp) rfl : us 1 = .bool true)))) ?_
    clear ha D hB
    go_simp
    exact hK _ _ rfl (Below.refl _ _)
  · intro o ho us wl al ha hB D K hK
    obtain rfl := Option.some.inj ho
    have e42 := Rg.e_in (i := 2) (d := 42) ha (by rfl) (by simp) (by simp)
    have f2 : us 2 = .pointer (some ⟨B, 2, none⟩) := D ⟨2, .data⟩ (by simp) rfl
    have c2 := CM.out _ hB
    have HB := Lib.hid hB
    refine Rg.wpOp_of rfl (Rg.wanted_of rfl (Rg.yielded_of (d := 41) (by rfl) (Rg.g_in (d := 41) ha (by rfl) (by simp) (by simp) (D ⟨1, .guard⟩ (by simp) rfl : us 1 = .bool true)))) ?_
    clear ha D hB
    go_simp
    exact hK _ _ rfl (Below.refl _ _)
  · intro o ho us wl al ha hB D K hK
    obtain rfl := Option.some.inj ho
    have e5 : al.tmps[5]?.getD undef = .slice ya nx yc := (Rg.e_out ha (by rfl)).trans rfl
    have HB := Lib.hid hB
    refine Rg.wpOp_of rfl (Rg.wanted_of rfl (Rg.yielded_of (d := 41) (by rfl) (Rg.g_in (d := 41) ha (by rfl) (by simp) (by simp) (D ⟨1, .guard⟩ (by simp) rfl : us 1 = .bool true)))) ?_
    clear ha D hB
    go_simp
    exact hK _ _ rfl (Below.refl _ _)
  · intro o ho us wl al ha hB D K hK
    obtain rfl := Option.some.inj ho
    have e44 := Rg.e_in (i := 4) (d := 44) ha (by rfl) (by simp) (by simp)
    have f4 : us 4 = .slice ya nx yc := D ⟨4, .data⟩ (by simp) rfl
    have HB := Lib.hid hB
    refine Rg.wpOp_of rfl (Rg.wanted_of rfl (Rg.yielded_of (d := 41) (by rfl) (Rg.g_in (d := 41) ha (by rfl) (by simp) (by simp) (D ⟨1, .guard⟩ (by simp) rfl : us 1 = .bool true)))) ?_
    clear ha D hB
    go_simp
    refine (MX.out _ HB.out).mono ?_
    rintro e wn ⟨rfl, hb⟩
    exact hK _ _ rfl hb
  · intro o ho us wl al ha hB D K hK
    obtain rfl := Option.some.inj ho
    have e43 := Rg.e_in (i := 3) (d := 43) ha (by rfl) (by simp) (by simp)
    have f3 : us 3 = .int .i64 (rn : Nat) := D ⟨3, .data⟩ (by simp) rfl
    have e45 := Rg.e_in (i := 5) (d := 45) ha (by rfl) (by simp) (by simp)
    have f5 : us 5 = .int .i64 (mx : Nat) := D ⟨5, .data⟩ (by simp) rfl
    have HB := Lib.hid hB
    refine Rg.wpOp_of rfl (Rg.wanted_of rfl (Rg.yielded_of (d := 41) (by rfl) (Rg.g_in (d := 41) ha (by rfl) (by simp) (by simp) (D ⟨1, .guard⟩ (by simp) rfl : us 1 = .bool true)))) ?_
    clear ha D hB
    go_simp
    exact hK _ _ rfl (Below.refl _ _)
  · intro o ho us wl al ha hB D K hK
    obtain rfl := Option.some.inj ho
    have e41 := Rg.e_in (i := 1) (d := 41) ha (by rfl) (by simp) (by simp)
    have f1 : us 1 = .bool true := D ⟨1, .data⟩ (by simp) rfl
    have e46 := Rg.e_in (i := 6) (d := 46) ha (by rfl) (by simp) (by simp)
    have f6 : us 6 = .bool true := D ⟨6, .data⟩ (by simp) rfl
    have HB := Lib.hid hB
    refine Rg.wpOp_of rfl rfl ?_
    clear ha D hB
    go_simp
    exact hK _ _ rfl (Below.refl _ _)
  · intro o ho us wl al ha hB D K hK
    obtain rfl := Option.some.inj ho
    have e47 := Rg.e_in (i := 7) (d := 47) ha (by rfl) (by simp) (by simp)
    have f7 : us 7 = .bool true := D ⟨7, .data⟩ (by simp) rfl
    have HB := Lib.hid hB
    refine Rg.wpOp_of rfl rfl ?_
    clear ha D hB
    go_simp
    exact hK _ _ rfl (Below.refl _ _)
  · intro o ho us wl al ha hB D K hK
    obtain rfl := Option.some.inj ho
    have e5 : al.tmps[5]?.getD undef = .slice ya nx yc := (Rg.e_out ha (by rfl)).trans rfl
    have HB := Lib.hid hB
    refine Rg.wpOp_of rfl (Rg.wanted_of rfl (Rg.yielded_of (d := 48) (by rfl) (Rg.g_in (d := 48) ha (by rfl) (by simp) (by simp) (D ⟨8, .guard⟩ (by simp) rfl : us 8 = .bool true)))) ?_
    clear ha D hB
    go_simp
    exact hK _ _ rfl (Below.refl _ _)
  · intro o ho us wl al ha hB D K hK
    obtain rfl := Option.some.inj ho
    have e49 := Rg.e_in (i := 9) (d := 49) ha (by rfl) (by simp) (by simp)
    have f9 : us 9 = .slice ya nx yc := D ⟨9, .data⟩ (by simp) rfl
    have HB := Lib.hid hB
    refine Rg.wpOp_of rfl (Rg.wanted_of rfl (Rg.yielded_of (d := 48) (by rfl) (Rg.g_in (d := 48) ha (by rfl) (by simp) (by simp) (D ⟨8, .guard⟩ (by simp) rfl : us 8 = .bool true)))) ?_
    clear ha D hB
    go_simp
    refine (MX.out _ HB.out).mono ?_
    rintro e wn ⟨rfl, hb⟩
    exact hK _ _ rfl hb
  · intro o ho us wl al ha hB D K hK
    obtain rfl := Option.some.inj ho
    have e0 : al.tmps[0]?.getD undef = .slice va nl vc := (Rg.e_out ha (by rfl)).trans rfl
    have HB := Lib.hid hB
    refine Rg.wpOp_of rfl (Rg.wanted_of rfl (Rg.yielded_of (d := 48) (by rfl) (Rg.g_in (d := 48) ha (by rfl) (by simp) (by simp) (D ⟨8, .guard⟩ (by simp) rfl : us 8 = .bool true)))) ?_
    clear ha D hB
    go_simp
    exact hK _ _ rfl (Below.refl _ _)
  · intro o ho us wl al ha hB D K hK
    obtain rfl := Option.some.inj ho
    have e51 := Rg.e_in (i := 11) (d := 51) ha (by rfl) (by simp) (by simp)
    have f11 : us 11 = .slice va nl vc := D ⟨11, .data⟩ (by simp) rfl
    have HB := Lib.hid hB
    refine Rg.wpOp_of rfl (Rg.wanted_of rfl (Rg.yielded_of (d := 48) (by rfl) (Rg.g_in (d := 48) ha (by rfl) (by simp) (by simp) (D ⟨8, .guard⟩ (by simp) rfl : us 8 = .bool true)))) ?_
    clear ha D hB
    go_simp
    refine (ML.out _ HB.out).mono ?_
    rintro e wn ⟨rfl, hb⟩
    exact hK _ _ rfl hb
  · intro o ho us wl al ha hB D K hK
    obtain rfl := Option.some.inj ho
    have e50 := Rg.e_in (i := 10) (d := 50) ha (by rfl) (by simp) (by simp)
    have f10 : us 10 = .int .i64 (mx : Nat) := D ⟨10, .data⟩ (by simp) rfl
    have e52 := Rg.e_in (i := 12) (d := 52) ha (by rfl) (by simp) (by simp)
    have f12 : us 12 = .int .i64 (ml : Nat) := D ⟨12, .data⟩ (by simp) rfl
    have HB := Lib.hid hB
    refine Rg.wpOp_of rfl (Rg.wanted_of rfl (Rg.yielded_of (d := 48) (by rfl) (Rg.g_in (d := 48) ha (by rfl) (by simp) (by simp) (D ⟨8, .guard⟩ (by simp) rfl : us 8 = .bool true)))) ?_
    clear ha D hB
    go_simp
    exact hK _ _ rfl (Below.refl _ _)
  · intro o ho us wl al ha hB D K hK
    obtain rfl := Option.some.inj ho
    have e48 := Rg.e_in (i := 8) (d := 48) ha (by rfl) (by simp) (by simp)
    have f8 : us 8 = .bool true := D ⟨8, .data⟩ (by simp) rfl
    have e53 := Rg.e_in (i := 13) (d := 53) ha (by rfl) (by simp) (by simp)
    have f13 : us 13 = .bool true := D ⟨13, .data⟩ (by simp) rfl
    have HB := Lib.hid hB
    refine Rg.wpOp_of rfl rfl ?_
    clear ha D hB
    go_simp
    exact hK _ _ rfl (Below.refl _ _)
  · intro o ho us wl al ha hB D K hK
    obtain rfl := Option.some.inj ho
    have e54 := Rg.e_in (i := 14) (d := 54) ha (by rfl) (by simp) (by simp)
    have f14 : us 14 = .bool true := D ⟨14, .data⟩ (by simp) rfl
    have HB := Lib.hid hB
    refine Rg.wpOp_of rfl rfl ?_
    clear ha D hB
    go_simp
    exact hK _ _ rfl (Below.refl _ _)
  · intro o ho us wl al ha hB D K hK
    obtain rfl := Option.some.inj ho
    have e7 : al.tmps[7]?.getD undef = .bool false := (Rg.e_out ha (by rfl)).trans rfl
    have HB := Lib.hid hB
    refine Rg.wpOp_of rfl (Rg.wanted_of rfl (Rg.yielded_of (d := 55) (by rfl) (Rg.g_in (d := 55) ha (by rfl) (by simp) (by simp) (D ⟨15, .guard⟩ (by simp) rfl : us 15 = .bool true)))) ?_
    clear ha D hB
    go_simp
    exact hK _ _ rfl (Below.refl _ _)
  · intro o ho us wl al ha hB D K hK
    obtain rfl := Option.some.inj ho
    have e56 := Rg.e_in (i := 16) (d := 56) ha (by rfl) (by simp) (by simp)
    have f16 : us 16 = .bool false := D ⟨16, .data⟩ (by simp) rfl
    have HB := Lib.hid hB
    refine Rg.wpOp_of rfl (Rg.wanted_of rfl (Rg.yielded_of (d := 55) (by rfl) (Rg.g_in (d := 55) ha (by rfl) (by simp) (by simp) (D ⟨15, .guard⟩ (by simp) rfl : us 15 = .bool true)))) ?_
    clear ha D hB
    go_simp
    exact hK _ _ rfl (Below.refl _ _)
  · intro o ho us wl al ha hB D K hK
    obtain rfl := Option.some.inj ho
    have e57 := Rg.e_in (i := 17) (d := 57) ha (by rfl) (by simp) (by simp)
    have f17 : us 17 = .bool true := D ⟨17, .data⟩ (by simp) rfl
    have HB := Lib.hid hB
    refine Rg.wpOp_of rfl (Rg.wanted_of rfl (Rg.yielded_of (d := 55) (by rfl) (Rg.g_in (d := 55) ha (by rfl) (by simp) (by simp) (D ⟨15, .guard⟩ (by simp) rfl : us 15 = .bool true)))) ?_
    clear ha D hB
    go_simp
    exact hK _ _ rfl (Below.refl _ _)
  · intro o ho us wl al ha hB D K hK
    obtain rfl := Option.some.inj ho
    refine Rg.wpOp_off rfl (Rg.unwanted_of (b := false) rfl (Rg.yielded_of (d := 58) (by rfl) (Rg.g_in (d := 58) ha (by rfl) (by simp) (by simp) (D ⟨18, .guard⟩ (by simp) rfl : us 18 = .bool true)))) ?_
    exact hK _ _ rfl (Below.refl _ _)
  · intro o ho us wl al ha hB D K hK
    obtain rfl := Option.some.inj ho
    refine Rg.wpOp_off rfl (Rg.unwanted_of (b := false) rfl (Rg.yielded_of (d := 58) (by rfl) (Rg.g_in (d := 58) ha (by rfl) (by simp) (by simp) (D ⟨18, .guard⟩ (by simp) rfl : us 18 = .bool true)))) ?_
    exact hK _ _ rfl (Below.refl _ _)
  · intro o ho us wl al ha hB D K hK
    obtain rfl := Option.some.inj ho
    have e58 := Rg.e_in (i := 18) (d := 58) ha (by rfl) (by simp) (by simp)
    have f18 : us 18 = .bool true := D ⟨18, .data⟩ (by simp) rfl
    have e60 := Rg.e_in (i := 20) (d := 60) ha (by rfl) (by simp) (by simp)
    have f20 : us 20 = undef := D ⟨20, .data⟩ (by simp) rfl
    have HB := Lib.hid hB
    refine Rg.wpOp_of rfl (Rg.wanted_of rfl (Rg.yielded_of (d := 55) (by rfl) (Rg.g_in (d := 55) ha (by rfl) (by simp) (by simp) (D ⟨15, .guard⟩ (by simp) rfl : us 15 = .bool true)))) ?_
    clear ha D hB
    go_simp
    exact hK _ _ rfl (Below.refl _ _)
  · intro o ho us wl al ha hB D K hK
    obtain rfl := Option.some.inj ho
    have e61 := Rg.e_in (i := 21) (d := 61) ha (by rfl) (by simp) (by simp)
    have f21 : us 21 = .bool true := D ⟨21, .data⟩ (by simp) rfl
    have HB := Lib.hid hB
    refine Rg.wpOp_of rfl (Rg.wanted_of rfl (Rg.yielded_of (d := 55) (by rfl) (Rg.g_in (d := 55) ha (by rfl) (by simp) (by simp) (D ⟨15, .guard⟩ (by simp) rfl : us 15 = .bool true)))) ?_
    clear ha D hB
    go_simp
    exact hK _ _ rfl (Below.refl _ _)
  · intro o ho us wl al ha hB D K hK
    obtain rfl := Option.some.inj ho
    refine Rg.wpOp_off rfl (Rg.unwanted_of (b := false) rfl (Rg.yielded_of (d := 62) (by rfl) (Rg.g_in (d := 62) ha (by rfl) (by simp) (by simp) (D ⟨22, .guard⟩ (by simp) rfl : us 22 = .bool true)))) ?_
    exact hK _ _ rfl (Below.refl _ _)
  · intro o ho us wl al ha hB D K hK
    obtain rfl := Option.some.inj ho
    refine Rg.wpOp_off rfl (Rg.unwanted_of (b := false) rfl (Rg.yielded_of (d := 62) (by rfl) (Rg.g_in (d := 62) ha (by rfl) (by simp) (by simp) (D ⟨22, .guard⟩ (by simp) rfl : us 22 = .bool true)))) ?_
    exact hK _ _ rfl (Below.refl _ _)
  · intro o ho us wl al ha hB D K hK
    obtain rfl := Option.some.inj ho
    refine Rg.wpOp_off rfl (Rg.unwanted_of (b := false) rfl (Rg.yielded_of (d := 62) (by rfl) (Rg.g_in (d := 62) ha (by rfl) (by simp) (by simp) (D ⟨22, .guard⟩ (by simp) rfl : us 22 = .bool true)))) ?_
    exact hK _ _ rfl (Below.refl _ _)
  · intro o ho us wl al ha hB D K hK
    obtain rfl := Option.some.inj ho
    refine Rg.wpOp_off rfl (Rg.unwanted_of (b := false) rfl (Rg.yielded_of (d := 62) (by rfl) (Rg.g_in (d := 62) ha (by rfl) (by simp) (by simp) (D ⟨22, .guard⟩ (by simp) rfl : us 22 = .bool true)))) ?_
    exact hK _ _ rfl (Below.refl _ _)
  · intro o ho us wl al ha hB D K hK
    obtain rfl := Option.some.inj ho
    refine Rg.wpOp_off rfl (Rg.unwanted_of (b := false) rfl (Rg.yielded_of (d := 62) (by rfl) (Rg.g_in (d := 62) ha (by rfl) (by simp) (by simp) (D ⟨22, .guard⟩ (by simp) rfl : us 22 = .bool true)))) ?_
    exact hK _ _ rfl (Below.refl _ _)
  · intro o ho us wl al ha hB D K hK
    obtain rfl := Option.some.inj ho
    have e62 := Rg.e_in (i := 22) (d := 62) ha (by rfl) (by simp) (by simp)
    have f22 : us 22 = .bool true := D ⟨22, .data⟩ (by simp) rfl
    have e67 := Rg.e_in (i := 27) (d := 67) ha (by rfl) (by simp) (by simp)
    have f27 : us 27 = undef := D ⟨27, .data⟩ (by simp) rfl
    have HB := Lib.hid hB
    refine Rg.wpOp_of rfl (Rg.wanted_of rfl (Rg.yielded_of (d := 55) (by rfl) (Rg.g_in (d := 55) ha (by rfl) (by simp) (by simp) (D ⟨15, .guard⟩ (by simp) rfl : us 15 = .bool true)))) ?_
    clear ha D hB
    go_simp
    exact hK _ _ rfl (Below.refl _ _)
  · intro o ho us wl al ha hB D K hK
    obtain rfl := Option.some.inj ho
    have e55 := Rg.e_in (i := 15) (d := 55) ha (by rfl) (by simp) (by simp)
    have f15 : us 15 = .bool true := D ⟨15, .data⟩ (by simp) rfl
    have e68 := Rg.e_in (i := 28) (d := 68) ha (by rfl) (by simp) (by simp)
    have f28 : us 28 = .bool true := D ⟨28, .data⟩ (by simp) rfl
    have HB := Lib.hid hB
    refine Rg.wpOp_of rfl rfl ?_
    clear ha D hB
    go_simp
    exact hK _ _ rfl (Below.refl _ _)
  · intro o ho us wl al ha hB D K hK
    obtain rfl := Option.some.inj ho
    have e69 := Rg.e_in (i := 29) (d := 69) ha (by rfl) (by simp) (by simp)
    have f29 : us 29 = .bool true := D ⟨29, .data⟩ (by simp) rfl
    have HB := Lib.hid hB
    refine Rg.wpOp_of rfl rfl ?_
    clear ha D hB
    go_simp
    exact hK _ _ rfl (Below.refl _ _)
  · intro us wz hB hR
    have fz : us 30 = .bool true := hR 30
    have DZ := Lib.hid (T6.out.trans (hB.mono T6.out.size))
    clear hB hR
    simp only [Rg.puts, Act.put, List.setIfInBounds_toArray, List.set_cons_zero, List.set_cons_succ, fz]
    go_wp2_with fail
    go_ret
    exact ⟨rfl, DZ.out⟩
/-- What each operation of the region yields. -/
def RCopen (va ya : Option Addr) (nl vc nx yc B rn mx ml : Nat) (k : Nat) (v : Value) (_w' : World) : Prop := match k with
  | 0 => v = .bool true
  | 1 => v = .bool true
  | 2 => v = .pointer (some ⟨B, 2, none⟩)
  | 3 => v = .int .i64 (rn : Nat)
  | 4 => v = .slice ya nx yc
  | 5 => v = .int .i64 (mx : Nat)
  | 6 => v = .bool true
  | 7 => v = .bool true
  | 8 => v = .bool true
  | 9 => v = .slice ya nx yc
  | 10 => v = .int .i64 (mx : Nat)
  | 11 => v = .slice va nl vc
  | 12 => v = .int .i64 (ml : Nat)
  | 13 => v = .bool true
  | 14 => v = .bool true
  | 15 => v = .bool true
  | 16 => v = .bool true
  | 17 => v = .bool false
  | 18 => v = .bool false
  | 19 => v = .bool false
  | 20 => v = .bool true
  | 21 => v = .bool true
  | 22 => v = .bool true
  | 23 => v = undef
  | 24 => v = undef
  | 25 => v = undef
  | 26 => v = undef
  | 27 => v = undef
  | 28 => v = .bool true
  | 29 => v = .bool true
  | 30 => v = .bool true
  | _ => True
theorem RCopen.below {va ya : Option Addr} {nl vc nx yc B rn mx ml : Nat} {k : Nat} {v : Value} {w w' : World} (h : RCopen va ya nl vc nx yc B rn mx ml k v w) (_hb : Below w.heap.size w w') : RCopen va ya nl vc nx yc B rn mx ml k v w' := by
  unfold RCopen at h ⊢
  split at h
  all_goals exact h
set_option maxHeartbeats 8000000 in
theorem runs_open (va pa : Option Addr) (nl vc np pc nx rn mx ml lx cn : Nat) (w : World) (T : Option Addr → Nat → World → Prop) (hT : ∀ ya yc w1 w2, T ya yc w1 → Below w1.heap.size w1 w2 → T ya yc w2)
    (HSt : Hid (Calls Tryz.prog 4 #[.slice va nl vc] w fun e w' => ∃ ya yc, e = .returned (.slice ya nx yc) ∧ T ya yc w' ∧ Below w.heap.size w w'))
    (HF : Hid (∀ w1, Below w.heap.size w w1 → Calls Tryz.prog 5 #[.slice va nl vc] w1 fun e w' => e = .returned (.bool true) ∧ w1 = w'))
    (HA : Hid (∀ w1, Calls Tryz.prog 6 #[] w1 fun e w' => e = .returned (.bool true) ∧ Below w1.heap.size w1 w'))
    (HPl : Hid (∀ ya yc w1, Below w.heap.size w w1 → T ya yc w1 → Calls Tryz.prog 7 #[.slice ya nx yc, .slice pa np pc] w1 fun e w' => ∃ ra rn1 rc aa an1 ac, e = .returned (.agg #[.slice ra rn1 rc, .slice aa an1 ac, .int .i64 (rn : Nat)]) ∧ Below w1.heap.size w1 w' ∧ ∀ w2, Below w'.heap.size w' w2 → Calls Tryz.prog 9 #[.agg #[.slice ra rn1 rc, .slice aa an1 ac, .int .i64 (rn : Nat)]] w2 fun e w3 => ∃ ta tn tc z, e = .returned (.tuple #[.agg #[.slice ta tn tc, .int .i64 z], .bool false]) ∧ Below w2.heap.size w2 w3))
    (HC : Hid (∀ ya yc y w1, T ya yc w1 → Rw.Ints w1 y [1, 5, 7] → Calls Tryz.prog 8 #[.slice ya nx yc, y] w1 fun e w' => e = .returned (.int .i64 (cn : Nat)) ∧ Below w1.heap.size w1 w'))
    (MX : Hid (∀ ya yc w1, T ya yc w1 → Calls Tryz.prog 10 #[.slice ya nx yc] w1 fun e w' => e = .returned (.int .i64 (mx : Nat)) ∧ Below w1.heap.size w1 w'))
    (ML : Hid (∀ w1, Below w.heap.size w w1 → Calls Tryz.prog 10 #[.slice va nl vc] w1 fun e w' => e = .returned (.int .i64 (ml : Nat)) ∧ Below w1.heap.size w1 w'))
    (LX : Hid (∀ ya yc w1, T ya yc w1 → Calls Tryz.prog 11 #[.slice ya nx yc] w1 fun e w' => e = .returned (.int .i64 (lx : Nat)) ∧ Below w1.heap.size w1 w'))
    (hx0 : nx ≠ 0) (h60 : np ≤ 60) (h1 : rn ≤ mx) (h2 : mx ≤ ml) (hcn : cn = nx) :
    Calls Tryz.prog 3 #[.slice va nl vc, .slice pa np pc] w (Law w) := by
  have g0 : ((nx : Int) == 0) = false := beq_eq_false_iff_ne.2 (by omega)
  have g60 : ¬ (60 : Int) < np := by omega
  have g1 : (rn : Int) ≤ mx := by omega
  have g2 : (mx : Int) ≤ ml := by omega
  have gp : ((cn : Int) == (nx : Int)) = true := beq_iff_eq.2 (by omega)
  have HT := Lib.hid hT
  unfold Law
  clear hx0 h60 h1 h2 hcn hT
  go_enter Tryz.func3, Tryz.ntmps3
  go_wp2_with fail
  refine HSt.out.mono ?_
  rintro e w1 ⟨ya, yc, rfl, hy, hb1⟩
  replace HPl := Lib.hid (HPl.out ya yc)
  replace HC := Lib.hid (HC.out ya yc)
  replace MX := Lib.hid (MX.out ya yc)
  replace LX := Lib.hid (LX.out ya yc)
  replace HT := Lib.hid (HT.out ya yc)
  have T1 := Lib.hid hb1
  have Y1 := Lib.hid hy
  have F1 := Lib.hid (HF.out w1 hb1)
  clear hb1 hy HSt HF
  go_wp2_with fail
  refine F1.out.mono ?_
  rintro e w2 ⟨rfl, rfl⟩
  have P1 := Lib.hid (HPl.out _ T1.out Y1.out)
  clear F1 HPl
  go_wp2_with fail
  refine P1.out.mono ?_
  rintro e w2 ⟨ra, rn1, rc, aa, an1, ac, rfl, hb2, hTr⟩
  have B2 := Rw.below1 w2 (.cells #[.slice ra rn1 rc, .slice aa an1 ac, .int .i64 (rn : Nat)] 29)
  have B3 := hb2.trans (B2.mono hb2.size)
  have B4 := Rw.below1 (w2.alloc (.cells #[.slice ra rn1 rc, .slice aa an1 ac, .int .i64 (rn : Nat)] 29)) (.cells #[.int .i64 1, .int .i64 5, .int .i64 7] 3)
  have V3 := Lib.hid (B2.trans (B4.mono B2.size))
  have T3 := Lib.hid (T1.out.trans ((B3.trans (B4.mono B3.size)).mono T1.out.size))
  have Y3 := Lib.hid (HT.out _ _ (HT.out _ _ Y1.out B3) B4)
  have TR := Lib.hid hTr
  have r0 : (w2.alloc (.cells #[.slice ra rn1 rc, .slice aa an1 ac, .int .i64 (rn : Nat)] 29)).cell? ⟨w2.heap.size, 0, none⟩ = some (.slice ra rn1 rc) := by simp [go_sem]
  have r1 : (w2.alloc (.cells #[.slice ra rn1 rc, .slice aa an1 ac, .int .i64 (rn : Nat)] 29)).cell? ⟨w2.heap.size, 1, none⟩ = some (.slice aa an1 ac) := by simp [go_sem]
  have r2 : (w2.alloc (.cells #[.slice ra rn1 rc, .slice aa an1 ac, .int .i64 (rn : Nat)] 29)).cell? ⟨w2.heap.size, 2, none⟩ = some (.int .i64 (rn : Nat)) := by simp [go_sem]
  replace r0 := Ru.kc B4 r0
  replace r1 := Ru.kc B4 r1
  replace r2 := Ru.kc B4 r2
  have C3 := Lib.hid (HC.out _ _ Y3.out (three_new w2 (.cells #[.slice ra rn1 rc, .slice aa an1 ac, .int .i64 (rn : Nat)] 29)))
  clear hb2 hTr B2 B3 B4 P1 HC Y1 T1
  go_wp2_with fail
  refine C3.out.mono ?_
  rintro e w3 ⟨rfl, hb3⟩
  have T4 := Lib.hid (T3.out.trans (hb3.mono T3.out.size))
  have Y4 := Lib.hid (HT.out _ _ Y3.out hb3)
  have TQ := Lib.hid (TR.out w3 (V3.out.trans (hb3.mono V3.out.size)))
  replace r0 := Ru.kc hb3 r0
  replace r1 := Ru.kc hb3 r1
  replace r2 := Ru.kc hb3 r2
  clear hb3 C3 T3 Y3 TR V3
  go_wp2_with fail
  refine TQ.out.mono ?_
  rintro e w5 ⟨ta, tn, tc, z, rfl, hb5⟩
  have U5 := Rw.below1 w5 (.cells #[.slice ta tn tc, .int .i64 z] 33)
  have V5 := hb5.trans (U5.mono hb5.size)
  have T6 := Lib.hid (T4.out.trans (V5.mono T4.out.size))
  have Y6 := Lib.hid (HT.out _ _ Y4.out V5)
  replace r2 := Ru.kc V5 r2
  obtain ⟨w4, hw4⟩ : ∃ w4, w5.alloc (.cells #[.slice ta tn tc, .int .i64 z] 33) = w4 := ⟨_, rfl⟩
  rw [hw4] at T6 Y6 r2
  have CM := Lib.hid (fun w' (hb : Below w4.heap.size w4 w') => (Ru.kc hb r2 : w'.cell? ⟨w2.heap.size, 2, none⟩ = some (.int .i64 (rn : Nat))))
  replace MX := Lib.hid (fun w' (hb : Below w4.heap.size w4 w') => MX.out w' (HT.out _ _ Y6.out hb))
  replace LX := Lib.hid (fun w' (hb : Below w4.heap.size w4 w') => LX.out w' (HT.out _ _ Y6.out hb))
  replace ML := Lib.hid (fun w' (hb : Below w4.heap.size w4 w') => ML.out w' (T6.out.trans (hb.mono T6.out.size)))
  obtain ⟨B, hB0⟩ : ∃ B, w2.heap.size = B := ⟨_, rfl⟩
  rw [hB0] at CM r0 r1 r2 ⊢
  clear hb5 U5 V5 T4 Y4 TQ HT Y6 hB0 r0 r1
  go_wp2_with fail
  clear hw4 r2
  refine Rg.wp_region_owes (by kernel_rfl) [(0, some 40), (1, some 41), (2, some 42), (3, some 43), (4, some 44), (5, some 45), (6, some 46), (7, some 47), (8, some 48), (9, some 49), (10, some 50), (11, some 51), (12, some 52), (13, some 53), (14, some 54), (15, some 55), (16, some 56), (17, some 57), (18, some 58), (19, some 59), (20, some 60), (21, some 61), (22, some 62), (23, some 63), (24, some 64), (25, some 65), (26, some 66), (27, some 67), (28, some 68), (29, some 69), (30, some 4)] (by rfl) (by kernel_rfl) (by kernel_rfl) (fun w' => Below w4.heap.size w4 w') (RCopen va ya nl vc nx yc B rn mx ml) (Below.refl _ _).drew ?_ (fun _ _ h hb => h.trans (hb.mono h.size)) (fun _ _ _ _ h hb => RCopen.below h hb) ⟨⟨⟨⟨⟨⟨⟨⟨⟨⟨⟨⟨⟨⟨⟨⟨⟨⟨⟨⟨⟨⟨⟨⟨⟨⟨⟨⟨⟨⟨⟨True.intro, ?_⟩, ?_⟩, ?_⟩, ?_⟩, ?_⟩, ?_⟩, ?_⟩, ?_⟩, ?_⟩, ?_⟩, ?_⟩, ?_⟩, ?_⟩, ?_⟩, ?_⟩, ?_⟩, ?_⟩, ?_⟩, ?_⟩, ?_⟩, ?_⟩, ?_⟩, ?_⟩, ?_⟩, ?_⟩, ?_⟩, ?_⟩, ?_⟩, ?_⟩, ?_⟩, ?_⟩ ?_
  · intro k v w' hk
    unfold RCopen
    split
    case h_32 => trivial
    all_goals exact absurd hk (by decide)
  · intro o ho us wl al ha hB D K hK
    obtain rfl := Option.some.inj ho
    have HB := Lib.hid hB
    refine Rg.wpOp_of rfl rfl ?_
    clear ha D hB
    go_simp
    refine (HA.out _).mono ?_
    rintro e wn ⟨rfl, hb⟩
    exact hK _ _ rfl hb
  · intro o ho us wl al ha hB D K hK
    obtain rfl := Option.some.inj ho
    have e40 := Rg.e_in (i := 0) (d := 40) ha (by rfl) (by simp) (by simp)
    have f0 : us 0 = .bool true := D ⟨0, .data⟩ (by simp) rfl
    have HB := Lib.hid hB
    refine Rg.wpOp_of rfl rfl ?_
    clear ha D hB
    go_simp
    exact hK _ _ rfl (Below.refl _ _)
  · intro o ho us wl al ha hB D K hK
    obtain rfl := Option.some.inj ho
    have e6 : al.tmps[6]?.getD undef = .pointer (some ⟨B, 0, none⟩) := (Rg.e_out ha (by rfl)).trans rfl
    have HB := Lib.hid hB
    refine Rg.wpOp_of rfl (Rg.wanted_of rfl (Rg.yielded_of (d := 41) (by rfl) (Rg.g_in (d := 41) ha (by rfl) (by simp) (by simp) (D ⟨1, .guard⟩ (by simp) rfl : us 1 = .bool true)))) ?_
    clear ha D hB
    go_simp
    exact hK _ _ rfl (Below.refl _ _)
  · intro o ho us wl al ha hB D K hK
    obtain rfl := Option.some.inj ho
    have e42 := Rg.e_in (i := 2) (d := 42) ha (by rfl) (by simp) (by simp)
    have f2 : us 2 = .pointer (some ⟨B, 2, none⟩) := D ⟨2, .data⟩ (by simp) rfl
    have c2 := CM.out _ hB
    have HB := Lib.hid hB
    refine Rg.wpOp_of rfl (Rg.wanted_of rfl (Rg.yielded_of (d := 41) (by rfl) (Rg.g_in (d := 41) ha (by rfl) (by simp) (by simp) (D ⟨1, .guard⟩ (by simp) rfl : us 1 = .bool true)))) ?_
    clear ha D hB
    go_simp
    exact hK _ _ rfl (Below.refl _ _)
  · intro o ho us wl al ha hB D K hK
    obtain rfl := Option.some.inj ho
    have e5 : al.tmps[5]?.getD undef = .slice ya nx yc := (Rg.e_out ha (by rfl)).trans rfl
    have HB := Lib.hid hB
    refine Rg.wpOp_of rfl (Rg.wanted_of rfl (Rg.yielded_of (d := 41) (by rfl) (Rg.g_in (d := 41) ha (by rfl) (by simp) (by simp) (D ⟨1, .guard⟩ (by simp) rfl : us 1 = .bool true)))) ?_
    clear ha D hB
    go_simp
    exact hK _ _ rfl (Below.refl _ _)
  · intro o ho us wl al ha hB D K hK
    obtain rfl := Option.some.inj ho
    have e44 := Rg.e_in (i := 4) (d := 44) ha (by rfl) (by simp) (by simp)
    have f4 : us 4 = .slice ya nx yc := D ⟨4, .data⟩ (by simp) rfl
    have HB := Lib.hid hB
    refine Rg.wpOp_of rfl (Rg.wanted_of rfl (Rg.yielded_of (d := 41) (by rfl) (Rg.g_in (d := 41) ha (by rfl) (by simp) (by simp) (D ⟨1, .guard⟩ (by simp) rfl : us 1 = .bool true)))) ?_
    clear ha D hB
    go_simp
    refine (MX.out _ HB.out).mono ?_
    rintro e wn ⟨rfl, hb⟩
    exact hK _ _ rfl hb
  · intro o ho us wl al ha hB D K hK
    obtain rfl := Option.some.inj ho
    have e43 := Rg.e_in (i := 3) (d := 43) ha (by rfl) (by simp) (by simp)
    have f3 : us 3 = .int .i64 (rn : Nat) := D ⟨3, .data⟩ (by simp) rfl
    have e45 := Rg.e_in (i := 5) (d := 45) ha (by rfl) (by simp) (by simp)
    have f5 : us 5 = .int .i64 (mx : Nat) := D ⟨5, .data⟩ (by simp) rfl
    have HB := Lib.hid hB
    refine Rg.wpOp_of rfl (Rg.wanted_of rfl (Rg.yielded_of (d := 41) (by rfl) (Rg.g_in (d := 41) ha (by rfl) (by simp) (by simp) (D ⟨1, .guard⟩ (by simp) rfl : us 1 = .bool true)))) ?_
    clear ha D hB
    go_simp
    exact hK _ _ rfl (Below.refl _ _)
  · intro o ho us wl al ha hB D K hK
    obtain rfl := Option.some.inj ho
    have e41 := Rg.e_in (i := 1) (d := 41) ha (by rfl) (by simp) (by simp)
    have f1 : us 1 = .bool true := D ⟨1, .data⟩ (by simp) rfl
    have e46 := Rg.e_in (i := 6) (d := 46) ha (by rfl) (by simp) (by simp)
    have f6 : us 6 = .bool true := D ⟨6, .data⟩ (by simp) rfl
    have HB := Lib.hid hB
    refine Rg.wpOp_of rfl rfl ?_
    clear ha D hB
    go_simp
    exact hK _ _ rfl (Below.refl _ _)
  · intro o ho us wl al ha hB D K hK
    obtain rfl := Option.some.inj ho
    have e47 := Rg.e_in (i := 7) (d := 47) ha (by rfl) (by simp) (by simp)
    have f7 : us 7 = .bool true := D ⟨7, .data⟩ (by simp) rfl
    have HB := Lib.hid hB
    refine Rg.wpOp_of rfl rfl ?_
    clear ha D hB
    go_simp
    exact hK _ _ rfl (Below.refl _ _)
  · intro o ho us wl al ha hB D K hK
    obtain rfl := Option.some.inj ho
    have e5 : al.tmps[5]?.getD undef = .slice ya nx yc := (Rg.e_out ha (by rfl)).trans rfl
    have HB := Lib.hid hB
    refine Rg.wpOp_of rfl (Rg.wanted_of rfl (Rg.yielded_of (d := 48) (by rfl) (Rg.g_in (d := 48) ha (by rfl) (by simp) (by simp) (D ⟨8, .guard⟩ (by simp) rfl : us 8 = .bool true)))) ?_
    clear ha D hB
    go_simp
    exact hK _ _ rfl (Below.refl _ _)
  · intro o ho us wl al ha hB D K hK
    obtain rfl := Option.some.inj ho
    have e49 := Rg.e_in (i := 9) (d := 49) ha (by rfl) (by simp) (by simp)
    have f9 : us 9 = .slice ya nx yc := D ⟨9, .data⟩ (by simp) rfl
    have HB := Lib.hid hB
    refine Rg.wpOp_of rfl (Rg.wanted_of rfl (Rg.yielded_of (d := 48) (by rfl) (Rg.g_in (d := 48) ha (by rfl) (by simp) (by simp) (D ⟨8, .guard⟩ (by simp) rfl : us 8 = .bool true)))) ?_
    clear ha D hB
    go_simp
    refine (MX.out _ HB.out).mono ?_
    rintro e wn ⟨rfl, hb⟩
    exact hK _ _ rfl hb
  · intro o ho us wl al ha hB D K hK
    obtain rfl := Option.some.inj ho
    have e0 : al.tmps[0]?.getD undef = .slice va nl vc := (Rg.e_out ha (by rfl)).trans rfl
    have HB := Lib.hid hB
    refine Rg.wpOp_of rfl (Rg.wanted_of rfl (Rg.yielded_of (d := 48) (by rfl) (Rg.g_in (d := 48) ha (by rfl) (by simp) (by simp) (D ⟨8, .guard⟩ (by simp) rfl : us 8 = .bool true)))) ?_
    clear ha D hB
    go_simp
    exact hK _ _ rfl (Below.refl _ _)
  · intro o ho us wl al ha hB D K hK
    obtain rfl := Option.some.inj ho
    have e51 := Rg.e_in (i := 11) (d := 51) ha (by rfl) (by simp) (by simp)
    have f11 : us 11 = .slice va nl vc := D ⟨11, .data⟩ (by simp) rfl
    have HB := Lib.hid hB
    refine Rg.wpOp_of rfl (Rg.wanted_of rfl (Rg.yielded_of (d := 48) (by rfl) (Rg.g_in (d := 48) ha (by rfl) (by simp) (by simp) (D ⟨8, .guard⟩ (by simp) rfl : us 8 = .bool true)))) ?_
    clear ha D hB
    go_simp
    refine (ML.out _ HB.out).mono ?_
    rintro e wn ⟨rfl, hb⟩
    exact hK _ _ rfl hb
  · intro o ho us wl al ha hB D K hK
    obtain rfl := Option.some.inj ho
    have e50 := Rg.e_in (i := 10) (d := 50) ha (by rfl) (by simp) (by simp)
    have f10 : us 10 = .int .i64 (mx : Nat) := D ⟨10, .data⟩ (by simp) rfl
    have e52 := Rg.e_in (i := 12) (d := 52) ha (by rfl) (by simp) (by simp)
    have f12 : us 12 = .int .i64 (ml : Nat) := D ⟨12, .data⟩ (by simp) rfl
    have HB := Lib.hid hB
    refine Rg.wpOp_of rfl (Rg.wanted_of rfl (Rg.yielded_of (d := 48) (by rfl) (Rg.g_in (d := 48) ha (by rfl) (by simp) (by simp) (D ⟨8, .guard⟩ (by simp) rfl : us 8 = .bool true)))) ?_
    clear ha D hB
    go_simp
    exact hK _ _ rfl (Below.refl _ _)
  · intro o ho us wl al ha hB D K hK
    obtain rfl := Option.some.inj ho
    have e48 := Rg.e_in (i := 8) (d := 48) ha (by rfl) (by simp) (by simp)
    have f8 : us 8 = .bool true := D ⟨8, .data⟩ (by simp) rfl
    have e53 := Rg.e_in (i := 13) (d := 53) ha (by rfl) (by simp) (by simp)
    have f13 : us 13 = .bool true := D ⟨13, .data⟩ (by simp) rfl
    have HB := Lib.hid hB
    refine Rg.wpOp_of rfl rfl ?_
    clear ha D hB
    go_simp
    exact hK _ _ rfl (Below.refl _ _)
  · intro o ho us wl al ha hB D K hK
    obtain rfl := Option.some.inj ho
    have e54 := Rg.e_in (i := 14) (d := 54) ha (by rfl) (by simp) (by simp)
    have f14 : us 14 = .bool true := D ⟨14, .data⟩ (by simp) rfl
    have HB := Lib.hid hB
    refine Rg.wpOp_of rfl rfl ?_
    clear ha D hB
    go_simp
    exact hK _ _ rfl (Below.refl _ _)
  · intro o ho us wl al ha hB D K hK
    obtain rfl := Option.some.inj ho
    have e7 : al.tmps[7]?.getD undef = .bool true := (Rg.e_out ha (by rfl)).trans rfl
    have HB := Lib.hid hB
    refine Rg.wpOp_of rfl (Rg.wanted_of rfl (Rg.yielded_of (d := 55) (by rfl) (Rg.g_in (d := 55) ha (by rfl) (by simp) (by simp) (D ⟨15, .guard⟩ (by simp) rfl : us 15 = .bool true)))) ?_
    clear ha D hB
    go_simp
    exact hK _ _ rfl (Below.refl _ _)
  · intro o ho us wl al ha hB D K hK
    obtain rfl := Option.some.inj ho
    have e56 := Rg.e_in (i := 16) (d := 56) ha (by rfl) (by simp) (by simp)
    have f16 : us 16 = .bool true := D ⟨16, .data⟩ (by simp) rfl
    have HB := Lib.hid hB
    refine Rg.wpOp_of rfl (Rg.wanted_of rfl (Rg.yielded_of (d := 55) (by rfl) (Rg.g_in (d := 55) ha (by rfl) (by simp) (by simp) (D ⟨15, .guard⟩ (by simp) rfl : us 15 = .bool true)))) ?_
    clear ha D hB
    go_simp
    exact hK _ _ rfl (Below.refl _ _)
  · intro o ho us wl al ha hB D K hK
    obtain rfl := Option.some.inj ho
    have e57 := Rg.e_in (i := 17) (d := 57) ha (by rfl) (by simp) (by simp)
    have f17 : us 17 = .bool false := D ⟨17, .data⟩ (by simp) rfl
    have HB := Lib.hid hB
    refine Rg.wpOp_of rfl (Rg.wanted_of rfl (Rg.yielded_of (d := 55) (by rfl) (Rg.g_in (d := 55) ha (by rfl) (by simp) (by simp) (D ⟨15, .guard⟩ (by simp) rfl : us 15 = .bool true)))) ?_
    clear ha D hB
    go_simp
    exact hK _ _ rfl (Below.refl _ _)
  · intro o ho us wl al ha hB D K hK
    obtain rfl := Option.some.inj ho
    have e9 : al.tmps[9]?.getD undef = .bool false := (Rg.e_out ha (by rfl)).trans rfl
    have HB := Lib.hid hB
    refine Rg.wpOp_of rfl (Rg.wanted_of rfl (Rg.yielded_of (d := 58) (by rfl) (Rg.g_in (d := 58) ha (by rfl) (by simp) (by simp) (D ⟨18, .guard⟩ (by simp) rfl : us 18 = .bool false)))) ?_
    clear ha D hB
    go_simp
    exact hK _ _ rfl (Below.refl _ _)
  · intro o ho us wl al ha hB D K hK
    obtain rfl := Option.some.inj ho
    have e59 := Rg.e_in (i := 19) (d := 59) ha (by rfl) (by simp) (by simp)
    have f19 : us 19 = .bool false := D ⟨19, .data⟩ (by simp) rfl
    have HB := Lib.hid hB
    refine Rg.wpOp_of rfl (Rg.wanted_of rfl (Rg.yielded_of (d := 58) (by rfl) (Rg.g_in (d := 58) ha (by rfl) (by simp) (by simp) (D ⟨18, .guard⟩ (by simp) rfl : us 18 = .bool false)))) ?_
    clear ha D hB
    go_simp
    exact hK _ _ rfl (Below.refl _ _)
  · intro o ho us wl al ha hB D K hK
    obtain rfl := Option.some.inj ho
    have e58 := Rg.e_in (i := 18) (d := 58) ha (by rfl) (by simp) (by simp)
    have f18 : us 18 = .bool false := D ⟨18, .data⟩ (by simp) rfl
    have e60 := Rg.e_in (i := 20) (d := 60) ha (by rfl) (by simp) (by simp)
    have f20 : us 20 = .bool true := D ⟨20, .data⟩ (by simp) rfl
    have HB := Lib.hid hB
    refine Rg.wpOp_of rfl (Rg.wanted_of rfl (Rg.yielded_of (d := 55) (by rfl) (Rg.g_in (d := 55) ha (by rfl) (by simp) (by simp) (D ⟨15, .guard⟩ (by simp) rfl : us 15 = .bool true)))) ?_
    clear ha D hB
    go_simp
    exact hK _ _ rfl (Below.refl _ _)
  · intro o ho us wl al ha hB D K hK
    obtain rfl := Option.some.inj ho
    have e61 := Rg.e_in (i := 21) (d := 61) ha (by rfl) (by simp) (by simp)
    have f21 : us 21 = .bool true := D ⟨21, .data⟩ (by simp) rfl
    have HB := Lib.hid hB
    refine Rg.wpOp_of rfl (Rg.wanted_of rfl (Rg.yielded_of (d := 55) (by rfl) (Rg.g_in (d := 55) ha (by rfl) (by simp) (by simp) (D ⟨15, .guard⟩ (by simp) rfl : us 15 = .bool true)))) ?_
    clear ha D hB
    go_simp
    exact hK _ _ rfl (Below.refl _ _)
  · intro o ho us wl al ha hB D K hK
    obtain rfl := Option.some.inj ho
    refine Rg.wpOp_off rfl (Rg.unwanted_of (b := false) rfl (Rg.yielded_of (d := 62) (by rfl) (Rg.g_in (d := 62) ha (by rfl) (by simp) (by simp) (D ⟨22, .guard⟩ (by simp) rfl : us 22 = .bool true)))) ?_
    exact hK _ _ rfl (Below.refl _ _)
  · intro o ho us wl al ha hB D K hK
    obtain rfl := Option.some.inj ho
    refine Rg.wpOp_off rfl (Rg.unwanted_of (b := false) rfl (Rg.yielded_of (d := 62) (by rfl) (Rg.g_in (d := 62) ha (by rfl) (by simp) (by simp) (D ⟨22, .guard⟩ (by simp) rfl : us 22 = .bool true)))) ?_
    exact hK _ _ rfl (Below.refl _ _)
  · intro o ho us wl al ha hB D K hK
    obtain rfl := Option.some.inj ho
    refine Rg.wpOp_off rfl (Rg.unwanted_of (b := false) rfl (Rg.yielded_of (d := 62) (by rfl) (Rg.g_in (d := 62) ha (by rfl) (by simp) (by simp) (D ⟨22, .guard⟩ (by simp) rfl : us 22 = .bool true)))) ?_
    exact hK _ _ rfl (Below.refl _ _)
  · intro o ho us wl al ha hB D K hK
    obtain rfl := Option.some.inj ho
    refine Rg.wpOp_off rfl (Rg.unwanted_of (b := false) rfl (Rg.yielded_of (d := 62) (by rfl) (Rg.g_in (d := 62) ha (by rfl) (by simp) (by simp) (D ⟨22, .guard⟩ (by simp) rfl : us 22 = .bool true)))) ?_
    exact hK _ _ rfl (Below.refl _ _)
  · intro o ho us wl al ha hB D K hK
    obtain rfl := Option.some.inj ho
    refine Rg.wpOp_off rfl (Rg.unwanted_of (b := false) rfl (Rg.yielded_of (d := 62) (by rfl) (Rg.g_in (d := 62) ha (by rfl) (by simp) (by simp) (D ⟨22, .guard⟩ (by simp) rfl : us 22 = .bool true)))) ?_
    exact hK _ _ rfl (Below.refl _ _)
  · intro o ho us wl al ha hB D K hK
    obtain rfl := Option.some.inj ho
    have e62 := Rg.e_in (i := 22) (d := 62) ha (by rfl) (by simp) (by simp)
    have f22 : us 22 = .bool true := D ⟨22, .data⟩ (by simp) rfl
    have e67 := Rg.e_in (i := 27) (d := 67) ha (by rfl) (by simp) (by simp)
    have f27 : us 27 = undef := D ⟨27, .data⟩ (by simp) rfl
    have HB := Lib.hid hB
    refine Rg.wpOp_of rfl (Rg.wanted_of rfl (Rg.yielded_of (d := 55) (by rfl) (Rg.g_in (d := 55) ha (by rfl) (by simp) (by simp) (D ⟨15, .guard⟩ (by simp) rfl : us 15 = .bool true)))) ?_
    clear ha D hB
    go_simp
    exact hK _ _ rfl (Below.refl _ _)
  · intro o ho us wl al ha hB D K hK
    obtain rfl := Option.some.inj ho
    have e55 := Rg.e_in (i := 15) (d := 55) ha (by rfl) (by simp) (by simp)
    have f15 : us 15 = .bool true := D ⟨15, .data⟩ (by simp) rfl
    have e68 := Rg.e_in (i := 28) (d := 68) ha (by rfl) (by simp) (by simp)
    have f28 : us 28 = .bool true := D ⟨28, .data⟩ (by simp) rfl
    have HB := Lib.hid hB
    refine Rg.wpOp_of rfl rfl ?_
    clear ha D hB
    go_simp
    exact hK _ _ rfl (Below.refl _ _)
  · intro o ho us wl al ha hB D K hK
    obtain rfl := Option.some.inj ho
    have e69 := Rg.e_in (i := 29) (d := 69) ha (by rfl) (by simp) (by simp)
    have f29 : us 29 = .bool true := D ⟨29, .data⟩ (by simp) rfl
    have HB := Lib.hid hB
    refine Rg.wpOp_of rfl rfl ?_
    clear ha D hB
    go_simp
    exact hK _ _ rfl (Below.refl _ _)
  · intro us wz hB hR
    have fz : us 30 = .bool true := hR 30
    have DZ := Lib.hid (T6.out.trans (hB.mono T6.out.size))
    clear hB hR
    simp only [Rg.puts, Act.put, List.setIfInBounds_toArray, List.set_cons_zero, List.set_cons_succ, fz]
    go_wp2_with fail
    go_ret
    exact ⟨rfl, DZ.out⟩
/-- What each operation of the region yields. -/
def RCdone (va ya : Option Addr) (nl vc nx yc B rn mx ml lx : Nat) (k : Nat) (v : Value) (_w' : World) : Prop := match k with
  | 0 => v = .bool true
  | 1 => v = .bool true
  | 2 => v = .pointer (some ⟨B, 2, none⟩)
  | 3 => v = .int .i64 (rn : Nat)
  | 4 => v = .slice ya nx yc
  | 5 => v = .int .i64 (mx : Nat)
  | 6 => v = .bool true
  | 7 => v = .bool true
  | 8 => v = .bool true
  | 9 => v = .slice ya nx yc
  | 10 => v = .int .i64 (mx : Nat)
  | 11 => v = .slice va nl vc
  | 12 => v = .int .i64 (ml : Nat)
  | 13 => v = .bool true
  | 14 => v = .bool true
  | 15 => v = .bool true
  | 16 => v = .bool true
  | 17 => v = .bool false
  | 18 => v = .bool false
  | 19 => v = .bool true
  | 20 => v = .bool false
  | 21 => v = .bool false
  | 22 => v = .bool false
  | 23 => v = .pointer (some ⟨B, 2, none⟩)
  | 24 => v = .int .i64 (rn : Nat)
  | 25 => v = .slice ya nx yc
  | 26 => v = .int .i64 (lx : Nat)
  | 27 => v = .bool true
  | 28 => v = .bool true
  | 29 => v = .bool true
  | 30 => v = .bool true
  | _ => True
theorem RCdone.below {va ya : Option Addr} {nl vc nx yc B rn mx ml lx : Nat} {k : Nat} {v : Value} {w w' : World} (h : RCdone va ya nl vc nx yc B rn mx ml lx k v w) (_hb : Below w.heap.size w w') : RCdone va ya nl vc nx yc B rn mx ml lx k v w' := by
  unfold RCdone at h ⊢
  split at h
  all_goals exact h
set_option maxHeartbeats 8000000 in
theorem runs_done (va pa : Option Addr) (nl vc np pc nx rn mx ml lx cn : Nat) (w : World) (T : Option Addr → Nat → World → Prop) (hT : ∀ ya yc w1 w2, T ya yc w1 → Below w1.heap.size w1 w2 → T ya yc w2)
    (HSt : Hid (Calls Tryz.prog 4 #[.slice va nl vc] w fun e w' => ∃ ya yc, e = .returned (.slice ya nx yc) ∧ T ya yc w' ∧ Below w.heap.size w w'))
    (HF : Hid (∀ w1, Below w.heap.size w w1 → Calls Tryz.prog 5 #[.slice va nl vc] w1 fun e w' => e = .returned (.bool true) ∧ w1 = w'))
    (HA : Hid (∀ w1, Calls Tryz.prog 6 #[] w1 fun e w' => e = .returned (.bool true) ∧ Below w1.heap.size w1 w'))
    (HPl : Hid (∀ ya yc w1, Below w.heap.size w w1 → T ya yc w1 → Calls Tryz.prog 7 #[.slice ya nx yc, .slice pa np pc] w1 fun e w' => ∃ ra rn1 rc aa an1 ac, e = .returned (.agg #[.slice ra rn1 rc, .slice aa an1 ac, .int .i64 (rn : Nat)]) ∧ Below w1.heap.size w1 w' ∧ ∀ w2, Below w'.heap.size w' w2 → Calls Tryz.prog 9 #[.agg #[.slice ra rn1 rc, .slice aa an1 ac, .int .i64 (rn : Nat)]] w2 fun e w3 => ∃ ta tn tc z, e = .returned (.tuple #[.agg #[.slice ta tn tc, .int .i64 z], .bool true]) ∧ Below w2.heap.size w2 w3))
    (HC : Hid (∀ ya yc y w1, T ya yc w1 → Rw.Ints w1 y [1, 5, 7] → Calls Tryz.prog 8 #[.slice ya nx yc, y] w1 fun e w' => e = .returned (.int .i64 (cn : Nat)) ∧ Below w1.heap.size w1 w'))
    (MX : Hid (∀ ya yc w1, T ya yc w1 → Calls Tryz.prog 10 #[.slice ya nx yc] w1 fun e w' => e = .returned (.int .i64 (mx : Nat)) ∧ Below w1.heap.size w1 w'))
    (ML : Hid (∀ w1, Below w.heap.size w w1 → Calls Tryz.prog 10 #[.slice va nl vc] w1 fun e w' => e = .returned (.int .i64 (ml : Nat)) ∧ Below w1.heap.size w1 w'))
    (LX : Hid (∀ ya yc w1, T ya yc w1 → Calls Tryz.prog 11 #[.slice ya nx yc] w1 fun e w' => e = .returned (.int .i64 (lx : Nat)) ∧ Below w1.heap.size w1 w'))
    (hx0 : nx ≠ 0) (h60 : np ≤ 60) (h1 : rn ≤ mx) (h2 : mx ≤ ml) (hcn : cn = nx) (hq3 : cn = nx → true = true → rn = lx) :
    Calls Tryz.prog 3 #[.slice va nl vc, .slice pa np pc] w (Law w) := by
  have g0 : ((nx : Int) == 0) = false := beq_eq_false_iff_ne.2 (by omega)
  have g60 : ¬ (60 : Int) < np := by omega
  have g1 : (rn : Int) ≤ mx := by omega
  have g2 : (mx : Int) ≤ ml := by omega
  have gp : ((cn : Int) == (nx : Int)) = true := beq_iff_eq.2 (by omega)
  have g3 : ((rn : Int) == (lx : Int)) = true := beq_iff_eq.2 (by have := hq3 hcn rfl; omega)
  have HT := Lib.hid hT
  unfold Law
  clear hx0 h60 h1 h2 hcn hq3 hT
  go_enter Tryz.func3, Tryz.ntmps3
  go_wp2_with fail
  refine HSt.out.mono ?_
  rintro e w1 ⟨ya, yc, rfl, hy, hb1⟩
  replace HPl := Lib.hid (HPl.out ya yc)
  replace HC := Lib.hid (HC.out ya yc)
  replace MX := Lib.hid (MX.out ya yc)
  replace LX := Lib.hid (LX.out ya yc)
  replace HT := Lib.hid (HT.out ya yc)
  have T1 := Lib.hid hb1
  have Y1 := Lib.hid hy
  have F1 := Lib.hid (HF.out w1 hb1)
  clear hb1 hy HSt HF
  go_wp2_with fail
  refine F1.out.mono ?_
  rintro e w2 ⟨rfl, rfl⟩
  have P1 := Lib.hid (HPl.out _ T1.out Y1.out)
  clear F1 HPl
  go_wp2_with fail
  refine P1.out.mono ?_
  rintro e w2 ⟨ra, rn1, rc, aa, an1, ac, rfl, hb2, hTr⟩
  have B2 := Rw.below1 w2 (.cells #[.slice ra rn1 rc, .slice aa an1 ac, .int .i64 (rn : Nat)] 29)
  have B3 := hb2.trans (B2.mono hb2.size)
  have B4 := Rw.below1 (w2.alloc (.cells #[.slice ra rn1 rc, .slice aa an1 ac, .int .i64 (rn : Nat)] 29)) (.cells #[.int .i64 1, .int .i64 5, .int .i64 7] 3)
  have V3 := Lib.hid (B2.trans (B4.mono B2.size))
  have T3 := Lib.hid (T1.out.trans ((B3.trans (B4.mono B3.size)).mono T1.out.size))
  have Y3 := Lib.hid (HT.out _ _ (HT.out _ _ Y1.out B3) B4)
  have TR := Lib.hid hTr
  have r0 : (w2.alloc (.cells #[.slice ra rn1 rc, .slice aa an1 ac, .int .i64 (rn : Nat)] 29)).cell? ⟨w2.heap.size, 0, none⟩ = some (.slice ra rn1 rc) := by simp [go_sem]
  have r1 : (w2.alloc (.cells #[.slice ra rn1 rc, .slice aa an1 ac, .int .i64 (rn : Nat)] 29)).cell? ⟨w2.heap.size, 1, none⟩ = some (.slice aa an1 ac) := by simp [go_sem]
  have r2 : (w2.alloc (.cells #[.slice ra rn1 rc, .slice aa an1 ac, .int .i64 (rn : Nat)] 29)).cell? ⟨w2.heap.size, 2, none⟩ = some (.int .i64 (rn : Nat)) := by simp [go_sem]
  replace r0 := Ru.kc B4 r0
  replace r1 := Ru.kc B4 r1
  replace r2 := Ru.kc B4 r2
  have C3 := Lib.hid (HC.out _ _ Y3.out (three_new w2 (.cells #[.slice ra rn1 rc, .slice aa an1 ac, .int .i64 (rn : Nat)] 29)))
  clear hb2 hTr B2 B3 B4 P1 HC Y1 T1
  go_wp2_with fail
  refine C3.out.mono ?_
  rintro e w3 ⟨rfl, hb3⟩
  have T4 := Lib.hid (T3.out.trans (hb3.mono T3.out.size))
  have Y4 := Lib.hid (HT.out _ _ Y3.out hb3)
  have TQ := Lib.hid (TR.out w3 (V3.out.trans (hb3.mono V3.out.size)))
  replace r0 := Ru.kc hb3 r0
  replace r1 := Ru.kc hb3 r1
  replace r2 := Ru.kc hb3 r2
  clear hb3 C3 T3 Y3 TR V3
  go_wp2_with fail
  refine TQ.out.mono ?_
  rintro e w5 ⟨ta, tn, tc, z, rfl, hb5⟩
  have U5 := Rw.below1 w5 (.cells #[.slice ta tn tc, .int .i64 z] 33)
  have V5 := hb5.trans (U5.mono hb5.size)
  have T6 := Lib.hid (T4.out.trans (V5.mono T4.out.size))
  have Y6 := Lib.hid (HT.out _ _ Y4.out V5)
  replace r2 := Ru.kc V5 r2
  obtain ⟨w4, hw4⟩ : ∃ w4, w5.alloc (.cells #[.slice ta tn tc, .int .i64 z] 33) = w4 := ⟨_, rfl⟩
  rw [hw4] at T6 Y6 r2
  have CM := Lib.hid (fun w' (hb : Below w4.heap.size w4 w') => (Ru.kc hb r2 : w'.cell? ⟨w2.heap.size, 2, none⟩ = some (.int .i64 (rn : Nat))))
  replace MX := Lib.hid (fun w' (hb : Below w4.heap.size w4 w') => MX.out w' (HT.out _ _ Y6.out hb))
  replace LX := Lib.hid (fun w' (hb : Below w4.heap.size w4 w') => LX.out w' (HT.out _ _ Y6.out hb))
  replace ML := Lib.hid (fun w' (hb : Below w4.heap.size w4 w') => ML.out w' (T6.out.trans (hb.mono T6.out.size)))
  obtain ⟨B, hB0⟩ : ∃ B, w2.heap.size = B := ⟨_, rfl⟩
  rw [hB0] at CM r0 r1 r2 ⊢
  clear hb5 U5 V5 T4 Y4 TQ HT Y6 hB0 r0 r1
  go_wp2_with fail
  clear hw4 r2
  refine Rg.wp_region_owes (by kernel_rfl) [(0, some 40), (1, some 41), (2, some 42), (3, some 43), (4, some 44), (5, some 45), (6, some 46), (7, some 47), (8, some 48), (9, some 49), (10, some 50), (11, some 51), (12, some 52), (13, some 53), (14, some 54), (15, some 55), (16, some 56), (17, some 57), (18, some 58), (19, some 59), (20, some 60), (21, some 61), (22, some 62), (23, some 63), (24, some 64), (25, some 65), (26, some 66), (27, some 67), (28, some 68), (29, some 69), (30, some 4)] (by rfl) (by kernel_rfl) (by kernel_rfl) (fun w' => Below w4.heap.size w4 w') (RCdone va ya nl vc nx yc B rn mx ml lx) (Below.refl _ _).drew ?_ (fun _ _ h hb => h.trans (hb.mono h.size)) (fun _ _ _ _ h hb => RCdone.below h hb) ⟨⟨⟨⟨⟨⟨⟨⟨⟨⟨⟨⟨⟨⟨⟨⟨⟨⟨⟨⟨⟨⟨⟨⟨⟨⟨⟨⟨⟨⟨⟨True.intro, ?_⟩, ?_⟩, ?_⟩, ?_⟩, ?_⟩, ?_⟩, ?_⟩, ?_⟩, ?_⟩, ?_⟩, ?_⟩, ?_⟩, ?_⟩, ?_⟩, ?_⟩, ?_⟩, ?_⟩, ?_⟩, ?_⟩, ?_⟩, ?_⟩, ?_⟩, ?_⟩, ?_⟩, ?_⟩, ?_⟩, ?_⟩, ?_⟩, ?_⟩, ?_⟩, ?_⟩ ?_
  · intro k v w' hk
    unfold RCdone
    split
    case h_32 => trivial
    all_goals exact absurd hk (by decide)
  · intro o ho us wl al ha hB D K hK
    obtain rfl := Option.some.inj ho
    have HB := Lib.hid hB
    refine Rg.wpOp_of rfl rfl ?_
    clear ha D hB
    go_simp
    refine (HA.out _).mono ?_
    rintro e wn ⟨rfl, hb⟩
    exact hK _ _ rfl hb
  · intro o ho us wl al ha hB D K hK
    obtain rfl := Option.some.inj ho
    have e40 := Rg.e_in (i := 0) (d := 40) ha (by rfl) (by simp) (by simp)
    have f0 : us 0 = .bool true := D ⟨0, .data⟩ (by simp) rfl
    have HB := Lib.hid hB
    refine Rg.wpOp_of rfl rfl ?_
    clear ha D hB
    go_simp
    exact hK _ _ rfl (Below.refl _ _)
  · intro o ho us wl al ha hB D K hK
    obtain rfl := Option.some.inj ho
    have e6 : al.tmps[6]?.getD undef = .pointer (some ⟨B, 0, none⟩) := (Rg.e_out ha (by rfl)).trans rfl
    have HB := Lib.hid hB
    refine Rg.wpOp_of rfl (Rg.wanted_of rfl (Rg.yielded_of (d := 41) (by rfl) (Rg.g_in (d := 41) ha (by rfl) (by simp) (by simp) (D ⟨1, .guard⟩ (by simp) rfl : us 1 = .bool true)))) ?_
    clear ha D hB
    go_simp
    exact hK _ _ rfl (Below.refl _ _)
  · intro o ho us wl al ha hB D K hK
    obtain rfl := Option.some.inj ho
    have e42 := Rg.e_in (i := 2) (d := 42) ha (by rfl) (by simp) (by simp)
    have f2 : us 2 = .pointer (some ⟨B, 2, none⟩) := D ⟨2, .data⟩ (by simp) rfl
    have c2 := CM.out _ hB
    have HB := Lib.hid hB
    refine Rg.wpOp_of rfl (Rg.wanted_of rfl (Rg.yielded_of (d := 41) (by rfl) (Rg.g_in (d := 41) ha (by rfl) (by simp) (by simp) (D ⟨1, .guard⟩ (by simp) rfl : us 1 = .bool true)))) ?_
    clear ha D hB
    go_simp
    exact hK _ _ rfl (Below.refl _ _)
  · intro o ho us wl al ha hB D K hK
    obtain rfl := Option.some.inj ho
    have e5 : al.tmps[5]?.getD undef = .slice ya nx yc := (Rg.e_out ha (by rfl)).trans rfl
    have HB := Lib.hid hB
    refine Rg.wpOp_of rfl (Rg.wanted_of rfl (Rg.yielded_of (d := 41) (by rfl) (Rg.g_in (d := 41) ha (by rfl) (by simp) (by simp) (D ⟨1, .guard⟩ (by simp) rfl : us 1 = .bool true)))) ?_
    clear ha D hB
    go_simp
    exact hK _ _ rfl (Below.refl _ _)
  · intro o ho us wl al ha hB D K hK
    obtain rfl := Option.some.inj ho
    have e44 := Rg.e_in (i := 4) (d := 44) ha (by rfl) (by simp) (by simp)
    have f4 : us 4 = .slice ya nx yc := D ⟨4, .data⟩ (by simp) rfl
    have HB := Lib.hid hB
    refine Rg.wpOp_of rfl (Rg.wanted_of rfl (Rg.yielded_of (d := 41) (by rfl) (Rg.g_in (d := 41) ha (by rfl) (by simp) (by simp) (D ⟨1, .guard⟩ (by simp) rfl : us 1 = .bool true)))) ?_
    clear ha D hB
    go_simp
    refine (MX.out _ HB.out).mono ?_
    rintro e wn ⟨rfl, hb⟩
    exact hK _ _ rfl hb
  · intro o ho us wl al ha hB D K hK
    obtain rfl := Option.some.inj ho
    have e43 := Rg.e_in (i := 3) (d := 43) ha (by rfl) (by simp) (by simp)
    have f3 : us 3 = .int .i64 (rn : Nat) := D ⟨3, .data⟩ (by simp) rfl
    have e45 := Rg.e_in (i := 5) (d := 45) ha (by rfl) (by simp) (by simp)
    have f5 : us 5 = .int .i64 (mx : Nat) := D ⟨5, .data⟩ (by simp) rfl
    have HB := Lib.hid hB
    refine Rg.wpOp_of rfl (Rg.wanted_of rfl (Rg.yielded_of (d := 41) (by rfl) (Rg.g_in (d := 41) ha (by rfl) (by simp) (by simp) (D ⟨1, .guard⟩ (by simp) rfl : us 1 = .bool true)))) ?_
    clear ha D hB
    go_simp
    exact hK _ _ rfl (Below.refl _ _)
  · intro o ho us wl al ha hB D K hK
    obtain rfl := Option.some.inj ho
    have e41 := Rg.e_in (i := 1) (d := 41) ha (by rfl) (by simp) (by simp)
    have f1 : us 1 = .bool true := D ⟨1, .data⟩ (by simp) rfl
    have e46 := Rg.e_in (i := 6) (d := 46) ha (by rfl) (by simp) (by simp)
    have f6 : us 6 = .bool true := D ⟨6, .data⟩ (by simp) rfl
    have HB := Lib.hid hB
    refine Rg.wpOp_of rfl rfl ?_
    clear ha D hB
    go_simp
    exact hK _ _ rfl (Below.refl _ _)
  · intro o ho us wl al ha hB D K hK
    obtain rfl := Option.some.inj ho
    have e47 := Rg.e_in (i := 7) (d := 47) ha (by rfl) (by simp) (by simp)
    have f7 : us 7 = .bool true := D ⟨7, .data⟩ (by simp) rfl
    have HB := Lib.hid hB
    refine Rg.wpOp_of rfl rfl ?_
    clear ha D hB
    go_simp
    exact hK _ _ rfl (Below.refl _ _)
  · intro o ho us wl al ha hB D K hK
    obtain rfl := Option.some.inj ho
    have e5 : al.tmps[5]?.getD undef = .slice ya nx yc := (Rg.e_out ha (by rfl)).trans rfl
    have HB := Lib.hid hB
    refine Rg.wpOp_of rfl (Rg.wanted_of rfl (Rg.yielded_of (d := 48) (by rfl) (Rg.g_in (d := 48) ha (by rfl) (by simp) (by simp) (D ⟨8, .guard⟩ (by simp) rfl : us 8 = .bool true)))) ?_
    clear ha D hB
    go_simp
    exact hK _ _ rfl (Below.refl _ _)
  · intro o ho us wl al ha hB D K hK
    obtain rfl := Option.some.inj ho
    have e49 := Rg.e_in (i := 9) (d := 49) ha (by rfl) (by simp) (by simp)
    have f9 : us 9 = .slice ya nx yc := D ⟨9, .data⟩ (by simp) rfl
    have HB := Lib.hid hB
    refine Rg.wpOp_of rfl (Rg.wanted_of rfl (Rg.yielded_of (d := 48) (by rfl) (Rg.g_in (d := 48) ha (by rfl) (by simp) (by simp) (D ⟨8, .guard⟩ (by simp) rfl : us 8 = .bool true)))) ?_
    clear ha D hB
    go_simp
    refine (MX.out _ HB.out).mono ?_
    rintro e wn ⟨rfl, hb⟩
    exact hK _ _ rfl hb
  · intro o ho us wl al ha hB D K hK
    obtain rfl := Option.some.inj ho
    have e0 : al.tmps[0]?.getD undef = .slice va nl vc := (Rg.e_out ha (by rfl)).trans rfl
    have HB := Lib.hid hB
    refine Rg.wpOp_of rfl (Rg.wanted_of rfl (Rg.yielded_of (d := 48) (by rfl) (Rg.g_in (d := 48) ha (by rfl) (by simp) (by simp) (D ⟨8, .guard⟩ (by simp) rfl : us 8 = .bool true)))) ?_
    clear ha D hB
    go_simp
    exact hK _ _ rfl (Below.refl _ _)
  · intro o ho us wl al ha hB D K hK
    obtain rfl := Option.some.inj ho
    have e51 := Rg.e_in (i := 11) (d := 51) ha (by rfl) (by simp) (by simp)
    have f11 : us 11 = .slice va nl vc := D ⟨11, .data⟩ (by simp) rfl
    have HB := Lib.hid hB
    refine Rg.wpOp_of rfl (Rg.wanted_of rfl (Rg.yielded_of (d := 48) (by rfl) (Rg.g_in (d := 48) ha (by rfl) (by simp) (by simp) (D ⟨8, .guard⟩ (by simp) rfl : us 8 = .bool true)))) ?_
    clear ha D hB
    go_simp
    refine (ML.out _ HB.out).mono ?_
    rintro e wn ⟨rfl, hb⟩
    exact hK _ _ rfl hb
  · intro o ho us wl al ha hB D K hK
    obtain rfl := Option.some.inj ho
    have e50 := Rg.e_in (i := 10) (d := 50) ha (by rfl) (by simp) (by simp)
    have f10 : us 10 = .int .i64 (mx : Nat) := D ⟨10, .data⟩ (by simp) rfl
    have e52 := Rg.e_in (i := 12) (d := 52) ha (by rfl) (by simp) (by simp)
    have f12 : us 12 = .int .i64 (ml : Nat) := D ⟨12, .data⟩ (by simp) rfl
    have HB := Lib.hid hB
    refine Rg.wpOp_of rfl (Rg.wanted_of rfl (Rg.yielded_of (d := 48) (by rfl) (Rg.g_in (d := 48) ha (by rfl) (by simp) (by simp) (D ⟨8, .guard⟩ (by simp) rfl : us 8 = .bool true)))) ?_
    clear ha D hB
    go_simp
    exact hK _ _ rfl (Below.refl _ _)
  · intro o ho us wl al ha hB D K hK
    obtain rfl := Option.some.inj ho
    have e48 := Rg.e_in (i := 8) (d := 48) ha (by rfl) (by simp) (by simp)
    have f8 : us 8 = .bool true := D ⟨8, .data⟩ (by simp) rfl
    have e53 := Rg.e_in (i := 13) (d := 53) ha (by rfl) (by simp) (by simp)
    have f13 : us 13 = .bool true := D ⟨13, .data⟩ (by simp) rfl
    have HB := Lib.hid hB
    refine Rg.wpOp_of rfl rfl ?_
    clear ha D hB
    go_simp
    exact hK _ _ rfl (Below.refl _ _)
  · intro o ho us wl al ha hB D K hK
    obtain rfl := Option.some.inj ho
    have e54 := Rg.e_in (i := 14) (d := 54) ha (by rfl) (by simp) (by simp)
    have f14 : us 14 = .bool true := D ⟨14, .data⟩ (by simp) rfl
    have HB := Lib.hid hB
    refine Rg.wpOp_of rfl rfl ?_
    clear ha D hB
    go_simp
    exact hK _ _ rfl (Below.refl _ _)
  · intro o ho us wl al ha hB D K hK
    obtain rfl := Option.some.inj ho
    have e7 : al.tmps[7]?.getD undef = .bool true := (Rg.e_out ha (by rfl)).trans rfl
    have HB := Lib.hid hB
    refine Rg.wpOp_of rfl (Rg.wanted_of rfl (Rg.yielded_of (d := 55) (by rfl) (Rg.g_in (d := 55) ha (by rfl) (by simp) (by simp) (D ⟨15, .guard⟩ (by simp) rfl : us 15 = .bool true)))) ?_
    clear ha D hB
    go_simp
    exact hK _ _ rfl (Below.refl _ _)
  · intro o ho us wl al ha hB D K hK
    obtain rfl := Option.some.inj ho
    have e56 := Rg.e_in (i := 16) (d := 56) ha (by rfl) (by simp) (by simp)
    have f16 : us 16 = .bool true := D ⟨16, .data⟩ (by simp) rfl
    have HB := Lib.hid hB
    refine Rg.wpOp_of rfl (Rg.wanted_of rfl (Rg.yielded_of (d := 55) (by rfl) (Rg.g_in (d := 55) ha (by rfl) (by simp) (by simp) (D ⟨15, .guard⟩ (by simp) rfl : us 15 = .bool true)))) ?_
    clear ha D hB
    go_simp
    exact hK _ _ rfl (Below.refl _ _)
  · intro o ho us wl al ha hB D K hK
    obtain rfl := Option.some.inj ho
    have e57 := Rg.e_in (i := 17) (d := 57) ha (by rfl) (by simp) (by simp)
    have f17 : us 17 = .bool false := D ⟨17, .data⟩ (by simp) rfl
    have HB := Lib.hid hB
    refine Rg.wpOp_of rfl (Rg.wanted_of rfl (Rg.yielded_of (d := 55) (by rfl) (Rg.g_in (d := 55) ha (by rfl) (by simp) (by simp) (D ⟨15, .guard⟩ (by simp) rfl : us 15 = .bool true)))) ?_
    clear ha D hB
    go_simp
    exact hK _ _ rfl (Below.refl _ _)
  · intro o ho us wl al ha hB D K hK
    obtain rfl := Option.some.inj ho
    have e9 : al.tmps[9]?.getD undef = .bool true := (Rg.e_out ha (by rfl)).trans rfl
    have HB := Lib.hid hB
    refine Rg.wpOp_of rfl (Rg.wanted_of rfl (Rg.yielded_of (d := 58) (by rfl) (Rg.g_in (d := 58) ha (by rfl) (by simp) (by simp) (D ⟨18, .guard⟩ (by simp) rfl : us 18 = .bool false)))) ?_
    clear ha D hB
    go_simp
    exact hK _ _ rfl (Below.refl _ _)
  · intro o ho us wl al ha hB D K hK
    obtain rfl := Option.some.inj ho
    have e59 := Rg.e_in (i := 19) (d := 59) ha (by rfl) (by simp) (by simp)
    have f19 : us 19 = .bool true := D ⟨19, .data⟩ (by simp) rfl
    have HB := Lib.hid hB
    refine Rg.wpOp_of rfl (Rg.wanted_of rfl (Rg.yielded_of (d := 58) (by rfl) (Rg.g_in (d := 58) ha (by rfl) (by simp) (by simp) (D ⟨18, .guard⟩ (by simp) rfl : us 18 = .bool false)))) ?_
    clear ha D hB
    go_simp
    exact hK _ _ rfl (Below.refl _ _)
  · intro o ho us wl al ha hB D K hK
    obtain rfl := Option.some.inj ho
    have e58 := Rg.e_in (i := 18) (d := 58) ha (by rfl) (by simp) (by simp)
    have f18 : us 18 = .bool false := D ⟨18, .data⟩ (by simp) rfl
    have e60 := Rg.e_in (i := 20) (d := 60) ha (by rfl) (by simp) (by simp)
    have f20 : us 20 = .bool false := D ⟨20, .data⟩ (by simp) rfl
    have HB := Lib.hid hB
    refine Rg.wpOp_of rfl (Rg.wanted_of rfl (Rg.yielded_of (d := 55) (by rfl) (Rg.g_in (d := 55) ha (by rfl) (by simp) (by simp) (D ⟨15, .guard⟩ (by simp) rfl : us 15 = .bool true)))) ?_
    clear ha D hB
    go_simp
    exact hK _ _ rfl (Below.refl _ _)
  · intro o ho us wl al ha hB D K hK
    obtain rfl := Option.some.inj ho
    have e61 := Rg.e_in (i := 21) (d := 61) ha (by rfl) (by simp) (by simp)
    have f21 : us 21 = .bool false := D ⟨21, .data⟩ (by simp) rfl
    have HB := Lib.hid hB
    refine Rg.wpOp_of rfl (Rg.wanted_of rfl (Rg.yielded_of (d := 55) (by rfl) (Rg.g_in (d := 55) ha (by rfl) (by simp) (by simp) (D ⟨15, .guard⟩ (by simp) rfl : us 15 = .bool true)))) ?_
    clear ha D hB
    go_simp
    exact hK _ _ rfl (Below.refl _ _)
  · intro o ho us wl al ha hB D K hK
    obtain rfl := Option.some.inj ho
    have e6 : al.tmps[6]?.getD undef = .pointer (some ⟨B, 0, none⟩) := (Rg.e_out ha (by rfl)).trans rfl
    have HB := Lib.hid hB
    refine Rg.wpOp_of rfl (Rg.wanted_of rfl (Rg.yielded_of (d := 62) (by rfl) (Rg.g_in (d := 62) ha (by rfl) (by simp) (by simp) (D ⟨22, .guard⟩ (by simp) rfl : us 22 = .bool false)))) ?_
    clear ha D hB
    go_simp
    exact hK _ _ rfl (Below.refl _ _)
  · intro o ho us wl al ha hB D K hK
    obtain rfl := Option.some.inj ho
    have e63 := Rg.e_in (i := 23) (d := 63) ha (by rfl) (by simp) (by simp)
    have f23 : us 23 = .pointer (some ⟨B, 2, none⟩) := D ⟨23, .data⟩ (by simp) rfl
    have c2 := CM.out _ hB
    have HB := Lib.hid hB
    refine Rg.wpOp_of rfl (Rg.wanted_of rfl (Rg.yielded_of (d := 62) (by rfl) (Rg.g_in (d := 62) ha (by rfl) (by simp) (by simp) (D ⟨22, .guard⟩ (by simp) rfl : us 22 = .bool false)))) ?_
    clear ha D hB
    go_simp
    exact hK _ _ rfl (Below.refl _ _)
  · intro o ho us wl al ha hB D K hK
    obtain rfl := Option.some.inj ho
    have e5 : al.tmps[5]?.getD undef = .slice ya nx yc := (Rg.e_out ha (by rfl)).trans rfl
    have HB := Lib.hid hB
    refine Rg.wpOp_of rfl (Rg.wanted_of rfl (Rg.yielded_of (d := 62) (by rfl) (Rg.g_in (d := 62) ha (by rfl) (by simp) (by simp) (D ⟨22, .guard⟩ (by simp) rfl : us 22 = .bool false)))) ?_
    clear ha D hB
    go_simp
    exact hK _ _ rfl (Below.refl _ _)
  · intro o ho us wl al ha hB D K hK
    obtain rfl := Option.some.inj ho
    have e65 := Rg.e_in (i := 25) (d := 65) ha (by rfl) (by simp) (by simp)
    have f25 : us 25 = .slice ya nx yc := D ⟨25, .data⟩ (by simp) rfl
    have HB := Lib.hid hB
    refine Rg.wpOp_of rfl (Rg.wanted_of rfl (Rg.yielded_of (d := 62) (by rfl) (Rg.g_in (d := 62) ha (by rfl) (by simp) (by simp) (D ⟨22, .guard⟩ (by simp) rfl : us 22 = .bool false)))) ?_
    clear ha D hB
    go_simp
    refine (LX.out _ HB.out).mono ?_
    rintro e wn ⟨rfl, hb⟩
    exact hK _ _ rfl hb
  · intro o ho us wl al ha hB D K hK
    obtain rfl := Option.some.inj ho
    have e64 := Rg.e_in (i := 24) (d := 64) ha (by rfl) (by simp) (by simp)
    have f24 : us 24 = .int .i64 (rn : Nat) := D ⟨24, .data⟩ (by simp) rfl
    have e66 := Rg.e_in (i := 26) (d := 66) ha (by rfl) (by simp) (by simp)
    have f26 : us 26 = .int .i64 (lx : Nat) := D ⟨26, .data⟩ (by simp) rfl
    have HB := Lib.hid hB
    refine Rg.wpOp_of rfl (Rg.wanted_of rfl (Rg.yielded_of (d := 62) (by rfl) (Rg.g_in (d := 62) ha (by rfl) (by simp) (by simp) (D ⟨22, .guard⟩ (by simp) rfl : us 22 = .bool false)))) ?_
    clear ha D hB
    go_simp
    exact hK _ _ rfl (Below.refl _ _)
  · intro o ho us wl al ha hB D K hK
    obtain rfl := Option.some.inj ho
    have e62 := Rg.e_in (i := 22) (d := 62) ha (by rfl) (by simp) (by simp)
    have f22 : us 22 = .bool false := D ⟨22, .data⟩ (by simp) rfl
    have e67 := Rg.e_in (i := 27) (d := 67) ha (by rfl) (by simp) (by simp)
    have f27 : us 27 = .bool true := D ⟨27, .data⟩ (by simp) rfl
    have HB := Lib.hid hB
    refine Rg.wpOp_of rfl (Rg.wanted_of rfl (Rg.yielded_of (d := 55) (by rfl) (Rg.g_in (d := 55) ha (by rfl) (by simp) (by simp) (D ⟨15, .guard⟩ (by simp) rfl : us 15 = .bool true)))) ?_
    clear ha D hB
    go_simp
    exact hK _ _ rfl (Below.refl _ _)
  · intro o ho us wl al ha hB D K hK
    obtain rfl := Option.some.inj ho
    have e55 := Rg.e_in (i := 15) (d := 55) ha (by rfl) (by simp) (by simp)
    have f15 : us 15 = .bool true := D ⟨15, .data⟩ (by simp) rfl
    have e68 := Rg.e_in (i := 28) (d := 68) ha (by rfl) (by simp) (by simp)
    have f28 : us 28 = .bool true := D ⟨28, .data⟩ (by simp) rfl
    have HB := Lib.hid hB
    refine Rg.wpOp_of rfl rfl ?_
    clear ha D hB
    go_simp
    exact hK _ _ rfl (Below.refl _ _)
  · intro o ho us wl al ha hB D K hK
    obtain rfl := Option.some.inj ho
    have e69 := Rg.e_in (i := 29) (d := 69) ha (by rfl) (by simp) (by simp)
    have f29 : us 29 = .bool true := D ⟨29, .data⟩ (by simp) rfl
    have HB := Lib.hid hB
    refine Rg.wpOp_of rfl rfl ?_
    clear ha D hB
    go_simp
    exact hK _ _ rfl (Below.refl _ _)
  · intro us wz hB hR
    have fz : us 30 = .bool true := hR 30
    have DZ := Lib.hid (T6.out.trans (hB.mono T6.out.size))
    clear hB hR
    simp only [Rg.puts, Act.put, List.setIfInBounds_toArray, List.set_cons_zero, List.set_cons_succ, fz]
    go_wp2_with fail
    go_ret
    exact ⟨rfl, DZ.out⟩
set_option maxHeartbeats 4000000 in
theorem runs_law (C : Co.Con) (v pv : Value) (l : List Nd) (ps : List Int) (w : World) (hv : Nds w v l) (hp : Rw.Ints w pv ps) (hm : Nms l) (hi : ∀ z ∈ ps, In64 z) (hlx : l.length ≤ 9223372036854775807) : Calls Tryz.prog 3 #[v, pv] w (Law w) := by
  have HS0 := settleR_all v l w hv hm hlx
  have HF := Lib.hid (fun w1 (hb : Below w.heap.size w w1) => fewC_any v l w1 (hv.below hb))
  have HA := Lib.hid (alive_of C)
  unfold Alive at HA
  have HV := Lib.hid (fun w1 (hb : Below w.heap.size w w1) => hv.below hb)
  have HP := Lib.hid (fun w1 (hb : Below w.heap.size w w1) => hp.below hb)
  obtain ⟨_, va, vc, rfl, -⟩ := hv
  obtain ⟨_, pa, pc, rfl, -⟩ := hp
  have early : (fewC l = false ∨ (stA l).length = 0 ∨ 60 < ps.length) → Calls Tryz.prog 3 #[.slice va l.length vc, .slice pa ps.length pc] w (Law w) := by
    intro hc
    have HSt := Lib.hid HS0
    unfold OutL at HSt
    unfold Law
    obtain ⟨f, hf⟩ : ∃ f, fewC l = f := ⟨_, rfl⟩
    obtain ⟨nx, hnx⟩ : ∃ n, (stA l).length = n := ⟨_, rfl⟩
    rw [hf] at HF hc
    rw [hnx] at hc
    have HNX := Lib.hid hnx
    clear HS0 HV HP hi hm hlx C hf hnx
    rcases hc with rfl | rfl | h60
    · go_enter Tryz.func3, Tryz.ntmps3
      go_wp2_with fail
      refine HSt.out.mono ?_
      rintro e w1 ⟨y, rfl, hy, hb1⟩
      have T1 := Lib.hid hb1
      have Y1 := Lib.hid hy
      have F1 := Lib.hid (HF.out w1 hb1)
      obtain ⟨_, ya, yc, rfl, -⟩ := id hy
      clear hb1 hy HSt
      go_wp2_with fail
      refine F1.out.mono ?_
      rintro e w2 ⟨rfl, rfl⟩
      clear HNX
      go_wp2_with fail
      refine (HA.out _).mono ?_
      rintro e w9 ⟨rfl, hb9⟩
      have T9 := Lib.hid (T1.out.trans (hb9.mono T1.out.size))
      clear hb9
      go_wp2_with fail
      go_ret
      exact ⟨rfl, T9.out⟩
    · cases f with
      | false =>
        go_enter Tryz.func3, Tryz.ntmps3
        go_wp2_with fail
        refine HSt.out.mono ?_
        rintro e w1 ⟨y, rfl, hy, hb1⟩
        have T1 := Lib.hid hb1
        have Y1 := Lib.hid hy
        have F1 := Lib.hid (HF.out w1 hb1)
        obtain ⟨_, ya, yc, rfl, -⟩ := id hy
        clear hb1 hy HSt
        go_wp2_with fail
        refine F1.out.mono ?_
        rintro e w2 ⟨rfl, rfl⟩
        clear HNX
        go_wp2_with fail
        refine (HA.out _).mono ?_
        rintro e w9 ⟨rfl, hb9⟩
        have T9 := Lib.hid (T1.out.trans (hb9.mono T1.out.size))
        clear hb9
        go_wp2_with fail
        go_ret
        exact ⟨rfl, T9.out⟩
      | true =>
        go_enter Tryz.func3, Tryz.ntmps3
        go_wp2_with fail
        refine HSt.out.mono ?_
        rintro e w1 ⟨y, rfl, hy, hb1⟩
        have T1 := Lib.hid hb1
        have Y1 := Lib.hid hy
        have F1 := Lib.hid (HF.out w1 hb1)
        obtain ⟨_, ya, yc, rfl, -⟩ := id hy
        clear hb1 hy HSt
        go_wp2_with fail
        refine F1.out.mono ?_
        rintro e w2 ⟨rfl, rfl⟩
        rw [HNX.out] at *
        go_wp2_with fail
        refine (HA.out _).mono ?_
        rintro e w9 ⟨rfl, hb9⟩
        have T9 := Lib.hid (T1.out.trans (hb9.mono T1.out.size))
        clear hb9
        go_wp2_with fail
        go_ret
        exact ⟨rfl, T9.out⟩
    · have g60 : (60 : Int) < ps.length := by omega
      cases f with
      | false =>
        go_enter Tryz.func3, Tryz.ntmps3
        go_wp2_with fail
        refine HSt.out.mono ?_
        rintro e w1 ⟨y, rfl, hy, hb1⟩
        have T1 := Lib.hid hb1
        have Y1 := Lib.hid hy
        have F1 := Lib.hid (HF.out w1 hb1)
        obtain ⟨_, ya, yc, rfl, -⟩ := id hy
        clear hb1 hy HSt
        go_wp2_with fail
        refine F1.out.mono ?_
        rintro e w2 ⟨rfl, rfl⟩
        clear HNX
        go_wp2_with fail
        refine (HA.out _).mono ?_
        rintro e w9 ⟨rfl, hb9⟩
        have T9 := Lib.hid (T1.out.trans (hb9.mono T1.out.size))
        clear hb9
        go_wp2_with fail
        go_ret
        exact ⟨rfl, T9.out⟩
      | true =>
        by_cases hz : nx = 0
        · subst hz
          go_enter Tryz.func3, Tryz.ntmps3
          go_wp2_with fail
          refine HSt.out.mono ?_
          rintro e w1 ⟨y, rfl, hy, hb1⟩
          have T1 := Lib.hid hb1
          have Y1 := Lib.hid hy
          have F1 := Lib.hid (HF.out w1 hb1)
          obtain ⟨_, ya, yc, rfl, -⟩ := id hy
          clear hb1 hy HSt
          go_wp2_with fail
          refine F1.out.mono ?_
          rintro e w2 ⟨rfl, rfl⟩
          rw [HNX.out] at *
          go_wp2_with fail
          refine (HA.out _).mono ?_
          rintro e w9 ⟨rfl, hb9⟩
          have T9 := Lib.hid (T1.out.trans (hb9.mono T1.out.size))
          clear hb9
          go_wp2_with fail
          go_ret
          exact ⟨rfl, T9.out⟩
        · have g0 : ((nx : Int) == 0) = false := beq_eq_false_iff_ne.2 (by omega)
          go_enter Tryz.func3, Tryz.ntmps3
          go_wp2_with fail
          refine HSt.out.mono ?_
          rintro e w1 ⟨y, rfl, hy, hb1⟩
          have T1 := Lib.hid hb1
          have Y1 := Lib.hid hy
          have F1 := Lib.hid (HF.out w1 hb1)
          obtain ⟨_, ya, yc, rfl, -⟩ := id hy
          clear hb1 hy HSt
          go_wp2_with fail
          refine F1.out.mono ?_
          rintro e w2 ⟨rfl, rfl⟩
          rw [HNX.out] at *
          go_wp2_with fail
          refine (HA.out _).mono ?_
          rintro e w9 ⟨rfl, hb9⟩
          have T9 := Lib.hid (T1.out.trans (hb9.mono T1.out.size))
          clear hb9
          go_wp2_with fail
          go_ret
          exact ⟨rfl, T9.out⟩
  cases hf : fewC l with
  | false => exact early (.inl hf)
  | true =>
  by_cases hx : (stA l).length = 0
  · exact early (.inr (.inl hx))
  by_cases h60 : 60 < ps.length
  · exact early (.inr (.inr h60))
  clear early
  rw [hf] at HF
  have hlen := fewC_len hf
  rw [stA_few (by omega)] at HS0 hx
  have hxn : st l ≠ [] := fun e => hx (by rw [e]; rfl)
  obtain ⟨q1, q2, q3⟩ := runs_cost hxn ps
  have hxl : (st l).length ≤ 1000 := Nat.le_trans (st_len l) (by omega)
  have hxm := nms_st l
  have hrl := Ru.play_len hxl hxm ps
  have hra := Ru.play_a (st l) ps
  have ML := Lib.hid (fun w1 (hb : Below w.heap.size w w1) => C.mo (.slice va l.length vc) l w1 (HV.out w1 hb) (by omega) hm)
  unfold NumP at ML
  have MX := fun a c => Lib.hid (fun w1 (h : Nds w1 (.slice a (st l).length c) (st l)) => C.mo (.slice a (st l).length c) (st l) w1 h hxl hxm)
  have LX := fun a c => Lib.hid (fun w1 (h : Nds w1 (.slice a (st l).length c) (st l)) => C.le (.slice a (st l).length c) (st l) w1 h hxl hxm)
  unfold NumP at MX LX
  have HC := fun a c => Lib.hid (fun y w1 (h : Nds w1 (.slice a (st l).length c) (st l)) (hy : Rw.Ints w1 y [1, 5, 7]) => Rx.countP_any (.slice a (st l).length c) y (st l) [1, 5, 7] w1 h hy (by omega) (by simp))
  have HPl := fun a c (iv : Bool) (hiv : Ru.endB (Ru.play (st l) ps).l = iv) => Lib.hid (fun w1 (hb : Below w.heap.size w w1) (h : Nds w1 (.slice a (st l).length c) (st l)) => (Ru.playP_any (.slice a (st l).length c) (.slice pa ps.length pc) (st l) ps w1 h (HP.out w1 hb) hxl hxm (by omega) hi).mono fun e w' (hh : Ru.PlP (Ru.play (st l) ps) w1 e w') => show ∃ ra rn1 rc aa an1 ac, e = .returned (.agg #[.slice ra rn1 rc, .slice aa an1 ac, .int .i64 ((Ru.play (st l) ps).n : Nat)]) ∧ Below w1.heap.size w1 w' ∧ ∀ w2, Below w'.heap.size w' w2 → Calls Tryz.prog 9 #[.agg #[.slice ra rn1 rc, .slice aa an1 ac, .int .i64 ((Ru.play (st l) ps).n : Nat)]] w2 fun e w3 => ∃ ta tn tc z, e = .returned (.tuple #[.agg #[.slice ta tn tc, .int .i64 z], .bool iv]) ∧ Below w2.heap.size w2 w3 by
    obtain ⟨y, a, he, hy, ha, hb'⟩ := hh
    obtain ⟨_, ra, rc, rfl, _⟩ := id hy
    obtain ⟨_, aa, ac, rfl, _⟩ := id ha
    refine ⟨_, _, _, _, _, _, he, hb', fun w2 h2 => ?_⟩
    have := Ru.traceP_any _ _ (Ru.play (st l) ps) (Ru.play (st l) ps).n w2 (hy.below h2) (Ap.Rd.below ha h2) (by omega)
    rw [hiv] at this
    exact this.mono fun e w3 ⟨v, h3, h4, h5⟩ => by
      obtain ⟨_, ta, tc, e4, _⟩ := id h4
      subst e4
      exact ⟨_, _, _, _, h3, h5⟩)
  have hTT := fun a c w1 w2 (h : Nds w1 (.slice a (st l).length c) (st l)) (hb : Below w1.heap.size w1 w2) => h.below hb
  have HS1 : Hid (Calls Tryz.prog 4 #[.slice va l.length vc] w fun e w' => ∃ ya yc, e = .returned (.slice ya (st l).length yc) ∧ Nds w' (.slice ya (st l).length yc) (st l) ∧ Below w.heap.size w w') := Lib.hid (HS0.mono fun e w' ⟨y, he, hy, hb⟩ => by
    obtain ⟨_, a, c, e1, _⟩ := id hy
    subst e1
    exact ⟨a, c, he, hy, hb⟩)
  by_cases hcn : cnt (st l) [1, 5, 7] = (st l).length
  · cases hiv : Ru.endB (Ru.play (st l) ps).l with
    | false => exact runs_open va pa l.length vc ps.length pc (st l).length _ _ _ (cr true (st l)) _ w (fun a c w1 => Nds w1 (.slice a (st l).length c) (st l)) hTT HS1 HF (Lib.hid HA.out) (Lib.hid fun a c => (HPl a c _ hiv).out) (Lib.hid fun a c => (HC a c).out) (Lib.hid fun a c => (MX a c).out) ML (Lib.hid fun a c => (LX a c).out) hx (by omega) q1 q2 hcn
    | true => exact runs_done va pa l.length vc ps.length pc (st l).length _ _ _ (cr true (st l)) _ w (fun a c w1 => Nds w1 (.slice a (st l).length c) (st l)) hTT HS1 HF (Lib.hid HA.out) (Lib.hid fun a c => (HPl a c _ hiv).out) (Lib.hid fun a c => (HC a c).out) (Lib.hid fun a c => (MX a c).out) ML (Lib.hid fun a c => (LX a c).out) hx (by omega) q1 q2 hcn (fun h _ => q3 h hiv)
  · exact runs_no _ va pa l.length vc ps.length pc (st l).length _ _ _ (cr true (st l)) _ w (fun a c w1 => Nds w1 (.slice a (st l).length c) (st l)) hTT HS1 HF (Lib.hid HA.out) (Lib.hid fun a c => (HPl a c _ rfl).out) (Lib.hid fun a c => (HC a c).out) (Lib.hid fun a c => (MX a c).out) ML (Lib.hid fun a c => (LX a c).out) hx (by omega) q1 q2 hcn
end Go.Proofs.YtpingbiibbmcaaaGreat.Co
