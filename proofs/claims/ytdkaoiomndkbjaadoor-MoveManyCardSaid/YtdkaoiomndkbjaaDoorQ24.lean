/- The statements' own first look at package move: the walk. -/
import Derived.Test.YtdkaoiomndkbjaaDoorQ23
import Derived.Test.YtdkaoiomndkbjaaDoorQ18
import Derived.Test.YtdkaoiomndkbjaaDoorQ02

namespace Go.Proofs.YtdkaoiomndkbjaaDoor.Me
open Go Go.RowKit Rw So Se Do
set_option maxRecDepth 20000
abbrev tA : Tm := .par (.act ⟨#[97]⟩) .yield
abbrev tO : Tm := .over 1
def WL : List Mv := [⟨1, 1⟩, ⟨2, 4⟩, ⟨2, 5⟩]
theorem gA : Goes tA := ⟨by decide +kernel, by decide, by decide⟩
theorem gO : Goes tO := ⟨by decide +kernel, by decide, by decide⟩
theorem nA : Nf tA := ⟨trivial, trivial, rfl, rfl⟩
theorem avA : av (flat tA) = [1, 2] := av_go gA nA
theorem frA : fr (flat tA) 2 = true := (fr_go gA nA (k := 2) (by decide)).trans (by decide +kernel)
theorem enA : enR (flat tA) = WL := by
  unfold enR
  rw [avA]
  show hw 1 (fr (flat tA) 1) 1 ++ (hw 4 (fr (flat tA) 2) 2 ++ []) = WL
  rw [frA]
  rfl
theorem enO : enR (flat tO) = [] := by
  unfold enR
  rw [show av (flat tO) = [] from av_go gO trivial]
  rfl
theorem pk4 : pkM (flat tA) 4 = ⟨2, 4⟩ ∧ pkM (flat tA) (-1) = ⟨2, 5⟩ ∧ pkE (flat tA) = 0 ∧ pkM (flat tO) 0 = ⟨0, 0⟩ ∧ pkE (flat tO) = 120 := by
  unfold pkM pkE
  rw [enA, enO]
  exact ⟨by decide, by decide, by decide, by decide, by decide⟩
theorem txg : txM ⟨2, 4⟩ = ⟨#[103, 111, 32, 50]⟩ ∧ txM ⟨0, 9⟩ = ⟨#[]⟩ := by
  constructor
  · unfold txM
    rw [if_neg (by decide), show Lib.itoa 2 = [50] from by unfold Lib.itoa; rw [if_neg (by decide)]; rw [Lib.decDigits]; rfl]
    rfl
  · rfl
def RAl (bL : Nat) (k : Nat) (v : Value) (w' : World) : Prop := match k with
  | 0 => v = .slice (some ⟨bL, 0, none⟩) 3 3
  | 1 => Mvs w' v WL
  | 2 => v = .slice (some ⟨bL + 1, 0, none⟩) 3 3
  | 3 => v = .bool true
  | 4 => v = .bool true
  | 5 => v = .slice (some ⟨bL, 0, none⟩) 3 3
  | 6 => v = .slice (some ⟨bL + 1, 0, none⟩) 3 3
  | 7 => v = .pointer (some ⟨bL + 1, 4, none⟩)
  | 8 => v = .agg #[.int .i64 2, .int .i64 5]
  | 9 => v = .bool true
  | 10 => v = .bool true
  | 11 => v = .bool true
  | 12 => v = .slice (some ⟨bL, 0, none⟩) 3 3
  | 13 => v = .agg #[.int .i64 1, .int .i64 5]
  | 14 => v = .bool false
  | 15 => v = .bool true
  | 16 => v = .bool true
  | 17 => v = .bool true
  | 18 => v = .agg #[.int .i64 2, .int .i64 4]
  | 19 => v = .slice (some ⟨bL + 1, 0, none⟩) 3 3
  | 20 => v = .pointer (some ⟨bL + 1, 2, none⟩)
  | 21 => v = .agg #[.int .i64 2, .int .i64 4]
  | 22 => v = .bool true
  | 23 => v = .bool true
  | 24 => v = .bool true
  | 25 => v = .int .i64 0
  | 26 => v = .bool true
  | 27 => v = .bool true
  | 28 => v = .bool true
  | 29 => v = .agg #[.int .i64 2, .int .i64 5]
  | 30 => v = .slice (some ⟨bL + 1, 0, none⟩) 3 3
  | 31 => v = .pointer (some ⟨bL + 1, 4, none⟩)
  | 32 => v = .agg #[.int .i64 2, .int .i64 5]
  | 33 => v = .bool true
  | 34 => v = .bool true
  | 35 => v = .bool true
  | 36 => v = .int .i64 120
  | 37 => v = .bool true
  | 38 => v = .bool true
  | 39 => v = .bool true
  | 40 => v = .agg #[.int .i64 2, .int .i64 4]
  | 41 => v = .string ⟨#[103, 111, 32, 50]⟩
  | 42 => v = .bool true
  | 43 => v = .bool true
  | 44 => v = .bool true
  | 45 => v = .agg #[.int .i64 0, .int .i64 9]
  | 46 => v = .string ⟨#[]⟩
  | 47 => v = .bool true
  | 48 => v = .bool true
  | 49 => v = .bool true
  | _ => True
theorem RAl.below {bL : Nat} {k : Nat} {v : Value} {w w' : World} (h : RAl bL k v w) (hb : Below w.heap.size w w') : RAl bL k v w' := by
  unfold RAl at h ⊢
  split at h
  case h_2 => exact Mvs.below h hb
  all_goals exact h
theorem RAl.put {w4 : World} {bL : Nat} {v : Value} {w w' : World} {f : Nat → Bool} {us : Nat → Value} {i : Nat} (g : Rg.Kept (fun w' => Below w4.heap.size w4 w') (RAl bL) f us w) (hb : Below w.heap.size w w') (hv : RAl bL i v w') :
    Rg.Kept (fun w' => Below w4.heap.size w4 w') (RAl bL) (Rg.upd f i true) (Rg.upd us i v) w' :=
  Rg.Kept.put (Base := fun w' => Below w4.heap.size w4 w') (R := RAl bL) (fun _ _ h hb => h.trans (hb.mono h.size)) (fun _ _ _ _ h hb => RAl.below h hb) g hb hv
theorem step0 {w0 w : World} (xp xh : Int) (D : Below w0.heap.size w0 w) : Below w0.heap.size w0 (w.alloc (.cells #[.int .i64 xp, .int .i64 xh] 23)) ∧ Bm (w.alloc (.cells #[.int .i64 xp, .int .i64 xh] 23)) w.heap.size ⟨xp, xh⟩ :=
  ⟨D.trans ((below1 w _).mono D.size), Bm.new w ⟨xp, xh⟩⟩
set_option maxHeartbeats 8000000 in
theorem alive_of (C : Con) (T : TxP) : Alive := by
  intro w hT
  obtain ⟨k1, k2, k3, k4, k5⟩ := pk4
  have NS := nms_goes gA.1
  have NO := nms_goes gO.1
  have HP4 := Lib.hid (fun y w1 (h : Nds w1 y (flat tA)) => C.pk y (flat tA) 4 w1 h (by decide) NS ⟨by decide, by decide⟩)
  rw [k1, k3] at HP4
  have HPm := Lib.hid (fun y w1 (h : Nds w1 y (flat tA)) => C.pk y (flat tA) (-1) w1 h (by decide) NS ⟨by decide, by decide⟩)
  rw [k2, k3] at HPm
  have HPo := Lib.hid (fun y w1 (h : Nds w1 y (flat tO)) => C.pk y (flat tO) 0 w1 h (by decide) NO ⟨by decide, by decide⟩)
  rw [k4, k5] at HPo
  have HEN := Lib.hid (fun y w1 (h : Nds w1 y (flat tA)) => C.en y (flat tA) w1 h (by decide) NS)
  rw [enA] at HEN
  have HI5 := Lib.hid (fun y w1 (h : Nds w1 y (flat tA)) => C.is y (flat tA) ⟨2, 5⟩ w1 h (by decide) NS)
  rw [enA, show decide ((⟨2, 5⟩ : Mv) ∈ WL) = true from by decide] at HI5
  have HI1 := Lib.hid (fun y w1 (h : Nds w1 y (flat tA)) => C.is y (flat tA) ⟨1, 5⟩ w1 h (by decide) NS)
  rw [enA, show decide ((⟨1, 5⟩ : Mv) ∈ WL) = false from by decide] at HI1
  have HT4 := Lib.hid (fun w1 (hb : Below w.heap.size w w1) => T ⟨2, 4⟩ w1 (hT.below hb) ⟨by decide, by decide⟩)
  rw [txg.1] at HT4
  have HT9 := Lib.hid (fun w1 (hb : Below w.heap.size w w1) => T ⟨0, 9⟩ w1 (hT.below hb) ⟨by decide, by decide⟩)
  rw [txg.2] at HT9
  clear hT
  clear k1 k2 k3 k4 k5
  have D0 := Lib.hid (below1 w (.cells (cls (flat tA)).toArray 37))
  have NL0 := Lib.hid (Se.nds_new w (flat tA) 37)
  obtain ⟨wA, hwA⟩ : ∃ wA, w.alloc (.cells (cls (flat tA)).toArray 37) = wA := ⟨_, rfl⟩
  rw [hwA] at D0 NL0
  have hsA : wA.heap.size = w.heap.size + 1 := by rw [← hwA]; simp
  have D1 := Lib.hid (D0.out.trans ((below1 wA (.cells (mcls WL).toArray 23)).mono D0.out.size))
  have NL1 := Lib.hid (NL0.out.below (below1 wA (.cells (mcls WL).toArray 23)))
  have NW1 := Lib.hid (mvs_new wA WL 23)
  obtain ⟨wB, hwB⟩ : ∃ wB, wA.alloc (.cells (mcls WL).toArray 23) = wB := ⟨_, rfl⟩
  rw [hwB] at D1 NL1 NW1
  have XL := Lib.hid (fun w' (hb : Below wB.heap.size wB w') => NL1.out.below hb)
  have XW := Lib.hid (fun w' (hb : Below wB.heap.size wB w') => NW1.out.below hb)
  change w.alloc (.cells #[.int .i64 7, .string ⟨#[]⟩, .int .i64 0, .int .i64 1, .string ⟨#[97]⟩, .int .i64 0, .int .i64 4, .string ⟨#[]⟩, .int .i64 0] 37) = wA at hwA
  change wA.alloc (.cells #[.int .i64 1, .int .i64 1, .int .i64 2, .int .i64 4, .int .i64 2, .int .i64 5] 23) = wB at hwB
  obtain ⟨bL, hbL⟩ : ∃ bL, w.heap.size = bL := ⟨_, rfl⟩
  have hbL2 : wA.heap.size = bL + 1 := by rw [hsA, hbL]
  rw [hbL2] at XW
  rw [hbL] at XL
  change Hid (∀ w', Below wB.heap.size wB w' → Nds w' (.slice (some ⟨bL, 0, none⟩) 3 3) (flat tA)) at XL
  change Hid (∀ w', Below wB.heap.size wB w' → Mvs w' (.slice (some ⟨bL + 1, 0, none⟩) 3 3) WL) at XW
  have XC : Hid (∀ w', Below wB.heap.size wB w' → w'.cell? ⟨bL + 1, 2, none⟩ = some (.int .i64 2) ∧ w'.cell? ⟨bL + 1, 3, none⟩ = some (.int .i64 4) ∧ w'.cell? ⟨bL + 1, 4, none⟩ = some (.int .i64 2) ∧ w'.cell? ⟨bL + 1, 5, none⟩ = some (.int .i64 5)) := Lib.hid fun w' hb => by
    rcases (XW.out w' hb).form with ⟨h0, _⟩ | ⟨b, o, c, e, _, hat⟩
    · cases h0
    · injection e with e1 _ _
      injection e1 with e1
      injection e1 with e4 e5
      subst e4; subst e5
      exact ⟨(hat 1 (by decide)).1, (hat 1 (by decide)).2, (hat 2 (by decide)).1, (hat 2 (by decide)).2⟩
  clear D0 NL0 NL1 NW1 hbL2
  go_enter Tryd.func6, Tryd.ntmps6
  go_wp2_with fail
  refine (HP4.out _ _ (XL.out _ (Below.refl _ _))).mono ?_
  rintro e w3 ⟨rfl, hb3⟩
  obtain ⟨F3, M3⟩ := step0 2 4 hb3
  clear hwA hwB hsA
  go_wp2_with fail
  refine (HPm.out _ _ (XL.out _ F3)).mono ?_
  rintro e w5 ⟨rfl, hb5⟩
  obtain ⟨F5, M5, A5⟩ := step1 2 5 F3 M3 hb5
  clear hb3 hb5 F3 M3
  have NO1 := Se.nds_new (w5.alloc (.cells #[.int .i64 2, .int .i64 5] 23)) (flat tO) 37
  have B6 := below1 (w5.alloc (.cells #[.int .i64 2, .int .i64 5] 23)) (.cells (cls (flat tO)).toArray 37)
  have F6 := F5.trans (B6.mono F5.size)
  have M6 := M5.below B6 M5.lt
  have A6 := A5.below B6 A5.lt
  change Nds ((w5.alloc (.cells #[.int .i64 2, .int .i64 5] 23)).alloc (.cells #[.int .i64 11, .string ⟨#[]⟩, .int .i64 1] 37)) (.slice (some ⟨(w5.alloc (.cells #[.int .i64 2, .int .i64 5] 23)).heap.size, 0, none⟩) 1 1) (flat tO) at NO1
  change Below wB.heap.size wB ((w5.alloc (.cells #[.int .i64 2, .int .i64 5] 23)).alloc (.cells #[.int .i64 11, .string ⟨#[]⟩, .int .i64 1] 37)) at F6
  change Bm ((w5.alloc (.cells #[.int .i64 2, .int .i64 5] 23)).alloc (.cells #[.int .i64 11, .string ⟨#[]⟩, .int .i64 1] 37)) w3.heap.size ⟨2, 4⟩ at M6
  change Bm ((w5.alloc (.cells #[.int .i64 2, .int .i64 5] 23)).alloc (.cells #[.int .i64 11, .string ⟨#[]⟩, .int .i64 1] 37)) w5.heap.size ⟨2, 5⟩ at A6
  rw [show (w5.alloc (.cells #[.int .i64 2, .int .i64 5] 23)).heap.size = w5.heap.size + 1 by simp] at NO1
  clear F5 M5 A5 B6
  go_wp2_with fail
  refine (HPo.out _ _ NO1).mono ?_
  rintro e w7 ⟨rfl, hb7⟩
  obtain ⟨F8, M8, A8, -⟩ := step2 0 0 F6 M6 A6 hb7
  have F4 := Lib.hid F8
  have CM := Lib.hid (bm_keep M8)
  have CA := Lib.hid (bm_keep A8)
  obtain ⟨b3, hb3⟩ : ∃ b3, w3.heap.size = b3 := ⟨_, rfl⟩
  obtain ⟨b5, hb5⟩ : ∃ b5, w5.heap.size = b5 := ⟨_, rfl⟩
  rw [hb3] at CM
  rw [hb5] at CA
  simp only at CM CA
  clear NO1 F6 M6 A6 hb7 F8 M8 A8 HP4 HPm HPo
  go_wp2_with fail
  generalize w7.alloc (.cells #[.int .i64 0, .int .i64 0] 23) = w4 at F4 CM CA ⊢
  clear hb3 hb5
  refine Rg.wp_region_kept (by kernel_rfl) [(0, some 33), (1, some 34), (2, some 35), (3, some 36), (4, some 37), (5, some 38), (6, some 39), (7, some 40), (8, some 41), (9, some 42), (10, some 43), (11, some 44), (12, some 45), (13, some 46), (14, some 47), (15, some 48), (16, some 49), (17, some 50), (18, some 51), (19, some 52), (20, some 53), (21, some 54), (22, some 55), (23, some 56), (24, some 57), (25, some 58), (26, some 59), (27, some 60), (28, some 61), (29, some 62), (30, some 63), (31, some 64), (32, some 65), (33, some 66), (34, some 67), (35, some 68), (36, some 69), (37, some 70), (38, some 71), (39, some 72), (40, some 73), (41, some 74), (42, some 75), (43, some 76), (44, some 77), (45, some 78), (46, some 79), (47, some 80), (48, some 81), (49, some 0)] (by rfl) (by kernel_rfl) (by kernel_rfl) (fun w' => Below w4.heap.size w4 w') (RAl bL) (Below.refl _ _).drew ?_ ⟨⟨⟨⟨⟨⟨⟨⟨⟨⟨⟨⟨⟨⟨⟨⟨⟨⟨⟨⟨⟨⟨⟨⟨⟨⟨⟨⟨⟨⟨⟨⟨⟨⟨⟨⟨⟨⟨⟨⟨⟨⟨⟨⟨⟨⟨⟨⟨⟨⟨True.intro, ?_⟩, ?_⟩, ?_⟩, ?_⟩, ?_⟩, ?_⟩, ?_⟩, ?_⟩, ?_⟩, ?_⟩, ?_⟩, ?_⟩, ?_⟩, ?_⟩, ?_⟩, ?_⟩, ?_⟩, ?_⟩, ?_⟩, ?_⟩, ?_⟩, ?_⟩, ?_⟩, ?_⟩, ?_⟩, ?_⟩, ?_⟩, ?_⟩, ?_⟩, ?_⟩, ?_⟩, ?_⟩, ?_⟩, ?_⟩, ?_⟩, ?_⟩, ?_⟩, ?_⟩, ?_⟩, ?_⟩, ?_⟩, ?_⟩, ?_⟩, ?_⟩, ?_⟩, ?_⟩, ?_⟩, ?_⟩, ?_⟩, ?_⟩ ?_
  · intro k v w' hk
    unfold RAl
    split
    case h_51 => trivial
    all_goals exact absurd hk (by decide)
  · intro o ho f us wl al ha g hf hdep K hKf
    obtain rfl := Option.some.inj ho
    have hB := g.1
    have hK : ∀ v w', RAl bL 0 v w' → Below wl.heap.size wl w' → K (al.put (some 33) v) w' := fun v w' hv hb => hKf v w' (RAl.put g hb hv)
    have e1 : al.tmps[1]?.getD undef = .slice (some ⟨bL, 0, none⟩) 3 3 := by rw [← Rg.eval_getD, ha]; exact (Rg.puts_eval_ne _ _ _ (by rfl)).trans rfl
    have HB := Lib.hid hB
    clear ha hdep g hf hKf hB
    refine Rg.wpOp_of rfl rfl ?_
    go_simp
    exact hK _ _ rfl (Below.refl _ _)
  · intro o ho f us wl al ha g hf hdep K hKf
    obtain rfl := Option.some.inj ho
    have hB := g.1
    have hK : ∀ v w', RAl bL 1 v w' → Below wl.heap.size wl w' → K (al.put (some 34) v) w' := fun v w' hv hb => hKf v w' (RAl.put g hb hv)
    have d0 : RAl bL 0 (us 0) wl := g.2 0 (hdep ⟨0, .data⟩ (by simp) rfl)
    have e33 : al.tmps[33]?.getD undef = us 0 := by rw [← Rg.eval_getD, ha]; exact Rg.puts_eval _ _ _ (by rfl) (by simp) (by simp)
    have f0 : us 0 = .slice (some ⟨bL, 0, none⟩) 3 3 := d0
    have HB := Lib.hid hB
    clear ha hdep g hf hKf d0 hB
    refine Rg.wpOp_of rfl rfl ?_
    go_simp
    refine (HEN.out _ _ (XL.out _ (F4.out.trans (HB.out.mono F4.out.size)))).mono ?_
    rintro e wn ⟨y, rfl, hy, hb⟩
    exact hK _ _ hy hb
  · intro o ho f us wl al ha g hf hdep K hKf
    obtain rfl := Option.some.inj ho
    have hB := g.1
    have hK : ∀ v w', RAl bL 2 v w' → Below wl.heap.size wl w' → K (al.put (some 35) v) w' := fun v w' hv hb => hKf v w' (RAl.put g hb hv)
    have e2 : al.tmps[2]?.getD undef = .slice (some ⟨bL + 1, 0, none⟩) 3 3 := by rw [← Rg.eval_getD, ha]; exact (Rg.puts_eval_ne _ _ _ (by rfl)).trans rfl
    have HB := Lib.hid hB
    clear ha hdep g hf hKf hB
    refine Rg.wpOp_of rfl rfl ?_
    go_simp
    exact hK _ _ rfl (Below.refl _ _)
  · intro o ho f us wl al ha g hf hdep K hKf
    obtain rfl := Option.some.inj ho
    have hB := g.1
    have hK : ∀ v w', RAl bL 3 v w' → Below wl.heap.size wl w' → K (al.put (some 36) v) w' := fun v w' hv hb => hKf v w' (RAl.put g hb hv)
    have d1 : RAl bL 1 (us 1) wl := g.2 1 (hdep ⟨1, .data⟩ (by simp) rfl)
    have e34 : al.tmps[34]?.getD undef = us 1 := by rw [← Rg.eval_getD, ha]; exact Rg.puts_eval _ _ _ (by rfl) (by simp) (by simp)
    have d2 : RAl bL 2 (us 2) wl := g.2 2 (hdep ⟨2, .data⟩ (by simp) rfl)
    have e35 : al.tmps[35]?.getD undef = us 2 := by rw [← Rg.eval_getD, ha]; exact Rg.puts_eval _ _ _ (by rfl) (by simp) (by simp)
    have D1 : Hid (Mvs wl (us 1) WL) := d1
    have f2 : us 2 = .slice (some ⟨bL + 1, 0, none⟩) 3 3 := d2
    have HB := Lib.hid hB
    clear ha hdep g hf hKf d1 d2 hB
    refine Rg.wpOp_of rfl rfl ?_
    go_simp
    refine (samesR_any _ _ WL WL _ D1.out (XW.out _ (F4.out.trans (HB.out.mono F4.out.size))) (by decide)).mono ?_
    rw [show sameM WL WL = true from decide_eq_true rfl]
    rintro e wn ⟨rfl, hb⟩
    exact hK _ _ rfl hb
  · intro o ho f us wl al ha g hf hdep K hKf
    obtain rfl := Option.some.inj ho
    have hB := g.1
    have hK : ∀ v w', RAl bL 4 v w' → Below wl.heap.size wl w' → K (al.put (some 37) v) w' := fun v w' hv hb => hKf v w' (RAl.put g hb hv)
    have d3 : RAl bL 3 (us 3) wl := g.2 3 (hdep ⟨3, .data⟩ (by simp) rfl)
    have e36 : al.tmps[36]?.getD undef = us 3 := by rw [← Rg.eval_getD, ha]; exact Rg.puts_eval _ _ _ (by rfl) (by simp) (by simp)
    have f3 : us 3 = .bool true := d3
    have HB := Lib.hid hB
    clear ha hdep g hf hKf d3 hB
    refine Rg.wpOp_of rfl rfl ?_
    go_simp
    exact hK _ _ rfl (Below.refl _ _)
  · intro o ho f us wl al ha g hf hdep K hKf
    obtain rfl := Option.some.inj ho
    have hB := g.1
    have hK : ∀ v w', RAl bL 5 v w' → Below wl.heap.size wl w' → K (al.put (some 38) v) w' := fun v w' hv hb => hKf v w' (RAl.put g hb hv)
    have e1 : al.tmps[1]?.getD undef = .slice (some ⟨bL, 0, none⟩) 3 3 := by rw [← Rg.eval_getD, ha]; exact (Rg.puts_eval_ne _ _ _ (by rfl)).trans rfl
    have dg : RAl bL 4 (us 4) wl := g.2 4 (hdep ⟨4, .guard⟩ (by simp) rfl)
    have gg : al.eval (.tmp 37) = .bool true := by rw [ha]; exact (Rg.puts_eval _ _ _ (by rfl) (by simp) (by simp)).trans dg
    have HB := Lib.hid hB
    clear ha hdep g hf hKf hB
    refine Rg.wpOp_of rfl (Rg.wanted_of rfl (Rg.yielded_of (d := 37) (by rfl) gg)) ?_
    go_simp
    exact hK _ _ rfl (Below.refl _ _)
  · intro o ho f us wl al ha g hf hdep K hKf
    obtain rfl := Option.some.inj ho
    have hB := g.1
    have hK : ∀ v w', RAl bL 6 v w' → Below wl.heap.size wl w' → K (al.put (some 39) v) w' := fun v w' hv hb => hKf v w' (RAl.put g hb hv)
    have e2 : al.tmps[2]?.getD undef = .slice (some ⟨bL + 1, 0, none⟩) 3 3 := by rw [← Rg.eval_getD, ha]; exact (Rg.puts_eval_ne _ _ _ (by rfl)).trans rfl
    have dg : RAl bL 4 (us 4) wl := g.2 4 (hdep ⟨4, .guard⟩ (by simp) rfl)
    have gg : al.eval (.tmp 37) = .bool true := by rw [ha]; exact (Rg.puts_eval _ _ _ (by rfl) (by simp) (by simp)).trans dg
    have HB := Lib.hid hB
    clear ha hdep g hf hKf hB
    refine Rg.wpOp_of rfl (Rg.wanted_of rfl (Rg.yielded_of (d := 37) (by rfl) gg)) ?_
    go_simp
    exact hK _ _ rfl (Below.refl _ _)
  · intro o ho f us wl al ha g hf hdep K hKf
    obtain rfl := Option.some.inj ho
    have hB := g.1
    have hK : ∀ v w', RAl bL 7 v w' → Below wl.heap.size wl w' → K (al.put (some 40) v) w' := fun v w' hv hb => hKf v w' (RAl.put g hb hv)
    have d6 : RAl bL 6 (us 6) wl := g.2 6 (hdep ⟨6, .data⟩ (by simp) rfl)
    have e39 : al.tmps[39]?.getD undef = us 6 := by rw [← Rg.eval_getD, ha]; exact Rg.puts_eval _ _ _ (by rfl) (by simp) (by simp)
    have dg : RAl bL 4 (us 4) wl := g.2 4 (hdep ⟨4, .guard⟩ (by simp) rfl)
    have gg : al.eval (.tmp 37) = .bool true := by rw [ha]; exact (Rg.puts_eval _ _ _ (by rfl) (by simp) (by simp)).trans dg
    have f6 : us 6 = .slice (some ⟨bL + 1, 0, none⟩) 3 3 := d6
    have HB := Lib.hid hB
    clear ha hdep g hf hKf d6 hB
    refine Rg.wpOp_of rfl (Rg.wanted_of rfl (Rg.yielded_of (d := 37) (by rfl) gg)) ?_
    go_simp
    exact hK _ _ rfl (Below.refl _ _)
  · intro o ho f us wl al ha g hf hdep K hKf
    obtain rfl := Option.some.inj ho
    have hB := g.1
    have hK : ∀ v w', RAl bL 8 v w' → Below wl.heap.size wl w' → K (al.put (some 41) v) w' := fun v w' hv hb => hKf v w' (RAl.put g hb hv)
    have d7 : RAl bL 7 (us 7) wl := g.2 7 (hdep ⟨7, .data⟩ (by simp) rfl)
    have e40 : al.tmps[40]?.getD undef = us 7 := by rw [← Rg.eval_getD, ha]; exact Rg.puts_eval _ _ _ (by rfl) (by simp) (by simp)
    have dg : RAl bL 4 (us 4) wl := g.2 4 (hdep ⟨4, .guard⟩ (by simp) rfl)
    have gg : al.eval (.tmp 37) = .bool true := by rw [ha]; exact (Rg.puts_eval _ _ _ (by rfl) (by simp) (by simp)).trans dg
    have f7 : us 7 = .pointer (some ⟨bL + 1, 4, none⟩) := d7
    obtain ⟨c2, c3, c4, c5⟩ := XC.out _ (F4.out.trans (hB.mono F4.out.size))
    have HB := Lib.hid hB
    clear ha hdep g hf hKf d7 hB
    refine Rg.wpOp_of rfl (Rg.wanted_of rfl (Rg.yielded_of (d := 37) (by rfl) gg)) ?_
    go_simp
    exact hK _ _ rfl (Below.refl _ _)
  · intro o ho f us wl al ha g hf hdep K hKf
    obtain rfl := Option.some.inj ho
    have hB := g.1
    have hK : ∀ v w', RAl bL 9 v w' → Below wl.heap.size wl w' → K (al.put (some 42) v) w' := fun v w' hv hb => hKf v w' (RAl.put g hb hv)
    have d5 : RAl bL 5 (us 5) wl := g.2 5 (hdep ⟨5, .data⟩ (by simp) rfl)
    have e38 : al.tmps[38]?.getD undef = us 5 := by rw [← Rg.eval_getD, ha]; exact Rg.puts_eval _ _ _ (by rfl) (by simp) (by simp)
    have d8 : RAl bL 8 (us 8) wl := g.2 8 (hdep ⟨8, .data⟩ (by simp) rfl)
    have e41 : al.tmps[41]?.getD undef = us 8 := by rw [← Rg.eval_getD, ha]; exact Rg.puts_eval _ _ _ (by rfl) (by simp) (by simp)
    have dg : RAl bL 4 (us 4) wl := g.2 4 (hdep ⟨4, .guard⟩ (by simp) rfl)
    have gg : al.eval (.tmp 37) = .bool true := by rw [ha]; exact (Rg.puts_eval _ _ _ (by rfl) (by simp) (by simp)).trans dg
    have f5 : us 5 = .slice (some ⟨bL, 0, none⟩) 3 3 := d5
    have f8 : us 8 = .agg #[.int .i64 2, .int .i64 5] := d8
    have HB := Lib.hid hB
    clear ha hdep g hf hKf d5 d8 hB
    refine Rg.wpOp_of rfl (Rg.wanted_of rfl (Rg.yielded_of (d := 37) (by rfl) gg)) ?_
    go_simp
    refine (HI5.out _ _ (XL.out _ (F4.out.trans (HB.out.mono F4.out.size)))).mono ?_
    rintro e wn ⟨rfl, hb⟩
    exact hK _ _ rfl hb
  · intro o ho f us wl al ha g hf hdep K hKf
    obtain rfl := Option.some.inj ho
    have hB := g.1
    have hK : ∀ v w', RAl bL 10 v w' → Below wl.heap.size wl w' → K (al.put (some 43) v) w' := fun v w' hv hb => hKf v w' (RAl.put g hb hv)
    have d4 : RAl bL 4 (us 4) wl := g.2 4 (hdep ⟨4, .data⟩ (by simp) rfl)
    have e37 : al.tmps[37]?.getD undef = us 4 := by rw [← Rg.eval_getD, ha]; exact Rg.puts_eval _ _ _ (by rfl) (by simp) (by simp)
    have d9 : RAl bL 9 (us 9) wl := g.2 9 (hdep ⟨9, .data⟩ (by simp) rfl)
    have e42 : al.tmps[42]?.getD undef = us 9 := by rw [← Rg.eval_getD, ha]; exact Rg.puts_eval _ _ _ (by rfl) (by simp) (by simp)
    have f4 : us 4 = .bool true := d4
    have f9 : us 9 = .bool true := d9
    have HB := Lib.hid hB
    clear ha hdep g hf hKf d4 d9 hB
    refine Rg.wpOp_of rfl rfl ?_
    go_simp
    exact hK _ _ rfl (Below.refl _ _)
  · intro o ho f us wl al ha g hf hdep K hKf
    obtain rfl := Option.some.inj ho
    have hB := g.1
    have hK : ∀ v w', RAl bL 11 v w' → Below wl.heap.size wl w' → K (al.put (some 44) v) w' := fun v w' hv hb => hKf v w' (RAl.put g hb hv)
    have d10 : RAl bL 10 (us 10) wl := g.2 10 (hdep ⟨10, .data⟩ (by simp) rfl)
    have e43 : al.tmps[43]?.getD undef = us 10 := by rw [← Rg.eval_getD, ha]; exact Rg.puts_eval _ _ _ (by rfl) (by simp) (by simp)
    have f10 : us 10 = .bool true := d10
    have HB := Lib.hid hB
    clear ha hdep g hf hKf d10 hB
    refine Rg.wpOp_of rfl rfl ?_
    go_simp
    exact hK _ _ rfl (Below.refl _ _)
  · intro o ho f us wl al ha g hf hdep K hKf
    obtain rfl := Option.some.inj ho
    have hB := g.1
    have hK : ∀ v w', RAl bL 12 v w' → Below wl.heap.size wl w' → K (al.put (some 45) v) w' := fun v w' hv hb => hKf v w' (RAl.put g hb hv)
    have e1 : al.tmps[1]?.getD undef = .slice (some ⟨bL, 0, none⟩) 3 3 := by rw [← Rg.eval_getD, ha]; exact (Rg.puts_eval_ne _ _ _ (by rfl)).trans rfl
    have dg : RAl bL 11 (us 11) wl := g.2 11 (hdep ⟨11, .guard⟩ (by simp) rfl)
    have gg : al.eval (.tmp 44) = .bool true := by rw [ha]; exact (Rg.puts_eval _ _ _ (by rfl) (by simp) (by simp)).trans dg
    have HB := Lib.hid hB
    clear ha hdep g hf hKf hB
    refine Rg.wpOp_of rfl (Rg.wanted_of rfl (Rg.yielded_of (d := 44) (by rfl) gg)) ?_
    go_simp
    exact hK _ _ rfl (Below.refl _ _)
  · intro o ho f us wl al ha g hf hdep K hKf
    obtain rfl := Option.some.inj ho
    have hB := g.1
    have hK : ∀ v w', RAl bL 13 v w' → Below wl.heap.size wl w' → K (al.put (some 46) v) w' := fun v w' hv hb => hKf v w' (RAl.put g hb hv)
    have dg : RAl bL 11 (us 11) wl := g.2 11 (hdep ⟨11, .guard⟩ (by simp) rfl)
    have gg : al.eval (.tmp 44) = .bool true := by rw [ha]; exact (Rg.puts_eval _ _ _ (by rfl) (by simp) (by simp)).trans dg
    have HB := Lib.hid hB
    clear ha hdep g hf hKf hB
    refine Rg.wpOp_of rfl (Rg.wanted_of rfl (Rg.yielded_of (d := 44) (by rfl) gg)) ?_
    go_simp
    exact hK _ _ rfl (Below.refl _ _)
  · intro o ho f us wl al ha g hf hdep K hKf
    obtain rfl := Option.some.inj ho
    have hB := g.1
    have hK : ∀ v w', RAl bL 14 v w' → Below wl.heap.size wl w' → K (al.put (some 47) v) w' := fun v w' hv hb => hKf v w' (RAl.put g hb hv)
    have d12 : RAl bL 12 (us 12) wl := g.2 12 (hdep ⟨12, .data⟩ (by simp) rfl)
    have e45 : al.tmps[45]?.getD undef = us 12 := by rw [← Rg.eval_getD, ha]; exact Rg.puts_eval _ _ _ (by rfl) (by simp) (by simp)
    have d13 : RAl bL 13 (us 13) wl := g.2 13 (hdep ⟨13, .data⟩ (by simp) rfl)
    have e46 : al.tmps[46]?.getD undef = us 13 := by rw [← Rg.eval_getD, ha]; exact Rg.puts_eval _ _ _ (by rfl) (by simp) (by simp)
    have dg : RAl bL 11 (us 11) wl := g.2 11 (hdep ⟨11, .guard⟩ (by simp) rfl)
    have gg : al.eval (.tmp 44) = .bool true := by rw [ha]; exact (Rg.puts_eval _ _ _ (by rfl) (by simp) (by simp)).trans dg
    have f12 : us 12 = .slice (some ⟨bL, 0, none⟩) 3 3 := d12
    have f13 : us 13 = .agg #[.int .i64 1, .int .i64 5] := d13
    have HB := Lib.hid hB
    clear ha hdep g hf hKf d12 d13 hB
    refine Rg.wpOp_of rfl (Rg.wanted_of rfl (Rg.yielded_of (d := 44) (by rfl) gg)) ?_
    go_simp
    refine (HI1.out _ _ (XL.out _ (F4.out.trans (HB.out.mono F4.out.size)))).mono ?_
    rintro e wn ⟨rfl, hb⟩
    exact hK _ _ rfl hb
  · intro o ho f us wl al ha g hf hdep K hKf
    obtain rfl := Option.some.inj ho
    have hB := g.1
    have hK : ∀ v w', RAl bL 15 v w' → Below wl.heap.size wl w' → K (al.put (some 48) v) w' := fun v w' hv hb => hKf v w' (RAl.put g hb hv)
    have d14 : RAl bL 14 (us 14) wl := g.2 14 (hdep ⟨14, .data⟩ (by simp) rfl)
    have e47 : al.tmps[47]?.getD undef = us 14 := by rw [← Rg.eval_getD, ha]; exact Rg.puts_eval _ _ _ (by rfl) (by simp) (by simp)
    have dg : RAl bL 11 (us 11) wl := g.2 11 (hdep ⟨11, .guard⟩ (by simp) rfl)
    have gg : al.eval (.tmp 44) = .bool true := by rw [ha]; exact (Rg.puts_eval _ _ _ (by rfl) (by simp) (by simp)).trans dg
    have f14 : us 14 = .bool false := d14
    have HB := Lib.hid hB
    clear ha hdep g hf hKf d14 hB
    refine Rg.wpOp_of rfl (Rg.wanted_of rfl (Rg.yielded_of (d := 44) (by rfl) gg)) ?_
    go_simp
    exact hK _ _ rfl (Below.refl _ _)
  · intro o ho f us wl al ha g hf hdep K hKf
    obtain rfl := Option.some.inj ho
    have hB := g.1
    have hK : ∀ v w', RAl bL 16 v w' → Below wl.heap.size wl w' → K (al.put (some 49) v) w' := fun v w' hv hb => hKf v w' (RAl.put g hb hv)
    have d11 : RAl bL 11 (us 11) wl := g.2 11 (hdep ⟨11, .data⟩ (by simp) rfl)
    have e44 : al.tmps[44]?.getD undef = us 11 := by rw [← Rg.eval_getD, ha]; exact Rg.puts_eval _ _ _ (by rfl) (by simp) (by simp)
    have d15 : RAl bL 15 (us 15) wl := g.2 15 (hdep ⟨15, .data⟩ (by simp) rfl)
    have e48 : al.tmps[48]?.getD undef = us 15 := by rw [← Rg.eval_getD, ha]; exact Rg.puts_eval _ _ _ (by rfl) (by simp) (by simp)
    have f11 : us 11 = .bool true := d11
    have f15 : us 15 = .bool true := d15
    have HB := Lib.hid hB
    clear ha hdep g hf hKf d11 d15 hB
    refine Rg.wpOp_of rfl rfl ?_
    go_simp
    exact hK _ _ rfl (Below.refl _ _)
  · intro o ho f us wl al ha g hf hdep K hKf
    obtain rfl := Option.some.inj ho
    have hB := g.1
    have hK : ∀ v w', RAl bL 17 v w' → Below wl.heap.size wl w' → K (al.put (some 50) v) w' := fun v w' hv hb => hKf v w' (RAl.put g hb hv)
    have d16 : RAl bL 16 (us 16) wl := g.2 16 (hdep ⟨16, .data⟩ (by simp) rfl)
    have e49 : al.tmps[49]?.getD undef = us 16 := by rw [← Rg.eval_getD, ha]; exact Rg.puts_eval _ _ _ (by rfl) (by simp) (by simp)
    have f16 : us 16 = .bool true := d16
    have HB := Lib.hid hB
    clear ha hdep g hf hKf d16 hB
    refine Rg.wpOp_of rfl rfl ?_
    go_simp
    exact hK _ _ rfl (Below.refl _ _)
  · intro o ho f us wl al ha g hf hdep K hKf
    obtain rfl := Option.some.inj ho
    have hB := g.1
    have hK : ∀ v w', RAl bL 18 v w' → Below wl.heap.size wl w' → K (al.put (some 51) v) w' := fun v w' hv hb => hKf v w' (RAl.put g hb hv)
    have e3 : al.tmps[3]?.getD undef = .pointer (some ⟨b3, 0, none⟩) := by rw [← Rg.eval_getD, ha]; exact (Rg.puts_eval_ne _ _ _ (by rfl)).trans rfl
    have dg : RAl bL 17 (us 17) wl := g.2 17 (hdep ⟨17, .guard⟩ (by simp) rfl)
    have gg : al.eval (.tmp 50) = .bool true := by rw [ha]; exact (Rg.puts_eval _ _ _ (by rfl) (by simp) (by simp)).trans dg
    obtain ⟨c0, c1⟩ := CM.out _ hB
    have HB := Lib.hid hB
    clear ha hdep g hf hKf hB
    refine Rg.wpOp_of rfl (Rg.wanted_of rfl (Rg.yielded_of (d := 50) (by rfl) gg)) ?_
    go_simp
    exact hK _ _ rfl (Below.refl _ _)
  · intro o ho f us wl al ha g hf hdep K hKf
    obtain rfl := Option.some.inj ho
    have hB := g.1
    have hK : ∀ v w', RAl bL 19 v w' → Below wl.heap.size wl w' → K (al.put (some 52) v) w' := fun v w' hv hb => hKf v w' (RAl.put g hb hv)
    have e2 : al.tmps[2]?.getD undef = .slice (some ⟨bL + 1, 0, none⟩) 3 3 := by rw [← Rg.eval_getD, ha]; exact (Rg.puts_eval_ne _ _ _ (by rfl)).trans rfl
    have dg : RAl bL 17 (us 17) wl := g.2 17 (hdep ⟨17, .guard⟩ (by simp) rfl)
    have gg : al.eval (.tmp 50) = .bool true := by rw [ha]; exact (Rg.puts_eval _ _ _ (by rfl) (by simp) (by simp)).trans dg
    have HB := Lib.hid hB
    clear ha hdep g hf hKf hB
    refine Rg.wpOp_of rfl (Rg.wanted_of rfl (Rg.yielded_of (d := 50) (by rfl) gg)) ?_
    go_simp
    exact hK _ _ rfl (Below.refl _ _)
  · intro o ho f us wl al ha g hf hdep K hKf
    obtain rfl := Option.some.inj ho
    have hB := g.1
    have hK : ∀ v w', RAl bL 20 v w' → Below wl.heap.size wl w' → K (al.put (some 53) v) w' := fun v w' hv hb => hKf v w' (RAl.put g hb hv)
    have d19 : RAl bL 19 (us 19) wl := g.2 19 (hdep ⟨19, .data⟩ (by simp) rfl)
    have e52 : al.tmps[52]?.getD undef = us 19 := by rw [← Rg.eval_getD, ha]; exact Rg.puts_eval _ _ _ (by rfl) (by simp) (by simp)
    have dg : RAl bL 17 (us 17) wl := g.2 17 (hdep ⟨17, .guard⟩ (by simp) rfl)
    have gg : al.eval (.tmp 50) = .bool true := by rw [ha]; exact (Rg.puts_eval _ _ _ (by rfl) (by simp) (by simp)).trans dg
    have f19 : us 19 = .slice (some ⟨bL + 1, 0, none⟩) 3 3 := d19
    have HB := Lib.hid hB
    clear ha hdep g hf hKf d19 hB
    refine Rg.wpOp_of rfl (Rg.wanted_of rfl (Rg.yielded_of (d := 50) (by rfl) gg)) ?_
    go_simp
    exact hK _ _ rfl (Below.refl _ _)
  · intro o ho f us wl al ha g hf hdep K hKf
    obtain rfl := Option.some.inj ho
    have hB := g.1
    have hK : ∀ v w', RAl bL 21 v w' → Below wl.heap.size wl w' → K (al.put (some 54) v) w' := fun v w' hv hb => hKf v w' (RAl.put g hb hv)
    have d20 : RAl bL 20 (us 20) wl := g.2 20 (hdep ⟨20, .data⟩ (by simp) rfl)
    have e53 : al.tmps[53]?.getD undef = us 20 := by rw [← Rg.eval_getD, ha]; exact Rg.puts_eval _ _ _ (by rfl) (by simp) (by simp)
    have dg : RAl bL 17 (us 17) wl := g.2 17 (hdep ⟨17, .guard⟩ (by simp) rfl)
    have gg : al.eval (.tmp 50) = .bool true := by rw [ha]; exact (Rg.puts_eval _ _ _ (by rfl) (by simp) (by simp)).trans dg
    have f20 : us 20 = .pointer (some ⟨bL + 1, 2, none⟩) := d20
    obtain ⟨c2, c3, c4, c5⟩ := XC.out _ (F4.out.trans (hB.mono F4.out.size))
    have HB := Lib.hid hB
    clear ha hdep g hf hKf d20 hB
    refine Rg.wpOp_of rfl (Rg.wanted_of rfl (Rg.yielded_of (d := 50) (by rfl) gg)) ?_
    go_simp
    exact hK _ _ rfl (Below.refl _ _)
  · intro o ho f us wl al ha g hf hdep K hKf
    obtain rfl := Option.some.inj ho
    have hB := g.1
    have hK : ∀ v w', RAl bL 22 v w' → Below wl.heap.size wl w' → K (al.put (some 55) v) w' := fun v w' hv hb => hKf v w' (RAl.put g hb hv)
    have d18 : RAl bL 18 (us 18) wl := g.2 18 (hdep ⟨18, .data⟩ (by simp) rfl)
    have e51 : al.tmps[51]?.getD undef = us 18 := by rw [← Rg.eval_getD, ha]; exact Rg.puts_eval _ _ _ (by rfl) (by simp) (by simp)
    have d21 : RAl bL 21 (us 21) wl := g.2 21 (hdep ⟨21, .data⟩ (by simp) rfl)
    have e54 : al.tmps[54]?.getD undef = us 21 := by rw [← Rg.eval_getD, ha]; exact Rg.puts_eval _ _ _ (by rfl) (by simp) (by simp)
    have dg : RAl bL 17 (us 17) wl := g.2 17 (hdep ⟨17, .guard⟩ (by simp) rfl)
    have gg : al.eval (.tmp 50) = .bool true := by rw [ha]; exact (Rg.puts_eval _ _ _ (by rfl) (by simp) (by simp)).trans dg
    have f18 : us 18 = .agg #[.int .i64 2, .int .i64 4] := d18
    have f21 : us 21 = .agg #[.int .i64 2, .int .i64 4] := d21
    have hq : (binOp .eql 23 (.agg #[.int .i64 2, .int .i64 4]) (.agg #[.int .i64 2, .int .i64 4])).run Tryd.prog wl = .ok (.bool true) wl := (eq_mv ⟨2, 4⟩ ⟨2, 4⟩ wl).trans (by rw [decide_eq_true rfl])
    have HB := Lib.hid hB
    clear ha hdep g hf hKf d18 d21 hB
    refine Rg.wpOp_of rfl (Rg.wanted_of rfl (Rg.yielded_of (d := 50) (by rfl) gg)) ?_
    go_simp
    exact hK _ _ rfl (Below.refl _ _)
  · intro o ho f us wl al ha g hf hdep K hKf
    obtain rfl := Option.some.inj ho
    have hB := g.1
    have hK : ∀ v w', RAl bL 23 v w' → Below wl.heap.size wl w' → K (al.put (some 56) v) w' := fun v w' hv hb => hKf v w' (RAl.put g hb hv)
    have d17 : RAl bL 17 (us 17) wl := g.2 17 (hdep ⟨17, .data⟩ (by simp) rfl)
    have e50 : al.tmps[50]?.getD undef = us 17 := by rw [← Rg.eval_getD, ha]; exact Rg.puts_eval _ _ _ (by rfl) (by simp) (by simp)
    have d22 : RAl bL 22 (us 22) wl := g.2 22 (hdep ⟨22, .data⟩ (by simp) rfl)
    have e55 : al.tmps[55]?.getD undef = us 22 := by rw [← Rg.eval_getD, ha]; exact Rg.puts_eval _ _ _ (by rfl) (by simp) (by simp)
    have f17 : us 17 = .bool true := d17
    have f22 : us 22 = .bool true := d22
    have HB := Lib.hid hB
    clear ha hdep g hf hKf d17 d22 hB
    refine Rg.wpOp_of rfl rfl ?_
    go_simp
    exact hK _ _ rfl (Below.refl _ _)
  · intro o ho f us wl al ha g hf hdep K hKf
    obtain rfl := Option.some.inj ho
    have hB := g.1
    have hK : ∀ v w', RAl bL 24 v w' → Below wl.heap.size wl w' → K (al.put (some 57) v) w' := fun v w' hv hb => hKf v w' (RAl.put g hb hv)
    have d23 : RAl bL 23 (us 23) wl := g.2 23 (hdep ⟨23, .data⟩ (by simp) rfl)
    have e56 : al.tmps[56]?.getD undef = us 23 := by rw [← Rg.eval_getD, ha]; exact Rg.puts_eval _ _ _ (by rfl) (by simp) (by simp)
    have f23 : us 23 = .bool true := d23
    have HB := Lib.hid hB
    clear ha hdep g hf hKf d23 hB
    refine Rg.wpOp_of rfl rfl ?_
    go_simp
    exact hK _ _ rfl (Below.refl _ _)
  · intro o ho f us wl al ha g hf hdep K hKf
    obtain rfl := Option.some.inj ho
    have hB := g.1
    have hK : ∀ v w', RAl bL 25 v w' → Below wl.heap.size wl w' → K (al.put (some 58) v) w' := fun v w' hv hb => hKf v w' (RAl.put g hb hv)
    have e4 : al.tmps[4]?.getD undef = .int .i64 0 := by rw [← Rg.eval_getD, ha]; exact (Rg.puts_eval_ne _ _ _ (by rfl)).trans rfl
    have dg : RAl bL 24 (us 24) wl := g.2 24 (hdep ⟨24, .guard⟩ (by simp) rfl)
    have gg : al.eval (.tmp 57) = .bool true := by rw [ha]; exact (Rg.puts_eval _ _ _ (by rfl) (by simp) (by simp)).trans dg
    have HB := Lib.hid hB
    clear ha hdep g hf hKf hB
    refine Rg.wpOp_of rfl (Rg.wanted_of rfl (Rg.yielded_of (d := 57) (by rfl) gg)) ?_
    go_simp
    exact hK _ _ rfl (Below.refl _ _)
  · intro o ho f us wl al ha g hf hdep K hKf
    obtain rfl := Option.some.inj ho
    have hB := g.1
    have hK : ∀ v w', RAl bL 26 v w' → Below wl.heap.size wl w' → K (al.put (some 59) v) w' := fun v w' hv hb => hKf v w' (RAl.put g hb hv)
    have d25 : RAl bL 25 (us 25) wl := g.2 25 (hdep ⟨25, .data⟩ (by simp) rfl)
    have e58 : al.tmps[58]?.getD undef = us 25 := by rw [← Rg.eval_getD, ha]; exact Rg.puts_eval _ _ _ (by rfl) (by simp) (by simp)
    have dg : RAl bL 24 (us 24) wl := g.2 24 (hdep ⟨24, .guard⟩ (by simp) rfl)
    have gg : al.eval (.tmp 57) = .bool true := by rw [ha]; exact (Rg.puts_eval _ _ _ (by rfl) (by simp) (by simp)).trans dg
    have f25 : us 25 = .int .i64 0 := d25
    have HB := Lib.hid hB
    clear ha hdep g hf hKf d25 hB
    refine Rg.wpOp_of rfl (Rg.wanted_of rfl (Rg.yielded_of (d := 57) (by rfl) gg)) ?_
    go_simp
    exact hK _ _ rfl (Below.refl _ _)
  · intro o ho f us wl al ha g hf hdep K hKf
    obtain rfl := Option.some.inj ho
    have hB := g.1
    have hK : ∀ v w', RAl bL 27 v w' → Below wl.heap.size wl w' → K (al.put (some 60) v) w' := fun v w' hv hb => hKf v w' (RAl.put g hb hv)
    have d24 : RAl bL 24 (us 24) wl := g.2 24 (hdep ⟨24, .data⟩ (by simp) rfl)
    have e57 : al.tmps[57]?.getD undef = us 24 := by rw [← Rg.eval_getD, ha]; exact Rg.puts_eval _ _ _ (by rfl) (by simp) (by simp)
    have d26 : RAl bL 26 (us 26) wl := g.2 26 (hdep ⟨26, .data⟩ (by simp) rfl)
    have e59 : al.tmps[59]?.getD undef = us 26 := by rw [← Rg.eval_getD, ha]; exact Rg.puts_eval _ _ _ (by rfl) (by simp) (by simp)
    have f24 : us 24 = .bool true := d24
    have f26 : us 26 = .bool true := d26
    have HB := Lib.hid hB
    clear ha hdep g hf hKf d24 d26 hB
    refine Rg.wpOp_of rfl rfl ?_
    go_simp
    exact hK _ _ rfl (Below.refl _ _)
  · intro o ho f us wl al ha g hf hdep K hKf
    obtain rfl := Option.some.inj ho
    have hB := g.1
    have hK : ∀ v w', RAl bL 28 v w' → Below wl.heap.size wl w' → K (al.put (some 61) v) w' := fun v w' hv hb => hKf v w' (RAl.put g hb hv)
    have d27 : RAl bL 27 (us 27) wl := g.2 27 (hdep ⟨27, .data⟩ (by simp) rfl)
    have e60 : al.tmps[60]?.getD undef = us 27 := by rw [← Rg.eval_getD, ha]; exact Rg.puts_eval _ _ _ (by rfl) (by simp) (by simp)
    have f27 : us 27 = .bool true := d27
    have HB := Lib.hid hB
    clear ha hdep g hf hKf d27 hB
    refine Rg.wpOp_of rfl rfl ?_
    go_simp
    exact hK _ _ rfl (Below.refl _ _)
  · intro o ho f us wl al ha g hf hdep K hKf
    obtain rfl := Option.some.inj ho
    have hB := g.1
    have hK : ∀ v w', RAl bL 29 v w' → Below wl.heap.size wl w' → K (al.put (some 62) v) w' := fun v w' hv hb => hKf v w' (RAl.put g hb hv)
    have e5 : al.tmps[5]?.getD undef = .pointer (some ⟨b5, 0, none⟩) := by rw [← Rg.eval_getD, ha]; exact (Rg.puts_eval_ne _ _ _ (by rfl)).trans rfl
    have dg : RAl bL 28 (us 28) wl := g.2 28 (hdep ⟨28, .guard⟩ (by simp) rfl)
    have gg : al.eval (.tmp 61) = .bool true := by rw [ha]; exact (Rg.puts_eval _ _ _ (by rfl) (by simp) (by simp)).trans dg
    obtain ⟨c0, c1⟩ := CA.out _ hB
    have HB := Lib.hid hB
    clear ha hdep g hf hKf hB
    refine Rg.wpOp_of rfl (Rg.wanted_of rfl (Rg.yielded_of (d := 61) (by rfl) gg)) ?_
    go_simp
    exact hK _ _ rfl (Below.refl _ _)
  · intro o ho f us wl al ha g hf hdep K hKf
    obtain rfl := Option.some.inj ho
    have hB := g.1
    have hK : ∀ v w', RAl bL 30 v w' → Below wl.heap.size wl w' → K (al.put (some 63) v) w' := fun v w' hv hb => hKf v w' (RAl.put g hb hv)
    have e2 : al.tmps[2]?.getD undef = .slice (some ⟨bL + 1, 0, none⟩) 3 3 := by rw [← Rg.eval_getD, ha]; exact (Rg.puts_eval_ne _ _ _ (by rfl)).trans rfl
    have dg : RAl bL 28 (us 28) wl := g.2 28 (hdep ⟨28, .guard⟩ (by simp) rfl)
    have gg : al.eval (.tmp 61) = .bool true := by rw [ha]; exact (Rg.puts_eval _ _ _ (by rfl) (by simp) (by simp)).trans dg
    have HB := Lib.hid hB
    clear ha hdep g hf hKf hB
    refine Rg.wpOp_of rfl (Rg.wanted_of rfl (Rg.yielded_of (d := 61) (by rfl) gg)) ?_
    go_simp
    exact hK _ _ rfl (Below.refl _ _)
  · intro o ho f us wl al ha g hf hdep K hKf
    obtain rfl := Option.some.inj ho
    have hB := g.1
    have hK : ∀ v w', RAl bL 31 v w' → Below wl.heap.size wl w' → K (al.put (some 64) v) w' := fun v w' hv hb => hKf v w' (RAl.put g hb hv)
    have d30 : RAl bL 30 (us 30) wl := g.2 30 (hdep ⟨30, .data⟩ (by simp) rfl)
    have e63 : al.tmps[63]?.getD undef = us 30 := by rw [← Rg.eval_getD, ha]; exact Rg.puts_eval _ _ _ (by rfl) (by simp) (by simp)
    have dg : RAl bL 28 (us 28) wl := g.2 28 (hdep ⟨28, .guard⟩ (by simp) rfl)
    have gg : al.eval (.tmp 61) = .bool true := by rw [ha]; exact (Rg.puts_eval _ _ _ (by rfl) (by simp) (by simp)).trans dg
    have f30 : us 30 = .slice (some ⟨bL + 1, 0, none⟩) 3 3 := d30
    have HB := Lib.hid hB
    clear ha hdep g hf hKf d30 hB
    refine Rg.wpOp_of rfl (Rg.wanted_of rfl (Rg.yielded_of (d := 61) (by rfl) gg)) ?_
    go_simp
    exact hK _ _ rfl (Below.refl _ _)
  · intro o ho f us wl al ha g hf hdep K hKf
    obtain rfl := Option.some.inj ho
    have hB := g.1
    have hK : ∀ v w', RAl bL 32 v w' → Below wl.heap.size wl w' → K (al.put (some 65) v) w' := fun v w' hv hb => hKf v w' (RAl.put g hb hv)
    have d31 : RAl bL 31 (us 31) wl := g.2 31 (hdep ⟨31, .data⟩ (by simp) rfl)
    have e64 : al.tmps[64]?.getD undef = us 31 := by rw [← Rg.eval_getD, ha]; exact Rg.puts_eval _ _ _ (by rfl) (by simp) (by simp)
    have dg : RAl bL 28 (us 28) wl := g.2 28 (hdep ⟨28, .guard⟩ (by simp) rfl)
    have gg : al.eval (.tmp 61) = .bool true := by rw [ha]; exact (Rg.puts_eval _ _ _ (by rfl) (by simp) (by simp)).trans dg
    have f31 : us 31 = .pointer (some ⟨bL + 1, 4, none⟩) := d31
    obtain ⟨c2, c3, c4, c5⟩ := XC.out _ (F4.out.trans (hB.mono F4.out.size))
    have HB := Lib.hid hB
    clear ha hdep g hf hKf d31 hB
    refine Rg.wpOp_of rfl (Rg.wanted_of rfl (Rg.yielded_of (d := 61) (by rfl) gg)) ?_
    go_simp
    exact hK _ _ rfl (Below.refl _ _)
  · intro o ho f us wl al ha g hf hdep K hKf
    obtain rfl := Option.some.inj ho
    have hB := g.1
    have hK : ∀ v w', RAl bL 33 v w' → Below wl.heap.size wl w' → K (al.put (some 66) v) w' := fun v w' hv hb => hKf v w' (RAl.put g hb hv)
    have d29 : RAl bL 29 (us 29) wl := g.2 29 (hdep ⟨29, .data⟩ (by simp) rfl)
    have e62 : al.tmps[62]?.getD undef = us 29 := by rw [← Rg.eval_getD, ha]; exact Rg.puts_eval _ _ _ (by rfl) (by simp) (by simp)
    have d32 : RAl bL 32 (us 32) wl := g.2 32 (hdep ⟨32, .data⟩ (by simp) rfl)
    have e65 : al.tmps[65]?.getD undef = us 32 := by rw [← Rg.eval_getD, ha]; exact Rg.puts_eval _ _ _ (by rfl) (by simp) (by simp)
    have dg : RAl bL 28 (us 28) wl := g.2 28 (hdep ⟨28, .guard⟩ (by simp) rfl)
    have gg : al.eval (.tmp 61) = .bool true := by rw [ha]; exact (Rg.puts_eval _ _ _ (by rfl) (by simp) (by simp)).trans dg
    have f29 : us 29 = .agg #[.int .i64 2, .int .i64 5] := d29
    have f32 : us 32 = .agg #[.int .i64 2, .int .i64 5] := d32
    have hq : (binOp .eql 23 (.agg #[.int .i64 2, .int .i64 5]) (.agg #[.int .i64 2, .int .i64 5])).run Tryd.prog wl = .ok (.bool true) wl := (eq_mv ⟨2, 5⟩ ⟨2, 5⟩ wl).trans (by rw [decide_eq_true rfl])
    have HB := Lib.hid hB
    clear ha hdep g hf hKf d29 d32 hB
    refine Rg.wpOp_of rfl (Rg.wanted_of rfl (Rg.yielded_of (d := 61) (by rfl) gg)) ?_
    go_simp
    exact hK _ _ rfl (Below.refl _ _)
  · intro o ho f us wl al ha g hf hdep K hKf
    obtain rfl := Option.some.inj ho
    have hB := g.1
    have hK : ∀ v w', RAl bL 34 v w' → Below wl.heap.size wl w' → K (al.put (some 67) v) w' := fun v w' hv hb => hKf v w' (RAl.put g hb hv)
    have d28 : RAl bL 28 (us 28) wl := g.2 28 (hdep ⟨28, .data⟩ (by simp) rfl)
    have e61 : al.tmps[61]?.getD undef = us 28 := by rw [← Rg.eval_getD, ha]; exact Rg.puts_eval _ _ _ (by rfl) (by simp) (by simp)
    have d33 : RAl bL 33 (us 33) wl := g.2 33 (hdep ⟨33, .data⟩ (by simp) rfl)
    have e66 : al.tmps[66]?.getD undef = us 33 := by rw [← Rg.eval_getD, ha]; exact Rg.puts_eval _ _ _ (by rfl) (by simp) (by simp)
    have f28 : us 28 = .bool true := d28
    have f33 : us 33 = .bool true := d33
    have HB := Lib.hid hB
    clear ha hdep g hf hKf d28 d33 hB
    refine Rg.wpOp_of rfl rfl ?_
    go_simp
    exact hK _ _ rfl (Below.refl _ _)
  · intro o ho f us wl al ha g hf hdep K hKf
    obtain rfl := Option.some.inj ho
    have hB := g.1
    have hK : ∀ v w', RAl bL 35 v w' → Below wl.heap.size wl w' → K (al.put (some 68) v) w' := fun v w' hv hb => hKf v w' (RAl.put g hb hv)
    have d34 : RAl bL 34 (us 34) wl := g.2 34 (hdep ⟨34, .data⟩ (by simp) rfl)
    have e67 : al.tmps[67]?.getD undef = us 34 := by rw [← Rg.eval_getD, ha]; exact Rg.puts_eval _ _ _ (by rfl) (by simp) (by simp)
    have f34 : us 34 = .bool true := d34
    have HB := Lib.hid hB
    clear ha hdep g hf hKf d34 hB
    refine Rg.wpOp_of rfl rfl ?_
    go_simp
    exact hK _ _ rfl (Below.refl _ _)
  · intro o ho f us wl al ha g hf hdep K hKf
    obtain rfl := Option.some.inj ho
    have hB := g.1
    have hK : ∀ v w', RAl bL 36 v w' → Below wl.heap.size wl w' → K (al.put (some 69) v) w' := fun v w' hv hb => hKf v w' (RAl.put g hb hv)
    have e8 : al.tmps[8]?.getD undef = .int .i64 120 := by rw [← Rg.eval_getD, ha]; exact (Rg.puts_eval_ne _ _ _ (by rfl)).trans rfl
    have dg : RAl bL 35 (us 35) wl := g.2 35 (hdep ⟨35, .guard⟩ (by simp) rfl)
    have gg : al.eval (.tmp 68) = .bool true := by rw [ha]; exact (Rg.puts_eval _ _ _ (by rfl) (by simp) (by simp)).trans dg
    have HB := Lib.hid hB
    clear ha hdep g hf hKf hB
    refine Rg.wpOp_of rfl (Rg.wanted_of rfl (Rg.yielded_of (d := 68) (by rfl) gg)) ?_
    go_simp
    exact hK _ _ rfl (Below.refl _ _)
  · intro o ho f us wl al ha g hf hdep K hKf
    obtain rfl := Option.some.inj ho
    have hB := g.1
    have hK : ∀ v w', RAl bL 37 v w' → Below wl.heap.size wl w' → K (al.put (some 70) v) w' := fun v w' hv hb => hKf v w' (RAl.put g hb hv)
    have d36 : RAl bL 36 (us 36) wl := g.2 36 (hdep ⟨36, .data⟩ (by simp) rfl)
    have e69 : al.tmps[69]?.getD undef = us 36 := by rw [← Rg.eval_getD, ha]; exact Rg.puts_eval _ _ _ (by rfl) (by simp) (by simp)
    have dg : RAl bL 35 (us 35) wl := g.2 35 (hdep ⟨35, .guard⟩ (by simp) rfl)
    have gg : al.eval (.tmp 68) = .bool true := by rw [ha]; exact (Rg.puts_eval _ _ _ (by rfl) (by simp) (by simp)).trans dg
    have f36 : us 36 = .int .i64 120 := d36
    have HB := Lib.hid hB
    clear ha hdep g hf hKf d36 hB
    refine Rg.wpOp_of rfl (Rg.wanted_of rfl (Rg.yielded_of (d := 68) (by rfl) gg)) ?_
    go_simp
    exact hK _ _ rfl (Below.refl _ _)
  · intro o ho f us wl al ha g hf hdep K hKf
    obtain rfl := Option.some.inj ho
    have hB := g.1
    have hK : ∀ v w', RAl bL 38 v w' → Below wl.heap.size wl w' → K (al.put (some 71) v) w' := fun v w' hv hb => hKf v w' (RAl.put g hb hv)
    have d35 : RAl bL 35 (us 35) wl := g.2 35 (hdep ⟨35, .data⟩ (by simp) rfl)
    have e68 : al.tmps[68]?.getD undef = us 35 := by rw [← Rg.eval_getD, ha]; exact Rg.puts_eval _ _ _ (by rfl) (by simp) (by simp)
    have d37 : RAl bL 37 (us 37) wl := g.2 37 (hdep ⟨37, .data⟩ (by simp) rfl)
    have e70 : al.tmps[70]?.getD undef = us 37 := by rw [← Rg.eval_getD, ha]; exact Rg.puts_eval _ _ _ (by rfl) (by simp) (by simp)
    have f35 : us 35 = .bool true := d35
    have f37 : us 37 = .bool true := d37
    have HB := Lib.hid hB
    clear ha hdep g hf hKf d35 d37 hB
    refine Rg.wpOp_of rfl rfl ?_
    go_simp
    exact hK _ _ rfl (Below.refl _ _)
  · intro o ho f us wl al ha g hf hdep K hKf
    obtain rfl := Option.some.inj ho
    have hB := g.1
    have hK : ∀ v w', RAl bL 39 v w' → Below wl.heap.size wl w' → K (al.put (some 72) v) w' := fun v w' hv hb => hKf v w' (RAl.put g hb hv)
    have d38 : RAl bL 38 (us 38) wl := g.2 38 (hdep ⟨38, .data⟩ (by simp) rfl)
    have e71 : al.tmps[71]?.getD undef = us 38 := by rw [← Rg.eval_getD, ha]; exact Rg.puts_eval _ _ _ (by rfl) (by simp) (by simp)
    have f38 : us 38 = .bool true := d38
    have HB := Lib.hid hB
    clear ha hdep g hf hKf d38 hB
    refine Rg.wpOp_of rfl rfl ?_
    go_simp
    exact hK _ _ rfl (Below.refl _ _)
  · intro o ho f us wl al ha g hf hdep K hKf
    obtain rfl := Option.some.inj ho
    have hB := g.1
    have hK : ∀ v w', RAl bL 40 v w' → Below wl.heap.size wl w' → K (al.put (some 73) v) w' := fun v w' hv hb => hKf v w' (RAl.put g hb hv)
    have e3 : al.tmps[3]?.getD undef = .pointer (some ⟨b3, 0, none⟩) := by rw [← Rg.eval_getD, ha]; exact (Rg.puts_eval_ne _ _ _ (by rfl)).trans rfl
    have dg : RAl bL 39 (us 39) wl := g.2 39 (hdep ⟨39, .guard⟩ (by simp) rfl)
    have gg : al.eval (.tmp 72) = .bool true := by rw [ha]; exact (Rg.puts_eval _ _ _ (by rfl) (by simp) (by simp)).trans dg
    obtain ⟨c0, c1⟩ := CM.out _ hB
    have HB := Lib.hid hB
    clear ha hdep g hf hKf hB
    refine Rg.wpOp_of rfl (Rg.wanted_of rfl (Rg.yielded_of (d := 72) (by rfl) gg)) ?_
    go_simp
    exact hK _ _ rfl (Below.refl _ _)
  · intro o ho f us wl al ha g hf hdep K hKf
    obtain rfl := Option.some.inj ho
    have hB := g.1
    have hK : ∀ v w', RAl bL 41 v w' → Below wl.heap.size wl w' → K (al.put (some 74) v) w' := fun v w' hv hb => hKf v w' (RAl.put g hb hv)
    have d40 : RAl bL 40 (us 40) wl := g.2 40 (hdep ⟨40, .data⟩ (by simp) rfl)
    have e73 : al.tmps[73]?.getD undef = us 40 := by rw [← Rg.eval_getD, ha]; exact Rg.puts_eval _ _ _ (by rfl) (by simp) (by simp)
    have dg : RAl bL 39 (us 39) wl := g.2 39 (hdep ⟨39, .guard⟩ (by simp) rfl)
    have gg : al.eval (.tmp 72) = .bool true := by rw [ha]; exact (Rg.puts_eval _ _ _ (by rfl) (by simp) (by simp)).trans dg
    have f40 : us 40 = .agg #[.int .i64 2, .int .i64 4] := d40
    have HB := Lib.hid hB
    clear ha hdep g hf hKf d40 hB
    refine Rg.wpOp_of rfl (Rg.wanted_of rfl (Rg.yielded_of (d := 72) (by rfl) gg)) ?_
    go_simp
    refine (HT4.out _ (D1.out.trans ((F4.out.trans (HB.out.mono F4.out.size)).mono D1.out.size))).mono ?_
    rintro e wn ⟨rfl, hb⟩
    exact hK _ _ rfl hb
  · intro o ho f us wl al ha g hf hdep K hKf
    obtain rfl := Option.some.inj ho
    have hB := g.1
    have hK : ∀ v w', RAl bL 42 v w' → Below wl.heap.size wl w' → K (al.put (some 75) v) w' := fun v w' hv hb => hKf v w' (RAl.put g hb hv)
    have d41 : RAl bL 41 (us 41) wl := g.2 41 (hdep ⟨41, .data⟩ (by simp) rfl)
    have e74 : al.tmps[74]?.getD undef = us 41 := by rw [← Rg.eval_getD, ha]; exact Rg.puts_eval _ _ _ (by rfl) (by simp) (by simp)
    have dg : RAl bL 39 (us 39) wl := g.2 39 (hdep ⟨39, .guard⟩ (by simp) rfl)
    have gg : al.eval (.tmp 72) = .bool true := by rw [ha]; exact (Rg.puts_eval _ _ _ (by rfl) (by simp) (by simp)).trans dg
    have f41 : us 41 = .string ⟨#[103, 111, 32, 50]⟩ := d41
    have HB := Lib.hid hB
    clear ha hdep g hf hKf d41 hB
    refine Rg.wpOp_of rfl (Rg.wanted_of rfl (Rg.yielded_of (d := 72) (by rfl) gg)) ?_
    go_simp
    exact hK _ _ rfl (Below.refl _ _)
  · intro o ho f us wl al ha g hf hdep K hKf
    obtain rfl := Option.some.inj ho
    have hB := g.1
    have hK : ∀ v w', RAl bL 43 v w' → Below wl.heap.size wl w' → K (al.put (some 76) v) w' := fun v w' hv hb => hKf v w' (RAl.put g hb hv)
    have d39 : RAl bL 39 (us 39) wl := g.2 39 (hdep ⟨39, .data⟩ (by simp) rfl)
    have e72 : al.tmps[72]?.getD undef = us 39 := by rw [← Rg.eval_getD, ha]; exact Rg.puts_eval _ _ _ (by rfl) (by simp) (by simp)
    have d42 : RAl bL 42 (us 42) wl := g.2 42 (hdep ⟨42, .data⟩ (by simp) rfl)
    have e75 : al.tmps[75]?.getD undef = us 42 := by rw [← Rg.eval_getD, ha]; exact Rg.puts_eval _ _ _ (by rfl) (by simp) (by simp)
    have f39 : us 39 = .bool true := d39
    have f42 : us 42 = .bool true := d42
    have HB := Lib.hid hB
    clear ha hdep g hf hKf d39 d42 hB
    refine Rg.wpOp_of rfl rfl ?_
    go_simp
    exact hK _ _ rfl (Below.refl _ _)
  · intro o ho f us wl al ha g hf hdep K hKf
    obtain rfl := Option.some.inj ho
    have hB := g.1
    have hK : ∀ v w', RAl bL 44 v w' → Below wl.heap.size wl w' → K (al.put (some 77) v) w' := fun v w' hv hb => hKf v w' (RAl.put g hb hv)
    have d43 : RAl bL 43 (us 43) wl := g.2 43 (hdep ⟨43, .data⟩ (by simp) rfl)
    have e76 : al.tmps[76]?.getD undef = us 43 := by rw [← Rg.eval_getD, ha]; exact Rg.puts_eval _ _ _ (by rfl) (by simp) (by simp)
    have f43 : us 43 = .bool true := d43
    have HB := Lib.hid hB
    clear ha hdep g hf hKf d43 hB
    refine Rg.wpOp_of rfl rfl ?_
    go_simp
    exact hK _ _ rfl (Below.refl _ _)
  · intro o ho f us wl al ha g hf hdep K hKf
    obtain rfl := Option.some.inj ho
    have hB := g.1
    have hK : ∀ v w', RAl bL 45 v w' → Below wl.heap.size wl w' → K (al.put (some 78) v) w' := fun v w' hv hb => hKf v w' (RAl.put g hb hv)
    have dg : RAl bL 44 (us 44) wl := g.2 44 (hdep ⟨44, .guard⟩ (by simp) rfl)
    have gg : al.eval (.tmp 77) = .bool true := by rw [ha]; exact (Rg.puts_eval _ _ _ (by rfl) (by simp) (by simp)).trans dg
    have HB := Lib.hid hB
    clear ha hdep g hf hKf hB
    refine Rg.wpOp_of rfl (Rg.wanted_of rfl (Rg.yielded_of (d := 77) (by rfl) gg)) ?_
    go_simp
    exact hK _ _ rfl (Below.refl _ _)
  · intro o ho f us wl al ha g hf hdep K hKf
    obtain rfl := Option.some.inj ho
    have hB := g.1
    have hK : ∀ v w', RAl bL 46 v w' → Below wl.heap.size wl w' → K (al.put (some 79) v) w' := fun v w' hv hb => hKf v w' (RAl.put g hb hv)
    have d45 : RAl bL 45 (us 45) wl := g.2 45 (hdep ⟨45, .data⟩ (by simp) rfl)
    have e78 : al.tmps[78]?.getD undef = us 45 := by rw [← Rg.eval_getD, ha]; exact Rg.puts_eval _ _ _ (by rfl) (by simp) (by simp)
    have dg : RAl bL 44 (us 44) wl := g.2 44 (hdep ⟨44, .guard⟩ (by simp) rfl)
    have gg : al.eval (.tmp 77) = .bool true := by rw [ha]; exact (Rg.puts_eval _ _ _ (by rfl) (by simp) (by simp)).trans dg
    have f45 : us 45 = .agg #[.int .i64 0, .int .i64 9] := d45
    have HB := Lib.hid hB
    clear ha hdep g hf hKf d45 hB
    refine Rg.wpOp_of rfl (Rg.wanted_of rfl (Rg.yielded_of (d := 77) (by rfl) gg)) ?_
    go_simp
    refine (HT9.out _ (D1.out.trans ((F4.out.trans (HB.out.mono F4.out.size)).mono D1.out.size))).mono ?_
    rintro e wn ⟨rfl, hb⟩
    exact hK _ _ rfl hb
  · intro o ho f us wl al ha g hf hdep K hKf
    obtain rfl := Option.some.inj ho
    have hB := g.1
    have hK : ∀ v w', RAl bL 47 v w' → Below wl.heap.size wl w' → K (al.put (some 80) v) w' := fun v w' hv hb => hKf v w' (RAl.put g hb hv)
    have d46 : RAl bL 46 (us 46) wl := g.2 46 (hdep ⟨46, .data⟩ (by simp) rfl)
    have e79 : al.tmps[79]?.getD undef = us 46 := by rw [← Rg.eval_getD, ha]; exact Rg.puts_eval _ _ _ (by rfl) (by simp) (by simp)
    have dg : RAl bL 44 (us 44) wl := g.2 44 (hdep ⟨44, .guard⟩ (by simp) rfl)
    have gg : al.eval (.tmp 77) = .bool true := by rw [ha]; exact (Rg.puts_eval _ _ _ (by rfl) (by simp) (by simp)).trans dg
    have f46 : us 46 = .string ⟨#[]⟩ := d46
    have HB := Lib.hid hB
    clear ha hdep g hf hKf d46 hB
    refine Rg.wpOp_of rfl (Rg.wanted_of rfl (Rg.yielded_of (d := 77) (by rfl) gg)) ?_
    go_simp
    exact hK _ _ rfl (Below.refl _ _)
  · intro o ho f us wl al ha g hf hdep K hKf
    obtain rfl := Option.some.inj ho
    have hB := g.1
    have hK : ∀ v w', RAl bL 48 v w' → Below wl.heap.size wl w' → K (al.put (some 81) v) w' := fun v w' hv hb => hKf v w' (RAl.put g hb hv)
    have d44 : RAl bL 44 (us 44) wl := g.2 44 (hdep ⟨44, .data⟩ (by simp) rfl)
    have e77 : al.tmps[77]?.getD undef = us 44 := by rw [← Rg.eval_getD, ha]; exact Rg.puts_eval _ _ _ (by rfl) (by simp) (by simp)
    have d47 : RAl bL 47 (us 47) wl := g.2 47 (hdep ⟨47, .data⟩ (by simp) rfl)
    have e80 : al.tmps[80]?.getD undef = us 47 := by rw [← Rg.eval_getD, ha]; exact Rg.puts_eval _ _ _ (by rfl) (by simp) (by simp)
    have f44 : us 44 = .bool true := d44
    have f47 : us 47 = .bool true := d47
    have HB := Lib.hid hB
    clear ha hdep g hf hKf d44 d47 hB
    refine Rg.wpOp_of rfl rfl ?_
    go_simp
    exact hK _ _ rfl (Below.refl _ _)
  · intro o ho f us wl al ha g hf hdep K hKf
    obtain rfl := Option.some.inj ho
    have hB := g.1
    have hK : ∀ v w', RAl bL 49 v w' → Below wl.heap.size wl w' → K (al.put (some 0) v) w' := fun v w' hv hb => hKf v w' (RAl.put g hb hv)
    have d48 : RAl bL 48 (us 48) wl := g.2 48 (hdep ⟨48, .data⟩ (by simp) rfl)
    have e81 : al.tmps[81]?.getD undef = us 48 := by rw [← Rg.eval_getD, ha]; exact Rg.puts_eval _ _ _ (by rfl) (by simp) (by simp)
    have f48 : us 48 = .bool true := d48
    have HB := Lib.hid hB
    clear ha hdep g hf hKf d48 hB
    refine Rg.wpOp_of rfl rfl ?_
    go_simp
    exact hK _ _ rfl (Below.refl _ _)
  · intro us wz hB hR
    have fz : us 49 = .bool true := hR 49
    have DZ := Lib.hid (D1.out.trans ((F4.out.trans (hB.mono F4.out.size)).mono D1.out.size))
    clear hB hR
    simp only [Rg.puts, Act.put, List.setIfInBounds_toArray, List.set_cons_zero, List.set_cons_succ, fz]
    go_wp2_with fail
    go_ret
    exact ⟨rfl, DZ.out⟩
end Go.Proofs.YtdkaoiomndkbjaaDoor.Me
