/- The program's text of two trees joined by a sign (written by gen_ptext.py). -/
import Derived.Test.YtdhaghabhdeakaaQ24

namespace Go.Proofs.Ytdhaghabhdeakaa.Pa
open Go Go.RowKit Rw So
set_option maxRecDepth 20000

def RP5 (b' o' c' b0 o0 n0 c0 b1 o1 n1 c1 : Nat) (s0 s1 : List UInt8) (k : Nat) (v : Value) (_ : World) : Prop := match k with
  | 0 => v = .slice (some ⟨b', o', none⟩) 2 c'
  | 1 => v = .pointer (some ⟨b', o', none⟩)
  | 2 => v = .slice (some ⟨b0, o0, none⟩) n0 c0
  | 3 => v = .int .i64 4
  | 4 => IsT v s0
  | 5 => v = .string ⟨#[32, 59, 32]⟩
  | 6 => IsT v (s0 ++ [32, 59, 32])
  | 7 => v = .slice (some ⟨b', o', none⟩) 2 c'
  | 8 => v = .pointer (some ⟨b', o' + 1, none⟩)
  | 9 => v = .slice (some ⟨b1, o1, none⟩) n1 c1
  | 10 => v = .int .i64 4
  | 11 => v = .int .i64 5
  | 12 => IsT v s1
  | 13 => IsT v (s0 ++ [32, 59, 32] ++ s1)
  | 14 => IsT v (s0 ++ [32, 59, 32] ++ s1)
  | _ => True

set_option maxHeartbeats 8000000 in
theorem textP_5 {a c : Tm} (ha : TextP a) (hc : TextP c) (hna : a.nam) (hnc : c.nam) : TextP (.bin 5 a c) := by
  intro l v w hcv hv hl
  obtain ⟨ht, hh, la, lc, hk, hca, hcc, rfl⟩ := hcv
  have hl2 : la.length ≤ 200 := by simp at hl; omega
  have hl3 : lc.length ≤ 200 := by simp at hl; omega
  have hlen := txt_len true a hna
  rw [hca.row] at hlen
  have hlen2 := txt_len true c hnc
  rw [hcc.row] at hlen2
  have HW0 := Lib.hid (fun w' v' hv' => withinP_any ha hca (v := v') (w := w') hv' hl2 hna 4)
  have HW1 := Lib.hid (fun w' v' hv' => withinP_any hc hcc (v := v') (w := w') hv' hl3 hnc 5)
  have HBK : Hid (∀ w', Calls Try.prog 56 #[.int .i64 5] w' fun e w'' => e = .returned (.tuple #[.int .i64 4, .string ⟨#[32, 59, 32]⟩]) ∧ w' = w'') := Lib.hid (fun w' => bind_any 5 w')
  have HK := Lib.hid (fun w' v' hv' => kidsW_any v' (nOf 5 :: (la ++ lc)) w' hv' (by omega))
  have HV := Lib.hid hv
  have HKK := Lib.hid hk
  have P0 := Lib.hid hca.tre.pos
  have P1 := Lib.hid hcc.tre.pos
  rcases hv.form with ⟨h0, _⟩ | ⟨b, off, cap, rfl, _, hat⟩
  · cases h0
  obtain ⟨e1, e2, e3⟩ := hat 0 (by simp)
  rw [Nat.zero_mul, Nat.add_zero] at e1 e2
  have E1 := Lib.hid e1
  simp only [List.getElem_cons_zero] at E1
  have HCA := Lib.hid hca
  have HCC := Lib.hid hcc
  have HL := Lib.hid (And.intro hlen (And.intro hlen2 (And.intro hl2 hl3)))
  clear hat e1 e2 e3 ht hh hk hv hlen hlen2 hl2 hl3 hca hcc hna hnc
  have hN0 : 0 < (nOf 5 :: (la ++ lc)).length := by simp
  rw [show (nOf 5).k = 5 from rfl] at E1
  generalize (nOf 5 :: (la ++ lc)).length = N at *
  go_enter Try.func32, Try.ntmps32
  go_wp2_with fail
  refine (HK.out _ _ HV.out).mono ?_
  rintro e w1 ⟨y, rfl, hy, hb⟩
  have cE := E1.out
  rw [← hb.cell (Ap.cell_lt cE)] at cE
  rw [HKK.out] at hy
  obtain ⟨b', o', c', a0, a1, rfl, q0, q1, n0, n1⟩ := two_rows hy
  have N0 := Lib.hid n0
  have N1 := Lib.hid n1
  have HB := Lib.hid hb
  clear hb hy
  obtain ⟨b0, o0, c0, rfl, k0⟩ := HCA.out.head n0
  obtain ⟨b1, o1, c1, rfl, k1⟩ := HCC.out.head n1
  have HBT := Lib.hid (Bt.mk HB.out q0 q1 N0.out N1.out k0 k1)
  clear n0 n1 q0 q1 k0 k1
  go_wp2_with fail
  refine (HBK.out _).mono ?_
  rintro e w' ⟨rfl, rfl⟩
  go_wp2_with fail
  clear cE HB N0 N1 HCA HCC HKK HK HV E1
  obtain ⟨n0, hn0⟩ : ∃ n, la.length = n := ⟨_, rfl⟩
  obtain ⟨n1, hn1⟩ : ∃ n, lc.length = n := ⟨_, rfl⟩
  obtain ⟨k0, hk0⟩ : ∃ k, So.hd la = k := ⟨_, rfl⟩
  obtain ⟨k1, hk1⟩ : ∃ k, So.hd lc = k := ⟨_, rfl⟩
  obtain ⟨s0, hs0⟩ : ∃ s, brkT (decide (a.rank + 1 < 4)) (a.txt true) = s := ⟨_, rfl⟩
  obtain ⟨s1, hs1⟩ : ∃ s, brkT (decide (c.rank + 1 < 5)) (c.txt true) = s := ⟨_, rfl⟩
  have L : Hid (s0.length ≤ 1602 ∧ s1.length ≤ 1602) := by
    obtain ⟨g1, g2, g3, g4⟩ := HL.out
    rw [← hs0, ← hs1]
    have hb : ∀ (c : Bool) (l : List UInt8), (brkT c l).length ≤ l.length + 2 := fun c l => by cases c <;> simp [brkT]
    have := hb (decide (a.rank + 1 < 4)) (a.txt true)
    have := hb (decide (c.rank + 1 < 5)) (c.txt true)
    exact ⟨by omega, by omega⟩
  have FIN : Hid (s0 ++ [32, 59, 32] ++ s1 = Tm.txt true (.bin 5 a c)) := by
    show _ = brkT (decide (a.rank < lim 5)) (a.txt true) ++ sep true 5 ++ brkT (decide (c.rank < limR 5)) (c.txt true)
    rw [← hs0, ← hs1, show decide (a.rank < lim 5) = decide (a.rank + 1 < 4) from decide_eq_decide.2 (by show a.rank < 3 ↔ a.rank + 1 < 4; omega), show decide (c.rank < limR 5) = decide (c.rank + 1 < 5) from decide_eq_decide.2 (by show c.rank < 4 ↔ c.rank + 1 < 5; omega)]
    rfl
  have S0 := Lib.hid hs0
  have S1 := Lib.hid hs1
  rw [hn0, hn1, hk0, hk1] at HBT
  rw [hn0] at P0
  rw [hn1] at P1
  clear hn0 hn1 hk0 hk1 hs0 hs1 HL
  refine Rg.wp_region_kept (by kernel_rfl) [(0, some 32), (1, some 33), (2, some 34), (3, some 35), (4, some 36), (5, some 37), (6, some 38), (7, some 39), (8, some 40), (9, some 41), (10, some 42), (11, some 43), (12, some 44), (13, some 45), (14, some 2)] (by rfl) (by kernel_rfl) (by kernel_rfl) (Bt w b' o' b0 o0 n0 c0 b1 o1 n1 c1 k0 k1 la lc) (RP5 b' o' c' b0 o0 n0 c0 b1 o1 n1 c1 s0 s1) (HBT.out.below (Below.refl _ _).drew) ?_ ⟨⟨⟨⟨⟨⟨⟨⟨⟨⟨⟨⟨⟨⟨⟨True.intro, ?_⟩, ?_⟩, ?_⟩, ?_⟩, ?_⟩, ?_⟩, ?_⟩, ?_⟩, ?_⟩, ?_⟩, ?_⟩, ?_⟩, ?_⟩, ?_⟩, ?_⟩ ?_
  · intro k v w' hk
    unfold RP5
    split
    case h_16 => trivial
    all_goals exact absurd hk (by decide)
  · intro o ho f us wl al ha g hf hdep K hKf
    obtain rfl := Option.some.inj ho
    have hB := Lib.hid g.1
    have hK : ∀ v w', RP5 b' o' c' b0 o0 n0 c0 b1 o1 n1 c1 s0 s1 0 v w' → Below wl.heap.size wl w' → K (al.put (some 32) v) w' := fun v w' hv hb => hKf v w' (Rg.Kept.put (Base := Bt w b' o' b0 o0 n0 c0 b1 o1 n1 c1 k0 k1 la lc) (R := RP5 b' o' c' b0 o0 n0 c0 b1 o1 n1 c1 s0 s1) (fun _ _ h hb => h.below hb) (fun _ _ _ _ h _ => h) g hb hv)
    have e3 : al.tmps[3]?.getD undef = .slice (some ⟨b', o', none⟩) 2 c' := by rw [← Rg.eval_getD, ha]; exact (Rg.puts_eval_ne _ _ _ (by rfl)).trans rfl
    clear ha hdep g hf hKf
    refine Rg.wpOp_of rfl rfl ?_
    go_simp
    exact hK _ _ rfl (Below.refl _ _)
  · intro o ho f us wl al ha g hf hdep K hKf
    obtain rfl := Option.some.inj ho
    have hB := Lib.hid g.1
    have hK : ∀ v w', RP5 b' o' c' b0 o0 n0 c0 b1 o1 n1 c1 s0 s1 1 v w' → Below wl.heap.size wl w' → K (al.put (some 33) v) w' := fun v w' hv hb => hKf v w' (Rg.Kept.put (Base := Bt w b' o' b0 o0 n0 c0 b1 o1 n1 c1 k0 k1 la lc) (R := RP5 b' o' c' b0 o0 n0 c0 b1 o1 n1 c1 s0 s1) (fun _ _ h hb => h.below hb) (fun _ _ _ _ h _ => h) g hb hv)
    have d0 : RP5 b' o' c' b0 o0 n0 c0 b1 o1 n1 c1 s0 s1 0 (us 0) wl := g.2 0 (hdep ⟨0, .data⟩ (by simp) rfl)
    have e32 : al.tmps[32]?.getD undef = us 0 := by rw [← Rg.eval_getD, ha]; exact Rg.puts_eval _ _ _ (by rfl) (by simp) (by simp)
    clear ha hdep g hf hKf
    have f0 : us 0 = .slice (some ⟨b', o', none⟩) 2 c' := d0
    clear d0
    refine Rg.wpOp_of rfl rfl ?_
    go_simp
    exact hK _ _ rfl (Below.refl _ _)
  · intro o ho f us wl al ha g hf hdep K hKf
    obtain rfl := Option.some.inj ho
    have hB := Lib.hid g.1
    have hK : ∀ v w', RP5 b' o' c' b0 o0 n0 c0 b1 o1 n1 c1 s0 s1 2 v w' → Below wl.heap.size wl w' → K (al.put (some 34) v) w' := fun v w' hv hb => hKf v w' (Rg.Kept.put (Base := Bt w b' o' b0 o0 n0 c0 b1 o1 n1 c1 k0 k1 la lc) (R := RP5 b' o' c' b0 o0 n0 c0 b1 o1 n1 c1 s0 s1) (fun _ _ h hb => h.below hb) (fun _ _ _ _ h _ => h) g hb hv)
    have d1 : RP5 b' o' c' b0 o0 n0 c0 b1 o1 n1 c1 s0 s1 1 (us 1) wl := g.2 1 (hdep ⟨1, .data⟩ (by simp) rfl)
    have e33 : al.tmps[33]?.getD undef = us 1 := by rw [← Rg.eval_getD, ha]; exact Rg.puts_eval _ _ _ (by rfl) (by simp) (by simp)
    clear ha hdep g hf hKf
    have f1 : us 1 = .pointer (some ⟨b', o', none⟩) := d1
    clear d1
    have q := hB.out.q0
    refine Rg.wpOp_of rfl rfl ?_
    go_simp
    exact hK _ _ rfl (Below.refl _ _)
  · intro o ho f us wl al ha g hf hdep K hKf
    obtain rfl := Option.some.inj ho
    have hB := Lib.hid g.1
    have hK : ∀ v w', RP5 b' o' c' b0 o0 n0 c0 b1 o1 n1 c1 s0 s1 3 v w' → Below wl.heap.size wl w' → K (al.put (some 35) v) w' := fun v w' hv hb => hKf v w' (Rg.Kept.put (Base := Bt w b' o' b0 o0 n0 c0 b1 o1 n1 c1 k0 k1 la lc) (R := RP5 b' o' c' b0 o0 n0 c0 b1 o1 n1 c1 s0 s1) (fun _ _ h hb => h.below hb) (fun _ _ _ _ h _ => h) g hb hv)
    have e4 : al.tmps[4]?.getD undef = .int .i64 4 := by rw [← Rg.eval_getD, ha]; exact (Rg.puts_eval_ne _ _ _ (by rfl)).trans rfl
    clear ha hdep g hf hKf
    refine Rg.wpOp_of rfl rfl ?_
    go_simp
    exact hK _ _ rfl (Below.refl _ _)
  · intro o ho f us wl al ha g hf hdep K hKf
    obtain rfl := Option.some.inj ho
    have hB := Lib.hid g.1
    have hK : ∀ v w', RP5 b' o' c' b0 o0 n0 c0 b1 o1 n1 c1 s0 s1 4 v w' → Below wl.heap.size wl w' → K (al.put (some 36) v) w' := fun v w' hv hb => hKf v w' (Rg.Kept.put (Base := Bt w b' o' b0 o0 n0 c0 b1 o1 n1 c1 k0 k1 la lc) (R := RP5 b' o' c' b0 o0 n0 c0 b1 o1 n1 c1 s0 s1) (fun _ _ h hb => h.below hb) (fun _ _ _ _ h _ => h) g hb hv)
    have d2 : RP5 b' o' c' b0 o0 n0 c0 b1 o1 n1 c1 s0 s1 2 (us 2) wl := g.2 2 (hdep ⟨2, .data⟩ (by simp) rfl)
    have e34 : al.tmps[34]?.getD undef = us 2 := by rw [← Rg.eval_getD, ha]; exact Rg.puts_eval _ _ _ (by rfl) (by simp) (by simp)
    have d3 : RP5 b' o' c' b0 o0 n0 c0 b1 o1 n1 c1 s0 s1 3 (us 3) wl := g.2 3 (hdep ⟨3, .data⟩ (by simp) rfl)
    have e35 : al.tmps[35]?.getD undef = us 3 := by rw [← Rg.eval_getD, ha]; exact Rg.puts_eval _ _ _ (by rfl) (by simp) (by simp)
    clear ha hdep g hf hKf
    have f2 : us 2 = .slice (some ⟨b0, o0, none⟩) n0 c0 := d2
    clear d2
    have f3 : us 3 = .int .i64 4 := d3
    clear d3
    refine Rg.wpOp_of rfl rfl ?_
    go_simp
    refine (HW0.out _ _ hB.out.n0).mono ?_
    rintro e w' ⟨u, rfl, hu, hb⟩
    exact hK _ _ ⟨u, rfl, hu.trans S0.out⟩ hb
  · intro o ho f us wl al ha g hf hdep K hKf
    obtain rfl := Option.some.inj ho
    have hB := Lib.hid g.1
    have hK : ∀ v w', RP5 b' o' c' b0 o0 n0 c0 b1 o1 n1 c1 s0 s1 5 v w' → Below wl.heap.size wl w' → K (al.put (some 37) v) w' := fun v w' hv hb => hKf v w' (Rg.Kept.put (Base := Bt w b' o' b0 o0 n0 c0 b1 o1 n1 c1 k0 k1 la lc) (R := RP5 b' o' c' b0 o0 n0 c0 b1 o1 n1 c1 s0 s1) (fun _ _ h hb => h.below hb) (fun _ _ _ _ h _ => h) g hb hv)
    have e5 : al.tmps[5]?.getD undef = .string ⟨#[32, 59, 32]⟩ := by rw [← Rg.eval_getD, ha]; exact (Rg.puts_eval_ne _ _ _ (by rfl)).trans rfl
    clear ha hdep g hf hKf
    refine Rg.wpOp_of rfl rfl ?_
    go_simp
    exact hK _ _ rfl (Below.refl _ _)
  · intro o ho f us wl al ha g hf hdep K hKf
    obtain rfl := Option.some.inj ho
    have hB := Lib.hid g.1
    have hK : ∀ v w', RP5 b' o' c' b0 o0 n0 c0 b1 o1 n1 c1 s0 s1 6 v w' → Below wl.heap.size wl w' → K (al.put (some 38) v) w' := fun v w' hv hb => hKf v w' (Rg.Kept.put (Base := Bt w b' o' b0 o0 n0 c0 b1 o1 n1 c1 k0 k1 la lc) (R := RP5 b' o' c' b0 o0 n0 c0 b1 o1 n1 c1 s0 s1) (fun _ _ h hb => h.below hb) (fun _ _ _ _ h _ => h) g hb hv)
    have d4 : RP5 b' o' c' b0 o0 n0 c0 b1 o1 n1 c1 s0 s1 4 (us 4) wl := g.2 4 (hdep ⟨4, .data⟩ (by simp) rfl)
    have e36 : al.tmps[36]?.getD undef = us 4 := by rw [← Rg.eval_getD, ha]; exact Rg.puts_eval _ _ _ (by rfl) (by simp) (by simp)
    have d5 : RP5 b' o' c' b0 o0 n0 c0 b1 o1 n1 c1 s0 s1 5 (us 5) wl := g.2 5 (hdep ⟨5, .data⟩ (by simp) rfl)
    have e37 : al.tmps[37]?.getD undef = us 5 := by rw [← Rg.eval_getD, ha]; exact Rg.puts_eval _ _ _ (by rfl) (by simp) (by simp)
    clear ha hdep g hf hKf
    obtain ⟨u4, f4, hu4⟩ : IsT (us 4) (s0) := d4
    have z4 : u4.size = (s0).length := by rw [← hu4]; exact (bytes_len u4).symm
    have HU4 := Lib.hid hu4
    clear hu4
    have f5 : us 5 = .string ⟨#[32, 59, 32]⟩ := d5
    clear d5
    have L0 := L.out
    refine Rg.wpOp_of rfl rfl ?_
    go_simp
    first | rw [if_neg (by omega)] | skip
    refine hK _ _ ?_ (Below.refl _ _)
    exact ⟨_, rfl, by rw [bytes_app, HU4.out]⟩
  · intro o ho f us wl al ha g hf hdep K hKf
    obtain rfl := Option.some.inj ho
    have hB := Lib.hid g.1
    have hK : ∀ v w', RP5 b' o' c' b0 o0 n0 c0 b1 o1 n1 c1 s0 s1 7 v w' → Below wl.heap.size wl w' → K (al.put (some 39) v) w' := fun v w' hv hb => hKf v w' (Rg.Kept.put (Base := Bt w b' o' b0 o0 n0 c0 b1 o1 n1 c1 k0 k1 la lc) (R := RP5 b' o' c' b0 o0 n0 c0 b1 o1 n1 c1 s0 s1) (fun _ _ h hb => h.below hb) (fun _ _ _ _ h _ => h) g hb hv)
    have e3 : al.tmps[3]?.getD undef = .slice (some ⟨b', o', none⟩) 2 c' := by rw [← Rg.eval_getD, ha]; exact (Rg.puts_eval_ne _ _ _ (by rfl)).trans rfl
    clear ha hdep g hf hKf
    refine Rg.wpOp_of rfl rfl ?_
    go_simp
    exact hK _ _ rfl (Below.refl _ _)
  · intro o ho f us wl al ha g hf hdep K hKf
    obtain rfl := Option.some.inj ho
    have hB := Lib.hid g.1
    have hK : ∀ v w', RP5 b' o' c' b0 o0 n0 c0 b1 o1 n1 c1 s0 s1 8 v w' → Below wl.heap.size wl w' → K (al.put (some 40) v) w' := fun v w' hv hb => hKf v w' (Rg.Kept.put (Base := Bt w b' o' b0 o0 n0 c0 b1 o1 n1 c1 k0 k1 la lc) (R := RP5 b' o' c' b0 o0 n0 c0 b1 o1 n1 c1 s0 s1) (fun _ _ h hb => h.below hb) (fun _ _ _ _ h _ => h) g hb hv)
    have d7 : RP5 b' o' c' b0 o0 n0 c0 b1 o1 n1 c1 s0 s1 7 (us 7) wl := g.2 7 (hdep ⟨7, .data⟩ (by simp) rfl)
    have e39 : al.tmps[39]?.getD undef = us 7 := by rw [← Rg.eval_getD, ha]; exact Rg.puts_eval _ _ _ (by rfl) (by simp) (by simp)
    clear ha hdep g hf hKf
    have f7 : us 7 = .slice (some ⟨b', o', none⟩) 2 c' := d7
    clear d7
    refine Rg.wpOp_of rfl rfl ?_
    go_simp
    exact hK _ _ rfl (Below.refl _ _)
  · intro o ho f us wl al ha g hf hdep K hKf
    obtain rfl := Option.some.inj ho
    have hB := Lib.hid g.1
    have hK : ∀ v w', RP5 b' o' c' b0 o0 n0 c0 b1 o1 n1 c1 s0 s1 9 v w' → Below wl.heap.size wl w' → K (al.put (some 41) v) w' := fun v w' hv hb => hKf v w' (Rg.Kept.put (Base := Bt w b' o' b0 o0 n0 c0 b1 o1 n1 c1 k0 k1 la lc) (R := RP5 b' o' c' b0 o0 n0 c0 b1 o1 n1 c1 s0 s1) (fun _ _ h hb => h.below hb) (fun _ _ _ _ h _ => h) g hb hv)
    have d8 : RP5 b' o' c' b0 o0 n0 c0 b1 o1 n1 c1 s0 s1 8 (us 8) wl := g.2 8 (hdep ⟨8, .data⟩ (by simp) rfl)
    have e40 : al.tmps[40]?.getD undef = us 8 := by rw [← Rg.eval_getD, ha]; exact Rg.puts_eval _ _ _ (by rfl) (by simp) (by simp)
    clear ha hdep g hf hKf
    have f8 : us 8 = .pointer (some ⟨b', o' + 1, none⟩) := d8
    clear d8
    have q := hB.out.q1
    refine Rg.wpOp_of rfl rfl ?_
    go_simp
    exact hK _ _ rfl (Below.refl _ _)
  · intro o ho f us wl al ha g hf hdep K hKf
    obtain rfl := Option.some.inj ho
    have hB := Lib.hid g.1
    have hK : ∀ v w', RP5 b' o' c' b0 o0 n0 c0 b1 o1 n1 c1 s0 s1 10 v w' → Below wl.heap.size wl w' → K (al.put (some 42) v) w' := fun v w' hv hb => hKf v w' (Rg.Kept.put (Base := Bt w b' o' b0 o0 n0 c0 b1 o1 n1 c1 k0 k1 la lc) (R := RP5 b' o' c' b0 o0 n0 c0 b1 o1 n1 c1 s0 s1) (fun _ _ h hb => h.below hb) (fun _ _ _ _ h _ => h) g hb hv)
    have e4 : al.tmps[4]?.getD undef = .int .i64 4 := by rw [← Rg.eval_getD, ha]; exact (Rg.puts_eval_ne _ _ _ (by rfl)).trans rfl
    clear ha hdep g hf hKf
    refine Rg.wpOp_of rfl rfl ?_
    go_simp
    exact hK _ _ rfl (Below.refl _ _)
  · intro o ho f us wl al ha g hf hdep K hKf
    obtain rfl := Option.some.inj ho
    have hB := Lib.hid g.1
    have hK : ∀ v w', RP5 b' o' c' b0 o0 n0 c0 b1 o1 n1 c1 s0 s1 11 v w' → Below wl.heap.size wl w' → K (al.put (some 43) v) w' := fun v w' hv hb => hKf v w' (Rg.Kept.put (Base := Bt w b' o' b0 o0 n0 c0 b1 o1 n1 c1 k0 k1 la lc) (R := RP5 b' o' c' b0 o0 n0 c0 b1 o1 n1 c1 s0 s1) (fun _ _ h hb => h.below hb) (fun _ _ _ _ h _ => h) g hb hv)
    have d10 : RP5 b' o' c' b0 o0 n0 c0 b1 o1 n1 c1 s0 s1 10 (us 10) wl := g.2 10 (hdep ⟨10, .data⟩ (by simp) rfl)
    have e42 : al.tmps[42]?.getD undef = us 10 := by rw [← Rg.eval_getD, ha]; exact Rg.puts_eval _ _ _ (by rfl) (by simp) (by simp)
    clear ha hdep g hf hKf
    have f10 : us 10 = .int .i64 4 := d10
    clear d10
    refine Rg.wpOp_of rfl rfl ?_
    go_simp
    exact hK _ _ rfl (Below.refl _ _)
  · intro o ho f us wl al ha g hf hdep K hKf
    obtain rfl := Option.some.inj ho
    have hB := Lib.hid g.1
    have hK : ∀ v w', RP5 b' o' c' b0 o0 n0 c0 b1 o1 n1 c1 s0 s1 12 v w' → Below wl.heap.size wl w' → K (al.put (some 44) v) w' := fun v w' hv hb => hKf v w' (Rg.Kept.put (Base := Bt w b' o' b0 o0 n0 c0 b1 o1 n1 c1 k0 k1 la lc) (R := RP5 b' o' c' b0 o0 n0 c0 b1 o1 n1 c1 s0 s1) (fun _ _ h hb => h.below hb) (fun _ _ _ _ h _ => h) g hb hv)
    have d9 : RP5 b' o' c' b0 o0 n0 c0 b1 o1 n1 c1 s0 s1 9 (us 9) wl := g.2 9 (hdep ⟨9, .data⟩ (by simp) rfl)
    have e41 : al.tmps[41]?.getD undef = us 9 := by rw [← Rg.eval_getD, ha]; exact Rg.puts_eval _ _ _ (by rfl) (by simp) (by simp)
    have d11 : RP5 b' o' c' b0 o0 n0 c0 b1 o1 n1 c1 s0 s1 11 (us 11) wl := g.2 11 (hdep ⟨11, .data⟩ (by simp) rfl)
    have e43 : al.tmps[43]?.getD undef = us 11 := by rw [← Rg.eval_getD, ha]; exact Rg.puts_eval _ _ _ (by rfl) (by simp) (by simp)
    clear ha hdep g hf hKf
    have f9 : us 9 = .slice (some ⟨b1, o1, none⟩) n1 c1 := d9
    clear d9
    have f11 : us 11 = .int .i64 5 := d11
    clear d11
    refine Rg.wpOp_of rfl rfl ?_
    go_simp
    refine (HW1.out _ _ hB.out.n1).mono ?_
    rintro e w' ⟨u, rfl, hu, hb⟩
    exact hK _ _ ⟨u, rfl, hu.trans S1.out⟩ hb
  · intro o ho f us wl al ha g hf hdep K hKf
    obtain rfl := Option.some.inj ho
    have hB := Lib.hid g.1
    have hK : ∀ v w', RP5 b' o' c' b0 o0 n0 c0 b1 o1 n1 c1 s0 s1 13 v w' → Below wl.heap.size wl w' → K (al.put (some 45) v) w' := fun v w' hv hb => hKf v w' (Rg.Kept.put (Base := Bt w b' o' b0 o0 n0 c0 b1 o1 n1 c1 k0 k1 la lc) (R := RP5 b' o' c' b0 o0 n0 c0 b1 o1 n1 c1 s0 s1) (fun _ _ h hb => h.below hb) (fun _ _ _ _ h _ => h) g hb hv)
    have d6 : RP5 b' o' c' b0 o0 n0 c0 b1 o1 n1 c1 s0 s1 6 (us 6) wl := g.2 6 (hdep ⟨6, .data⟩ (by simp) rfl)
    have e38 : al.tmps[38]?.getD undef = us 6 := by rw [← Rg.eval_getD, ha]; exact Rg.puts_eval _ _ _ (by rfl) (by simp) (by simp)
    have d12 : RP5 b' o' c' b0 o0 n0 c0 b1 o1 n1 c1 s0 s1 12 (us 12) wl := g.2 12 (hdep ⟨12, .data⟩ (by simp) rfl)
    have e44 : al.tmps[44]?.getD undef = us 12 := by rw [← Rg.eval_getD, ha]; exact Rg.puts_eval _ _ _ (by rfl) (by simp) (by simp)
    clear ha hdep g hf hKf
    obtain ⟨u6, f6, hu6⟩ : IsT (us 6) (s0 ++ [32, 59, 32]) := d6
    have z6 : u6.size = (s0 ++ [32, 59, 32]).length := by rw [← hu6]; exact (bytes_len u6).symm
    simp only [List.length_append, List.length_cons, List.length_nil] at z6
    have HU6 := Lib.hid hu6
    clear hu6
    obtain ⟨u12, f12, hu12⟩ : IsT (us 12) (s1) := d12
    have z12 : u12.size = (s1).length := by rw [← hu12]; exact (bytes_len u12).symm
    have HU12 := Lib.hid hu12
    clear hu12
    have L0 := L.out
    refine Rg.wpOp_of rfl rfl ?_
    go_simp
    first | rw [if_neg (by omega)] | skip
    refine hK _ _ ?_ (Below.refl _ _)
    exact ⟨_, rfl, by rw [bytes_app, HU6.out, HU12.out]⟩
  · intro o ho f us wl al ha g hf hdep K hKf
    obtain rfl := Option.some.inj ho
    have hB := Lib.hid g.1
    have hK : ∀ v w', RP5 b' o' c' b0 o0 n0 c0 b1 o1 n1 c1 s0 s1 14 v w' → Below wl.heap.size wl w' → K (al.put (some 2) v) w' := fun v w' hv hb => hKf v w' (Rg.Kept.put (Base := Bt w b' o' b0 o0 n0 c0 b1 o1 n1 c1 k0 k1 la lc) (R := RP5 b' o' c' b0 o0 n0 c0 b1 o1 n1 c1 s0 s1) (fun _ _ h hb => h.below hb) (fun _ _ _ _ h _ => h) g hb hv)
    have d13 : RP5 b' o' c' b0 o0 n0 c0 b1 o1 n1 c1 s0 s1 13 (us 13) wl := g.2 13 (hdep ⟨13, .data⟩ (by simp) rfl)
    have e45 : al.tmps[45]?.getD undef = us 13 := by rw [← Rg.eval_getD, ha]; exact Rg.puts_eval _ _ _ (by rfl) (by simp) (by simp)
    clear ha hdep g hf hKf
    obtain ⟨u13, f13, hu13⟩ : IsT (us 13) (s0 ++ [32, 59, 32] ++ s1) := d13
    have z13 : u13.size = (s0 ++ [32, 59, 32] ++ s1).length := by rw [← hu13]; exact (bytes_len u13).symm
    simp only [List.length_append, List.length_cons, List.length_nil] at z13
    have HU13 := Lib.hid hu13
    clear hu13
    refine Rg.wpOp_of rfl rfl ?_
    go_simp
    exact hK _ _ ⟨_, rfl, HU13.out⟩ (Below.refl _ _)
  · intro us wz hB hR
    obtain ⟨u, fu, hu⟩ : IsT (us 14) (s0 ++ [32, 59, 32] ++ s1) := hR 14
    have HB2 := Lib.hid hB.bel
    have HU := Lib.hid hu
    clear hB hR hu
    simp only [Rg.puts, Act.put, List.setIfInBounds_toArray, List.set_cons_zero, List.set_cons_succ, fu]
    go_wp2_with fail
    go_ret
    exact ⟨_, rfl, by rw [HU.out, FIN.out], HB2.out⟩

def RP6 (b' o' c' b0 o0 n0 c0 b1 o1 n1 c1 : Nat) (s0 s1 : List UInt8) (k : Nat) (v : Value) (_ : World) : Prop := match k with
  | 0 => v = .slice (some ⟨b', o', none⟩) 2 c'
  | 1 => v = .pointer (some ⟨b', o', none⟩)
  | 2 => v = .slice (some ⟨b0, o0, none⟩) n0 c0
  | 3 => v = .int .i64 2
  | 4 => IsT v s0
  | 5 => v = .string ⟨#[32, 43, 32]⟩
  | 6 => IsT v (s0 ++ [32, 43, 32])
  | 7 => v = .slice (some ⟨b', o', none⟩) 2 c'
  | 8 => v = .pointer (some ⟨b', o' + 1, none⟩)
  | 9 => v = .slice (some ⟨b1, o1, none⟩) n1 c1
  | 10 => v = .int .i64 2
  | 11 => v = .int .i64 3
  | 12 => IsT v s1
  | 13 => IsT v (s0 ++ [32, 43, 32] ++ s1)
  | 14 => IsT v (s0 ++ [32, 43, 32] ++ s1)
  | _ => True

set_option maxHeartbeats 8000000 in
theorem textP_6 {a c : Tm} (ha : TextP a) (hc : TextP c) (hna : a.nam) (hnc : c.nam) : TextP (.bin 6 a c) := by
  intro l v w hcv hv hl
  obtain ⟨ht, hh, la, lc, hk, hca, hcc, rfl⟩ := hcv
  have hl2 : la.length ≤ 200 := by simp at hl; omega
  have hl3 : lc.length ≤ 200 := by simp at hl; omega
  have hlen := txt_len true a hna
  rw [hca.row] at hlen
  have hlen2 := txt_len true c hnc
  rw [hcc.row] at hlen2
  have HW0 := Lib.hid (fun w' v' hv' => withinP_any ha hca (v := v') (w := w') hv' hl2 hna 2)
  have HW1 := Lib.hid (fun w' v' hv' => withinP_any hc hcc (v := v') (w := w') hv' hl3 hnc 3)
  have HBK : Hid (∀ w', Calls Try.prog 56 #[.int .i64 6] w' fun e w'' => e = .returned (.tuple #[.int .i64 2, .string ⟨#[32, 43, 32]⟩]) ∧ w' = w'') := Lib.hid (fun w' => bind_any 6 w')
  have HK := Lib.hid (fun w' v' hv' => kidsW_any v' (nOf 6 :: (la ++ lc)) w' hv' (by omega))
  have HV := Lib.hid hv
  have HKK := Lib.hid hk
  have P0 := Lib.hid hca.tre.pos
  have P1 := Lib.hid hcc.tre.pos
  rcases hv.form with ⟨h0, _⟩ | ⟨b, off, cap, rfl, _, hat⟩
  · cases h0
  obtain ⟨e1, e2, e3⟩ := hat 0 (by simp)
  rw [Nat.zero_mul, Nat.add_zero] at e1 e2
  have E1 := Lib.hid e1
  simp only [List.getElem_cons_zero] at E1
  have HCA := Lib.hid hca
  have HCC := Lib.hid hcc
  have HL := Lib.hid (And.intro hlen (And.intro hlen2 (And.intro hl2 hl3)))
  clear hat e1 e2 e3 ht hh hk hv hlen hlen2 hl2 hl3 hca hcc hna hnc
  have hN0 : 0 < (nOf 6 :: (la ++ lc)).length := by simp
  rw [show (nOf 6).k = 6 from rfl] at E1
  generalize (nOf 6 :: (la ++ lc)).length = N at *
  go_enter Try.func32, Try.ntmps32
  go_wp2_with fail
  refine (HK.out _ _ HV.out).mono ?_
  rintro e w1 ⟨y, rfl, hy, hb⟩
  have cE := E1.out
  rw [← hb.cell (Ap.cell_lt cE)] at cE
  rw [HKK.out] at hy
  obtain ⟨b', o', c', a0, a1, rfl, q0, q1, n0, n1⟩ := two_rows hy
  have N0 := Lib.hid n0
  have N1 := Lib.hid n1
  have HB := Lib.hid hb
  clear hb hy
  obtain ⟨b0, o0, c0, rfl, k0⟩ := HCA.out.head n0
  obtain ⟨b1, o1, c1, rfl, k1⟩ := HCC.out.head n1
  have HBT := Lib.hid (Bt.mk HB.out q0 q1 N0.out N1.out k0 k1)
  clear n0 n1 q0 q1 k0 k1
  go_wp2_with fail
  refine (HBK.out _).mono ?_
  rintro e w' ⟨rfl, rfl⟩
  go_wp2_with fail
  clear cE HB N0 N1 HCA HCC HKK HK HV E1
  obtain ⟨n0, hn0⟩ : ∃ n, la.length = n := ⟨_, rfl⟩
  obtain ⟨n1, hn1⟩ : ∃ n, lc.length = n := ⟨_, rfl⟩
  obtain ⟨k0, hk0⟩ : ∃ k, So.hd la = k := ⟨_, rfl⟩
  obtain ⟨k1, hk1⟩ : ∃ k, So.hd lc = k := ⟨_, rfl⟩
  obtain ⟨s0, hs0⟩ : ∃ s, brkT (decide (a.rank + 1 < 2)) (a.txt true) = s := ⟨_, rfl⟩
  obtain ⟨s1, hs1⟩ : ∃ s, brkT (decide (c.rank + 1 < 3)) (c.txt true) = s := ⟨_, rfl⟩
  have L : Hid (s0.length ≤ 1602 ∧ s1.length ≤ 1602) := by
    obtain ⟨g1, g2, g3, g4⟩ := HL.out
    rw [← hs0, ← hs1]
    have hb : ∀ (c : Bool) (l : List UInt8), (brkT c l).length ≤ l.length + 2 := fun c l => by cases c <;> simp [brkT]
    have := hb (decide (a.rank + 1 < 2)) (a.txt true)
    have := hb (decide (c.rank + 1 < 3)) (c.txt true)
    exact ⟨by omega, by omega⟩
  have FIN : Hid (s0 ++ [32, 43, 32] ++ s1 = Tm.txt true (.bin 6 a c)) := by
    show _ = brkT (decide (a.rank < lim 6)) (a.txt true) ++ sep true 6 ++ brkT (decide (c.rank < limR 6)) (c.txt true)
    rw [← hs0, ← hs1, show decide (a.rank < lim 6) = decide (a.rank + 1 < 2) from decide_eq_decide.2 (by show a.rank < 1 ↔ a.rank + 1 < 2; omega), show decide (c.rank < limR 6) = decide (c.rank + 1 < 3) from decide_eq_decide.2 (by show c.rank < 2 ↔ c.rank + 1 < 3; omega)]
    rfl
  have S0 := Lib.hid hs0
  have S1 := Lib.hid hs1
  rw [hn0, hn1, hk0, hk1] at HBT
  rw [hn0] at P0
  rw [hn1] at P1
  clear hn0 hn1 hk0 hk1 hs0 hs1 HL
  refine Rg.wp_region_kept (by kernel_rfl) [(0, some 32), (1, some 33), (2, some 34), (3, some 35), (4, some 36), (5, some 37), (6, some 38), (7, some 39), (8, some 40), (9, some 41), (10, some 42), (11, some 43), (12, some 44), (13, some 45), (14, some 2)] (by rfl) (by kernel_rfl) (by kernel_rfl) (Bt w b' o' b0 o0 n0 c0 b1 o1 n1 c1 k0 k1 la lc) (RP6 b' o' c' b0 o0 n0 c0 b1 o1 n1 c1 s0 s1) (HBT.out.below (Below.refl _ _).drew) ?_ ⟨⟨⟨⟨⟨⟨⟨⟨⟨⟨⟨⟨⟨⟨⟨True.intro, ?_⟩, ?_⟩, ?_⟩, ?_⟩, ?_⟩, ?_⟩, ?_⟩, ?_⟩, ?_⟩, ?_⟩, ?_⟩, ?_⟩, ?_⟩, ?_⟩, ?_⟩ ?_
  · intro k v w' hk
    unfold RP6
    split
    case h_16 => trivial
    all_goals exact absurd hk (by decide)
  · intro o ho f us wl al ha g hf hdep K hKf
    obtain rfl := Option.some.inj ho
    have hB := Lib.hid g.1
    have hK : ∀ v w', RP6 b' o' c' b0 o0 n0 c0 b1 o1 n1 c1 s0 s1 0 v w' → Below wl.heap.size wl w' → K (al.put (some 32) v) w' := fun v w' hv hb => hKf v w' (Rg.Kept.put (Base := Bt w b' o' b0 o0 n0 c0 b1 o1 n1 c1 k0 k1 la lc) (R := RP6 b' o' c' b0 o0 n0 c0 b1 o1 n1 c1 s0 s1) (fun _ _ h hb => h.below hb) (fun _ _ _ _ h _ => h) g hb hv)
    have e3 : al.tmps[3]?.getD undef = .slice (some ⟨b', o', none⟩) 2 c' := by rw [← Rg.eval_getD, ha]; exact (Rg.puts_eval_ne _ _ _ (by rfl)).trans rfl
    clear ha hdep g hf hKf
    refine Rg.wpOp_of rfl rfl ?_
    go_simp
    exact hK _ _ rfl (Below.refl _ _)
  · intro o ho f us wl al ha g hf hdep K hKf
    obtain rfl := Option.some.inj ho
    have hB := Lib.hid g.1
    have hK : ∀ v w', RP6 b' o' c' b0 o0 n0 c0 b1 o1 n1 c1 s0 s1 1 v w' → Below wl.heap.size wl w' → K (al.put (some 33) v) w' := fun v w' hv hb => hKf v w' (Rg.Kept.put (Base := Bt w b' o' b0 o0 n0 c0 b1 o1 n1 c1 k0 k1 la lc) (R := RP6 b' o' c' b0 o0 n0 c0 b1 o1 n1 c1 s0 s1) (fun _ _ h hb => h.below hb) (fun _ _ _ _ h _ => h) g hb hv)
    have d0 : RP6 b' o' c' b0 o0 n0 c0 b1 o1 n1 c1 s0 s1 0 (us 0) wl := g.2 0 (hdep ⟨0, .data⟩ (by simp) rfl)
    have e32 : al.tmps[32]?.getD undef = us 0 := by rw [← Rg.eval_getD, ha]; exact Rg.puts_eval _ _ _ (by rfl) (by simp) (by simp)
    clear ha hdep g hf hKf
    have f0 : us 0 = .slice (some ⟨b', o', none⟩) 2 c' := d0
    clear d0
    refine Rg.wpOp_of rfl rfl ?_
    go_simp
    exact hK _ _ rfl (Below.refl _ _)
  · intro o ho f us wl al ha g hf hdep K hKf
    obtain rfl := Option.some.inj ho
    have hB := Lib.hid g.1
    have hK : ∀ v w', RP6 b' o' c' b0 o0 n0 c0 b1 o1 n1 c1 s0 s1 2 v w' → Below wl.heap.size wl w' → K (al.put (some 34) v) w' := fun v w' hv hb => hKf v w' (Rg.Kept.put (Base := Bt w b' o' b0 o0 n0 c0 b1 o1 n1 c1 k0 k1 la lc) (R := RP6 b' o' c' b0 o0 n0 c0 b1 o1 n1 c1 s0 s1) (fun _ _ h hb => h.below hb) (fun _ _ _ _ h _ => h) g hb hv)
    have d1 : RP6 b' o' c' b0 o0 n0 c0 b1 o1 n1 c1 s0 s1 1 (us 1) wl := g.2 1 (hdep ⟨1, .data⟩ (by simp) rfl)
    have e33 : al.tmps[33]?.getD undef = us 1 := by rw [← Rg.eval_getD, ha]; exact Rg.puts_eval _ _ _ (by rfl) (by simp) (by simp)
    clear ha hdep g hf hKf
    have f1 : us 1 = .pointer (some ⟨b', o', none⟩) := d1
    clear d1
    have q := hB.out.q0
    refine Rg.wpOp_of rfl rfl ?_
    go_simp
    exact hK _ _ rfl (Below.refl _ _)
  · intro o ho f us wl al ha g hf hdep K hKf
    obtain rfl := Option.some.inj ho
    have hB := Lib.hid g.1
    have hK : ∀ v w', RP6 b' o' c' b0 o0 n0 c0 b1 o1 n1 c1 s0 s1 3 v w' → Below wl.heap.size wl w' → K (al.put (some 35) v) w' := fun v w' hv hb => hKf v w' (Rg.Kept.put (Base := Bt w b' o' b0 o0 n0 c0 b1 o1 n1 c1 k0 k1 la lc) (R := RP6 b' o' c' b0 o0 n0 c0 b1 o1 n1 c1 s0 s1) (fun _ _ h hb => h.below hb) (fun _ _ _ _ h _ => h) g hb hv)
    have e4 : al.tmps[4]?.getD undef = .int .i64 2 := by rw [← Rg.eval_getD, ha]; exact (Rg.puts_eval_ne _ _ _ (by rfl)).trans rfl
    clear ha hdep g hf hKf
    refine Rg.wpOp_of rfl rfl ?_
    go_simp
    exact hK _ _ rfl (Below.refl _ _)
  · intro o ho f us wl al ha g hf hdep K hKf
    obtain rfl := Option.some.inj ho
    have hB := Lib.hid g.1
    have hK : ∀ v w', RP6 b' o' c' b0 o0 n0 c0 b1 o1 n1 c1 s0 s1 4 v w' → Below wl.heap.size wl w' → K (al.put (some 36) v) w' := fun v w' hv hb => hKf v w' (Rg.Kept.put (Base := Bt w b' o' b0 o0 n0 c0 b1 o1 n1 c1 k0 k1 la lc) (R := RP6 b' o' c' b0 o0 n0 c0 b1 o1 n1 c1 s0 s1) (fun _ _ h hb => h.below hb) (fun _ _ _ _ h _ => h) g hb hv)
    have d2 : RP6 b' o' c' b0 o0 n0 c0 b1 o1 n1 c1 s0 s1 2 (us 2) wl := g.2 2 (hdep ⟨2, .data⟩ (by simp) rfl)
    have e34 : al.tmps[34]?.getD undef = us 2 := by rw [← Rg.eval_getD, ha]; exact Rg.puts_eval _ _ _ (by rfl) (by simp) (by simp)
    have d3 : RP6 b' o' c' b0 o0 n0 c0 b1 o1 n1 c1 s0 s1 3 (us 3) wl := g.2 3 (hdep ⟨3, .data⟩ (by simp) rfl)
    have e35 : al.tmps[35]?.getD undef = us 3 := by rw [← Rg.eval_getD, ha]; exact Rg.puts_eval _ _ _ (by rfl) (by simp) (by simp)
    clear ha hdep g hf hKf
    have f2 : us 2 = .slice (some ⟨b0, o0, none⟩) n0 c0 := d2
    clear d2
    have f3 : us 3 = .int .i64 2 := d3
    clear d3
    refine Rg.wpOp_of rfl rfl ?_
    go_simp
    refine (HW0.out _ _ hB.out.n0).mono ?_
    rintro e w' ⟨u, rfl, hu, hb⟩
    exact hK _ _ ⟨u, rfl, hu.trans S0.out⟩ hb
  · intro o ho f us wl al ha g hf hdep K hKf
    obtain rfl := Option.some.inj ho
    have hB := Lib.hid g.1
    have hK : ∀ v w', RP6 b' o' c' b0 o0 n0 c0 b1 o1 n1 c1 s0 s1 5 v w' → Below wl.heap.size wl w' → K (al.put (some 37) v) w' := fun v w' hv hb => hKf v w' (Rg.Kept.put (Base := Bt w b' o' b0 o0 n0 c0 b1 o1 n1 c1 k0 k1 la lc) (R := RP6 b' o' c' b0 o0 n0 c0 b1 o1 n1 c1 s0 s1) (fun _ _ h hb => h.below hb) (fun _ _ _ _ h _ => h) g hb hv)
    have e5 : al.tmps[5]?.getD undef = .string ⟨#[32, 43, 32]⟩ := by rw [← Rg.eval_getD, ha]; exact (Rg.puts_eval_ne _ _ _ (by rfl)).trans rfl
    clear ha hdep g hf hKf
    refine Rg.wpOp_of rfl rfl ?_
    go_simp
    exact hK _ _ rfl (Below.refl _ _)
  · intro o ho f us wl al ha g hf hdep K hKf
    obtain rfl := Option.some.inj ho
    have hB := Lib.hid g.1
    have hK : ∀ v w', RP6 b' o' c' b0 o0 n0 c0 b1 o1 n1 c1 s0 s1 6 v w' → Below wl.heap.size wl w' → K (al.put (some 38) v) w' := fun v w' hv hb => hKf v w' (Rg.Kept.put (Base := Bt w b' o' b0 o0 n0 c0 b1 o1 n1 c1 k0 k1 la lc) (R := RP6 b' o' c' b0 o0 n0 c0 b1 o1 n1 c1 s0 s1) (fun _ _ h hb => h.below hb) (fun _ _ _ _ h _ => h) g hb hv)
    have d4 : RP6 b' o' c' b0 o0 n0 c0 b1 o1 n1 c1 s0 s1 4 (us 4) wl := g.2 4 (hdep ⟨4, .data⟩ (by simp) rfl)
    have e36 : al.tmps[36]?.getD undef = us 4 := by rw [← Rg.eval_getD, ha]; exact Rg.puts_eval _ _ _ (by rfl) (by simp) (by simp)
    have d5 : RP6 b' o' c' b0 o0 n0 c0 b1 o1 n1 c1 s0 s1 5 (us 5) wl := g.2 5 (hdep ⟨5, .data⟩ (by simp) rfl)
    have e37 : al.tmps[37]?.getD undef = us 5 := by rw [← Rg.eval_getD, ha]; exact Rg.puts_eval _ _ _ (by rfl) (by simp) (by simp)
    clear ha hdep g hf hKf
    obtain ⟨u4, f4, hu4⟩ : IsT (us 4) (s0) := d4
    have z4 : u4.size = (s0).length := by rw [← hu4]; exact (bytes_len u4).symm
    have HU4 := Lib.hid hu4
    clear hu4
    have f5 : us 5 = .string ⟨#[32, 43, 32]⟩ := d5
    clear d5
    have L0 := L.out
    refine Rg.wpOp_of rfl rfl ?_
    go_simp
    first | rw [if_neg (by omega)] | skip
    refine hK _ _ ?_ (Below.refl _ _)
    exact ⟨_, rfl, by rw [bytes_app, HU4.out]⟩
  · intro o ho f us wl al ha g hf hdep K hKf
    obtain rfl := Option.some.inj ho
    have hB := Lib.hid g.1
    have hK : ∀ v w', RP6 b' o' c' b0 o0 n0 c0 b1 o1 n1 c1 s0 s1 7 v w' → Below wl.heap.size wl w' → K (al.put (some 39) v) w' := fun v w' hv hb => hKf v w' (Rg.Kept.put (Base := Bt w b' o' b0 o0 n0 c0 b1 o1 n1 c1 k0 k1 la lc) (R := RP6 b' o' c' b0 o0 n0 c0 b1 o1 n1 c1 s0 s1) (fun _ _ h hb => h.below hb) (fun _ _ _ _ h _ => h) g hb hv)
    have e3 : al.tmps[3]?.getD undef = .slice (some ⟨b', o', none⟩) 2 c' := by rw [← Rg.eval_getD, ha]; exact (Rg.puts_eval_ne _ _ _ (by rfl)).trans rfl
    clear ha hdep g hf hKf
    refine Rg.wpOp_of rfl rfl ?_
    go_simp
    exact hK _ _ rfl (Below.refl _ _)
  · intro o ho f us wl al ha g hf hdep K hKf
    obtain rfl := Option.some.inj ho
    have hB := Lib.hid g.1
    have hK : ∀ v w', RP6 b' o' c' b0 o0 n0 c0 b1 o1 n1 c1 s0 s1 8 v w' → Below wl.heap.size wl w' → K (al.put (some 40) v) w' := fun v w' hv hb => hKf v w' (Rg.Kept.put (Base := Bt w b' o' b0 o0 n0 c0 b1 o1 n1 c1 k0 k1 la lc) (R := RP6 b' o' c' b0 o0 n0 c0 b1 o1 n1 c1 s0 s1) (fun _ _ h hb => h.below hb) (fun _ _ _ _ h _ => h) g hb hv)
    have d7 : RP6 b' o' c' b0 o0 n0 c0 b1 o1 n1 c1 s0 s1 7 (us 7) wl := g.2 7 (hdep ⟨7, .data⟩ (by simp) rfl)
    have e39 : al.tmps[39]?.getD undef = us 7 := by rw [← Rg.eval_getD, ha]; exact Rg.puts_eval _ _ _ (by rfl) (by simp) (by simp)
    clear ha hdep g hf hKf
    have f7 : us 7 = .slice (some ⟨b', o', none⟩) 2 c' := d7
    clear d7
    refine Rg.wpOp_of rfl rfl ?_
    go_simp
    exact hK _ _ rfl (Below.refl _ _)
  · intro o ho f us wl al ha g hf hdep K hKf
    obtain rfl := Option.some.inj ho
    have hB := Lib.hid g.1
    have hK : ∀ v w', RP6 b' o' c' b0 o0 n0 c0 b1 o1 n1 c1 s0 s1 9 v w' → Below wl.heap.size wl w' → K (al.put (some 41) v) w' := fun v w' hv hb => hKf v w' (Rg.Kept.put (Base := Bt w b' o' b0 o0 n0 c0 b1 o1 n1 c1 k0 k1 la lc) (R := RP6 b' o' c' b0 o0 n0 c0 b1 o1 n1 c1 s0 s1) (fun _ _ h hb => h.below hb) (fun _ _ _ _ h _ => h) g hb hv)
    have d8 : RP6 b' o' c' b0 o0 n0 c0 b1 o1 n1 c1 s0 s1 8 (us 8) wl := g.2 8 (hdep ⟨8, .data⟩ (by simp) rfl)
    have e40 : al.tmps[40]?.getD undef = us 8 := by rw [← Rg.eval_getD, ha]; exact Rg.puts_eval _ _ _ (by rfl) (by simp) (by simp)
    clear ha hdep g hf hKf
    have f8 : us 8 = .pointer (some ⟨b', o' + 1, none⟩) := d8
    clear d8
    have q := hB.out.q1
    refine Rg.wpOp_of rfl rfl ?_
    go_simp
    exact hK _ _ rfl (Below.refl _ _)
  · intro o ho f us wl al ha g hf hdep K hKf
    obtain rfl := Option.some.inj ho
    have hB := Lib.hid g.1
    have hK : ∀ v w', RP6 b' o' c' b0 o0 n0 c0 b1 o1 n1 c1 s0 s1 10 v w' → Below wl.heap.size wl w' → K (al.put (some 42) v) w' := fun v w' hv hb => hKf v w' (Rg.Kept.put (Base := Bt w b' o' b0 o0 n0 c0 b1 o1 n1 c1 k0 k1 la lc) (R := RP6 b' o' c' b0 o0 n0 c0 b1 o1 n1 c1 s0 s1) (fun _ _ h hb => h.below hb) (fun _ _ _ _ h _ => h) g hb hv)
    have e4 : al.tmps[4]?.getD undef = .int .i64 2 := by rw [← Rg.eval_getD, ha]; exact (Rg.puts_eval_ne _ _ _ (by rfl)).trans rfl
    clear ha hdep g hf hKf
    refine Rg.wpOp_of rfl rfl ?_
    go_simp
    exact hK _ _ rfl (Below.refl _ _)
  · intro o ho f us wl al ha g hf hdep K hKf
    obtain rfl := Option.some.inj ho
    have hB := Lib.hid g.1
    have hK : ∀ v w', RP6 b' o' c' b0 o0 n0 c0 b1 o1 n1 c1 s0 s1 11 v w' → Below wl.heap.size wl w' → K (al.put (some 43) v) w' := fun v w' hv hb => hKf v w' (Rg.Kept.put (Base := Bt w b' o' b0 o0 n0 c0 b1 o1 n1 c1 k0 k1 la lc) (R := RP6 b' o' c' b0 o0 n0 c0 b1 o1 n1 c1 s0 s1) (fun _ _ h hb => h.below hb) (fun _ _ _ _ h _ => h) g hb hv)
    have d10 : RP6 b' o' c' b0 o0 n0 c0 b1 o1 n1 c1 s0 s1 10 (us 10) wl := g.2 10 (hdep ⟨10, .data⟩ (by simp) rfl)
    have e42 : al.tmps[42]?.getD undef = us 10 := by rw [← Rg.eval_getD, ha]; exact Rg.puts_eval _ _ _ (by rfl) (by simp) (by simp)
    clear ha hdep g hf hKf
    have f10 : us 10 = .int .i64 2 := d10
    clear d10
    refine Rg.wpOp_of rfl rfl ?_
    go_simp
    exact hK _ _ rfl (Below.refl _ _)
  · intro o ho f us wl al ha g hf hdep K hKf
    obtain rfl := Option.some.inj ho
    have hB := Lib.hid g.1
    have hK : ∀ v w', RP6 b' o' c' b0 o0 n0 c0 b1 o1 n1 c1 s0 s1 12 v w' → Below wl.heap.size wl w' → K (al.put (some 44) v) w' := fun v w' hv hb => hKf v w' (Rg.Kept.put (Base := Bt w b' o' b0 o0 n0 c0 b1 o1 n1 c1 k0 k1 la lc) (R := RP6 b' o' c' b0 o0 n0 c0 b1 o1 n1 c1 s0 s1) (fun _ _ h hb => h.below hb) (fun _ _ _ _ h _ => h) g hb hv)
    have d9 : RP6 b' o' c' b0 o0 n0 c0 b1 o1 n1 c1 s0 s1 9 (us 9) wl := g.2 9 (hdep ⟨9, .data⟩ (by simp) rfl)
    have e41 : al.tmps[41]?.getD undef = us 9 := by rw [← Rg.eval_getD, ha]; exact Rg.puts_eval _ _ _ (by rfl) (by simp) (by simp)
    have d11 : RP6 b' o' c' b0 o0 n0 c0 b1 o1 n1 c1 s0 s1 11 (us 11) wl := g.2 11 (hdep ⟨11, .data⟩ (by simp) rfl)
    have e43 : al.tmps[43]?.getD undef = us 11 := by rw [← Rg.eval_getD, ha]; exact Rg.puts_eval _ _ _ (by rfl) (by simp) (by simp)
    clear ha hdep g hf hKf
    have f9 : us 9 = .slice (some ⟨b1, o1, none⟩) n1 c1 := d9
    clear d9
    have f11 : us 11 = .int .i64 3 := d11
    clear d11
    refine Rg.wpOp_of rfl rfl ?_
    go_simp
    refine (HW1.out _ _ hB.out.n1).mono ?_
    rintro e w' ⟨u, rfl, hu, hb⟩
    exact hK _ _ ⟨u, rfl, hu.trans S1.out⟩ hb
  · intro o ho f us wl al ha g hf hdep K hKf
    obtain rfl := Option.some.inj ho
    have hB := Lib.hid g.1
    have hK : ∀ v w', RP6 b' o' c' b0 o0 n0 c0 b1 o1 n1 c1 s0 s1 13 v w' → Below wl.heap.size wl w' → K (al.put (some 45) v) w' := fun v w' hv hb => hKf v w' (Rg.Kept.put (Base := Bt w b' o' b0 o0 n0 c0 b1 o1 n1 c1 k0 k1 la lc) (R := RP6 b' o' c' b0 o0 n0 c0 b1 o1 n1 c1 s0 s1) (fun _ _ h hb => h.below hb) (fun _ _ _ _ h _ => h) g hb hv)
    have d6 : RP6 b' o' c' b0 o0 n0 c0 b1 o1 n1 c1 s0 s1 6 (us 6) wl := g.2 6 (hdep ⟨6, .data⟩ (by simp) rfl)
    have e38 : al.tmps[38]?.getD undef = us 6 := by rw [← Rg.eval_getD, ha]; exact Rg.puts_eval _ _ _ (by rfl) (by simp) (by simp)
    have d12 : RP6 b' o' c' b0 o0 n0 c0 b1 o1 n1 c1 s0 s1 12 (us 12) wl := g.2 12 (hdep ⟨12, .data⟩ (by simp) rfl)
    have e44 : al.tmps[44]?.getD undef = us 12 := by rw [← Rg.eval_getD, ha]; exact Rg.puts_eval _ _ _ (by rfl) (by simp) (by simp)
    clear ha hdep g hf hKf
    obtain ⟨u6, f6, hu6⟩ : IsT (us 6) (s0 ++ [32, 43, 32]) := d6
    have z6 : u6.size = (s0 ++ [32, 43, 32]).length := by rw [← hu6]; exact (bytes_len u6).symm
    simp only [List.length_append, List.length_cons, List.length_nil] at z6
    have HU6 := Lib.hid hu6
    clear hu6
    obtain ⟨u12, f12, hu12⟩ : IsT (us 12) (s1) := d12
    have z12 : u12.size = (s1).length := by rw [← hu12]; exact (bytes_len u12).symm
    have HU12 := Lib.hid hu12
    clear hu12
    have L0 := L.out
    refine Rg.wpOp_of rfl rfl ?_
    go_simp
    first | rw [if_neg (by omega)] | skip
    refine hK _ _ ?_ (Below.refl _ _)
    exact ⟨_, rfl, by rw [bytes_app, HU6.out, HU12.out]⟩
  · intro o ho f us wl al ha g hf hdep K hKf
    obtain rfl := Option.some.inj ho
    have hB := Lib.hid g.1
    have hK : ∀ v w', RP6 b' o' c' b0 o0 n0 c0 b1 o1 n1 c1 s0 s1 14 v w' → Below wl.heap.size wl w' → K (al.put (some 2) v) w' := fun v w' hv hb => hKf v w' (Rg.Kept.put (Base := Bt w b' o' b0 o0 n0 c0 b1 o1 n1 c1 k0 k1 la lc) (R := RP6 b' o' c' b0 o0 n0 c0 b1 o1 n1 c1 s0 s1) (fun _ _ h hb => h.below hb) (fun _ _ _ _ h _ => h) g hb hv)
    have d13 : RP6 b' o' c' b0 o0 n0 c0 b1 o1 n1 c1 s0 s1 13 (us 13) wl := g.2 13 (hdep ⟨13, .data⟩ (by simp) rfl)
    have e45 : al.tmps[45]?.getD undef = us 13 := by rw [← Rg.eval_getD, ha]; exact Rg.puts_eval _ _ _ (by rfl) (by simp) (by simp)
    clear ha hdep g hf hKf
    obtain ⟨u13, f13, hu13⟩ : IsT (us 13) (s0 ++ [32, 43, 32] ++ s1) := d13
    have z13 : u13.size = (s0 ++ [32, 43, 32] ++ s1).length := by rw [← hu13]; exact (bytes_len u13).symm
    simp only [List.length_append, List.length_cons, List.length_nil] at z13
    have HU13 := Lib.hid hu13
    clear hu13
    refine Rg.wpOp_of rfl rfl ?_
    go_simp
    exact hK _ _ ⟨_, rfl, HU13.out⟩ (Below.refl _ _)
  · intro us wz hB hR
    obtain ⟨u, fu, hu⟩ : IsT (us 14) (s0 ++ [32, 43, 32] ++ s1) := hR 14
    have HB2 := Lib.hid hB.bel
    have HU := Lib.hid hu
    clear hB hR hu
    simp only [Rg.puts, Act.put, List.setIfInBounds_toArray, List.set_cons_zero, List.set_cons_succ, fu]
    go_wp2_with fail
    go_ret
    exact ⟨_, rfl, by rw [HU.out, FIN.out], HB2.out⟩

def RP7 (b' o' c' b0 o0 n0 c0 b1 o1 n1 c1 : Nat) (s0 s1 : List UInt8) (k : Nat) (v : Value) (_ : World) : Prop := match k with
  | 0 => v = .slice (some ⟨b', o', none⟩) 2 c'
  | 1 => v = .pointer (some ⟨b', o', none⟩)
  | 2 => v = .slice (some ⟨b0, o0, none⟩) n0 c0
  | 3 => v = .int .i64 1
  | 4 => IsT v s0
  | 5 => v = .string ⟨#[32, 124, 32]⟩
  | 6 => IsT v (s0 ++ [32, 124, 32])
  | 7 => v = .slice (some ⟨b', o', none⟩) 2 c'
  | 8 => v = .pointer (some ⟨b', o' + 1, none⟩)
  | 9 => v = .slice (some ⟨b1, o1, none⟩) n1 c1
  | 10 => v = .int .i64 1
  | 11 => v = .int .i64 2
  | 12 => IsT v s1
  | 13 => IsT v (s0 ++ [32, 124, 32] ++ s1)
  | 14 => IsT v (s0 ++ [32, 124, 32] ++ s1)
  | _ => True

set_option maxHeartbeats 8000000 in
theorem textP_7 {a c : Tm} (ha : TextP a) (hc : TextP c) (hna : a.nam) (hnc : c.nam) : TextP (.bin 7 a c) := by
  intro l v w hcv hv hl
  obtain ⟨ht, hh, la, lc, hk, hca, hcc, rfl⟩ := hcv
  have hl2 : la.length ≤ 200 := by simp at hl; omega
  have hl3 : lc.length ≤ 200 := by simp at hl; omega
  have hlen := txt_len true a hna
  rw [hca.row] at hlen
  have hlen2 := txt_len true c hnc
  rw [hcc.row] at hlen2
  have HW0 := Lib.hid (fun w' v' hv' => withinP_any ha hca (v := v') (w := w') hv' hl2 hna 1)
  have HW1 := Lib.hid (fun w' v' hv' => withinP_any hc hcc (v := v') (w := w') hv' hl3 hnc 2)
  have HBK : Hid (∀ w', Calls Try.prog 56 #[.int .i64 7] w' fun e w'' => e = .returned (.tuple #[.int .i64 1, .string ⟨#[32, 124, 32]⟩]) ∧ w' = w'') := Lib.hid (fun w' => bind_any 7 w')
  have HK := Lib.hid (fun w' v' hv' => kidsW_any v' (nOf 7 :: (la ++ lc)) w' hv' (by omega))
  have HV := Lib.hid hv
  have HKK := Lib.hid hk
  have P0 := Lib.hid hca.tre.pos
  have P1 := Lib.hid hcc.tre.pos
  rcases hv.form with ⟨h0, _⟩ | ⟨b, off, cap, rfl, _, hat⟩
  · cases h0
  obtain ⟨e1, e2, e3⟩ := hat 0 (by simp)
  rw [Nat.zero_mul, Nat.add_zero] at e1 e2
  have E1 := Lib.hid e1
  simp only [List.getElem_cons_zero] at E1
  have HCA := Lib.hid hca
  have HCC := Lib.hid hcc
  have HL := Lib.hid (And.intro hlen (And.intro hlen2 (And.intro hl2 hl3)))
  clear hat e1 e2 e3 ht hh hk hv hlen hlen2 hl2 hl3 hca hcc hna hnc
  have hN0 : 0 < (nOf 7 :: (la ++ lc)).length := by simp
  rw [show (nOf 7).k = 7 from rfl] at E1
  generalize (nOf 7 :: (la ++ lc)).length = N at *
  go_enter Try.func32, Try.ntmps32
  go_wp2_with fail
  refine (HK.out _ _ HV.out).mono ?_
  rintro e w1 ⟨y, rfl, hy, hb⟩
  have cE := E1.out
  rw [← hb.cell (Ap.cell_lt cE)] at cE
  rw [HKK.out] at hy
  obtain ⟨b', o', c', a0, a1, rfl, q0, q1, n0, n1⟩ := two_rows hy
  have N0 := Lib.hid n0
  have N1 := Lib.hid n1
  have HB := Lib.hid hb
  clear hb hy
  obtain ⟨b0, o0, c0, rfl, k0⟩ := HCA.out.head n0
  obtain ⟨b1, o1, c1, rfl, k1⟩ := HCC.out.head n1
  have HBT := Lib.hid (Bt.mk HB.out q0 q1 N0.out N1.out k0 k1)
  clear n0 n1 q0 q1 k0 k1
  go_wp2_with fail
  refine (HBK.out _).mono ?_
  rintro e w' ⟨rfl, rfl⟩
  go_wp2_with fail
  clear cE HB N0 N1 HCA HCC HKK HK HV E1
  obtain ⟨n0, hn0⟩ : ∃ n, la.length = n := ⟨_, rfl⟩
  obtain ⟨n1, hn1⟩ : ∃ n, lc.length = n := ⟨_, rfl⟩
  obtain ⟨k0, hk0⟩ : ∃ k, So.hd la = k := ⟨_, rfl⟩
  obtain ⟨k1, hk1⟩ : ∃ k, So.hd lc = k := ⟨_, rfl⟩
  obtain ⟨s0, hs0⟩ : ∃ s, brkT (decide (a.rank + 1 < 1)) (a.txt true) = s := ⟨_, rfl⟩
  obtain ⟨s1, hs1⟩ : ∃ s, brkT (decide (c.rank + 1 < 2)) (c.txt true) = s := ⟨_, rfl⟩
  have L : Hid (s0.length ≤ 1602 ∧ s1.length ≤ 1602) := by
    obtain ⟨g1, g2, g3, g4⟩ := HL.out
    rw [← hs0, ← hs1]
    have hb : ∀ (c : Bool) (l : List UInt8), (brkT c l).length ≤ l.length + 2 := fun c l => by cases c <;> simp [brkT]
    have := hb (decide (a.rank + 1 < 1)) (a.txt true)
    have := hb (decide (c.rank + 1 < 2)) (c.txt true)
    exact ⟨by omega, by omega⟩
  have FIN : Hid (s0 ++ [32, 124, 32] ++ s1 = Tm.txt true (.bin 7 a c)) := by
    show _ = brkT (decide (a.rank < lim 7)) (a.txt true) ++ sep true 7 ++ brkT (decide (c.rank < limR 7)) (c.txt true)
    rw [← hs0, ← hs1, show decide (a.rank < lim 7) = decide (a.rank + 1 < 1) from decide_eq_decide.2 (by show a.rank < 0 ↔ a.rank + 1 < 1; omega), show decide (c.rank < limR 7) = decide (c.rank + 1 < 2) from decide_eq_decide.2 (by show c.rank < 1 ↔ c.rank + 1 < 2; omega)]
    rfl
  have S0 := Lib.hid hs0
  have S1 := Lib.hid hs1
  rw [hn0, hn1, hk0, hk1] at HBT
  rw [hn0] at P0
  rw [hn1] at P1
  clear hn0 hn1 hk0 hk1 hs0 hs1 HL
  refine Rg.wp_region_kept (by kernel_rfl) [(0, some 32), (1, some 33), (2, some 34), (3, some 35), (4, some 36), (5, some 37), (6, some 38), (7, some 39), (8, some 40), (9, some 41), (10, some 42), (11, some 43), (12, some 44), (13, some 45), (14, some 2)] (by rfl) (by kernel_rfl) (by kernel_rfl) (Bt w b' o' b0 o0 n0 c0 b1 o1 n1 c1 k0 k1 la lc) (RP7 b' o' c' b0 o0 n0 c0 b1 o1 n1 c1 s0 s1) (HBT.out.below (Below.refl _ _).drew) ?_ ⟨⟨⟨⟨⟨⟨⟨⟨⟨⟨⟨⟨⟨⟨⟨True.intro, ?_⟩, ?_⟩, ?_⟩, ?_⟩, ?_⟩, ?_⟩, ?_⟩, ?_⟩, ?_⟩, ?_⟩, ?_⟩, ?_⟩, ?_⟩, ?_⟩, ?_⟩ ?_
  · intro k v w' hk
    unfold RP7
    split
    case h_16 => trivial
    all_goals exact absurd hk (by decide)
  · intro o ho f us wl al ha g hf hdep K hKf
    obtain rfl := Option.some.inj ho
    have hB := Lib.hid g.1
    have hK : ∀ v w', RP7 b' o' c' b0 o0 n0 c0 b1 o1 n1 c1 s0 s1 0 v w' → Below wl.heap.size wl w' → K (al.put (some 32) v) w' := fun v w' hv hb => hKf v w' (Rg.Kept.put (Base := Bt w b' o' b0 o0 n0 c0 b1 o1 n1 c1 k0 k1 la lc) (R := RP7 b' o' c' b0 o0 n0 c0 b1 o1 n1 c1 s0 s1) (fun _ _ h hb => h.below hb) (fun _ _ _ _ h _ => h) g hb hv)
    have e3 : al.tmps[3]?.getD undef = .slice (some ⟨b', o', none⟩) 2 c' := by rw [← Rg.eval_getD, ha]; exact (Rg.puts_eval_ne _ _ _ (by rfl)).trans rfl
    clear ha hdep g hf hKf
    refine Rg.wpOp_of rfl rfl ?_
    go_simp
    exact hK _ _ rfl (Below.refl _ _)
  · intro o ho f us wl al ha g hf hdep K hKf
    obtain rfl := Option.some.inj ho
    have hB := Lib.hid g.1
    have hK : ∀ v w', RP7 b' o' c' b0 o0 n0 c0 b1 o1 n1 c1 s0 s1 1 v w' → Below wl.heap.size wl w' → K (al.put (some 33) v) w' := fun v w' hv hb => hKf v w' (Rg.Kept.put (Base := Bt w b' o' b0 o0 n0 c0 b1 o1 n1 c1 k0 k1 la lc) (R := RP7 b' o' c' b0 o0 n0 c0 b1 o1 n1 c1 s0 s1) (fun _ _ h hb => h.below hb) (fun _ _ _ _ h _ => h) g hb hv)
    have d0 : RP7 b' o' c' b0 o0 n0 c0 b1 o1 n1 c1 s0 s1 0 (us 0) wl := g.2 0 (hdep ⟨0, .data⟩ (by simp) rfl)
    have e32 : al.tmps[32]?.getD undef = us 0 := by rw [← Rg.eval_getD, ha]; exact Rg.puts_eval _ _ _ (by rfl) (by simp) (by simp)
    clear ha hdep g hf hKf
    have f0 : us 0 = .slice (some ⟨b', o', none⟩) 2 c' := d0
    clear d0
    refine Rg.wpOp_of rfl rfl ?_
    go_simp
    exact hK _ _ rfl (Below.refl _ _)
  · intro o ho f us wl al ha g hf hdep K hKf
    obtain rfl := Option.some.inj ho
    have hB := Lib.hid g.1
    have hK : ∀ v w', RP7 b' o' c' b0 o0 n0 c0 b1 o1 n1 c1 s0 s1 2 v w' → Below wl.heap.size wl w' → K (al.put (some 34) v) w' := fun v w' hv hb => hKf v w' (Rg.Kept.put (Base := Bt w b' o' b0 o0 n0 c0 b1 o1 n1 c1 k0 k1 la lc) (R := RP7 b' o' c' b0 o0 n0 c0 b1 o1 n1 c1 s0 s1) (fun _ _ h hb => h.below hb) (fun _ _ _ _ h _ => h) g hb hv)
    have d1 : RP7 b' o' c' b0 o0 n0 c0 b1 o1 n1 c1 s0 s1 1 (us 1) wl := g.2 1 (hdep ⟨1, .data⟩ (by simp) rfl)
    have e33 : al.tmps[33]?.getD undef = us 1 := by rw [← Rg.eval_getD, ha]; exact Rg.puts_eval _ _ _ (by rfl) (by simp) (by simp)
    clear ha hdep g hf hKf
    have f1 : us 1 = .pointer (some ⟨b', o', none⟩) := d1
    clear d1
    have q := hB.out.q0
    refine Rg.wpOp_of rfl rfl ?_
    go_simp
    exact hK _ _ rfl (Below.refl _ _)
  · intro o ho f us wl al ha g hf hdep K hKf
    obtain rfl := Option.some.inj ho
    have hB := Lib.hid g.1
    have hK : ∀ v w', RP7 b' o' c' b0 o0 n0 c0 b1 o1 n1 c1 s0 s1 3 v w' → Below wl.heap.size wl w' → K (al.put (some 35) v) w' := fun v w' hv hb => hKf v w' (Rg.Kept.put (Base := Bt w b' o' b0 o0 n0 c0 b1 o1 n1 c1 k0 k1 la lc) (R := RP7 b' o' c' b0 o0 n0 c0 b1 o1 n1 c1 s0 s1) (fun _ _ h hb => h.below hb) (fun _ _ _ _ h _ => h) g hb hv)
    have e4 : al.tmps[4]?.getD undef = .int .i64 1 := by rw [← Rg.eval_getD, ha]; exact (Rg.puts_eval_ne _ _ _ (by rfl)).trans rfl
    clear ha hdep g hf hKf
    refine Rg.wpOp_of rfl rfl ?_
    go_simp
    exact hK _ _ rfl (Below.refl _ _)
  · intro o ho f us wl al ha g hf hdep K hKf
    obtain rfl := Option.some.inj ho
    have hB := Lib.hid g.1
    have hK : ∀ v w', RP7 b' o' c' b0 o0 n0 c0 b1 o1 n1 c1 s0 s1 4 v w' → Below wl.heap.size wl w' → K (al.put (some 36) v) w' := fun v w' hv hb => hKf v w' (Rg.Kept.put (Base := Bt w b' o' b0 o0 n0 c0 b1 o1 n1 c1 k0 k1 la lc) (R := RP7 b' o' c' b0 o0 n0 c0 b1 o1 n1 c1 s0 s1) (fun _ _ h hb => h.below hb) (fun _ _ _ _ h _ => h) g hb hv)
    have d2 : RP7 b' o' c' b0 o0 n0 c0 b1 o1 n1 c1 s0 s1 2 (us 2) wl := g.2 2 (hdep ⟨2, .data⟩ (by simp) rfl)
    have e34 : al.tmps[34]?.getD undef = us 2 := by rw [← Rg.eval_getD, ha]; exact Rg.puts_eval _ _ _ (by rfl) (by simp) (by simp)
    have d3 : RP7 b' o' c' b0 o0 n0 c0 b1 o1 n1 c1 s0 s1 3 (us 3) wl := g.2 3 (hdep ⟨3, .data⟩ (by simp) rfl)
    have e35 : al.tmps[35]?.getD undef = us 3 := by rw [← Rg.eval_getD, ha]; exact Rg.puts_eval _ _ _ (by rfl) (by simp) (by simp)
    clear ha hdep g hf hKf
    have f2 : us 2 = .slice (some ⟨b0, o0, none⟩) n0 c0 := d2
    clear d2
    have f3 : us 3 = .int .i64 1 := d3
    clear d3
    refine Rg.wpOp_of rfl rfl ?_
    go_simp
    refine (HW0.out _ _ hB.out.n0).mono ?_
    rintro e w' ⟨u, rfl, hu, hb⟩
    exact hK _ _ ⟨u, rfl, hu.trans S0.out⟩ hb
  · intro o ho f us wl al ha g hf hdep K hKf
    obtain rfl := Option.some.inj ho
    have hB := Lib.hid g.1
    have hK : ∀ v w', RP7 b' o' c' b0 o0 n0 c0 b1 o1 n1 c1 s0 s1 5 v w' → Below wl.heap.size wl w' → K (al.put (some 37) v) w' := fun v w' hv hb => hKf v w' (Rg.Kept.put (Base := Bt w b' o' b0 o0 n0 c0 b1 o1 n1 c1 k0 k1 la lc) (R := RP7 b' o' c' b0 o0 n0 c0 b1 o1 n1 c1 s0 s1) (fun _ _ h hb => h.below hb) (fun _ _ _ _ h _ => h) g hb hv)
    have e5 : al.tmps[5]?.getD undef = .string ⟨#[32, 124, 32]⟩ := by rw [← Rg.eval_getD, ha]; exact (Rg.puts_eval_ne _ _ _ (by rfl)).trans rfl
    clear ha hdep g hf hKf
    refine Rg.wpOp_of rfl rfl ?_
    go_simp
    exact hK _ _ rfl (Below.refl _ _)
  · intro o ho f us wl al ha g hf hdep K hKf
    obtain rfl := Option.some.inj ho
    have hB := Lib.hid g.1
    have hK : ∀ v w', RP7 b' o' c' b0 o0 n0 c0 b1 o1 n1 c1 s0 s1 6 v w' → Below wl.heap.size wl w' → K (al.put (some 38) v) w' := fun v w' hv hb => hKf v w' (Rg.Kept.put (Base := Bt w b' o' b0 o0 n0 c0 b1 o1 n1 c1 k0 k1 la lc) (R := RP7 b' o' c' b0 o0 n0 c0 b1 o1 n1 c1 s0 s1) (fun _ _ h hb => h.below hb) (fun _ _ _ _ h _ => h) g hb hv)
    have d4 : RP7 b' o' c' b0 o0 n0 c0 b1 o1 n1 c1 s0 s1 4 (us 4) wl := g.2 4 (hdep ⟨4, .data⟩ (by simp) rfl)
    have e36 : al.tmps[36]?.getD undef = us 4 := by rw [← Rg.eval_getD, ha]; exact Rg.puts_eval _ _ _ (by rfl) (by simp) (by simp)
    have d5 : RP7 b' o' c' b0 o0 n0 c0 b1 o1 n1 c1 s0 s1 5 (us 5) wl := g.2 5 (hdep ⟨5, .data⟩ (by simp) rfl)
    have e37 : al.tmps[37]?.getD undef = us 5 := by rw [← Rg.eval_getD, ha]; exact Rg.puts_eval _ _ _ (by rfl) (by simp) (by simp)
    clear ha hdep g hf hKf
    obtain ⟨u4, f4, hu4⟩ : IsT (us 4) (s0) := d4
    have z4 : u4.size = (s0).length := by rw [← hu4]; exact (bytes_len u4).symm
    have HU4 := Lib.hid hu4
    clear hu4
    have f5 : us 5 = .string ⟨#[32, 124, 32]⟩ := d5
    clear d5
    have L0 := L.out
    refine Rg.wpOp_of rfl rfl ?_
    go_simp
    first | rw [if_neg (by omega)] | skip
    refine hK _ _ ?_ (Below.refl _ _)
    exact ⟨_, rfl, by rw [bytes_app, HU4.out]⟩
  · intro o ho f us wl al ha g hf hdep K hKf
    obtain rfl := Option.some.inj ho
    have hB := Lib.hid g.1
    have hK : ∀ v w', RP7 b' o' c' b0 o0 n0 c0 b1 o1 n1 c1 s0 s1 7 v w' → Below wl.heap.size wl w' → K (al.put (some 39) v) w' := fun v w' hv hb => hKf v w' (Rg.Kept.put (Base := Bt w b' o' b0 o0 n0 c0 b1 o1 n1 c1 k0 k1 la lc) (R := RP7 b' o' c' b0 o0 n0 c0 b1 o1 n1 c1 s0 s1) (fun _ _ h hb => h.below hb) (fun _ _ _ _ h _ => h) g hb hv)
    have e3 : al.tmps[3]?.getD undef = .slice (some ⟨b', o', none⟩) 2 c' := by rw [← Rg.eval_getD, ha]; exact (Rg.puts_eval_ne _ _ _ (by rfl)).trans rfl
    clear ha hdep g hf hKf
    refine Rg.wpOp_of rfl rfl ?_
    go_simp
    exact hK _ _ rfl (Below.refl _ _)
  · intro o ho f us wl al ha g hf hdep K hKf
    obtain rfl := Option.some.inj ho
    have hB := Lib.hid g.1
    have hK : ∀ v w', RP7 b' o' c' b0 o0 n0 c0 b1 o1 n1 c1 s0 s1 8 v w' → Below wl.heap.size wl w' → K (al.put (some 40) v) w' := fun v w' hv hb => hKf v w' (Rg.Kept.put (Base := Bt w b' o' b0 o0 n0 c0 b1 o1 n1 c1 k0 k1 la lc) (R := RP7 b' o' c' b0 o0 n0 c0 b1 o1 n1 c1 s0 s1) (fun _ _ h hb => h.below hb) (fun _ _ _ _ h _ => h) g hb hv)
    have d7 : RP7 b' o' c' b0 o0 n0 c0 b1 o1 n1 c1 s0 s1 7 (us 7) wl := g.2 7 (hdep ⟨7, .data⟩ (by simp) rfl)
    have e39 : al.tmps[39]?.getD undef = us 7 := by rw [← Rg.eval_getD, ha]; exact Rg.puts_eval _ _ _ (by rfl) (by simp) (by simp)
    clear ha hdep g hf hKf
    have f7 : us 7 = .slice (some ⟨b', o', none⟩) 2 c' := d7
    clear d7
    refine Rg.wpOp_of rfl rfl ?_
    go_simp
    exact hK _ _ rfl (Below.refl _ _)
  · intro o ho f us wl al ha g hf hdep K hKf
    obtain rfl := Option.some.inj ho
    have hB := Lib.hid g.1
    have hK : ∀ v w', RP7 b' o' c' b0 o0 n0 c0 b1 o1 n1 c1 s0 s1 9 v w' → Below wl.heap.size wl w' → K (al.put (some 41) v) w' := fun v w' hv hb => hKf v w' (Rg.Kept.put (Base := Bt w b' o' b0 o0 n0 c0 b1 o1 n1 c1 k0 k1 la lc) (R := RP7 b' o' c' b0 o0 n0 c0 b1 o1 n1 c1 s0 s1) (fun _ _ h hb => h.below hb) (fun _ _ _ _ h _ => h) g hb hv)
    have d8 : RP7 b' o' c' b0 o0 n0 c0 b1 o1 n1 c1 s0 s1 8 (us 8) wl := g.2 8 (hdep ⟨8, .data⟩ (by simp) rfl)
    have e40 : al.tmps[40]?.getD undef = us 8 := by rw [← Rg.eval_getD, ha]; exact Rg.puts_eval _ _ _ (by rfl) (by simp) (by simp)
    clear ha hdep g hf hKf
    have f8 : us 8 = .pointer (some ⟨b', o' + 1, none⟩) := d8
    clear d8
    have q := hB.out.q1
    refine Rg.wpOp_of rfl rfl ?_
    go_simp
    exact hK _ _ rfl (Below.refl _ _)
  · intro o ho f us wl al ha g hf hdep K hKf
    obtain rfl := Option.some.inj ho
    have hB := Lib.hid g.1
    have hK : ∀ v w', RP7 b' o' c' b0 o0 n0 c0 b1 o1 n1 c1 s0 s1 10 v w' → Below wl.heap.size wl w' → K (al.put (some 42) v) w' := fun v w' hv hb => hKf v w' (Rg.Kept.put (Base := Bt w b' o' b0 o0 n0 c0 b1 o1 n1 c1 k0 k1 la lc) (R := RP7 b' o' c' b0 o0 n0 c0 b1 o1 n1 c1 s0 s1) (fun _ _ h hb => h.below hb) (fun _ _ _ _ h _ => h) g hb hv)
    have e4 : al.tmps[4]?.getD undef = .int .i64 1 := by rw [← Rg.eval_getD, ha]; exact (Rg.puts_eval_ne _ _ _ (by rfl)).trans rfl
    clear ha hdep g hf hKf
    refine Rg.wpOp_of rfl rfl ?_
    go_simp
    exact hK _ _ rfl (Below.refl _ _)
  · intro o ho f us wl al ha g hf hdep K hKf
    obtain rfl := Option.some.inj ho
    have hB := Lib.hid g.1
    have hK : ∀ v w', RP7 b' o' c' b0 o0 n0 c0 b1 o1 n1 c1 s0 s1 11 v w' → Below wl.heap.size wl w' → K (al.put (some 43) v) w' := fun v w' hv hb => hKf v w' (Rg.Kept.put (Base := Bt w b' o' b0 o0 n0 c0 b1 o1 n1 c1 k0 k1 la lc) (R := RP7 b' o' c' b0 o0 n0 c0 b1 o1 n1 c1 s0 s1) (fun _ _ h hb => h.below hb) (fun _ _ _ _ h _ => h) g hb hv)
    have d10 : RP7 b' o' c' b0 o0 n0 c0 b1 o1 n1 c1 s0 s1 10 (us 10) wl := g.2 10 (hdep ⟨10, .data⟩ (by simp) rfl)
    have e42 : al.tmps[42]?.getD undef = us 10 := by rw [← Rg.eval_getD, ha]; exact Rg.puts_eval _ _ _ (by rfl) (by simp) (by simp)
    clear ha hdep g hf hKf
    have f10 : us 10 = .int .i64 1 := d10
    clear d10
    refine Rg.wpOp_of rfl rfl ?_
    go_simp
    exact hK _ _ rfl (Below.refl _ _)
  · intro o ho f us wl al ha g hf hdep K hKf
    obtain rfl := Option.some.inj ho
    have hB := Lib.hid g.1
    have hK : ∀ v w', RP7 b' o' c' b0 o0 n0 c0 b1 o1 n1 c1 s0 s1 12 v w' → Below wl.heap.size wl w' → K (al.put (some 44) v) w' := fun v w' hv hb => hKf v w' (Rg.Kept.put (Base := Bt w b' o' b0 o0 n0 c0 b1 o1 n1 c1 k0 k1 la lc) (R := RP7 b' o' c' b0 o0 n0 c0 b1 o1 n1 c1 s0 s1) (fun _ _ h hb => h.below hb) (fun _ _ _ _ h _ => h) g hb hv)
    have d9 : RP7 b' o' c' b0 o0 n0 c0 b1 o1 n1 c1 s0 s1 9 (us 9) wl := g.2 9 (hdep ⟨9, .data⟩ (by simp) rfl)
    have e41 : al.tmps[41]?.getD undef = us 9 := by rw [← Rg.eval_getD, ha]; exact Rg.puts_eval _ _ _ (by rfl) (by simp) (by simp)
    have d11 : RP7 b' o' c' b0 o0 n0 c0 b1 o1 n1 c1 s0 s1 11 (us 11) wl := g.2 11 (hdep ⟨11, .data⟩ (by simp) rfl)
    have e43 : al.tmps[43]?.getD undef = us 11 := by rw [← Rg.eval_getD, ha]; exact Rg.puts_eval _ _ _ (by rfl) (by simp) (by simp)
    clear ha hdep g hf hKf
    have f9 : us 9 = .slice (some ⟨b1, o1, none⟩) n1 c1 := d9
    clear d9
    have f11 : us 11 = .int .i64 2 := d11
    clear d11
    refine Rg.wpOp_of rfl rfl ?_
    go_simp
    refine (HW1.out _ _ hB.out.n1).mono ?_
    rintro e w' ⟨u, rfl, hu, hb⟩
    exact hK _ _ ⟨u, rfl, hu.trans S1.out⟩ hb
  · intro o ho f us wl al ha g hf hdep K hKf
    obtain rfl := Option.some.inj ho
    have hB := Lib.hid g.1
    have hK : ∀ v w', RP7 b' o' c' b0 o0 n0 c0 b1 o1 n1 c1 s0 s1 13 v w' → Below wl.heap.size wl w' → K (al.put (some 45) v) w' := fun v w' hv hb => hKf v w' (Rg.Kept.put (Base := Bt w b' o' b0 o0 n0 c0 b1 o1 n1 c1 k0 k1 la lc) (R := RP7 b' o' c' b0 o0 n0 c0 b1 o1 n1 c1 s0 s1) (fun _ _ h hb => h.below hb) (fun _ _ _ _ h _ => h) g hb hv)
    have d6 : RP7 b' o' c' b0 o0 n0 c0 b1 o1 n1 c1 s0 s1 6 (us 6) wl := g.2 6 (hdep ⟨6, .data⟩ (by simp) rfl)
    have e38 : al.tmps[38]?.getD undef = us 6 := by rw [← Rg.eval_getD, ha]; exact Rg.puts_eval _ _ _ (by rfl) (by simp) (by simp)
    have d12 : RP7 b' o' c' b0 o0 n0 c0 b1 o1 n1 c1 s0 s1 12 (us 12) wl := g.2 12 (hdep ⟨12, .data⟩ (by simp) rfl)
    have e44 : al.tmps[44]?.getD undef = us 12 := by rw [← Rg.eval_getD, ha]; exact Rg.puts_eval _ _ _ (by rfl) (by simp) (by simp)
    clear ha hdep g hf hKf
    obtain ⟨u6, f6, hu6⟩ : IsT (us 6) (s0 ++ [32, 124, 32]) := d6
    have z6 : u6.size = (s0 ++ [32, 124, 32]).length := by rw [← hu6]; exact (bytes_len u6).symm
    simp only [List.length_append, List.length_cons, List.length_nil] at z6
    have HU6 := Lib.hid hu6
    clear hu6
    obtain ⟨u12, f12, hu12⟩ : IsT (us 12) (s1) := d12
    have z12 : u12.size = (s1).length := by rw [← hu12]; exact (bytes_len u12).symm
    have HU12 := Lib.hid hu12
    clear hu12
    have L0 := L.out
    refine Rg.wpOp_of rfl rfl ?_
    go_simp
    first | rw [if_neg (by omega)] | skip
    refine hK _ _ ?_ (Below.refl _ _)
    exact ⟨_, rfl, by rw [bytes_app, HU6.out, HU12.out]⟩
  · intro o ho f us wl al ha g hf hdep K hKf
    obtain rfl := Option.some.inj ho
    have hB := Lib.hid g.1
    have hK : ∀ v w', RP7 b' o' c' b0 o0 n0 c0 b1 o1 n1 c1 s0 s1 14 v w' → Below wl.heap.size wl w' → K (al.put (some 2) v) w' := fun v w' hv hb => hKf v w' (Rg.Kept.put (Base := Bt w b' o' b0 o0 n0 c0 b1 o1 n1 c1 k0 k1 la lc) (R := RP7 b' o' c' b0 o0 n0 c0 b1 o1 n1 c1 s0 s1) (fun _ _ h hb => h.below hb) (fun _ _ _ _ h _ => h) g hb hv)
    have d13 : RP7 b' o' c' b0 o0 n0 c0 b1 o1 n1 c1 s0 s1 13 (us 13) wl := g.2 13 (hdep ⟨13, .data⟩ (by simp) rfl)
    have e45 : al.tmps[45]?.getD undef = us 13 := by rw [← Rg.eval_getD, ha]; exact Rg.puts_eval _ _ _ (by rfl) (by simp) (by simp)
    clear ha hdep g hf hKf
    obtain ⟨u13, f13, hu13⟩ : IsT (us 13) (s0 ++ [32, 124, 32] ++ s1) := d13
    have z13 : u13.size = (s0 ++ [32, 124, 32] ++ s1).length := by rw [← hu13]; exact (bytes_len u13).symm
    simp only [List.length_append, List.length_cons, List.length_nil] at z13
    have HU13 := Lib.hid hu13
    clear hu13
    refine Rg.wpOp_of rfl rfl ?_
    go_simp
    exact hK _ _ ⟨_, rfl, HU13.out⟩ (Below.refl _ _)
  · intro us wz hB hR
    obtain ⟨u, fu, hu⟩ : IsT (us 14) (s0 ++ [32, 124, 32] ++ s1) := hR 14
    have HB2 := Lib.hid hB.bel
    have HU := Lib.hid hu
    clear hB hR hu
    simp only [Rg.puts, Act.put, List.setIfInBounds_toArray, List.set_cons_zero, List.set_cons_succ, fu]
    go_wp2_with fail
    go_ret
    exact ⟨_, rfl, by rw [HU.out, FIN.out], HB2.out⟩

def RP8 (b' o' c' b0 o0 n0 c0 b1 o1 n1 c1 : Nat) (s0 s1 : List UInt8) (k : Nat) (v : Value) (_ : World) : Prop := match k with
  | 0 => v = .slice (some ⟨b', o', none⟩) 2 c'
  | 1 => v = .pointer (some ⟨b', o', none⟩)
  | 2 => v = .slice (some ⟨b0, o0, none⟩) n0 c0
  | 3 => v = .int .i64 3
  | 4 => IsT v s0
  | 5 => v = .string ⟨#[32, 62, 32]⟩
  | 6 => IsT v (s0 ++ [32, 62, 32])
  | 7 => v = .slice (some ⟨b', o', none⟩) 2 c'
  | 8 => v = .pointer (some ⟨b', o' + 1, none⟩)
  | 9 => v = .slice (some ⟨b1, o1, none⟩) n1 c1
  | 10 => v = .int .i64 3
  | 11 => v = .int .i64 4
  | 12 => IsT v s1
  | 13 => IsT v (s0 ++ [32, 62, 32] ++ s1)
  | 14 => IsT v (s0 ++ [32, 62, 32] ++ s1)
  | _ => True

set_option maxHeartbeats 8000000 in
theorem textP_8 {a c : Tm} (ha : TextP a) (hc : TextP c) (hna : a.nam) (hnc : c.nam) : TextP (.bin 8 a c) := by
  intro l v w hcv hv hl
  obtain ⟨ht, hh, la, lc, hk, hca, hcc, rfl⟩ := hcv
  have hl2 : la.length ≤ 200 := by simp at hl; omega
  have hl3 : lc.length ≤ 200 := by simp at hl; omega
  have hlen := txt_len true a hna
  rw [hca.row] at hlen
  have hlen2 := txt_len true c hnc
  rw [hcc.row] at hlen2
  have HW0 := Lib.hid (fun w' v' hv' => withinP_any ha hca (v := v') (w := w') hv' hl2 hna 3)
  have HW1 := Lib.hid (fun w' v' hv' => withinP_any hc hcc (v := v') (w := w') hv' hl3 hnc 4)
  have HBK : Hid (∀ w', Calls Try.prog 56 #[.int .i64 8] w' fun e w'' => e = .returned (.tuple #[.int .i64 3, .string ⟨#[32, 62, 32]⟩]) ∧ w' = w'') := Lib.hid (fun w' => bind_any 8 w')
  have HK := Lib.hid (fun w' v' hv' => kidsW_any v' (nOf 8 :: (la ++ lc)) w' hv' (by omega))
  have HV := Lib.hid hv
  have HKK := Lib.hid hk
  have P0 := Lib.hid hca.tre.pos
  have P1 := Lib.hid hcc.tre.pos
  rcases hv.form with ⟨h0, _⟩ | ⟨b, off, cap, rfl, _, hat⟩
  · cases h0
  obtain ⟨e1, e2, e3⟩ := hat 0 (by simp)
  rw [Nat.zero_mul, Nat.add_zero] at e1 e2
  have E1 := Lib.hid e1
  simp only [List.getElem_cons_zero] at E1
  have HCA := Lib.hid hca
  have HCC := Lib.hid hcc
  have HL := Lib.hid (And.intro hlen (And.intro hlen2 (And.intro hl2 hl3)))
  clear hat e1 e2 e3 ht hh hk hv hlen hlen2 hl2 hl3 hca hcc hna hnc
  have hN0 : 0 < (nOf 8 :: (la ++ lc)).length := by simp
  rw [show (nOf 8).k = 8 from rfl] at E1
  generalize (nOf 8 :: (la ++ lc)).length = N at *
  go_enter Try.func32, Try.ntmps32
  go_wp2_with fail
  refine (HK.out _ _ HV.out).mono ?_
  rintro e w1 ⟨y, rfl, hy, hb⟩
  have cE := E1.out
  rw [← hb.cell (Ap.cell_lt cE)] at cE
  rw [HKK.out] at hy
  obtain ⟨b', o', c', a0, a1, rfl, q0, q1, n0, n1⟩ := two_rows hy
  have N0 := Lib.hid n0
  have N1 := Lib.hid n1
  have HB := Lib.hid hb
  clear hb hy
  obtain ⟨b0, o0, c0, rfl, k0⟩ := HCA.out.head n0
  obtain ⟨b1, o1, c1, rfl, k1⟩ := HCC.out.head n1
  have HBT := Lib.hid (Bt.mk HB.out q0 q1 N0.out N1.out k0 k1)
  clear n0 n1 q0 q1 k0 k1
  go_wp2_with fail
  refine (HBK.out _).mono ?_
  rintro e w' ⟨rfl, rfl⟩
  go_wp2_with fail
  clear cE HB N0 N1 HCA HCC HKK HK HV E1
  obtain ⟨n0, hn0⟩ : ∃ n, la.length = n := ⟨_, rfl⟩
  obtain ⟨n1, hn1⟩ : ∃ n, lc.length = n := ⟨_, rfl⟩
  obtain ⟨k0, hk0⟩ : ∃ k, So.hd la = k := ⟨_, rfl⟩
  obtain ⟨k1, hk1⟩ : ∃ k, So.hd lc = k := ⟨_, rfl⟩
  obtain ⟨s0, hs0⟩ : ∃ s, brkT (decide (a.rank + 1 < 3)) (a.txt true) = s := ⟨_, rfl⟩
  obtain ⟨s1, hs1⟩ : ∃ s, brkT (decide (c.rank + 1 < 4)) (c.txt true) = s := ⟨_, rfl⟩
  have L : Hid (s0.length ≤ 1602 ∧ s1.length ≤ 1602) := by
    obtain ⟨g1, g2, g3, g4⟩ := HL.out
    rw [← hs0, ← hs1]
    have hb : ∀ (c : Bool) (l : List UInt8), (brkT c l).length ≤ l.length + 2 := fun c l => by cases c <;> simp [brkT]
    have := hb (decide (a.rank + 1 < 3)) (a.txt true)
    have := hb (decide (c.rank + 1 < 4)) (c.txt true)
    exact ⟨by omega, by omega⟩
  have FIN : Hid (s0 ++ [32, 62, 32] ++ s1 = Tm.txt true (.bin 8 a c)) := by
    show _ = brkT (decide (a.rank < lim 8)) (a.txt true) ++ sep true 8 ++ brkT (decide (c.rank < limR 8)) (c.txt true)
    rw [← hs0, ← hs1, show decide (a.rank < lim 8) = decide (a.rank + 1 < 3) from decide_eq_decide.2 (by show a.rank < 2 ↔ a.rank + 1 < 3; omega), show decide (c.rank < limR 8) = decide (c.rank + 1 < 4) from decide_eq_decide.2 (by show c.rank < 3 ↔ c.rank + 1 < 4; omega)]
    rfl
  have S0 := Lib.hid hs0
  have S1 := Lib.hid hs1
  rw [hn0, hn1, hk0, hk1] at HBT
  rw [hn0] at P0
  rw [hn1] at P1
  clear hn0 hn1 hk0 hk1 hs0 hs1 HL
  refine Rg.wp_region_kept (by kernel_rfl) [(0, some 32), (1, some 33), (2, some 34), (3, some 35), (4, some 36), (5, some 37), (6, some 38), (7, some 39), (8, some 40), (9, some 41), (10, some 42), (11, some 43), (12, some 44), (13, some 45), (14, some 2)] (by rfl) (by kernel_rfl) (by kernel_rfl) (Bt w b' o' b0 o0 n0 c0 b1 o1 n1 c1 k0 k1 la lc) (RP8 b' o' c' b0 o0 n0 c0 b1 o1 n1 c1 s0 s1) (HBT.out.below (Below.refl _ _).drew) ?_ ⟨⟨⟨⟨⟨⟨⟨⟨⟨⟨⟨⟨⟨⟨⟨True.intro, ?_⟩, ?_⟩, ?_⟩, ?_⟩, ?_⟩, ?_⟩, ?_⟩, ?_⟩, ?_⟩, ?_⟩, ?_⟩, ?_⟩, ?_⟩, ?_⟩, ?_⟩ ?_
  · intro k v w' hk
    unfold RP8
    split
    case h_16 => trivial
    all_goals exact absurd hk (by decide)
  · intro o ho f us wl al ha g hf hdep K hKf
    obtain rfl := Option.some.inj ho
    have hB := Lib.hid g.1
    have hK : ∀ v w', RP8 b' o' c' b0 o0 n0 c0 b1 o1 n1 c1 s0 s1 0 v w' → Below wl.heap.size wl w' → K (al.put (some 32) v) w' := fun v w' hv hb => hKf v w' (Rg.Kept.put (Base := Bt w b' o' b0 o0 n0 c0 b1 o1 n1 c1 k0 k1 la lc) (R := RP8 b' o' c' b0 o0 n0 c0 b1 o1 n1 c1 s0 s1) (fun _ _ h hb => h.below hb) (fun _ _ _ _ h _ => h) g hb hv)
    have e3 : al.tmps[3]?.getD undef = .slice (some ⟨b', o', none⟩) 2 c' := by rw [← Rg.eval_getD, ha]; exact (Rg.puts_eval_ne _ _ _ (by rfl)).trans rfl
    clear ha hdep g hf hKf
    refine Rg.wpOp_of rfl rfl ?_
    go_simp
    exact hK _ _ rfl (Below.refl _ _)
  · intro o ho f us wl al ha g hf hdep K hKf
    obtain rfl := Option.some.inj ho
    have hB := Lib.hid g.1
    have hK : ∀ v w', RP8 b' o' c' b0 o0 n0 c0 b1 o1 n1 c1 s0 s1 1 v w' → Below wl.heap.size wl w' → K (al.put (some 33) v) w' := fun v w' hv hb => hKf v w' (Rg.Kept.put (Base := Bt w b' o' b0 o0 n0 c0 b1 o1 n1 c1 k0 k1 la lc) (R := RP8 b' o' c' b0 o0 n0 c0 b1 o1 n1 c1 s0 s1) (fun _ _ h hb => h.below hb) (fun _ _ _ _ h _ => h) g hb hv)
    have d0 : RP8 b' o' c' b0 o0 n0 c0 b1 o1 n1 c1 s0 s1 0 (us 0) wl := g.2 0 (hdep ⟨0, .data⟩ (by simp) rfl)
    have e32 : al.tmps[32]?.getD undef = us 0 := by rw [← Rg.eval_getD, ha]; exact Rg.puts_eval _ _ _ (by rfl) (by simp) (by simp)
    clear ha hdep g hf hKf
    have f0 : us 0 = .slice (some ⟨b', o', none⟩) 2 c' := d0
    clear d0
    refine Rg.wpOp_of rfl rfl ?_
    go_simp
    exact hK _ _ rfl (Below.refl _ _)
  · intro o ho f us wl al ha g hf hdep K hKf
    obtain rfl := Option.some.inj ho
    have hB := Lib.hid g.1
    have hK : ∀ v w', RP8 b' o' c' b0 o0 n0 c0 b1 o1 n1 c1 s0 s1 2 v w' → Below wl.heap.size wl w' → K (al.put (some 34) v) w' := fun v w' hv hb => hKf v w' (Rg.Kept.put (Base := Bt w b' o' b0 o0 n0 c0 b1 o1 n1 c1 k0 k1 la lc) (R := RP8 b' o' c' b0 o0 n0 c0 b1 o1 n1 c1 s0 s1) (fun _ _ h hb => h.below hb) (fun _ _ _ _ h _ => h) g hb hv)
    have d1 : RP8 b' o' c' b0 o0 n0 c0 b1 o1 n1 c1 s0 s1 1 (us 1) wl := g.2 1 (hdep ⟨1, .data⟩ (by simp) rfl)
    have e33 : al.tmps[33]?.getD undef = us 1 := by rw [← Rg.eval_getD, ha]; exact Rg.puts_eval _ _ _ (by rfl) (by simp) (by simp)
    clear ha hdep g hf hKf
    have f1 : us 1 = .pointer (some ⟨b', o', none⟩) := d1
    clear d1
    have q := hB.out.q0
    refine Rg.wpOp_of rfl rfl ?_
    go_simp
    exact hK _ _ rfl (Below.refl _ _)
  · intro o ho f us wl al ha g hf hdep K hKf
    obtain rfl := Option.some.inj ho
    have hB := Lib.hid g.1
    have hK : ∀ v w', RP8 b' o' c' b0 o0 n0 c0 b1 o1 n1 c1 s0 s1 3 v w' → Below wl.heap.size wl w' → K (al.put (some 35) v) w' := fun v w' hv hb => hKf v w' (Rg.Kept.put (Base := Bt w b' o' b0 o0 n0 c0 b1 o1 n1 c1 k0 k1 la lc) (R := RP8 b' o' c' b0 o0 n0 c0 b1 o1 n1 c1 s0 s1) (fun _ _ h hb => h.below hb) (fun _ _ _ _ h _ => h) g hb hv)
    have e4 : al.tmps[4]?.getD undef = .int .i64 3 := by rw [← Rg.eval_getD, ha]; exact (Rg.puts_eval_ne _ _ _ (by rfl)).trans rfl
    clear ha hdep g hf hKf
    refine Rg.wpOp_of rfl rfl ?_
    go_simp
    exact hK _ _ rfl (Below.refl _ _)
  · intro o ho f us wl al ha g hf hdep K hKf
    obtain rfl := Option.some.inj ho
    have hB := Lib.hid g.1
    have hK : ∀ v w', RP8 b' o' c' b0 o0 n0 c0 b1 o1 n1 c1 s0 s1 4 v w' → Below wl.heap.size wl w' → K (al.put (some 36) v) w' := fun v w' hv hb => hKf v w' (Rg.Kept.put (Base := Bt w b' o' b0 o0 n0 c0 b1 o1 n1 c1 k0 k1 la lc) (R := RP8 b' o' c' b0 o0 n0 c0 b1 o1 n1 c1 s0 s1) (fun _ _ h hb => h.below hb) (fun _ _ _ _ h _ => h) g hb hv)
    have d2 : RP8 b' o' c' b0 o0 n0 c0 b1 o1 n1 c1 s0 s1 2 (us 2) wl := g.2 2 (hdep ⟨2, .data⟩ (by simp) rfl)
    have e34 : al.tmps[34]?.getD undef = us 2 := by rw [← Rg.eval_getD, ha]; exact Rg.puts_eval _ _ _ (by rfl) (by simp) (by simp)
    have d3 : RP8 b' o' c' b0 o0 n0 c0 b1 o1 n1 c1 s0 s1 3 (us 3) wl := g.2 3 (hdep ⟨3, .data⟩ (by simp) rfl)
    have e35 : al.tmps[35]?.getD undef = us 3 := by rw [← Rg.eval_getD, ha]; exact Rg.puts_eval _ _ _ (by rfl) (by simp) (by simp)
    clear ha hdep g hf hKf
    have f2 : us 2 = .slice (some ⟨b0, o0, none⟩) n0 c0 := d2
    clear d2
    have f3 : us 3 = .int .i64 3 := d3
    clear d3
    refine Rg.wpOp_of rfl rfl ?_
    go_simp
    refine (HW0.out _ _ hB.out.n0).mono ?_
    rintro e w' ⟨u, rfl, hu, hb⟩
    exact hK _ _ ⟨u, rfl, hu.trans S0.out⟩ hb
  · intro o ho f us wl al ha g hf hdep K hKf
    obtain rfl := Option.some.inj ho
    have hB := Lib.hid g.1
    have hK : ∀ v w', RP8 b' o' c' b0 o0 n0 c0 b1 o1 n1 c1 s0 s1 5 v w' → Below wl.heap.size wl w' → K (al.put (some 37) v) w' := fun v w' hv hb => hKf v w' (Rg.Kept.put (Base := Bt w b' o' b0 o0 n0 c0 b1 o1 n1 c1 k0 k1 la lc) (R := RP8 b' o' c' b0 o0 n0 c0 b1 o1 n1 c1 s0 s1) (fun _ _ h hb => h.below hb) (fun _ _ _ _ h _ => h) g hb hv)
    have e5 : al.tmps[5]?.getD undef = .string ⟨#[32, 62, 32]⟩ := by rw [← Rg.eval_getD, ha]; exact (Rg.puts_eval_ne _ _ _ (by rfl)).trans rfl
    clear ha hdep g hf hKf
    refine Rg.wpOp_of rfl rfl ?_
    go_simp
    exact hK _ _ rfl (Below.refl _ _)
  · intro o ho f us wl al ha g hf hdep K hKf
    obtain rfl := Option.some.inj ho
    have hB := Lib.hid g.1
    have hK : ∀ v w', RP8 b' o' c' b0 o0 n0 c0 b1 o1 n1 c1 s0 s1 6 v w' → Below wl.heap.size wl w' → K (al.put (some 38) v) w' := fun v w' hv hb => hKf v w' (Rg.Kept.put (Base := Bt w b' o' b0 o0 n0 c0 b1 o1 n1 c1 k0 k1 la lc) (R := RP8 b' o' c' b0 o0 n0 c0 b1 o1 n1 c1 s0 s1) (fun _ _ h hb => h.below hb) (fun _ _ _ _ h _ => h) g hb hv)
    have d4 : RP8 b' o' c' b0 o0 n0 c0 b1 o1 n1 c1 s0 s1 4 (us 4) wl := g.2 4 (hdep ⟨4, .data⟩ (by simp) rfl)
    have e36 : al.tmps[36]?.getD undef = us 4 := by rw [← Rg.eval_getD, ha]; exact Rg.puts_eval _ _ _ (by rfl) (by simp) (by simp)
    have d5 : RP8 b' o' c' b0 o0 n0 c0 b1 o1 n1 c1 s0 s1 5 (us 5) wl := g.2 5 (hdep ⟨5, .data⟩ (by simp) rfl)
    have e37 : al.tmps[37]?.getD undef = us 5 := by rw [← Rg.eval_getD, ha]; exact Rg.puts_eval _ _ _ (by rfl) (by simp) (by simp)
    clear ha hdep g hf hKf
    obtain ⟨u4, f4, hu4⟩ : IsT (us 4) (s0) := d4
    have z4 : u4.size = (s0).length := by rw [← hu4]; exact (bytes_len u4).symm
    have HU4 := Lib.hid hu4
    clear hu4
    have f5 : us 5 = .string ⟨#[32, 62, 32]⟩ := d5
    clear d5
    have L0 := L.out
    refine Rg.wpOp_of rfl rfl ?_
    go_simp
    first | rw [if_neg (by omega)] | skip
    refine hK _ _ ?_ (Below.refl _ _)
    exact ⟨_, rfl, by rw [bytes_app, HU4.out]⟩
  · intro o ho f us wl al ha g hf hdep K hKf
    obtain rfl := Option.some.inj ho
    have hB := Lib.hid g.1
    have hK : ∀ v w', RP8 b' o' c' b0 o0 n0 c0 b1 o1 n1 c1 s0 s1 7 v w' → Below wl.heap.size wl w' → K (al.put (some 39) v) w' := fun v w' hv hb => hKf v w' (Rg.Kept.put (Base := Bt w b' o' b0 o0 n0 c0 b1 o1 n1 c1 k0 k1 la lc) (R := RP8 b' o' c' b0 o0 n0 c0 b1 o1 n1 c1 s0 s1) (fun _ _ h hb => h.below hb) (fun _ _ _ _ h _ => h) g hb hv)
    have e3 : al.tmps[3]?.getD undef = .slice (some ⟨b', o', none⟩) 2 c' := by rw [← Rg.eval_getD, ha]; exact (Rg.puts_eval_ne _ _ _ (by rfl)).trans rfl
    clear ha hdep g hf hKf
    refine Rg.wpOp_of rfl rfl ?_
    go_simp
    exact hK _ _ rfl (Below.refl _ _)
  · intro o ho f us wl al ha g hf hdep K hKf
    obtain rfl := Option.some.inj ho
    have hB := Lib.hid g.1
    have hK : ∀ v w', RP8 b' o' c' b0 o0 n0 c0 b1 o1 n1 c1 s0 s1 8 v w' → Below wl.heap.size wl w' → K (al.put (some 40) v) w' := fun v w' hv hb => hKf v w' (Rg.Kept.put (Base := Bt w b' o' b0 o0 n0 c0 b1 o1 n1 c1 k0 k1 la lc) (R := RP8 b' o' c' b0 o0 n0 c0 b1 o1 n1 c1 s0 s1) (fun _ _ h hb => h.below hb) (fun _ _ _ _ h _ => h) g hb hv)
    have d7 : RP8 b' o' c' b0 o0 n0 c0 b1 o1 n1 c1 s0 s1 7 (us 7) wl := g.2 7 (hdep ⟨7, .data⟩ (by simp) rfl)
    have e39 : al.tmps[39]?.getD undef = us 7 := by rw [← Rg.eval_getD, ha]; exact Rg.puts_eval _ _ _ (by rfl) (by simp) (by simp)
    clear ha hdep g hf hKf
    have f7 : us 7 = .slice (some ⟨b', o', none⟩) 2 c' := d7
    clear d7
    refine Rg.wpOp_of rfl rfl ?_
    go_simp
    exact hK _ _ rfl (Below.refl _ _)
  · intro o ho f us wl al ha g hf hdep K hKf
    obtain rfl := Option.some.inj ho
    have hB := Lib.hid g.1
    have hK : ∀ v w', RP8 b' o' c' b0 o0 n0 c0 b1 o1 n1 c1 s0 s1 9 v w' → Below wl.heap.size wl w' → K (al.put (some 41) v) w' := fun v w' hv hb => hKf v w' (Rg.Kept.put (Base := Bt w b' o' b0 o0 n0 c0 b1 o1 n1 c1 k0 k1 la lc) (R := RP8 b' o' c' b0 o0 n0 c0 b1 o1 n1 c1 s0 s1) (fun _ _ h hb => h.below hb) (fun _ _ _ _ h _ => h) g hb hv)
    have d8 : RP8 b' o' c' b0 o0 n0 c0 b1 o1 n1 c1 s0 s1 8 (us 8) wl := g.2 8 (hdep ⟨8, .data⟩ (by simp) rfl)
    have e40 : al.tmps[40]?.getD undef = us 8 := by rw [← Rg.eval_getD, ha]; exact Rg.puts_eval _ _ _ (by rfl) (by simp) (by simp)
    clear ha hdep g hf hKf
    have f8 : us 8 = .pointer (some ⟨b', o' + 1, none⟩) := d8
    clear d8
    have q := hB.out.q1
    refine Rg.wpOp_of rfl rfl ?_
    go_simp
    exact hK _ _ rfl (Below.refl _ _)
  · intro o ho f us wl al ha g hf hdep K hKf
    obtain rfl := Option.some.inj ho
    have hB := Lib.hid g.1
    have hK : ∀ v w', RP8 b' o' c' b0 o0 n0 c0 b1 o1 n1 c1 s0 s1 10 v w' → Below wl.heap.size wl w' → K (al.put (some 42) v) w' := fun v w' hv hb => hKf v w' (Rg.Kept.put (Base := Bt w b' o' b0 o0 n0 c0 b1 o1 n1 c1 k0 k1 la lc) (R := RP8 b' o' c' b0 o0 n0 c0 b1 o1 n1 c1 s0 s1) (fun _ _ h hb => h.below hb) (fun _ _ _ _ h _ => h) g hb hv)
    have e4 : al.tmps[4]?.getD undef = .int .i64 3 := by rw [← Rg.eval_getD, ha]; exact (Rg.puts_eval_ne _ _ _ (by rfl)).trans rfl
    clear ha hdep g hf hKf
    refine Rg.wpOp_of rfl rfl ?_
    go_simp
    exact hK _ _ rfl (Below.refl _ _)
  · intro o ho f us wl al ha g hf hdep K hKf
    obtain rfl := Option.some.inj ho
    have hB := Lib.hid g.1
    have hK : ∀ v w', RP8 b' o' c' b0 o0 n0 c0 b1 o1 n1 c1 s0 s1 11 v w' → Below wl.heap.size wl w' → K (al.put (some 43) v) w' := fun v w' hv hb => hKf v w' (Rg.Kept.put (Base := Bt w b' o' b0 o0 n0 c0 b1 o1 n1 c1 k0 k1 la lc) (R := RP8 b' o' c' b0 o0 n0 c0 b1 o1 n1 c1 s0 s1) (fun _ _ h hb => h.below hb) (fun _ _ _ _ h _ => h) g hb hv)
    have d10 : RP8 b' o' c' b0 o0 n0 c0 b1 o1 n1 c1 s0 s1 10 (us 10) wl := g.2 10 (hdep ⟨10, .data⟩ (by simp) rfl)
    have e42 : al.tmps[42]?.getD undef = us 10 := by rw [← Rg.eval_getD, ha]; exact Rg.puts_eval _ _ _ (by rfl) (by simp) (by simp)
    clear ha hdep g hf hKf
    have f10 : us 10 = .int .i64 3 := d10
    clear d10
    refine Rg.wpOp_of rfl rfl ?_
    go_simp
    exact hK _ _ rfl (Below.refl _ _)
  · intro o ho f us wl al ha g hf hdep K hKf
    obtain rfl := Option.some.inj ho
    have hB := Lib.hid g.1
    have hK : ∀ v w', RP8 b' o' c' b0 o0 n0 c0 b1 o1 n1 c1 s0 s1 12 v w' → Below wl.heap.size wl w' → K (al.put (some 44) v) w' := fun v w' hv hb => hKf v w' (Rg.Kept.put (Base := Bt w b' o' b0 o0 n0 c0 b1 o1 n1 c1 k0 k1 la lc) (R := RP8 b' o' c' b0 o0 n0 c0 b1 o1 n1 c1 s0 s1) (fun _ _ h hb => h.below hb) (fun _ _ _ _ h _ => h) g hb hv)
    have d9 : RP8 b' o' c' b0 o0 n0 c0 b1 o1 n1 c1 s0 s1 9 (us 9) wl := g.2 9 (hdep ⟨9, .data⟩ (by simp) rfl)
    have e41 : al.tmps[41]?.getD undef = us 9 := by rw [← Rg.eval_getD, ha]; exact Rg.puts_eval _ _ _ (by rfl) (by simp) (by simp)
    have d11 : RP8 b' o' c' b0 o0 n0 c0 b1 o1 n1 c1 s0 s1 11 (us 11) wl := g.2 11 (hdep ⟨11, .data⟩ (by simp) rfl)
    have e43 : al.tmps[43]?.getD undef = us 11 := by rw [← Rg.eval_getD, ha]; exact Rg.puts_eval _ _ _ (by rfl) (by simp) (by simp)
    clear ha hdep g hf hKf
    have f9 : us 9 = .slice (some ⟨b1, o1, none⟩) n1 c1 := d9
    clear d9
    have f11 : us 11 = .int .i64 4 := d11
    clear d11
    refine Rg.wpOp_of rfl rfl ?_
    go_simp
    refine (HW1.out _ _ hB.out.n1).mono ?_
    rintro e w' ⟨u, rfl, hu, hb⟩
    exact hK _ _ ⟨u, rfl, hu.trans S1.out⟩ hb
  · intro o ho f us wl al ha g hf hdep K hKf
    obtain rfl := Option.some.inj ho
    have hB := Lib.hid g.1
    have hK : ∀ v w', RP8 b' o' c' b0 o0 n0 c0 b1 o1 n1 c1 s0 s1 13 v w' → Below wl.heap.size wl w' → K (al.put (some 45) v) w' := fun v w' hv hb => hKf v w' (Rg.Kept.put (Base := Bt w b' o' b0 o0 n0 c0 b1 o1 n1 c1 k0 k1 la lc) (R := RP8 b' o' c' b0 o0 n0 c0 b1 o1 n1 c1 s0 s1) (fun _ _ h hb => h.below hb) (fun _ _ _ _ h _ => h) g hb hv)
    have d6 : RP8 b' o' c' b0 o0 n0 c0 b1 o1 n1 c1 s0 s1 6 (us 6) wl := g.2 6 (hdep ⟨6, .data⟩ (by simp) rfl)
    have e38 : al.tmps[38]?.getD undef = us 6 := by rw [← Rg.eval_getD, ha]; exact Rg.puts_eval _ _ _ (by rfl) (by simp) (by simp)
    have d12 : RP8 b' o' c' b0 o0 n0 c0 b1 o1 n1 c1 s0 s1 12 (us 12) wl := g.2 12 (hdep ⟨12, .data⟩ (by simp) rfl)
    have e44 : al.tmps[44]?.getD undef = us 12 := by rw [← Rg.eval_getD, ha]; exact Rg.puts_eval _ _ _ (by rfl) (by simp) (by simp)
    clear ha hdep g hf hKf
    obtain ⟨u6, f6, hu6⟩ : IsT (us 6) (s0 ++ [32, 62, 32]) := d6
    have z6 : u6.size = (s0 ++ [32, 62, 32]).length := by rw [← hu6]; exact (bytes_len u6).symm
    simp only [List.length_append, List.length_cons, List.length_nil] at z6
    have HU6 := Lib.hid hu6
    clear hu6
    obtain ⟨u12, f12, hu12⟩ : IsT (us 12) (s1) := d12
    have z12 : u12.size = (s1).length := by rw [← hu12]; exact (bytes_len u12).symm
    have HU12 := Lib.hid hu12
    clear hu12
    have L0 := L.out
    refine Rg.wpOp_of rfl rfl ?_
    go_simp
    first | rw [if_neg (by omega)] | skip
    refine hK _ _ ?_ (Below.refl _ _)
    exact ⟨_, rfl, by rw [bytes_app, HU6.out, HU12.out]⟩
  · intro o ho f us wl al ha g hf hdep K hKf
    obtain rfl := Option.some.inj ho
    have hB := Lib.hid g.1
    have hK : ∀ v w', RP8 b' o' c' b0 o0 n0 c0 b1 o1 n1 c1 s0 s1 14 v w' → Below wl.heap.size wl w' → K (al.put (some 2) v) w' := fun v w' hv hb => hKf v w' (Rg.Kept.put (Base := Bt w b' o' b0 o0 n0 c0 b1 o1 n1 c1 k0 k1 la lc) (R := RP8 b' o' c' b0 o0 n0 c0 b1 o1 n1 c1 s0 s1) (fun _ _ h hb => h.below hb) (fun _ _ _ _ h _ => h) g hb hv)
    have d13 : RP8 b' o' c' b0 o0 n0 c0 b1 o1 n1 c1 s0 s1 13 (us 13) wl := g.2 13 (hdep ⟨13, .data⟩ (by simp) rfl)
    have e45 : al.tmps[45]?.getD undef = us 13 := by rw [← Rg.eval_getD, ha]; exact Rg.puts_eval _ _ _ (by rfl) (by simp) (by simp)
    clear ha hdep g hf hKf
    obtain ⟨u13, f13, hu13⟩ : IsT (us 13) (s0 ++ [32, 62, 32] ++ s1) := d13
    have z13 : u13.size = (s0 ++ [32, 62, 32] ++ s1).length := by rw [← hu13]; exact (bytes_len u13).symm
    simp only [List.length_append, List.length_cons, List.length_nil] at z13
    have HU13 := Lib.hid hu13
    clear hu13
    refine Rg.wpOp_of rfl rfl ?_
    go_simp
    exact hK _ _ ⟨_, rfl, HU13.out⟩ (Below.refl _ _)
  · intro us wz hB hR
    obtain ⟨u, fu, hu⟩ : IsT (us 14) (s0 ++ [32, 62, 32] ++ s1) := hR 14
    have HB2 := Lib.hid hB.bel
    have HU := Lib.hid hu
    clear hB hR hu
    simp only [Rg.puts, Act.put, List.setIfInBounds_toArray, List.set_cons_zero, List.set_cons_succ, fu]
    go_wp2_with fail
    go_ret
    exact ⟨_, rfl, by rw [HU.out, FIN.out], HB2.out⟩

def RP10 (b' o' c' b0 o0 n0 c0 b1 o1 n1 c1 : Nat) (s0 s1 : List UInt8) (k : Nat) (v : Value) (_ : World) : Prop := match k with
  | 0 => v = .slice (some ⟨b', o', none⟩) 2 c'
  | 1 => v = .pointer (some ⟨b', o', none⟩)
  | 2 => v = .slice (some ⟨b0, o0, none⟩) n0 c0
  | 3 => v = .int .i64 5
  | 4 => IsT v s0
  | 5 => v = .string ⟨#[47]⟩
  | 6 => IsT v (s0 ++ [47])
  | 7 => v = .slice (some ⟨b', o', none⟩) 2 c'
  | 8 => v = .pointer (some ⟨b', o' + 1, none⟩)
  | 9 => v = .slice (some ⟨b1, o1, none⟩) n1 c1
  | 10 => v = .int .i64 5
  | 11 => v = .int .i64 6
  | 12 => IsT v s1
  | 13 => IsT v (s0 ++ [47] ++ s1)
  | 14 => IsT v (s0 ++ [47] ++ s1)
  | _ => True

set_option maxHeartbeats 8000000 in
theorem textP_10 {a c : Tm} (ha : TextP a) (hc : TextP c) (hna : a.nam) (hnc : c.nam) (hf : a.rank ≠ 4) : TextP (.bin 10 a c) := by
  intro l v w hcv hv hl
  obtain ⟨ht, hh, la, lc, hk, hca, hcc, rfl⟩ := hcv
  have hl2 : la.length ≤ 200 := by simp at hl; omega
  have hl3 : lc.length ≤ 200 := by simp at hl; omega
  have hlen := txt_len true a hna
  rw [hca.row] at hlen
  have hlen2 := txt_len true c hnc
  rw [hcc.row] at hlen2
  have HW0 := Lib.hid (fun w' v' hv' => withinP_any ha hca (v := v') (w := w') hv' hl2 hna 5)
  have HW1 := Lib.hid (fun w' v' hv' => withinP_any hc hcc (v := v') (w := w') hv' hl3 hnc 6)
  have HBK : Hid (∀ w', Calls Try.prog 56 #[.int .i64 10] w' fun e w'' => e = .returned (.tuple #[.int .i64 5, .string ⟨#[47]⟩]) ∧ w' = w'') := Lib.hid (fun w' => bind_any 10 w')
  have HK := Lib.hid (fun w' v' hv' => kidsW_any v' (nOf 10 :: (la ++ lc)) w' hv' (by omega))
  have HV := Lib.hid hv
  have HKK := Lib.hid hk
  have P0 := Lib.hid hca.tre.pos
  have P1 := Lib.hid hcc.tre.pos
  rcases hv.form with ⟨h0, _⟩ | ⟨b, off, cap, rfl, _, hat⟩
  · cases h0
  obtain ⟨e1, e2, e3⟩ := hat 0 (by simp)
  rw [Nat.zero_mul, Nat.add_zero] at e1 e2
  have E1 := Lib.hid e1
  simp only [List.getElem_cons_zero] at E1
  have HCA := Lib.hid hca
  have HCC := Lib.hid hcc
  have HL := Lib.hid (And.intro hlen (And.intro hlen2 (And.intro hl2 hl3)))
  clear hat e1 e2 e3 ht hh hk hv hlen hlen2 hl2 hl3 hca hcc hna hnc
  have hN0 : 0 < (nOf 10 :: (la ++ lc)).length := by simp
  rw [show (nOf 10).k = 10 from rfl] at E1
  generalize (nOf 10 :: (la ++ lc)).length = N at *
  go_enter Try.func32, Try.ntmps32
  go_wp2_with fail
  refine (HK.out _ _ HV.out).mono ?_
  rintro e w1 ⟨y, rfl, hy, hb⟩
  have cE := E1.out
  rw [← hb.cell (Ap.cell_lt cE)] at cE
  rw [HKK.out] at hy
  obtain ⟨b', o', c', a0, a1, rfl, q0, q1, n0, n1⟩ := two_rows hy
  have N0 := Lib.hid n0
  have N1 := Lib.hid n1
  have HB := Lib.hid hb
  clear hb hy
  obtain ⟨b0, o0, c0, rfl, k0⟩ := HCA.out.head n0
  obtain ⟨b1, o1, c1, rfl, k1⟩ := HCC.out.head n1
  have HBT := Lib.hid (Bt.mk HB.out q0 q1 N0.out N1.out k0 k1)
  clear n0 n1 q0 q1 k0 k1
  go_wp2_with fail
  refine (HBK.out _).mono ?_
  rintro e w' ⟨rfl, rfl⟩
  go_wp2_with fail
  clear cE HB N0 N1 HCA HCC HKK HK HV E1
  obtain ⟨n0, hn0⟩ : ∃ n, la.length = n := ⟨_, rfl⟩
  obtain ⟨n1, hn1⟩ : ∃ n, lc.length = n := ⟨_, rfl⟩
  obtain ⟨k0, hk0⟩ : ∃ k, So.hd la = k := ⟨_, rfl⟩
  obtain ⟨k1, hk1⟩ : ∃ k, So.hd lc = k := ⟨_, rfl⟩
  obtain ⟨s0, hs0⟩ : ∃ s, brkT (decide (a.rank + 1 < 5)) (a.txt true) = s := ⟨_, rfl⟩
  obtain ⟨s1, hs1⟩ : ∃ s, brkT (decide (c.rank + 1 < 6)) (c.txt true) = s := ⟨_, rfl⟩
  have L : Hid (s0.length ≤ 1602 ∧ s1.length ≤ 1602) := by
    obtain ⟨g1, g2, g3, g4⟩ := HL.out
    rw [← hs0, ← hs1]
    have hb : ∀ (c : Bool) (l : List UInt8), (brkT c l).length ≤ l.length + 2 := fun c l => by cases c <;> simp [brkT]
    have := hb (decide (a.rank + 1 < 5)) (a.txt true)
    have := hb (decide (c.rank + 1 < 6)) (c.txt true)
    exact ⟨by omega, by omega⟩
  have FIN : Hid (s0 ++ [47] ++ s1 = Tm.txt true (.bin 10 a c)) := by
    show _ = brkT (decide (a.rank < lim 10)) (a.txt true) ++ sep true 10 ++ brkT (decide (c.rank < limR 10)) (c.txt true)
    rw [← hs0, ← hs1, show decide (a.rank < lim 10) = decide (a.rank + 1 < 5) from decide_eq_decide.2 (by show a.rank < 5 ↔ a.rank + 1 < 5; omega), show decide (c.rank < limR 10) = decide (c.rank + 1 < 6) from decide_eq_decide.2 (by show c.rank < 5 ↔ c.rank + 1 < 6; omega)]
    rfl
  have S0 := Lib.hid hs0
  have S1 := Lib.hid hs1
  rw [hn0, hn1, hk0, hk1] at HBT
  rw [hn0] at P0
  rw [hn1] at P1
  clear hn0 hn1 hk0 hk1 hs0 hs1 HL
  refine Rg.wp_region_kept (by kernel_rfl) [(0, some 32), (1, some 33), (2, some 34), (3, some 35), (4, some 36), (5, some 37), (6, some 38), (7, some 39), (8, some 40), (9, some 41), (10, some 42), (11, some 43), (12, some 44), (13, some 45), (14, some 2)] (by rfl) (by kernel_rfl) (by kernel_rfl) (Bt w b' o' b0 o0 n0 c0 b1 o1 n1 c1 k0 k1 la lc) (RP10 b' o' c' b0 o0 n0 c0 b1 o1 n1 c1 s0 s1) (HBT.out.below (Below.refl _ _).drew) ?_ ⟨⟨⟨⟨⟨⟨⟨⟨⟨⟨⟨⟨⟨⟨⟨True.intro, ?_⟩, ?_⟩, ?_⟩, ?_⟩, ?_⟩, ?_⟩, ?_⟩, ?_⟩, ?_⟩, ?_⟩, ?_⟩, ?_⟩, ?_⟩, ?_⟩, ?_⟩ ?_
  · intro k v w' hk
    unfold RP10
    split
    case h_16 => trivial
    all_goals exact absurd hk (by decide)
  · intro o ho f us wl al ha g hf hdep K hKf
    obtain rfl := Option.some.inj ho
    have hB := Lib.hid g.1
    have hK : ∀ v w', RP10 b' o' c' b0 o0 n0 c0 b1 o1 n1 c1 s0 s1 0 v w' → Below wl.heap.size wl w' → K (al.put (some 32) v) w' := fun v w' hv hb => hKf v w' (Rg.Kept.put (Base := Bt w b' o' b0 o0 n0 c0 b1 o1 n1 c1 k0 k1 la lc) (R := RP10 b' o' c' b0 o0 n0 c0 b1 o1 n1 c1 s0 s1) (fun _ _ h hb => h.below hb) (fun _ _ _ _ h _ => h) g hb hv)
    have e3 : al.tmps[3]?.getD undef = .slice (some ⟨b', o', none⟩) 2 c' := by rw [← Rg.eval_getD, ha]; exact (Rg.puts_eval_ne _ _ _ (by rfl)).trans rfl
    clear ha hdep g hf hKf
    refine Rg.wpOp_of rfl rfl ?_
    go_simp
    exact hK _ _ rfl (Below.refl _ _)
  · intro o ho f us wl al ha g hf hdep K hKf
    obtain rfl := Option.some.inj ho
    have hB := Lib.hid g.1
    have hK : ∀ v w', RP10 b' o' c' b0 o0 n0 c0 b1 o1 n1 c1 s0 s1 1 v w' → Below wl.heap.size wl w' → K (al.put (some 33) v) w' := fun v w' hv hb => hKf v w' (Rg.Kept.put (Base := Bt w b' o' b0 o0 n0 c0 b1 o1 n1 c1 k0 k1 la lc) (R := RP10 b' o' c' b0 o0 n0 c0 b1 o1 n1 c1 s0 s1) (fun _ _ h hb => h.below hb) (fun _ _ _ _ h _ => h) g hb hv)
    have d0 : RP10 b' o' c' b0 o0 n0 c0 b1 o1 n1 c1 s0 s1 0 (us 0) wl := g.2 0 (hdep ⟨0, .data⟩ (by simp) rfl)
    have e32 : al.tmps[32]?.getD undef = us 0 := by rw [← Rg.eval_getD, ha]; exact Rg.puts_eval _ _ _ (by rfl) (by simp) (by simp)
    clear ha hdep g hf hKf
    have f0 : us 0 = .slice (some ⟨b', o', none⟩) 2 c' := d0
    clear d0
    refine Rg.wpOp_of rfl rfl ?_
    go_simp
    exact hK _ _ rfl (Below.refl _ _)
  · intro o ho f us wl al ha g hf hdep K hKf
    obtain rfl := Option.some.inj ho
    have hB := Lib.hid g.1
    have hK : ∀ v w', RP10 b' o' c' b0 o0 n0 c0 b1 o1 n1 c1 s0 s1 2 v w' → Below wl.heap.size wl w' → K (al.put (some 34) v) w' := fun v w' hv hb => hKf v w' (Rg.Kept.put (Base := Bt w b' o' b0 o0 n0 c0 b1 o1 n1 c1 k0 k1 la lc) (R := RP10 b' o' c' b0 o0 n0 c0 b1 o1 n1 c1 s0 s1) (fun _ _ h hb => h.below hb) (fun _ _ _ _ h _ => h) g hb hv)
    have d1 : RP10 b' o' c' b0 o0 n0 c0 b1 o1 n1 c1 s0 s1 1 (us 1) wl := g.2 1 (hdep ⟨1, .data⟩ (by simp) rfl)
    have e33 : al.tmps[33]?.getD undef = us 1 := by rw [← Rg.eval_getD, ha]; exact Rg.puts_eval _ _ _ (by rfl) (by simp) (by simp)
    clear ha hdep g hf hKf
    have f1 : us 1 = .pointer (some ⟨b', o', none⟩) := d1
    clear d1
    have q := hB.out.q0
    refine Rg.wpOp_of rfl rfl ?_
    go_simp
    exact hK _ _ rfl (Below.refl _ _)
  · intro o ho f us wl al ha g hf hdep K hKf
    obtain rfl := Option.some.inj ho
    have hB := Lib.hid g.1
    have hK : ∀ v w', RP10 b' o' c' b0 o0 n0 c0 b1 o1 n1 c1 s0 s1 3 v w' → Below wl.heap.size wl w' → K (al.put (some 35) v) w' := fun v w' hv hb => hKf v w' (Rg.Kept.put (Base := Bt w b' o' b0 o0 n0 c0 b1 o1 n1 c1 k0 k1 la lc) (R := RP10 b' o' c' b0 o0 n0 c0 b1 o1 n1 c1 s0 s1) (fun _ _ h hb => h.below hb) (fun _ _ _ _ h _ => h) g hb hv)
    have e4 : al.tmps[4]?.getD undef = .int .i64 5 := by rw [← Rg.eval_getD, ha]; exact (Rg.puts_eval_ne _ _ _ (by rfl)).trans rfl
    clear ha hdep g hf hKf
    refine Rg.wpOp_of rfl rfl ?_
    go_simp
    exact hK _ _ rfl (Below.refl _ _)
  · intro o ho f us wl al ha g hf hdep K hKf
    obtain rfl := Option.some.inj ho
    have hB := Lib.hid g.1
    have hK : ∀ v w', RP10 b' o' c' b0 o0 n0 c0 b1 o1 n1 c1 s0 s1 4 v w' → Below wl.heap.size wl w' → K (al.put (some 36) v) w' := fun v w' hv hb => hKf v w' (Rg.Kept.put (Base := Bt w b' o' b0 o0 n0 c0 b1 o1 n1 c1 k0 k1 la lc) (R := RP10 b' o' c' b0 o0 n0 c0 b1 o1 n1 c1 s0 s1) (fun _ _ h hb => h.below hb) (fun _ _ _ _ h _ => h) g hb hv)
    have d2 : RP10 b' o' c' b0 o0 n0 c0 b1 o1 n1 c1 s0 s1 2 (us 2) wl := g.2 2 (hdep ⟨2, .data⟩ (by simp) rfl)
    have e34 : al.tmps[34]?.getD undef = us 2 := by rw [← Rg.eval_getD, ha]; exact Rg.puts_eval _ _ _ (by rfl) (by simp) (by simp)
    have d3 : RP10 b' o' c' b0 o0 n0 c0 b1 o1 n1 c1 s0 s1 3 (us 3) wl := g.2 3 (hdep ⟨3, .data⟩ (by simp) rfl)
    have e35 : al.tmps[35]?.getD undef = us 3 := by rw [← Rg.eval_getD, ha]; exact Rg.puts_eval _ _ _ (by rfl) (by simp) (by simp)
    clear ha hdep g hf hKf
    have f2 : us 2 = .slice (some ⟨b0, o0, none⟩) n0 c0 := d2
    clear d2
    have f3 : us 3 = .int .i64 5 := d3
    clear d3
    refine Rg.wpOp_of rfl rfl ?_
    go_simp
    refine (HW0.out _ _ hB.out.n0).mono ?_
    rintro e w' ⟨u, rfl, hu, hb⟩
    exact hK _ _ ⟨u, rfl, hu.trans S0.out⟩ hb
  · intro o ho f us wl al ha g hf hdep K hKf
    obtain rfl := Option.some.inj ho
    have hB := Lib.hid g.1
    have hK : ∀ v w', RP10 b' o' c' b0 o0 n0 c0 b1 o1 n1 c1 s0 s1 5 v w' → Below wl.heap.size wl w' → K (al.put (some 37) v) w' := fun v w' hv hb => hKf v w' (Rg.Kept.put (Base := Bt w b' o' b0 o0 n0 c0 b1 o1 n1 c1 k0 k1 la lc) (R := RP10 b' o' c' b0 o0 n0 c0 b1 o1 n1 c1 s0 s1) (fun _ _ h hb => h.below hb) (fun _ _ _ _ h _ => h) g hb hv)
    have e5 : al.tmps[5]?.getD undef = .string ⟨#[47]⟩ := by rw [← Rg.eval_getD, ha]; exact (Rg.puts_eval_ne _ _ _ (by rfl)).trans rfl
    clear ha hdep g hf hKf
    refine Rg.wpOp_of rfl rfl ?_
    go_simp
    exact hK _ _ rfl (Below.refl _ _)
  · intro o ho f us wl al ha g hf hdep K hKf
    obtain rfl := Option.some.inj ho
    have hB := Lib.hid g.1
    have hK : ∀ v w', RP10 b' o' c' b0 o0 n0 c0 b1 o1 n1 c1 s0 s1 6 v w' → Below wl.heap.size wl w' → K (al.put (some 38) v) w' := fun v w' hv hb => hKf v w' (Rg.Kept.put (Base := Bt w b' o' b0 o0 n0 c0 b1 o1 n1 c1 k0 k1 la lc) (R := RP10 b' o' c' b0 o0 n0 c0 b1 o1 n1 c1 s0 s1) (fun _ _ h hb => h.below hb) (fun _ _ _ _ h _ => h) g hb hv)
    have d4 : RP10 b' o' c' b0 o0 n0 c0 b1 o1 n1 c1 s0 s1 4 (us 4) wl := g.2 4 (hdep ⟨4, .data⟩ (by simp) rfl)
    have e36 : al.tmps[36]?.getD undef = us 4 := by rw [← Rg.eval_getD, ha]; exact Rg.puts_eval _ _ _ (by rfl) (by simp) (by simp)
    have d5 : RP10 b' o' c' b0 o0 n0 c0 b1 o1 n1 c1 s0 s1 5 (us 5) wl := g.2 5 (hdep ⟨5, .data⟩ (by simp) rfl)
    have e37 : al.tmps[37]?.getD undef = us 5 := by rw [← Rg.eval_getD, ha]; exact Rg.puts_eval _ _ _ (by rfl) (by simp) (by simp)
    clear ha hdep g hf hKf
    obtain ⟨u4, f4, hu4⟩ : IsT (us 4) (s0) := d4
    have z4 : u4.size = (s0).length := by rw [← hu4]; exact (bytes_len u4).symm
    have HU4 := Lib.hid hu4
    clear hu4
    have f5 : us 5 = .string ⟨#[47]⟩ := d5
    clear d5
    have L0 := L.out
    refine Rg.wpOp_of rfl rfl ?_
    go_simp
    first | rw [if_neg (by omega)] | skip
    refine hK _ _ ?_ (Below.refl _ _)
    exact ⟨_, rfl, by rw [bytes_app, HU4.out]⟩
  · intro o ho f us wl al ha g hf hdep K hKf
    obtain rfl := Option.some.inj ho
    have hB := Lib.hid g.1
    have hK : ∀ v w', RP10 b' o' c' b0 o0 n0 c0 b1 o1 n1 c1 s0 s1 7 v w' → Below wl.heap.size wl w' → K (al.put (some 39) v) w' := fun v w' hv hb => hKf v w' (Rg.Kept.put (Base := Bt w b' o' b0 o0 n0 c0 b1 o1 n1 c1 k0 k1 la lc) (R := RP10 b' o' c' b0 o0 n0 c0 b1 o1 n1 c1 s0 s1) (fun _ _ h hb => h.below hb) (fun _ _ _ _ h _ => h) g hb hv)
    have e3 : al.tmps[3]?.getD undef = .slice (some ⟨b', o', none⟩) 2 c' := by rw [← Rg.eval_getD, ha]; exact (Rg.puts_eval_ne _ _ _ (by rfl)).trans rfl
    clear ha hdep g hf hKf
    refine Rg.wpOp_of rfl rfl ?_
    go_simp
    exact hK _ _ rfl (Below.refl _ _)
  · intro o ho f us wl al ha g hf hdep K hKf
    obtain rfl := Option.some.inj ho
    have hB := Lib.hid g.1
    have hK : ∀ v w', RP10 b' o' c' b0 o0 n0 c0 b1 o1 n1 c1 s0 s1 8 v w' → Below wl.heap.size wl w' → K (al.put (some 40) v) w' := fun v w' hv hb => hKf v w' (Rg.Kept.put (Base := Bt w b' o' b0 o0 n0 c0 b1 o1 n1 c1 k0 k1 la lc) (R := RP10 b' o' c' b0 o0 n0 c0 b1 o1 n1 c1 s0 s1) (fun _ _ h hb => h.below hb) (fun _ _ _ _ h _ => h) g hb hv)
    have d7 : RP10 b' o' c' b0 o0 n0 c0 b1 o1 n1 c1 s0 s1 7 (us 7) wl := g.2 7 (hdep ⟨7, .data⟩ (by simp) rfl)
    have e39 : al.tmps[39]?.getD undef = us 7 := by rw [← Rg.eval_getD, ha]; exact Rg.puts_eval _ _ _ (by rfl) (by simp) (by simp)
    clear ha hdep g hf hKf
    have f7 : us 7 = .slice (some ⟨b', o', none⟩) 2 c' := d7
    clear d7
    refine Rg.wpOp_of rfl rfl ?_
    go_simp
    exact hK _ _ rfl (Below.refl _ _)
  · intro o ho f us wl al ha g hf hdep K hKf
    obtain rfl := Option.some.inj ho
    have hB := Lib.hid g.1
    have hK : ∀ v w', RP10 b' o' c' b0 o0 n0 c0 b1 o1 n1 c1 s0 s1 9 v w' → Below wl.heap.size wl w' → K (al.put (some 41) v) w' := fun v w' hv hb => hKf v w' (Rg.Kept.put (Base := Bt w b' o' b0 o0 n0 c0 b1 o1 n1 c1 k0 k1 la lc) (R := RP10 b' o' c' b0 o0 n0 c0 b1 o1 n1 c1 s0 s1) (fun _ _ h hb => h.below hb) (fun _ _ _ _ h _ => h) g hb hv)
    have d8 : RP10 b' o' c' b0 o0 n0 c0 b1 o1 n1 c1 s0 s1 8 (us 8) wl := g.2 8 (hdep ⟨8, .data⟩ (by simp) rfl)
    have e40 : al.tmps[40]?.getD undef = us 8 := by rw [← Rg.eval_getD, ha]; exact Rg.puts_eval _ _ _ (by rfl) (by simp) (by simp)
    clear ha hdep g hf hKf
    have f8 : us 8 = .pointer (some ⟨b', o' + 1, none⟩) := d8
    clear d8
    have q := hB.out.q1
    refine Rg.wpOp_of rfl rfl ?_
    go_simp
    exact hK _ _ rfl (Below.refl _ _)
  · intro o ho f us wl al ha g hf hdep K hKf
    obtain rfl := Option.some.inj ho
    have hB := Lib.hid g.1
    have hK : ∀ v w', RP10 b' o' c' b0 o0 n0 c0 b1 o1 n1 c1 s0 s1 10 v w' → Below wl.heap.size wl w' → K (al.put (some 42) v) w' := fun v w' hv hb => hKf v w' (Rg.Kept.put (Base := Bt w b' o' b0 o0 n0 c0 b1 o1 n1 c1 k0 k1 la lc) (R := RP10 b' o' c' b0 o0 n0 c0 b1 o1 n1 c1 s0 s1) (fun _ _ h hb => h.below hb) (fun _ _ _ _ h _ => h) g hb hv)
    have e4 : al.tmps[4]?.getD undef = .int .i64 5 := by rw [← Rg.eval_getD, ha]; exact (Rg.puts_eval_ne _ _ _ (by rfl)).trans rfl
    clear ha hdep g hf hKf
    refine Rg.wpOp_of rfl rfl ?_
    go_simp
    exact hK _ _ rfl (Below.refl _ _)
  · intro o ho f us wl al ha g hf hdep K hKf
    obtain rfl := Option.some.inj ho
    have hB := Lib.hid g.1
    have hK : ∀ v w', RP10 b' o' c' b0 o0 n0 c0 b1 o1 n1 c1 s0 s1 11 v w' → Below wl.heap.size wl w' → K (al.put (some 43) v) w' := fun v w' hv hb => hKf v w' (Rg.Kept.put (Base := Bt w b' o' b0 o0 n0 c0 b1 o1 n1 c1 k0 k1 la lc) (R := RP10 b' o' c' b0 o0 n0 c0 b1 o1 n1 c1 s0 s1) (fun _ _ h hb => h.below hb) (fun _ _ _ _ h _ => h) g hb hv)
    have d10 : RP10 b' o' c' b0 o0 n0 c0 b1 o1 n1 c1 s0 s1 10 (us 10) wl := g.2 10 (hdep ⟨10, .data⟩ (by simp) rfl)
    have e42 : al.tmps[42]?.getD undef = us 10 := by rw [← Rg.eval_getD, ha]; exact Rg.puts_eval _ _ _ (by rfl) (by simp) (by simp)
    clear ha hdep g hf hKf
    have f10 : us 10 = .int .i64 5 := d10
    clear d10
    refine Rg.wpOp_of rfl rfl ?_
    go_simp
    exact hK _ _ rfl (Below.refl _ _)
  · intro o ho f us wl al ha g hf hdep K hKf
    obtain rfl := Option.some.inj ho
    have hB := Lib.hid g.1
    have hK : ∀ v w', RP10 b' o' c' b0 o0 n0 c0 b1 o1 n1 c1 s0 s1 12 v w' → Below wl.heap.size wl w' → K (al.put (some 44) v) w' := fun v w' hv hb => hKf v w' (Rg.Kept.put (Base := Bt w b' o' b0 o0 n0 c0 b1 o1 n1 c1 k0 k1 la lc) (R := RP10 b' o' c' b0 o0 n0 c0 b1 o1 n1 c1 s0 s1) (fun _ _ h hb => h.below hb) (fun _ _ _ _ h _ => h) g hb hv)
    have d9 : RP10 b' o' c' b0 o0 n0 c0 b1 o1 n1 c1 s0 s1 9 (us 9) wl := g.2 9 (hdep ⟨9, .data⟩ (by simp) rfl)
    have e41 : al.tmps[41]?.getD undef = us 9 := by rw [← Rg.eval_getD, ha]; exact Rg.puts_eval _ _ _ (by rfl) (by simp) (by simp)
    have d11 : RP10 b' o' c' b0 o0 n0 c0 b1 o1 n1 c1 s0 s1 11 (us 11) wl := g.2 11 (hdep ⟨11, .data⟩ (by simp) rfl)
    have e43 : al.tmps[43]?.getD undef = us 11 := by rw [← Rg.eval_getD, ha]; exact Rg.puts_eval _ _ _ (by rfl) (by simp) (by simp)
    clear ha hdep g hf hKf
    have f9 : us 9 = .slice (some ⟨b1, o1, none⟩) n1 c1 := d9
    clear d9
    have f11 : us 11 = .int .i64 6 := d11
    clear d11
    refine Rg.wpOp_of rfl rfl ?_
    go_simp
    refine (HW1.out _ _ hB.out.n1).mono ?_
    rintro e w' ⟨u, rfl, hu, hb⟩
    exact hK _ _ ⟨u, rfl, hu.trans S1.out⟩ hb
  · intro o ho f us wl al ha g hf hdep K hKf
    obtain rfl := Option.some.inj ho
    have hB := Lib.hid g.1
    have hK : ∀ v w', RP10 b' o' c' b0 o0 n0 c0 b1 o1 n1 c1 s0 s1 13 v w' → Below wl.heap.size wl w' → K (al.put (some 45) v) w' := fun v w' hv hb => hKf v w' (Rg.Kept.put (Base := Bt w b' o' b0 o0 n0 c0 b1 o1 n1 c1 k0 k1 la lc) (R := RP10 b' o' c' b0 o0 n0 c0 b1 o1 n1 c1 s0 s1) (fun _ _ h hb => h.below hb) (fun _ _ _ _ h _ => h) g hb hv)
    have d6 : RP10 b' o' c' b0 o0 n0 c0 b1 o1 n1 c1 s0 s1 6 (us 6) wl := g.2 6 (hdep ⟨6, .data⟩ (by simp) rfl)
    have e38 : al.tmps[38]?.getD undef = us 6 := by rw [← Rg.eval_getD, ha]; exact Rg.puts_eval _ _ _ (by rfl) (by simp) (by simp)
    have d12 : RP10 b' o' c' b0 o0 n0 c0 b1 o1 n1 c1 s0 s1 12 (us 12) wl := g.2 12 (hdep ⟨12, .data⟩ (by simp) rfl)
    have e44 : al.tmps[44]?.getD undef = us 12 := by rw [← Rg.eval_getD, ha]; exact Rg.puts_eval _ _ _ (by rfl) (by simp) (by simp)
    clear ha hdep g hf hKf
    obtain ⟨u6, f6, hu6⟩ : IsT (us 6) (s0 ++ [47]) := d6
    have z6 : u6.size = (s0 ++ [47]).length := by rw [← hu6]; exact (bytes_len u6).symm
    simp only [List.length_append, List.length_cons, List.length_nil] at z6
    have HU6 := Lib.hid hu6
    clear hu6
    obtain ⟨u12, f12, hu12⟩ : IsT (us 12) (s1) := d12
    have z12 : u12.size = (s1).length := by rw [← hu12]; exact (bytes_len u12).symm
    have HU12 := Lib.hid hu12
    clear hu12
    have L0 := L.out
    refine Rg.wpOp_of rfl rfl ?_
    go_simp
    first | rw [if_neg (by omega)] | skip
    refine hK _ _ ?_ (Below.refl _ _)
    exact ⟨_, rfl, by rw [bytes_app, HU6.out, HU12.out]⟩
  · intro o ho f us wl al ha g hf hdep K hKf
    obtain rfl := Option.some.inj ho
    have hB := Lib.hid g.1
    have hK : ∀ v w', RP10 b' o' c' b0 o0 n0 c0 b1 o1 n1 c1 s0 s1 14 v w' → Below wl.heap.size wl w' → K (al.put (some 2) v) w' := fun v w' hv hb => hKf v w' (Rg.Kept.put (Base := Bt w b' o' b0 o0 n0 c0 b1 o1 n1 c1 k0 k1 la lc) (R := RP10 b' o' c' b0 o0 n0 c0 b1 o1 n1 c1 s0 s1) (fun _ _ h hb => h.below hb) (fun _ _ _ _ h _ => h) g hb hv)
    have d13 : RP10 b' o' c' b0 o0 n0 c0 b1 o1 n1 c1 s0 s1 13 (us 13) wl := g.2 13 (hdep ⟨13, .data⟩ (by simp) rfl)
    have e45 : al.tmps[45]?.getD undef = us 13 := by rw [← Rg.eval_getD, ha]; exact Rg.puts_eval _ _ _ (by rfl) (by simp) (by simp)
    clear ha hdep g hf hKf
    obtain ⟨u13, f13, hu13⟩ : IsT (us 13) (s0 ++ [47] ++ s1) := d13
    have z13 : u13.size = (s0 ++ [47] ++ s1).length := by rw [← hu13]; exact (bytes_len u13).symm
    simp only [List.length_append, List.length_cons, List.length_nil] at z13
    have HU13 := Lib.hid hu13
    clear hu13
    refine Rg.wpOp_of rfl rfl ?_
    go_simp
    exact hK _ _ ⟨_, rfl, HU13.out⟩ (Below.refl _ _)
  · intro us wz hB hR
    obtain ⟨u, fu, hu⟩ : IsT (us 14) (s0 ++ [47] ++ s1) := hR 14
    have HB2 := Lib.hid hB.bel
    have HU := Lib.hid hu
    clear hB hR hu
    simp only [Rg.puts, Act.put, List.setIfInBounds_toArray, List.set_cons_zero, List.set_cons_succ, fu]
    go_wp2_with fail
    go_ret
    exact ⟨_, rfl, by rw [HU.out, FIN.out], HB2.out⟩
end Go.Proofs.Ytdhaghabhdeakaa.Pa
