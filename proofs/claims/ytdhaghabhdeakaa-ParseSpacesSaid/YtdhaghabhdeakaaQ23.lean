/- The document's Text: two trees joined by a sign (written by gen_text.py). -/
import Derived.Test.YtdhaghabhdeakaaQ18

namespace Go.Proofs.Ytdhaghabhdeakaa.Pa
open Go Go.RowKit Rw So
set_option maxRecDepth 20000

def RT8 (b' o' c' b0 o0 n0 c0 b1 o1 n1 c1 : Nat) (k0 k1 : Int) (r0 r1 : Nat) (m0 m1 : Bool) (s0 s1 : List UInt8) (k : Nat) (v : Value) (_ : World) : Prop := match k with
  | 0 => v = .slice (some ⟨b', o', none⟩) 2 c'
  | 1 => v = .pointer (some ⟨b', o', none⟩)
  | 2 => v = .slice (some ⟨b0, o0, none⟩) n0 c0
  | 3 => v = .slice (some ⟨b', o', none⟩) 2 c'
  | 4 => v = .pointer (some ⟨b', o', none⟩)
  | 5 => v = .slice (some ⟨b0, o0, none⟩) n0 c0
  | 6 => v = .pointer (some ⟨b0, o0, none⟩)
  | 7 => v = .pointer (some ⟨b0, o0, none⟩)
  | 8 => v = .int .i64 k0
  | 9 => v = .int .i64 (r0 : Nat)
  | 10 => v = .int .i64 2
  | 11 => v = .bool m0
  | 12 => IsT v s0
  | 13 => IsT v (s0 ++ [32])
  | 14 => v = .string ⟨#[124, 43, 62, 59]⟩
  | 15 => v = .int .i64 2
  | 16 => v = .int .i64 2
  | 17 => v = .int .i64 3
  | 18 => v = .string ⟨#[sgB 8]⟩
  | 19 => IsT v (s0 ++ [32] ++ [sgB 8])
  | 20 => IsT v (s0 ++ [32] ++ [sgB 8] ++ [32])
  | 21 => v = .slice (some ⟨b', o', none⟩) 2 c'
  | 22 => v = .pointer (some ⟨b', o' + 1, none⟩)
  | 23 => v = .slice (some ⟨b1, o1, none⟩) n1 c1
  | 24 => v = .slice (some ⟨b', o', none⟩) 2 c'
  | 25 => v = .pointer (some ⟨b', o' + 1, none⟩)
  | 26 => v = .slice (some ⟨b1, o1, none⟩) n1 c1
  | 27 => v = .pointer (some ⟨b1, o1, none⟩)
  | 28 => v = .pointer (some ⟨b1, o1, none⟩)
  | 29 => v = .int .i64 k1
  | 30 => v = .int .i64 (r1 : Nat)
  | 31 => v = .int .i64 2
  | 32 => v = .bool m1
  | 33 => IsT v s1
  | 34 => IsT v (s0 ++ [32] ++ [sgB 8] ++ [32] ++ s1)
  | 35 => IsT v (s0 ++ [32] ++ [sgB 8] ++ [32] ++ s1)
  | _ => True

set_option maxHeartbeats 8000000 in
theorem text_8 {a c : Tm} (ha : TextC a) (hc : TextC c) (hna : a.nam) (hnc : c.nam) : TextC (.bin 8 a c) := by
  intro l v w hcv hv hl
  obtain ⟨ht, hh, la, lc, hk, hca, hcc, rfl⟩ := hcv
  have hl2 : la.length ≤ 200 := by simp at hl; omega
  have hl3 : lc.length ≤ 200 := by simp at hl; omega
  have hlen := txt_len true a hna
  rw [hca.row] at hlen
  have hlen2 := txt_len true c hnc
  rw [hcc.row] at hlen2
  have HW0 := Lib.hid (fun w' v' hv' q => within_any ha hca (v := v') (w := w') hv' hl2 hna q)
  have HW1 := Lib.hid (fun w' v' hv' q => within_any hc hcc (v := v') (w := w') hv' hl3 hnc q)
  have hrank := Lib.hid (fun k w' => rank_any k w')
  have HK := Lib.hid (fun w' v' hv' => kidsR_any v' (nOf 8 :: (la ++ lc)) w' hv' (by omega))
  have HV := Lib.hid hv
  have HKK := Lib.hid hk
  have P0 := Lib.hid hca.tre.pos
  have P1 := Lib.hid hcc.tre.pos
  have G0 := Lib.hid hca.rank
  have G1 := Lib.hid hcc.rank
  rcases hv.form with ⟨h0, _⟩ | ⟨b, off, cap, rfl, _, hat⟩
  · cases h0
  obtain ⟨e1, e2, e3⟩ := hat 0 (by simp)
  rw [Nat.zero_mul, Nat.add_zero] at e1 e2
  have E1 := Lib.hid e1
  simp only [List.getElem_cons_zero] at E1
  have HCA := Lib.hid hca
  have HCC := Lib.hid hcc
  have HL := Lib.hid (And.intro hlen (And.intro hlen2 (And.intro hl2 hl3)))
  clear hat e1 e2 e3 ht hh hk hv hlen hlen2 hl2 hl3 hca hcc hna hnc
  have hN0 : 0 < (nOf 8 :: (la ++ lc)).length := by simp
  rw [show (nOf 8).k = 8 from rfl] at E1
  generalize (nOf 8 :: (la ++ lc)).length = N at *
  go_enter Try.func23, Try.ntmps23
  go_wp2_with fail
  refine (HK.out _ _ HV.out).mono ?_
  rintro e w1 ⟨y, rfl, hy, hb⟩
  have cE := E1.out
  rw [← hb.cell (Ap.cell_lt cE)] at cE
  rw [HKK.out] at hy
  obtain ⟨b', o', c', a0, a1, rfl, q0, q1, n0, n1⟩ := two_rows hy
  have N0 := Lib.hid n0
  have N1 := Lib.hid n1
  have HB := Lib.hid hb
  clear hb hy
  obtain ⟨b0, o0, c0, rfl, k0⟩ := HCA.out.head n0
  obtain ⟨b1, o1, c1, rfl, k1⟩ := HCC.out.head n1
  have HBT := Lib.hid (Bt.mk HB.out q0 q1 N0.out N1.out k0 k1)
  have QQ := Lib.hid (And.intro q0 (And.intro q1 (And.intro k0 k1)))
  clear n0 n1 q0 q1 k0 k1
  go_wp2_with fail
  refine (hrank.out _ _).mono ?_
  rintro e w' ⟨rfl, rfl⟩
  rw [show rankK 8 = 2 from rfl]
  go_wp2_with fail
  clear cE QQ HB N0 N1 HCA HCC HKK HK HV E1
  obtain ⟨n0, hn0⟩ : ∃ n, la.length = n := ⟨_, rfl⟩
  obtain ⟨n1, hn1⟩ : ∃ n, lc.length = n := ⟨_, rfl⟩
  obtain ⟨k0, hk0⟩ : ∃ k, So.hd la = k := ⟨_, rfl⟩
  obtain ⟨k1, hk1⟩ : ∃ k, So.hd lc = k := ⟨_, rfl⟩
  obtain ⟨r0, hr0⟩ : ∃ r, rankK k0 = r := ⟨_, rfl⟩
  obtain ⟨r1, hr1⟩ : ∃ r, rankK k1 = r := ⟨_, rfl⟩
  obtain ⟨m0, hm0⟩ : ∃ m, decide (r0 < 2) = m := ⟨_, rfl⟩
  obtain ⟨m1, hm1⟩ : ∃ m, decide (r1 ≤ 2) = m := ⟨_, rfl⟩
  obtain ⟨s0, hs0⟩ : ∃ s, brkT m0 (a.txt true) = s := ⟨_, rfl⟩
  obtain ⟨s1, hs1⟩ : ∃ s, brkT m1 (c.txt true) = s := ⟨_, rfl⟩
  have L : Hid (s0.length ≤ 1602 ∧ s1.length ≤ 1602) := by
    obtain ⟨g1, g2, g3, g4⟩ := HL.out
    rw [← hs0, ← hs1]
    have hb : ∀ (c : Bool) (l : List UInt8), (brkT c l).length ≤ l.length + 2 := fun c l => by cases c <;> simp [brkT]
    have := hb m0 (a.txt true)
    have := hb m1 (c.txt true)
    exact ⟨by omega, by omega⟩
  have FIN : Hid (s0 ++ [32] ++ [sgB 8] ++ [32] ++ s1 = Tm.txt true (.bin 8 a c)) := by
    have g0 : r0 = a.rank := by rw [← hr0, ← hk0, G0.out]
    have g1 : r1 = c.rank := by rw [← hr1, ← hk1, G1.out]
    show _ = brkT (decide (a.rank < lim 8)) (a.txt true) ++ sep true 8 ++ brkT (decide (c.rank < limR 8)) (c.txt true)
    rw [← hs0, ← hs1, ← hm0, ← hm1, ← g0, ← g1, show decide (r1 < limR 8) = decide (r1 ≤ 2) from decide_eq_decide.2 (by show r1 < 2 + 1 ↔ r1 ≤ 2; omega)]
    show _ = brkT (decide (r0 < 2)) _ ++ _ ++ _
    simp [sep]
  have R0 := Lib.hid hr0
  have R1 := Lib.hid hr1
  have M0 : Hid (decide ((r0 : Int) < 2) = m0) := by rw [← hm0]; exact decide_eq_decide.2 (by omega)
  have M1 : Hid (decide ((r1 : Int) ≤ 2) = m1) := by rw [← hm1]; exact decide_eq_decide.2 (by omega)
  have S0 := Lib.hid hs0
  have S1 := Lib.hid hs1
  rw [hn0, hn1, hk0, hk1] at HBT
  rw [hn0] at P0
  rw [hn1] at P1
  clear hn0 hn1 hk0 hk1 hr0 hr1 hm0 hm1 hs0 hs1 G0 G1 HL
  refine Rg.wp_region_kept (by kernel_rfl) [(0, some 65), (1, some 66), (2, some 67), (3, some 68), (4, some 69), (5, some 70), (6, some 71), (7, some 72), (8, some 73), (9, some 74), (10, some 75), (11, some 76), (12, some 77), (13, some 78), (14, some 79), (15, some 80), (16, some 81), (17, some 82), (18, some 83), (19, some 84), (20, some 85), (21, some 86), (22, some 87), (23, some 88), (24, some 89), (25, some 90), (26, some 91), (27, some 92), (28, some 93), (29, some 94), (30, some 95), (31, some 96), (32, some 97), (33, some 98), (34, some 99), (35, some 2)] (by rfl) (by kernel_rfl) (by kernel_rfl) (Bt w b' o' b0 o0 n0 c0 b1 o1 n1 c1 k0 k1 la lc) (RT8 b' o' c' b0 o0 n0 c0 b1 o1 n1 c1 k0 k1 r0 r1 m0 m1 s0 s1) (HBT.out.below (Below.refl _ _).drew) ?_ ⟨⟨⟨⟨⟨⟨⟨⟨⟨⟨⟨⟨⟨⟨⟨⟨⟨⟨⟨⟨⟨⟨⟨⟨⟨⟨⟨⟨⟨⟨⟨⟨⟨⟨⟨⟨True.intro, ?_⟩, ?_⟩, ?_⟩, ?_⟩, ?_⟩, ?_⟩, ?_⟩, ?_⟩, ?_⟩, ?_⟩, ?_⟩, ?_⟩, ?_⟩, ?_⟩, ?_⟩, ?_⟩, ?_⟩, ?_⟩, ?_⟩, ?_⟩, ?_⟩, ?_⟩, ?_⟩, ?_⟩, ?_⟩, ?_⟩, ?_⟩, ?_⟩, ?_⟩, ?_⟩, ?_⟩, ?_⟩, ?_⟩, ?_⟩, ?_⟩, ?_⟩ ?_
  · intro k v w' hk
    unfold RT8
    split
    case h_37 => trivial
    all_goals exact absurd hk (by decide)
  · intro o ho f us wl al ha g hf hdep K hKf
    obtain rfl := Option.some.inj ho
    have hB := Lib.hid g.1
    have hK : ∀ v w', RT8 b' o' c' b0 o0 n0 c0 b1 o1 n1 c1 k0 k1 r0 r1 m0 m1 s0 s1 0 v w' → Below wl.heap.size wl w' → K (al.put (some 65) v) w' := fun v w' hv hb => hKf v w' (Rg.Kept.put (Base := Bt w b' o' b0 o0 n0 c0 b1 o1 n1 c1 k0 k1 la lc) (R := RT8 b' o' c' b0 o0 n0 c0 b1 o1 n1 c1 k0 k1 r0 r1 m0 m1 s0 s1) (fun _ _ h hb => h.below hb) (fun _ _ _ _ h _ => h) g hb hv)
    have e3 : al.tmps[3]?.getD undef = .slice (some ⟨b', o', none⟩) 2 c' := by rw [← Rg.eval_getD, ha]; exact (Rg.puts_eval_ne _ _ _ (by rfl)).trans rfl
    clear ha hdep g hf hKf
    refine Rg.wpOp_of rfl rfl ?_
    go_simp
    exact hK _ _ rfl (Below.refl _ _)
  · intro o ho f us wl al ha g hf hdep K hKf
    obtain rfl := Option.some.inj ho
    have hB := Lib.hid g.1
    have hK : ∀ v w', RT8 b' o' c' b0 o0 n0 c0 b1 o1 n1 c1 k0 k1 r0 r1 m0 m1 s0 s1 1 v w' → Below wl.heap.size wl w' → K (al.put (some 66) v) w' := fun v w' hv hb => hKf v w' (Rg.Kept.put (Base := Bt w b' o' b0 o0 n0 c0 b1 o1 n1 c1 k0 k1 la lc) (R := RT8 b' o' c' b0 o0 n0 c0 b1 o1 n1 c1 k0 k1 r0 r1 m0 m1 s0 s1) (fun _ _ h hb => h.below hb) (fun _ _ _ _ h _ => h) g hb hv)
    have d0 : RT8 b' o' c' b0 o0 n0 c0 b1 o1 n1 c1 k0 k1 r0 r1 m0 m1 s0 s1 0 (us 0) wl := g.2 0 (hdep ⟨0, .data⟩ (by simp) rfl)
    have e65 : al.tmps[65]?.getD undef = us 0 := by rw [← Rg.eval_getD, ha]; exact Rg.puts_eval _ _ _ (by rfl) (by simp) (by simp)
    clear ha hdep g hf hKf
    have f0 : us 0 = .slice (some ⟨b', o', none⟩) 2 c' := d0
    clear d0
    refine Rg.wpOp_of rfl rfl ?_
    go_simp
    exact hK _ _ rfl (Below.refl _ _)
  · intro o ho f us wl al ha g hf hdep K hKf
    obtain rfl := Option.some.inj ho
    have hB := Lib.hid g.1
    have hK : ∀ v w', RT8 b' o' c' b0 o0 n0 c0 b1 o1 n1 c1 k0 k1 r0 r1 m0 m1 s0 s1 2 v w' → Below wl.heap.size wl w' → K (al.put (some 67) v) w' := fun v w' hv hb => hKf v w' (Rg.Kept.put (Base := Bt w b' o' b0 o0 n0 c0 b1 o1 n1 c1 k0 k1 la lc) (R := RT8 b' o' c' b0 o0 n0 c0 b1 o1 n1 c1 k0 k1 r0 r1 m0 m1 s0 s1) (fun _ _ h hb => h.below hb) (fun _ _ _ _ h _ => h) g hb hv)
    have d1 : RT8 b' o' c' b0 o0 n0 c0 b1 o1 n1 c1 k0 k1 r0 r1 m0 m1 s0 s1 1 (us 1) wl := g.2 1 (hdep ⟨1, .data⟩ (by simp) rfl)
    have e66 : al.tmps[66]?.getD undef = us 1 := by rw [← Rg.eval_getD, ha]; exact Rg.puts_eval _ _ _ (by rfl) (by simp) (by simp)
    clear ha hdep g hf hKf
    have f1 : us 1 = .pointer (some ⟨b', o', none⟩) := d1
    clear d1
    have q := hB.out.q0
    refine Rg.wpOp_of rfl rfl ?_
    go_simp
    exact hK _ _ rfl (Below.refl _ _)
  · intro o ho f us wl al ha g hf hdep K hKf
    obtain rfl := Option.some.inj ho
    have hB := Lib.hid g.1
    have hK : ∀ v w', RT8 b' o' c' b0 o0 n0 c0 b1 o1 n1 c1 k0 k1 r0 r1 m0 m1 s0 s1 3 v w' → Below wl.heap.size wl w' → K (al.put (some 68) v) w' := fun v w' hv hb => hKf v w' (Rg.Kept.put (Base := Bt w b' o' b0 o0 n0 c0 b1 o1 n1 c1 k0 k1 la lc) (R := RT8 b' o' c' b0 o0 n0 c0 b1 o1 n1 c1 k0 k1 r0 r1 m0 m1 s0 s1) (fun _ _ h hb => h.below hb) (fun _ _ _ _ h _ => h) g hb hv)
    have e3 : al.tmps[3]?.getD undef = .slice (some ⟨b', o', none⟩) 2 c' := by rw [← Rg.eval_getD, ha]; exact (Rg.puts_eval_ne _ _ _ (by rfl)).trans rfl
    clear ha hdep g hf hKf
    refine Rg.wpOp_of rfl rfl ?_
    go_simp
    exact hK _ _ rfl (Below.refl _ _)
  · intro o ho f us wl al ha g hf hdep K hKf
    obtain rfl := Option.some.inj ho
    have hB := Lib.hid g.1
    have hK : ∀ v w', RT8 b' o' c' b0 o0 n0 c0 b1 o1 n1 c1 k0 k1 r0 r1 m0 m1 s0 s1 4 v w' → Below wl.heap.size wl w' → K (al.put (some 69) v) w' := fun v w' hv hb => hKf v w' (Rg.Kept.put (Base := Bt w b' o' b0 o0 n0 c0 b1 o1 n1 c1 k0 k1 la lc) (R := RT8 b' o' c' b0 o0 n0 c0 b1 o1 n1 c1 k0 k1 r0 r1 m0 m1 s0 s1) (fun _ _ h hb => h.below hb) (fun _ _ _ _ h _ => h) g hb hv)
    have d3 : RT8 b' o' c' b0 o0 n0 c0 b1 o1 n1 c1 k0 k1 r0 r1 m0 m1 s0 s1 3 (us 3) wl := g.2 3 (hdep ⟨3, .data⟩ (by simp) rfl)
    have e68 : al.tmps[68]?.getD undef = us 3 := by rw [← Rg.eval_getD, ha]; exact Rg.puts_eval _ _ _ (by rfl) (by simp) (by simp)
    clear ha hdep g hf hKf
    have f3 : us 3 = .slice (some ⟨b', o', none⟩) 2 c' := d3
    clear d3
    refine Rg.wpOp_of rfl rfl ?_
    go_simp
    exact hK _ _ rfl (Below.refl _ _)
  · intro o ho f us wl al ha g hf hdep K hKf
    obtain rfl := Option.some.inj ho
    have hB := Lib.hid g.1
    have hK : ∀ v w', RT8 b' o' c' b0 o0 n0 c0 b1 o1 n1 c1 k0 k1 r0 r1 m0 m1 s0 s1 5 v w' → Below wl.heap.size wl w' → K (al.put (some 70) v) w' := fun v w' hv hb => hKf v w' (Rg.Kept.put (Base := Bt w b' o' b0 o0 n0 c0 b1 o1 n1 c1 k0 k1 la lc) (R := RT8 b' o' c' b0 o0 n0 c0 b1 o1 n1 c1 k0 k1 r0 r1 m0 m1 s0 s1) (fun _ _ h hb => h.below hb) (fun _ _ _ _ h _ => h) g hb hv)
    have d4 : RT8 b' o' c' b0 o0 n0 c0 b1 o1 n1 c1 k0 k1 r0 r1 m0 m1 s0 s1 4 (us 4) wl := g.2 4 (hdep ⟨4, .data⟩ (by simp) rfl)
    have e69 : al.tmps[69]?.getD undef = us 4 := by rw [← Rg.eval_getD, ha]; exact Rg.puts_eval _ _ _ (by rfl) (by simp) (by simp)
    clear ha hdep g hf hKf
    have f4 : us 4 = .pointer (some ⟨b', o', none⟩) := d4
    clear d4
    have q := hB.out.q0
    refine Rg.wpOp_of rfl rfl ?_
    go_simp
    exact hK _ _ rfl (Below.refl _ _)
  · intro o ho f us wl al ha g hf hdep K hKf
    obtain rfl := Option.some.inj ho
    have hB := Lib.hid g.1
    have hK : ∀ v w', RT8 b' o' c' b0 o0 n0 c0 b1 o1 n1 c1 k0 k1 r0 r1 m0 m1 s0 s1 6 v w' → Below wl.heap.size wl w' → K (al.put (some 71) v) w' := fun v w' hv hb => hKf v w' (Rg.Kept.put (Base := Bt w b' o' b0 o0 n0 c0 b1 o1 n1 c1 k0 k1 la lc) (R := RT8 b' o' c' b0 o0 n0 c0 b1 o1 n1 c1 k0 k1 r0 r1 m0 m1 s0 s1) (fun _ _ h hb => h.below hb) (fun _ _ _ _ h _ => h) g hb hv)
    have d5 : RT8 b' o' c' b0 o0 n0 c0 b1 o1 n1 c1 k0 k1 r0 r1 m0 m1 s0 s1 5 (us 5) wl := g.2 5 (hdep ⟨5, .data⟩ (by simp) rfl)
    have e70 : al.tmps[70]?.getD undef = us 5 := by rw [← Rg.eval_getD, ha]; exact Rg.puts_eval _ _ _ (by rfl) (by simp) (by simp)
    clear ha hdep g hf hKf
    have f5 : us 5 = .slice (some ⟨b0, o0, none⟩) n0 c0 := d5
    clear d5
    have p0 := P0.out
    refine Rg.wpOp_of rfl rfl ?_
    go_simp
    exact hK _ _ rfl (Below.refl _ _)
  · intro o ho f us wl al ha g hf hdep K hKf
    obtain rfl := Option.some.inj ho
    have hB := Lib.hid g.1
    have hK : ∀ v w', RT8 b' o' c' b0 o0 n0 c0 b1 o1 n1 c1 k0 k1 r0 r1 m0 m1 s0 s1 7 v w' → Below wl.heap.size wl w' → K (al.put (some 72) v) w' := fun v w' hv hb => hKf v w' (Rg.Kept.put (Base := Bt w b' o' b0 o0 n0 c0 b1 o1 n1 c1 k0 k1 la lc) (R := RT8 b' o' c' b0 o0 n0 c0 b1 o1 n1 c1 k0 k1 r0 r1 m0 m1 s0 s1) (fun _ _ h hb => h.below hb) (fun _ _ _ _ h _ => h) g hb hv)
    have d6 : RT8 b' o' c' b0 o0 n0 c0 b1 o1 n1 c1 k0 k1 r0 r1 m0 m1 s0 s1 6 (us 6) wl := g.2 6 (hdep ⟨6, .data⟩ (by simp) rfl)
    have e71 : al.tmps[71]?.getD undef = us 6 := by rw [← Rg.eval_getD, ha]; exact Rg.puts_eval _ _ _ (by rfl) (by simp) (by simp)
    clear ha hdep g hf hKf
    have f6 : us 6 = .pointer (some ⟨b0, o0, none⟩) := d6
    clear d6
    refine Rg.wpOp_of rfl rfl ?_
    go_simp
    exact hK _ _ rfl (Below.refl _ _)
  · intro o ho f us wl al ha g hf hdep K hKf
    obtain rfl := Option.some.inj ho
    have hB := Lib.hid g.1
    have hK : ∀ v w', RT8 b' o' c' b0 o0 n0 c0 b1 o1 n1 c1 k0 k1 r0 r1 m0 m1 s0 s1 8 v w' → Below wl.heap.size wl w' → K (al.put (some 73) v) w' := fun v w' hv hb => hKf v w' (Rg.Kept.put (Base := Bt w b' o' b0 o0 n0 c0 b1 o1 n1 c1 k0 k1 la lc) (R := RT8 b' o' c' b0 o0 n0 c0 b1 o1 n1 c1 k0 k1 r0 r1 m0 m1 s0 s1) (fun _ _ h hb => h.below hb) (fun _ _ _ _ h _ => h) g hb hv)
    have d7 : RT8 b' o' c' b0 o0 n0 c0 b1 o1 n1 c1 k0 k1 r0 r1 m0 m1 s0 s1 7 (us 7) wl := g.2 7 (hdep ⟨7, .data⟩ (by simp) rfl)
    have e72 : al.tmps[72]?.getD undef = us 7 := by rw [← Rg.eval_getD, ha]; exact Rg.puts_eval _ _ _ (by rfl) (by simp) (by simp)
    clear ha hdep g hf hKf
    have f7 : us 7 = .pointer (some ⟨b0, o0, none⟩) := d7
    clear d7
    have q := hB.out.h0
    refine Rg.wpOp_of rfl rfl ?_
    go_simp
    exact hK _ _ rfl (Below.refl _ _)
  · intro o ho f us wl al ha g hf hdep K hKf
    obtain rfl := Option.some.inj ho
    have hB := Lib.hid g.1
    have hK : ∀ v w', RT8 b' o' c' b0 o0 n0 c0 b1 o1 n1 c1 k0 k1 r0 r1 m0 m1 s0 s1 9 v w' → Below wl.heap.size wl w' → K (al.put (some 74) v) w' := fun v w' hv hb => hKf v w' (Rg.Kept.put (Base := Bt w b' o' b0 o0 n0 c0 b1 o1 n1 c1 k0 k1 la lc) (R := RT8 b' o' c' b0 o0 n0 c0 b1 o1 n1 c1 k0 k1 r0 r1 m0 m1 s0 s1) (fun _ _ h hb => h.below hb) (fun _ _ _ _ h _ => h) g hb hv)
    have d8 : RT8 b' o' c' b0 o0 n0 c0 b1 o1 n1 c1 k0 k1 r0 r1 m0 m1 s0 s1 8 (us 8) wl := g.2 8 (hdep ⟨8, .data⟩ (by simp) rfl)
    have e73 : al.tmps[73]?.getD undef = us 8 := by rw [← Rg.eval_getD, ha]; exact Rg.puts_eval _ _ _ (by rfl) (by simp) (by simp)
    clear ha hdep g hf hKf
    have f8 : us 8 = .int .i64 k0 := d8
    clear d8
    refine Rg.wpOp_of rfl rfl ?_
    go_simp
    refine (hrank.out _ _).mono ?_
    rintro e w' ⟨rfl, rfl⟩
    exact hK _ _ (by rw [R0.out]; rfl) (Below.refl _ _)
  · intro o ho f us wl al ha g hf hdep K hKf
    obtain rfl := Option.some.inj ho
    have hB := Lib.hid g.1
    have hK : ∀ v w', RT8 b' o' c' b0 o0 n0 c0 b1 o1 n1 c1 k0 k1 r0 r1 m0 m1 s0 s1 10 v w' → Below wl.heap.size wl w' → K (al.put (some 75) v) w' := fun v w' hv hb => hKf v w' (Rg.Kept.put (Base := Bt w b' o' b0 o0 n0 c0 b1 o1 n1 c1 k0 k1 la lc) (R := RT8 b' o' c' b0 o0 n0 c0 b1 o1 n1 c1 k0 k1 r0 r1 m0 m1 s0 s1) (fun _ _ h hb => h.below hb) (fun _ _ _ _ h _ => h) g hb hv)
    have e4 : al.tmps[4]?.getD undef = .int .i64 2 := by rw [← Rg.eval_getD, ha]; exact (Rg.puts_eval_ne _ _ _ (by rfl)).trans rfl
    clear ha hdep g hf hKf
    refine Rg.wpOp_of rfl rfl ?_
    go_simp
    exact hK _ _ rfl (Below.refl _ _)
  · intro o ho f us wl al ha g hf hdep K hKf
    obtain rfl := Option.some.inj ho
    have hB := Lib.hid g.1
    have hK : ∀ v w', RT8 b' o' c' b0 o0 n0 c0 b1 o1 n1 c1 k0 k1 r0 r1 m0 m1 s0 s1 11 v w' → Below wl.heap.size wl w' → K (al.put (some 76) v) w' := fun v w' hv hb => hKf v w' (Rg.Kept.put (Base := Bt w b' o' b0 o0 n0 c0 b1 o1 n1 c1 k0 k1 la lc) (R := RT8 b' o' c' b0 o0 n0 c0 b1 o1 n1 c1 k0 k1 r0 r1 m0 m1 s0 s1) (fun _ _ h hb => h.below hb) (fun _ _ _ _ h _ => h) g hb hv)
    have d9 : RT8 b' o' c' b0 o0 n0 c0 b1 o1 n1 c1 k0 k1 r0 r1 m0 m1 s0 s1 9 (us 9) wl := g.2 9 (hdep ⟨9, .data⟩ (by simp) rfl)
    have e74 : al.tmps[74]?.getD undef = us 9 := by rw [← Rg.eval_getD, ha]; exact Rg.puts_eval _ _ _ (by rfl) (by simp) (by simp)
    have d10 : RT8 b' o' c' b0 o0 n0 c0 b1 o1 n1 c1 k0 k1 r0 r1 m0 m1 s0 s1 10 (us 10) wl := g.2 10 (hdep ⟨10, .data⟩ (by simp) rfl)
    have e75 : al.tmps[75]?.getD undef = us 10 := by rw [← Rg.eval_getD, ha]; exact Rg.puts_eval _ _ _ (by rfl) (by simp) (by simp)
    clear ha hdep g hf hKf
    have f9 : us 9 = .int .i64 (r0 : Nat) := d9
    clear d9
    have f10 : us 10 = .int .i64 2 := d10
    clear d10
    refine Rg.wpOp_of rfl rfl ?_
    go_simp
    exact hK _ _ (by rw [M0.out]; rfl) (Below.refl _ _)
  · intro o ho f us wl al ha g hf hdep K hKf
    obtain rfl := Option.some.inj ho
    have hB := Lib.hid g.1
    have hK : ∀ v w', RT8 b' o' c' b0 o0 n0 c0 b1 o1 n1 c1 k0 k1 r0 r1 m0 m1 s0 s1 12 v w' → Below wl.heap.size wl w' → K (al.put (some 77) v) w' := fun v w' hv hb => hKf v w' (Rg.Kept.put (Base := Bt w b' o' b0 o0 n0 c0 b1 o1 n1 c1 k0 k1 la lc) (R := RT8 b' o' c' b0 o0 n0 c0 b1 o1 n1 c1 k0 k1 r0 r1 m0 m1 s0 s1) (fun _ _ h hb => h.below hb) (fun _ _ _ _ h _ => h) g hb hv)
    have d2 : RT8 b' o' c' b0 o0 n0 c0 b1 o1 n1 c1 k0 k1 r0 r1 m0 m1 s0 s1 2 (us 2) wl := g.2 2 (hdep ⟨2, .data⟩ (by simp) rfl)
    have e67 : al.tmps[67]?.getD undef = us 2 := by rw [← Rg.eval_getD, ha]; exact Rg.puts_eval _ _ _ (by rfl) (by simp) (by simp)
    have d11 : RT8 b' o' c' b0 o0 n0 c0 b1 o1 n1 c1 k0 k1 r0 r1 m0 m1 s0 s1 11 (us 11) wl := g.2 11 (hdep ⟨11, .data⟩ (by simp) rfl)
    have e76 : al.tmps[76]?.getD undef = us 11 := by rw [← Rg.eval_getD, ha]; exact Rg.puts_eval _ _ _ (by rfl) (by simp) (by simp)
    clear ha hdep g hf hKf
    have f2 : us 2 = .slice (some ⟨b0, o0, none⟩) n0 c0 := d2
    clear d2
    have f11 : us 11 = .bool m0 := d11
    clear d11
    refine Rg.wpOp_of rfl rfl ?_
    go_simp
    refine (HW0.out _ _ hB.out.n0 m0).mono ?_
    rintro e w' ⟨u, rfl, hu, hb⟩
    exact hK _ _ ⟨u, rfl, hu.trans S0.out⟩ hb
  · intro o ho f us wl al ha g hf hdep K hKf
    obtain rfl := Option.some.inj ho
    have hB := Lib.hid g.1
    have hK : ∀ v w', RT8 b' o' c' b0 o0 n0 c0 b1 o1 n1 c1 k0 k1 r0 r1 m0 m1 s0 s1 13 v w' → Below wl.heap.size wl w' → K (al.put (some 78) v) w' := fun v w' hv hb => hKf v w' (Rg.Kept.put (Base := Bt w b' o' b0 o0 n0 c0 b1 o1 n1 c1 k0 k1 la lc) (R := RT8 b' o' c' b0 o0 n0 c0 b1 o1 n1 c1 k0 k1 r0 r1 m0 m1 s0 s1) (fun _ _ h hb => h.below hb) (fun _ _ _ _ h _ => h) g hb hv)
    have d12 : RT8 b' o' c' b0 o0 n0 c0 b1 o1 n1 c1 k0 k1 r0 r1 m0 m1 s0 s1 12 (us 12) wl := g.2 12 (hdep ⟨12, .data⟩ (by simp) rfl)
    have e77 : al.tmps[77]?.getD undef = us 12 := by rw [← Rg.eval_getD, ha]; exact Rg.puts_eval _ _ _ (by rfl) (by simp) (by simp)
    clear ha hdep g hf hKf
    obtain ⟨u12, f12, hu12⟩ : IsT (us 12) (s0) := d12
    have z12 : u12.size = (s0).length := by rw [← hu12]; exact (bytes_len u12).symm
    have HU12 := Lib.hid hu12
    clear hu12
    have L0 := L.out
    refine Rg.wpOp_of rfl rfl ?_
    go_simp
    rw [if_neg (by omega)]
    refine hK _ _ ?_ (Below.refl _ _)
    exact ⟨_, rfl, by rw [bytes_app, HU12.out]⟩
  · intro o ho f us wl al ha g hf hdep K hKf
    obtain rfl := Option.some.inj ho
    have hB := Lib.hid g.1
    have hK : ∀ v w', RT8 b' o' c' b0 o0 n0 c0 b1 o1 n1 c1 k0 k1 r0 r1 m0 m1 s0 s1 14 v w' → Below wl.heap.size wl w' → K (al.put (some 79) v) w' := fun v w' hv hb => hKf v w' (Rg.Kept.put (Base := Bt w b' o' b0 o0 n0 c0 b1 o1 n1 c1 k0 k1 la lc) (R := RT8 b' o' c' b0 o0 n0 c0 b1 o1 n1 c1 k0 k1 r0 r1 m0 m1 s0 s1) (fun _ _ h hb => h.below hb) (fun _ _ _ _ h _ => h) g hb hv)
    have e5 : al.tmps[5]?.getD undef = .string ⟨#[124, 43, 62, 59]⟩ := by rw [← Rg.eval_getD, ha]; exact (Rg.puts_eval_ne _ _ _ (by rfl)).trans rfl
    clear ha hdep g hf hKf
    refine Rg.wpOp_of rfl rfl ?_
    go_simp
    exact hK _ _ rfl (Below.refl _ _)
  · intro o ho f us wl al ha g hf hdep K hKf
    obtain rfl := Option.some.inj ho
    have hB := Lib.hid g.1
    have hK : ∀ v w', RT8 b' o' c' b0 o0 n0 c0 b1 o1 n1 c1 k0 k1 r0 r1 m0 m1 s0 s1 15 v w' → Below wl.heap.size wl w' → K (al.put (some 80) v) w' := fun v w' hv hb => hKf v w' (Rg.Kept.put (Base := Bt w b' o' b0 o0 n0 c0 b1 o1 n1 c1 k0 k1 la lc) (R := RT8 b' o' c' b0 o0 n0 c0 b1 o1 n1 c1 k0 k1 r0 r1 m0 m1 s0 s1) (fun _ _ h hb => h.below hb) (fun _ _ _ _ h _ => h) g hb hv)
    have e4 : al.tmps[4]?.getD undef = .int .i64 2 := by rw [← Rg.eval_getD, ha]; exact (Rg.puts_eval_ne _ _ _ (by rfl)).trans rfl
    clear ha hdep g hf hKf
    refine Rg.wpOp_of rfl rfl ?_
    go_simp
    exact hK _ _ rfl (Below.refl _ _)
  · intro o ho f us wl al ha g hf hdep K hKf
    obtain rfl := Option.some.inj ho
    have hB := Lib.hid g.1
    have hK : ∀ v w', RT8 b' o' c' b0 o0 n0 c0 b1 o1 n1 c1 k0 k1 r0 r1 m0 m1 s0 s1 16 v w' → Below wl.heap.size wl w' → K (al.put (some 81) v) w' := fun v w' hv hb => hKf v w' (Rg.Kept.put (Base := Bt w b' o' b0 o0 n0 c0 b1 o1 n1 c1 k0 k1 la lc) (R := RT8 b' o' c' b0 o0 n0 c0 b1 o1 n1 c1 k0 k1 r0 r1 m0 m1 s0 s1) (fun _ _ h hb => h.below hb) (fun _ _ _ _ h _ => h) g hb hv)
    have e4 : al.tmps[4]?.getD undef = .int .i64 2 := by rw [← Rg.eval_getD, ha]; exact (Rg.puts_eval_ne _ _ _ (by rfl)).trans rfl
    clear ha hdep g hf hKf
    refine Rg.wpOp_of rfl rfl ?_
    go_simp
    exact hK _ _ rfl (Below.refl _ _)
  · intro o ho f us wl al ha g hf hdep K hKf
    obtain rfl := Option.some.inj ho
    have hB := Lib.hid g.1
    have hK : ∀ v w', RT8 b' o' c' b0 o0 n0 c0 b1 o1 n1 c1 k0 k1 r0 r1 m0 m1 s0 s1 17 v w' → Below wl.heap.size wl w' → K (al.put (some 82) v) w' := fun v w' hv hb => hKf v w' (Rg.Kept.put (Base := Bt w b' o' b0 o0 n0 c0 b1 o1 n1 c1 k0 k1 la lc) (R := RT8 b' o' c' b0 o0 n0 c0 b1 o1 n1 c1 k0 k1 r0 r1 m0 m1 s0 s1) (fun _ _ h hb => h.below hb) (fun _ _ _ _ h _ => h) g hb hv)
    have d16 : RT8 b' o' c' b0 o0 n0 c0 b1 o1 n1 c1 k0 k1 r0 r1 m0 m1 s0 s1 16 (us 16) wl := g.2 16 (hdep ⟨16, .data⟩ (by simp) rfl)
    have e81 : al.tmps[81]?.getD undef = us 16 := by rw [← Rg.eval_getD, ha]; exact Rg.puts_eval _ _ _ (by rfl) (by simp) (by simp)
    clear ha hdep g hf hKf
    have f16 : us 16 = .int .i64 2 := d16
    clear d16
    refine Rg.wpOp_of rfl rfl ?_
    go_simp
    exact hK _ _ rfl (Below.refl _ _)
  · intro o ho f us wl al ha g hf hdep K hKf
    obtain rfl := Option.some.inj ho
    have hB := Lib.hid g.1
    have hK : ∀ v w', RT8 b' o' c' b0 o0 n0 c0 b1 o1 n1 c1 k0 k1 r0 r1 m0 m1 s0 s1 18 v w' → Below wl.heap.size wl w' → K (al.put (some 83) v) w' := fun v w' hv hb => hKf v w' (Rg.Kept.put (Base := Bt w b' o' b0 o0 n0 c0 b1 o1 n1 c1 k0 k1 la lc) (R := RT8 b' o' c' b0 o0 n0 c0 b1 o1 n1 c1 k0 k1 r0 r1 m0 m1 s0 s1) (fun _ _ h hb => h.below hb) (fun _ _ _ _ h _ => h) g hb hv)
    have d14 : RT8 b' o' c' b0 o0 n0 c0 b1 o1 n1 c1 k0 k1 r0 r1 m0 m1 s0 s1 14 (us 14) wl := g.2 14 (hdep ⟨14, .data⟩ (by simp) rfl)
    have e79 : al.tmps[79]?.getD undef = us 14 := by rw [← Rg.eval_getD, ha]; exact Rg.puts_eval _ _ _ (by rfl) (by simp) (by simp)
    have d15 : RT8 b' o' c' b0 o0 n0 c0 b1 o1 n1 c1 k0 k1 r0 r1 m0 m1 s0 s1 15 (us 15) wl := g.2 15 (hdep ⟨15, .data⟩ (by simp) rfl)
    have e80 : al.tmps[80]?.getD undef = us 15 := by rw [← Rg.eval_getD, ha]; exact Rg.puts_eval _ _ _ (by rfl) (by simp) (by simp)
    have d17 : RT8 b' o' c' b0 o0 n0 c0 b1 o1 n1 c1 k0 k1 r0 r1 m0 m1 s0 s1 17 (us 17) wl := g.2 17 (hdep ⟨17, .data⟩ (by simp) rfl)
    have e82 : al.tmps[82]?.getD undef = us 17 := by rw [← Rg.eval_getD, ha]; exact Rg.puts_eval _ _ _ (by rfl) (by simp) (by simp)
    clear ha hdep g hf hKf
    have f14 : us 14 = .string ⟨#[124, 43, 62, 59]⟩ := d14
    clear d14
    have f15 : us 15 = .int .i64 2 := d15
    clear d15
    have f17 : us 17 = .int .i64 3 := d17
    clear d17
    refine Rg.wpOp_of rfl rfl ?_
    go_simp
    exact hK _ _ rfl (Below.refl _ _)
  · intro o ho f us wl al ha g hf hdep K hKf
    obtain rfl := Option.some.inj ho
    have hB := Lib.hid g.1
    have hK : ∀ v w', RT8 b' o' c' b0 o0 n0 c0 b1 o1 n1 c1 k0 k1 r0 r1 m0 m1 s0 s1 19 v w' → Below wl.heap.size wl w' → K (al.put (some 84) v) w' := fun v w' hv hb => hKf v w' (Rg.Kept.put (Base := Bt w b' o' b0 o0 n0 c0 b1 o1 n1 c1 k0 k1 la lc) (R := RT8 b' o' c' b0 o0 n0 c0 b1 o1 n1 c1 k0 k1 r0 r1 m0 m1 s0 s1) (fun _ _ h hb => h.below hb) (fun _ _ _ _ h _ => h) g hb hv)
    have d13 : RT8 b' o' c' b0 o0 n0 c0 b1 o1 n1 c1 k0 k1 r0 r1 m0 m1 s0 s1 13 (us 13) wl := g.2 13 (hdep ⟨13, .data⟩ (by simp) rfl)
    have e78 : al.tmps[78]?.getD undef = us 13 := by rw [← Rg.eval_getD, ha]; exact Rg.puts_eval _ _ _ (by rfl) (by simp) (by simp)
    have d18 : RT8 b' o' c' b0 o0 n0 c0 b1 o1 n1 c1 k0 k1 r0 r1 m0 m1 s0 s1 18 (us 18) wl := g.2 18 (hdep ⟨18, .data⟩ (by simp) rfl)
    have e83 : al.tmps[83]?.getD undef = us 18 := by rw [← Rg.eval_getD, ha]; exact Rg.puts_eval _ _ _ (by rfl) (by simp) (by simp)
    clear ha hdep g hf hKf
    obtain ⟨u13, f13, hu13⟩ : IsT (us 13) (s0 ++ [32]) := d13
    have z13 : u13.size = (s0 ++ [32]).length := by rw [← hu13]; exact (bytes_len u13).symm
    simp only [List.length_append, List.length_cons, List.length_nil] at z13
    have HU13 := Lib.hid hu13
    clear hu13
    have f18 : us 18 = .string ⟨#[sgB 8]⟩ := d18
    clear d18
    have L0 := L.out
    refine Rg.wpOp_of rfl rfl ?_
    go_simp
    rw [if_neg (by omega)]
    refine hK _ _ ?_ (Below.refl _ _)
    exact ⟨_, rfl, by rw [bytes_app, HU13.out]⟩
  · intro o ho f us wl al ha g hf hdep K hKf
    obtain rfl := Option.some.inj ho
    have hB := Lib.hid g.1
    have hK : ∀ v w', RT8 b' o' c' b0 o0 n0 c0 b1 o1 n1 c1 k0 k1 r0 r1 m0 m1 s0 s1 20 v w' → Below wl.heap.size wl w' → K (al.put (some 85) v) w' := fun v w' hv hb => hKf v w' (Rg.Kept.put (Base := Bt w b' o' b0 o0 n0 c0 b1 o1 n1 c1 k0 k1 la lc) (R := RT8 b' o' c' b0 o0 n0 c0 b1 o1 n1 c1 k0 k1 r0 r1 m0 m1 s0 s1) (fun _ _ h hb => h.below hb) (fun _ _ _ _ h _ => h) g hb hv)
    have d19 : RT8 b' o' c' b0 o0 n0 c0 b1 o1 n1 c1 k0 k1 r0 r1 m0 m1 s0 s1 19 (us 19) wl := g.2 19 (hdep ⟨19, .data⟩ (by simp) rfl)
    have e84 : al.tmps[84]?.getD undef = us 19 := by rw [← Rg.eval_getD, ha]; exact Rg.puts_eval _ _ _ (by rfl) (by simp) (by simp)
    clear ha hdep g hf hKf
    obtain ⟨u19, f19, hu19⟩ : IsT (us 19) (s0 ++ [32] ++ [sgB 8]) := d19
    have z19 : u19.size = (s0 ++ [32] ++ [sgB 8]).length := by rw [← hu19]; exact (bytes_len u19).symm
    simp only [List.length_append, List.length_cons, List.length_nil] at z19
    have HU19 := Lib.hid hu19
    clear hu19
    have L0 := L.out
    refine Rg.wpOp_of rfl rfl ?_
    go_simp
    rw [if_neg (by omega)]
    refine hK _ _ ?_ (Below.refl _ _)
    exact ⟨_, rfl, by rw [bytes_app, HU19.out]⟩
  · intro o ho f us wl al ha g hf hdep K hKf
    obtain rfl := Option.some.inj ho
    have hB := Lib.hid g.1
    have hK : ∀ v w', RT8 b' o' c' b0 o0 n0 c0 b1 o1 n1 c1 k0 k1 r0 r1 m0 m1 s0 s1 21 v w' → Below wl.heap.size wl w' → K (al.put (some 86) v) w' := fun v w' hv hb => hKf v w' (Rg.Kept.put (Base := Bt w b' o' b0 o0 n0 c0 b1 o1 n1 c1 k0 k1 la lc) (R := RT8 b' o' c' b0 o0 n0 c0 b1 o1 n1 c1 k0 k1 r0 r1 m0 m1 s0 s1) (fun _ _ h hb => h.below hb) (fun _ _ _ _ h _ => h) g hb hv)
    have e3 : al.tmps[3]?.getD undef = .slice (some ⟨b', o', none⟩) 2 c' := by rw [← Rg.eval_getD, ha]; exact (Rg.puts_eval_ne _ _ _ (by rfl)).trans rfl
    clear ha hdep g hf hKf
    refine Rg.wpOp_of rfl rfl ?_
    go_simp
    exact hK _ _ rfl (Below.refl _ _)
  · intro o ho f us wl al ha g hf hdep K hKf
    obtain rfl := Option.some.inj ho
    have hB := Lib.hid g.1
    have hK : ∀ v w', RT8 b' o' c' b0 o0 n0 c0 b1 o1 n1 c1 k0 k1 r0 r1 m0 m1 s0 s1 22 v w' → Below wl.heap.size wl w' → K (al.put (some 87) v) w' := fun v w' hv hb => hKf v w' (Rg.Kept.put (Base := Bt w b' o' b0 o0 n0 c0 b1 o1 n1 c1 k0 k1 la lc) (R := RT8 b' o' c' b0 o0 n0 c0 b1 o1 n1 c1 k0 k1 r0 r1 m0 m1 s0 s1) (fun _ _ h hb => h.below hb) (fun _ _ _ _ h _ => h) g hb hv)
    have d21 : RT8 b' o' c' b0 o0 n0 c0 b1 o1 n1 c1 k0 k1 r0 r1 m0 m1 s0 s1 21 (us 21) wl := g.2 21 (hdep ⟨21, .data⟩ (by simp) rfl)
    have e86 : al.tmps[86]?.getD undef = us 21 := by rw [← Rg.eval_getD, ha]; exact Rg.puts_eval _ _ _ (by rfl) (by simp) (by simp)
    clear ha hdep g hf hKf
    have f21 : us 21 = .slice (some ⟨b', o', none⟩) 2 c' := d21
    clear d21
    refine Rg.wpOp_of rfl rfl ?_
    go_simp
    exact hK _ _ rfl (Below.refl _ _)
  · intro o ho f us wl al ha g hf hdep K hKf
    obtain rfl := Option.some.inj ho
    have hB := Lib.hid g.1
    have hK : ∀ v w', RT8 b' o' c' b0 o0 n0 c0 b1 o1 n1 c1 k0 k1 r0 r1 m0 m1 s0 s1 23 v w' → Below wl.heap.size wl w' → K (al.put (some 88) v) w' := fun v w' hv hb => hKf v w' (Rg.Kept.put (Base := Bt w b' o' b0 o0 n0 c0 b1 o1 n1 c1 k0 k1 la lc) (R := RT8 b' o' c' b0 o0 n0 c0 b1 o1 n1 c1 k0 k1 r0 r1 m0 m1 s0 s1) (fun _ _ h hb => h.below hb) (fun _ _ _ _ h _ => h) g hb hv)
    have d22 : RT8 b' o' c' b0 o0 n0 c0 b1 o1 n1 c1 k0 k1 r0 r1 m0 m1 s0 s1 22 (us 22) wl := g.2 22 (hdep ⟨22, .data⟩ (by simp) rfl)
    have e87 : al.tmps[87]?.getD undef = us 22 := by rw [← Rg.eval_getD, ha]; exact Rg.puts_eval _ _ _ (by rfl) (by simp) (by simp)
    clear ha hdep g hf hKf
    have f22 : us 22 = .pointer (some ⟨b', o' + 1, none⟩) := d22
    clear d22
    have q := hB.out.q1
    refine Rg.wpOp_of rfl rfl ?_
    go_simp
    exact hK _ _ rfl (Below.refl _ _)
  · intro o ho f us wl al ha g hf hdep K hKf
    obtain rfl := Option.some.inj ho
    have hB := Lib.hid g.1
    have hK : ∀ v w', RT8 b' o' c' b0 o0 n0 c0 b1 o1 n1 c1 k0 k1 r0 r1 m0 m1 s0 s1 24 v w' → Below wl.heap.size wl w' → K (al.put (some 89) v) w' := fun v w' hv hb => hKf v w' (Rg.Kept.put (Base := Bt w b' o' b0 o0 n0 c0 b1 o1 n1 c1 k0 k1 la lc) (R := RT8 b' o' c' b0 o0 n0 c0 b1 o1 n1 c1 k0 k1 r0 r1 m0 m1 s0 s1) (fun _ _ h hb => h.below hb) (fun _ _ _ _ h _ => h) g hb hv)
    have e3 : al.tmps[3]?.getD undef = .slice (some ⟨b', o', none⟩) 2 c' := by rw [← Rg.eval_getD, ha]; exact (Rg.puts_eval_ne _ _ _ (by rfl)).trans rfl
    clear ha hdep g hf hKf
    refine Rg.wpOp_of rfl rfl ?_
    go_simp
    exact hK _ _ rfl (Below.refl _ _)
  · intro o ho f us wl al ha g hf hdep K hKf
    obtain rfl := Option.some.inj ho
    have hB := Lib.hid g.1
    have hK : ∀ v w', RT8 b' o' c' b0 o0 n0 c0 b1 o1 n1 c1 k0 k1 r0 r1 m0 m1 s0 s1 25 v w' → Below wl.heap.size wl w' → K (al.put (some 90) v) w' := fun v w' hv hb => hKf v w' (Rg.Kept.put (Base := Bt w b' o' b0 o0 n0 c0 b1 o1 n1 c1 k0 k1 la lc) (R := RT8 b' o' c' b0 o0 n0 c0 b1 o1 n1 c1 k0 k1 r0 r1 m0 m1 s0 s1) (fun _ _ h hb => h.below hb) (fun _ _ _ _ h _ => h) g hb hv)
    have d24 : RT8 b' o' c' b0 o0 n0 c0 b1 o1 n1 c1 k0 k1 r0 r1 m0 m1 s0 s1 24 (us 24) wl := g.2 24 (hdep ⟨24, .data⟩ (by simp) rfl)
    have e89 : al.tmps[89]?.getD undef = us 24 := by rw [← Rg.eval_getD, ha]; exact Rg.puts_eval _ _ _ (by rfl) (by simp) (by simp)
    clear ha hdep g hf hKf
    have f24 : us 24 = .slice (some ⟨b', o', none⟩) 2 c' := d24
    clear d24
    refine Rg.wpOp_of rfl rfl ?_
    go_simp
    exact hK _ _ rfl (Below.refl _ _)
  · intro o ho f us wl al ha g hf hdep K hKf
    obtain rfl := Option.some.inj ho
    have hB := Lib.hid g.1
    have hK : ∀ v w', RT8 b' o' c' b0 o0 n0 c0 b1 o1 n1 c1 k0 k1 r0 r1 m0 m1 s0 s1 26 v w' → Below wl.heap.size wl w' → K (al.put (some 91) v) w' := fun v w' hv hb => hKf v w' (Rg.Kept.put (Base := Bt w b' o' b0 o0 n0 c0 b1 o1 n1 c1 k0 k1 la lc) (R := RT8 b' o' c' b0 o0 n0 c0 b1 o1 n1 c1 k0 k1 r0 r1 m0 m1 s0 s1) (fun _ _ h hb => h.below hb) (fun _ _ _ _ h _ => h) g hb hv)
    have d25 : RT8 b' o' c' b0 o0 n0 c0 b1 o1 n1 c1 k0 k1 r0 r1 m0 m1 s0 s1 25 (us 25) wl := g.2 25 (hdep ⟨25, .data⟩ (by simp) rfl)
    have e90 : al.tmps[90]?.getD undef = us 25 := by rw [← Rg.eval_getD, ha]; exact Rg.puts_eval _ _ _ (by rfl) (by simp) (by simp)
    clear ha hdep g hf hKf
    have f25 : us 25 = .pointer (some ⟨b', o' + 1, none⟩) := d25
    clear d25
    have q := hB.out.q1
    refine Rg.wpOp_of rfl rfl ?_
    go_simp
    exact hK _ _ rfl (Below.refl _ _)
  · intro o ho f us wl al ha g hf hdep K hKf
    obtain rfl := Option.some.inj ho
    have hB := Lib.hid g.1
    have hK : ∀ v w', RT8 b' o' c' b0 o0 n0 c0 b1 o1 n1 c1 k0 k1 r0 r1 m0 m1 s0 s1 27 v w' → Below wl.heap.size wl w' → K (al.put (some 92) v) w' := fun v w' hv hb => hKf v w' (Rg.Kept.put (Base := Bt w b' o' b0 o0 n0 c0 b1 o1 n1 c1 k0 k1 la lc) (R := RT8 b' o' c' b0 o0 n0 c0 b1 o1 n1 c1 k0 k1 r0 r1 m0 m1 s0 s1) (fun _ _ h hb => h.below hb) (fun _ _ _ _ h _ => h) g hb hv)
    have d26 : RT8 b' o' c' b0 o0 n0 c0 b1 o1 n1 c1 k0 k1 r0 r1 m0 m1 s0 s1 26 (us 26) wl := g.2 26 (hdep ⟨26, .data⟩ (by simp) rfl)
    have e91 : al.tmps[91]?.getD undef = us 26 := by rw [← Rg.eval_getD, ha]; exact Rg.puts_eval _ _ _ (by rfl) (by simp) (by simp)
    clear ha hdep g hf hKf
    have f26 : us 26 = .slice (some ⟨b1, o1, none⟩) n1 c1 := d26
    clear d26
    have p1 := P1.out
    refine Rg.wpOp_of rfl rfl ?_
    go_simp
    exact hK _ _ rfl (Below.refl _ _)
  · intro o ho f us wl al ha g hf hdep K hKf
    obtain rfl := Option.some.inj ho
    have hB := Lib.hid g.1
    have hK : ∀ v w', RT8 b' o' c' b0 o0 n0 c0 b1 o1 n1 c1 k0 k1 r0 r1 m0 m1 s0 s1 28 v w' → Below wl.heap.size wl w' → K (al.put (some 93) v) w' := fun v w' hv hb => hKf v w' (Rg.Kept.put (Base := Bt w b' o' b0 o0 n0 c0 b1 o1 n1 c1 k0 k1 la lc) (R := RT8 b' o' c' b0 o0 n0 c0 b1 o1 n1 c1 k0 k1 r0 r1 m0 m1 s0 s1) (fun _ _ h hb => h.below hb) (fun _ _ _ _ h _ => h) g hb hv)
    have d27 : RT8 b' o' c' b0 o0 n0 c0 b1 o1 n1 c1 k0 k1 r0 r1 m0 m1 s0 s1 27 (us 27) wl := g.2 27 (hdep ⟨27, .data⟩ (by simp) rfl)
    have e92 : al.tmps[92]?.getD undef = us 27 := by rw [← Rg.eval_getD, ha]; exact Rg.puts_eval _ _ _ (by rfl) (by simp) (by simp)
    clear ha hdep g hf hKf
    have f27 : us 27 = .pointer (some ⟨b1, o1, none⟩) := d27
    clear d27
    refine Rg.wpOp_of rfl rfl ?_
    go_simp
    exact hK _ _ rfl (Below.refl _ _)
  · intro o ho f us wl al ha g hf hdep K hKf
    obtain rfl := Option.some.inj ho
    have hB := Lib.hid g.1
    have hK : ∀ v w', RT8 b' o' c' b0 o0 n0 c0 b1 o1 n1 c1 k0 k1 r0 r1 m0 m1 s0 s1 29 v w' → Below wl.heap.size wl w' → K (al.put (some 94) v) w' := fun v w' hv hb => hKf v w' (Rg.Kept.put (Base := Bt w b' o' b0 o0 n0 c0 b1 o1 n1 c1 k0 k1 la lc) (R := RT8 b' o' c' b0 o0 n0 c0 b1 o1 n1 c1 k0 k1 r0 r1 m0 m1 s0 s1) (fun _ _ h hb => h.below hb) (fun _ _ _ _ h _ => h) g hb hv)
    have d28 : RT8 b' o' c' b0 o0 n0 c0 b1 o1 n1 c1 k0 k1 r0 r1 m0 m1 s0 s1 28 (us 28) wl := g.2 28 (hdep ⟨28, .data⟩ (by simp) rfl)
    have e93 : al.tmps[93]?.getD undef = us 28 := by rw [← Rg.eval_getD, ha]; exact Rg.puts_eval _ _ _ (by rfl) (by simp) (by simp)
    clear ha hdep g hf hKf
    have f28 : us 28 = .pointer (some ⟨b1, o1, none⟩) := d28
    clear d28
    have q := hB.out.h1
    refine Rg.wpOp_of rfl rfl ?_
    go_simp
    exact hK _ _ rfl (Below.refl _ _)
  · intro o ho f us wl al ha g hf hdep K hKf
    obtain rfl := Option.some.inj ho
    have hB := Lib.hid g.1
    have hK : ∀ v w', RT8 b' o' c' b0 o0 n0 c0 b1 o1 n1 c1 k0 k1 r0 r1 m0 m1 s0 s1 30 v w' → Below wl.heap.size wl w' → K (al.put (some 95) v) w' := fun v w' hv hb => hKf v w' (Rg.Kept.put (Base := Bt w b' o' b0 o0 n0 c0 b1 o1 n1 c1 k0 k1 la lc) (R := RT8 b' o' c' b0 o0 n0 c0 b1 o1 n1 c1 k0 k1 r0 r1 m0 m1 s0 s1) (fun _ _ h hb => h.below hb) (fun _ _ _ _ h _ => h) g hb hv)
    have d29 : RT8 b' o' c' b0 o0 n0 c0 b1 o1 n1 c1 k0 k1 r0 r1 m0 m1 s0 s1 29 (us 29) wl := g.2 29 (hdep ⟨29, .data⟩ (by simp) rfl)
    have e94 : al.tmps[94]?.getD undef = us 29 := by rw [← Rg.eval_getD, ha]; exact Rg.puts_eval _ _ _ (by rfl) (by simp) (by simp)
    clear ha hdep g hf hKf
    have f29 : us 29 = .int .i64 k1 := d29
    clear d29
    refine Rg.wpOp_of rfl rfl ?_
    go_simp
    refine (hrank.out _ _).mono ?_
    rintro e w' ⟨rfl, rfl⟩
    exact hK _ _ (by rw [R1.out]; rfl) (Below.refl _ _)
  · intro o ho f us wl al ha g hf hdep K hKf
    obtain rfl := Option.some.inj ho
    have hB := Lib.hid g.1
    have hK : ∀ v w', RT8 b' o' c' b0 o0 n0 c0 b1 o1 n1 c1 k0 k1 r0 r1 m0 m1 s0 s1 31 v w' → Below wl.heap.size wl w' → K (al.put (some 96) v) w' := fun v w' hv hb => hKf v w' (Rg.Kept.put (Base := Bt w b' o' b0 o0 n0 c0 b1 o1 n1 c1 k0 k1 la lc) (R := RT8 b' o' c' b0 o0 n0 c0 b1 o1 n1 c1 k0 k1 r0 r1 m0 m1 s0 s1) (fun _ _ h hb => h.below hb) (fun _ _ _ _ h _ => h) g hb hv)
    have e4 : al.tmps[4]?.getD undef = .int .i64 2 := by rw [← Rg.eval_getD, ha]; exact (Rg.puts_eval_ne _ _ _ (by rfl)).trans rfl
    clear ha hdep g hf hKf
    refine Rg.wpOp_of rfl rfl ?_
    go_simp
    exact hK _ _ rfl (Below.refl _ _)
  · intro o ho f us wl al ha g hf hdep K hKf
    obtain rfl := Option.some.inj ho
    have hB := Lib.hid g.1
    have hK : ∀ v w', RT8 b' o' c' b0 o0 n0 c0 b1 o1 n1 c1 k0 k1 r0 r1 m0 m1 s0 s1 32 v w' → Below wl.heap.size wl w' → K (al.put (some 97) v) w' := fun v w' hv hb => hKf v w' (Rg.Kept.put (Base := Bt w b' o' b0 o0 n0 c0 b1 o1 n1 c1 k0 k1 la lc) (R := RT8 b' o' c' b0 o0 n0 c0 b1 o1 n1 c1 k0 k1 r0 r1 m0 m1 s0 s1) (fun _ _ h hb => h.below hb) (fun _ _ _ _ h _ => h) g hb hv)
    have d30 : RT8 b' o' c' b0 o0 n0 c0 b1 o1 n1 c1 k0 k1 r0 r1 m0 m1 s0 s1 30 (us 30) wl := g.2 30 (hdep ⟨30, .data⟩ (by simp) rfl)
    have e95 : al.tmps[95]?.getD undef = us 30 := by rw [← Rg.eval_getD, ha]; exact Rg.puts_eval _ _ _ (by rfl) (by simp) (by simp)
    have d31 : RT8 b' o' c' b0 o0 n0 c0 b1 o1 n1 c1 k0 k1 r0 r1 m0 m1 s0 s1 31 (us 31) wl := g.2 31 (hdep ⟨31, .data⟩ (by simp) rfl)
    have e96 : al.tmps[96]?.getD undef = us 31 := by rw [← Rg.eval_getD, ha]; exact Rg.puts_eval _ _ _ (by rfl) (by simp) (by simp)
    clear ha hdep g hf hKf
    have f30 : us 30 = .int .i64 (r1 : Nat) := d30
    clear d30
    have f31 : us 31 = .int .i64 2 := d31
    clear d31
    refine Rg.wpOp_of rfl rfl ?_
    go_simp
    exact hK _ _ (by rw [M1.out]; rfl) (Below.refl _ _)
  · intro o ho f us wl al ha g hf hdep K hKf
    obtain rfl := Option.some.inj ho
    have hB := Lib.hid g.1
    have hK : ∀ v w', RT8 b' o' c' b0 o0 n0 c0 b1 o1 n1 c1 k0 k1 r0 r1 m0 m1 s0 s1 33 v w' → Below wl.heap.size wl w' → K (al.put (some 98) v) w' := fun v w' hv hb => hKf v w' (Rg.Kept.put (Base := Bt w b' o' b0 o0 n0 c0 b1 o1 n1 c1 k0 k1 la lc) (R := RT8 b' o' c' b0 o0 n0 c0 b1 o1 n1 c1 k0 k1 r0 r1 m0 m1 s0 s1) (fun _ _ h hb => h.below hb) (fun _ _ _ _ h _ => h) g hb hv)
    have d23 : RT8 b' o' c' b0 o0 n0 c0 b1 o1 n1 c1 k0 k1 r0 r1 m0 m1 s0 s1 23 (us 23) wl := g.2 23 (hdep ⟨23, .data⟩ (by simp) rfl)
    have e88 : al.tmps[88]?.getD undef = us 23 := by rw [← Rg.eval_getD, ha]; exact Rg.puts_eval _ _ _ (by rfl) (by simp) (by simp)
    have d32 : RT8 b' o' c' b0 o0 n0 c0 b1 o1 n1 c1 k0 k1 r0 r1 m0 m1 s0 s1 32 (us 32) wl := g.2 32 (hdep ⟨32, .data⟩ (by simp) rfl)
    have e97 : al.tmps[97]?.getD undef = us 32 := by rw [← Rg.eval_getD, ha]; exact Rg.puts_eval _ _ _ (by rfl) (by simp) (by simp)
    clear ha hdep g hf hKf
    have f23 : us 23 = .slice (some ⟨b1, o1, none⟩) n1 c1 := d23
    clear d23
    have f32 : us 32 = .bool m1 := d32
    clear d32
    refine Rg.wpOp_of rfl rfl ?_
    go_simp
    refine (HW1.out _ _ hB.out.n1 m1).mono ?_
    rintro e w' ⟨u, rfl, hu, hb⟩
    exact hK _ _ ⟨u, rfl, hu.trans S1.out⟩ hb
  · intro o ho f us wl al ha g hf hdep K hKf
    obtain rfl := Option.some.inj ho
    have hB := Lib.hid g.1
    have hK : ∀ v w', RT8 b' o' c' b0 o0 n0 c0 b1 o1 n1 c1 k0 k1 r0 r1 m0 m1 s0 s1 34 v w' → Below wl.heap.size wl w' → K (al.put (some 99) v) w' := fun v w' hv hb => hKf v w' (Rg.Kept.put (Base := Bt w b' o' b0 o0 n0 c0 b1 o1 n1 c1 k0 k1 la lc) (R := RT8 b' o' c' b0 o0 n0 c0 b1 o1 n1 c1 k0 k1 r0 r1 m0 m1 s0 s1) (fun _ _ h hb => h.below hb) (fun _ _ _ _ h _ => h) g hb hv)
    have d20 : RT8 b' o' c' b0 o0 n0 c0 b1 o1 n1 c1 k0 k1 r0 r1 m0 m1 s0 s1 20 (us 20) wl := g.2 20 (hdep ⟨20, .data⟩ (by simp) rfl)
    have e85 : al.tmps[85]?.getD undef = us 20 := by rw [← Rg.eval_getD, ha]; exact Rg.puts_eval _ _ _ (by rfl) (by simp) (by simp)
    have d33 : RT8 b' o' c' b0 o0 n0 c0 b1 o1 n1 c1 k0 k1 r0 r1 m0 m1 s0 s1 33 (us 33) wl := g.2 33 (hdep ⟨33, .data⟩ (by simp) rfl)
    have e98 : al.tmps[98]?.getD undef = us 33 := by rw [← Rg.eval_getD, ha]; exact Rg.puts_eval _ _ _ (by rfl) (by simp) (by simp)
    clear ha hdep g hf hKf
    obtain ⟨u20, f20, hu20⟩ : IsT (us 20) (s0 ++ [32] ++ [sgB 8] ++ [32]) := d20
    have z20 : u20.size = (s0 ++ [32] ++ [sgB 8] ++ [32]).length := by rw [← hu20]; exact (bytes_len u20).symm
    simp only [List.length_append, List.length_cons, List.length_nil] at z20
    have HU20 := Lib.hid hu20
    clear hu20
    obtain ⟨u33, f33, hu33⟩ : IsT (us 33) (s1) := d33
    have z33 : u33.size = (s1).length := by rw [← hu33]; exact (bytes_len u33).symm
    have HU33 := Lib.hid hu33
    clear hu33
    have L0 := L.out
    refine Rg.wpOp_of rfl rfl ?_
    go_simp
    rw [if_neg (by omega)]
    refine hK _ _ ?_ (Below.refl _ _)
    exact ⟨_, rfl, by rw [bytes_app, HU20.out, HU33.out]⟩
  · intro o ho f us wl al ha g hf hdep K hKf
    obtain rfl := Option.some.inj ho
    have hB := Lib.hid g.1
    have hK : ∀ v w', RT8 b' o' c' b0 o0 n0 c0 b1 o1 n1 c1 k0 k1 r0 r1 m0 m1 s0 s1 35 v w' → Below wl.heap.size wl w' → K (al.put (some 2) v) w' := fun v w' hv hb => hKf v w' (Rg.Kept.put (Base := Bt w b' o' b0 o0 n0 c0 b1 o1 n1 c1 k0 k1 la lc) (R := RT8 b' o' c' b0 o0 n0 c0 b1 o1 n1 c1 k0 k1 r0 r1 m0 m1 s0 s1) (fun _ _ h hb => h.below hb) (fun _ _ _ _ h _ => h) g hb hv)
    have d34 : RT8 b' o' c' b0 o0 n0 c0 b1 o1 n1 c1 k0 k1 r0 r1 m0 m1 s0 s1 34 (us 34) wl := g.2 34 (hdep ⟨34, .data⟩ (by simp) rfl)
    have e99 : al.tmps[99]?.getD undef = us 34 := by rw [← Rg.eval_getD, ha]; exact Rg.puts_eval _ _ _ (by rfl) (by simp) (by simp)
    clear ha hdep g hf hKf
    obtain ⟨u34, f34, hu34⟩ : IsT (us 34) (s0 ++ [32] ++ [sgB 8] ++ [32] ++ s1) := d34
    have z34 : u34.size = (s0 ++ [32] ++ [sgB 8] ++ [32] ++ s1).length := by rw [← hu34]; exact (bytes_len u34).symm
    simp only [List.length_append, List.length_cons, List.length_nil] at z34
    have HU34 := Lib.hid hu34
    clear hu34
    refine Rg.wpOp_of rfl rfl ?_
    go_simp
    exact hK _ _ ⟨_, rfl, HU34.out⟩ (Below.refl _ _)
  · intro us wz hB hR
    obtain ⟨u, fu, hu⟩ : IsT (us 35) (s0 ++ [32] ++ [sgB 8] ++ [32] ++ s1) := hR 35
    have HB2 := Lib.hid hB.bel
    have HU := Lib.hid hu
    clear hB hR hu
    simp only [Rg.puts, Act.put, List.setIfInBounds_toArray, List.set_cons_zero, List.set_cons_succ, fu]
    go_wp2_with fail
    go_ret
    exact ⟨_, rfl, by rw [HU.out, FIN.out], HB2.out⟩
end Go.Proofs.Ytdhaghabhdeakaa.Pa
