/- The document's Text: two trees joined by a sign (written by gen_text.py). -/
import Derived.Test.YtdhaghabhdeakaaQ17
import Derived.Test.YtdhaghabhdeakaaQ02

namespace Go.Proofs.Ytdhaghabhdeakaa.Pa
open Go Go.RowKit Rw So
set_option maxRecDepth 20000

theorem Cv.head {t : Tm} {l : List Nd} {w : World} {v : Value} (hc : Cv t l) (hv : Nds w v l) : ∃ b off cap, v = .slice (some ⟨b, off, none⟩) l.length cap ∧ w.cell? ⟨b, off, none⟩ = some (.int .i64 (So.hd l)) := by
  obtain ⟨b, off, cap, rfl, h⟩ := head_cell hv hc.tre
  exact ⟨b, off, cap, rfl, h⟩
def IsT (v : Value) (l : List UInt8) : Prop := ∃ u : ByteArray, v = .string u ∧ u.data.toList = l
theorem bytes_len (u : ByteArray) : u.data.toList.length = u.size := by cases u; exact Array.length_toList
theorem bytes_app (u x : ByteArray) : (u ++ x).data.toList = u.data.toList ++ x.data.toList := by simp [ByteArray.data_append]
/-- Two rows in a row, below which all is as it was. -/
structure Bt (w0 : World) (b' o' b0 o0 n0 c0 b1 o1 n1 c1 : Nat) (k0 k1 : Int) (la lc : List Nd) (w : World) : Prop where
  bel : Below w0.heap.size w0 w
  q0 : w.cell? ⟨b', o', none⟩ = some (.slice (some ⟨b0, o0, none⟩) n0 c0)
  q1 : w.cell? ⟨b', o' + 1, none⟩ = some (.slice (some ⟨b1, o1, none⟩) n1 c1)
  n0 : Nds w (.slice (some ⟨b0, o0, none⟩) n0 c0) la
  n1 : Nds w (.slice (some ⟨b1, o1, none⟩) n1 c1) lc
  h0 : w.cell? ⟨b0, o0, none⟩ = some (.int .i64 k0)
  h1 : w.cell? ⟨b1, o1, none⟩ = some (.int .i64 k1)
theorem Bt.below {w0 w w' : World} {b' o' b0 o0 n0 c0 b1 o1 n1 c1 : Nat} {k0 k1 : Int} {la lc : List Nd} (h : Bt w0 b' o' b0 o0 n0 c0 b1 o1 n1 c1 k0 k1 la lc w) (hb : Below w.heap.size w w') : Bt w0 b' o' b0 o0 n0 c0 b1 o1 n1 c1 k0 k1 la lc w' :=
  ⟨h.bel.trans (hb.mono h.bel.size), by rw [hb.cell (Ap.cell_lt h.q0)]; exact h.q0, by rw [hb.cell (Ap.cell_lt h.q1)]; exact h.q1, h.n0.below hb, h.n1.below hb, by rw [hb.cell (Ap.cell_lt h.h0)]; exact h.h0, by rw [hb.cell (Ap.cell_lt h.h1)]; exact h.h1⟩
def RT10 (b' o' c' b0 o0 n0 c0 b1 o1 n1 c1 : Nat) (k0 k1 : Int) (r0 r1 : Nat) (m0 m1 : Bool) (s0 s1 : List UInt8) (k : Nat) (v : Value) (_ : World) : Prop := match k with
  | 0 => v = .slice (some ⟨b', o', none⟩) 2 c'
  | 1 => v = .pointer (some ⟨b', o', none⟩)
  | 2 => v = .slice (some ⟨b0, o0, none⟩) n0 c0
  | 3 => v = .slice (some ⟨b', o', none⟩) 2 c'
  | 4 => v = .pointer (some ⟨b', o', none⟩)
  | 5 => v = .slice (some ⟨b0, o0, none⟩) n0 c0
  | 6 => v = .pointer (some ⟨b0, o0, none⟩)
  | 7 => v = .pointer (some ⟨b0, o0, none⟩)
  | 8 => v = .int .i64 k0
  | 9 => v = .int .i64 (r0 : Nat)
  | 10 => v = .bool m0
  | 11 => IsT v s0
  | 12 => IsT v (s0 ++ [47])
  | 13 => v = .slice (some ⟨b', o', none⟩) 2 c'
  | 14 => v = .pointer (some ⟨b', o' + 1, none⟩)
  | 15 => v = .slice (some ⟨b1, o1, none⟩) n1 c1
  | 16 => v = .slice (some ⟨b', o', none⟩) 2 c'
  | 17 => v = .pointer (some ⟨b', o' + 1, none⟩)
  | 18 => v = .slice (some ⟨b1, o1, none⟩) n1 c1
  | 19 => v = .pointer (some ⟨b1, o1, none⟩)
  | 20 => v = .pointer (some ⟨b1, o1, none⟩)
  | 21 => v = .int .i64 k1
  | 22 => v = .int .i64 (r1 : Nat)
  | 23 => v = .bool m1
  | 24 => IsT v s1
  | 25 => IsT v (s0 ++ [47] ++ s1)
  | 26 => IsT v (s0 ++ [47] ++ s1)
  | _ => True

set_option maxHeartbeats 8000000 in
theorem text_10 {a c : Tm} (ha : TextC a) (hc : TextC c) (hna : a.nam) (hnc : c.nam) : TextC (.bin 10 a c) := by
  intro l v w hcv hv hl
  obtain ⟨ht, hh, la, lc, hk, hca, hcc, rfl⟩ := hcv
  have hl2 : la.length ≤ 200 := by simp at hl; omega
  have hl3 : lc.length ≤ 200 := by simp at hl; omega
  have hlen := txt_len true a hna
  rw [hca.row] at hlen
  have hlen2 := txt_len true c hnc
  rw [hcc.row] at hlen2
  have HW0 := Lib.hid (fun w' v' hv' q => within_any ha hca (v := v') (w := w') hv' hl2 hna q)
  have HW1 := Lib.hid (fun w' v' hv' q => within_any hc hcc (v := v') (w := w') hv' hl3 hnc q)
  have hrank := Lib.hid (fun k w' => rank_any k w')
  have HK := Lib.hid (fun w' v' hv' => kidsR_any v' (nOf 10 :: (la ++ lc)) w' hv' (by omega))
  have HV := Lib.hid hv
  have HKK := Lib.hid hk
  have P0 := Lib.hid hca.tre.pos
  have P1 := Lib.hid hcc.tre.pos
  have G0 := Lib.hid hca.rank
  have G1 := Lib.hid hcc.rank
  rcases hv.form with ⟨h0, _⟩ | ⟨b, off, cap, rfl, _, hat⟩
  · cases h0
  obtain ⟨e1, e2, e3⟩ := hat 0 (by simp)
  rw [Nat.zero_mul, Nat.add_zero] at e1 e2
  have E1 := Lib.hid e1
  simp only [List.getElem_cons_zero] at E1
  have HCA := Lib.hid hca
  have HCC := Lib.hid hcc
  have HL := Lib.hid (And.intro hlen (And.intro hlen2 (And.intro hl2 hl3)))
  clear hat e1 e2 e3 ht hh hk hv hlen hlen2 hl2 hl3 hca hcc hna hnc
  have hN0 : 0 < (nOf 10 :: (la ++ lc)).length := by simp
  rw [show (nOf 10).k = 10 from rfl] at E1
  generalize (nOf 10 :: (la ++ lc)).length = N at *
  go_enter Try.func23, Try.ntmps23
  go_wp2_with fail
  refine (HK.out _ _ HV.out).mono ?_
  rintro e w1 ⟨y, rfl, hy, hb⟩
  have cE := E1.out
  rw [← hb.cell (Ap.cell_lt cE)] at cE
  rw [HKK.out] at hy
  obtain ⟨b', o', c', a0, a1, rfl, q0, q1, n0, n1⟩ := two_rows hy
  have N0 := Lib.hid n0
  have N1 := Lib.hid n1
  have HB := Lib.hid hb
  clear hb hy
  obtain ⟨b0, o0, c0, rfl, k0⟩ := HCA.out.head n0
  obtain ⟨b1, o1, c1, rfl, k1⟩ := HCC.out.head n1
  have HBT := Lib.hid (Bt.mk HB.out q0 q1 N0.out N1.out k0 k1)
  have QQ := Lib.hid (And.intro q0 (And.intro q1 (And.intro k0 k1)))
  clear n0 n1 q0 q1 k0 k1
  go_wp2_with fail
  clear cE QQ HB N0 N1 HCA HCC HKK HK HV E1
  obtain ⟨n0, hn0⟩ : ∃ n, la.length = n := ⟨_, rfl⟩
  obtain ⟨n1, hn1⟩ : ∃ n, lc.length = n := ⟨_, rfl⟩
  obtain ⟨k0, hk0⟩ : ∃ k, So.hd la = k := ⟨_, rfl⟩
  obtain ⟨k1, hk1⟩ : ∃ k, So.hd lc = k := ⟨_, rfl⟩
  obtain ⟨r0, hr0⟩ : ∃ r, rankK k0 = r := ⟨_, rfl⟩
  obtain ⟨r1, hr1⟩ : ∃ r, rankK k1 = r := ⟨_, rfl⟩
  obtain ⟨m0, hm0⟩ : ∃ m, decide (r0 < 5) = m := ⟨_, rfl⟩
  obtain ⟨m1, hm1⟩ : ∃ m, decide (r1 < 5) = m := ⟨_, rfl⟩
  obtain ⟨s0, hs0⟩ : ∃ s, brkT m0 (a.txt true) = s := ⟨_, rfl⟩
  obtain ⟨s1, hs1⟩ : ∃ s, brkT m1 (c.txt true) = s := ⟨_, rfl⟩
  have L : Hid (s0.length ≤ 1602 ∧ s1.length ≤ 1602) := by
    obtain ⟨g1, g2, g3, g4⟩ := HL.out
    rw [← hs0, ← hs1]
    have hb : ∀ (c : Bool) (l : List UInt8), (brkT c l).length ≤ l.length + 2 := fun c l => by cases c <;> simp [brkT]
    have := hb m0 (a.txt true)
    have := hb m1 (c.txt true)
    exact ⟨by omega, by omega⟩
  have FIN : Hid (s0 ++ [47] ++ s1 = Tm.txt true (.bin 10 a c)) := by
    have g0 : r0 = a.rank := by rw [← hr0, ← hk0, G0.out]
    have g1 : r1 = c.rank := by rw [← hr1, ← hk1, G1.out]
    show _ = brkT (decide (a.rank < lim 10)) (a.txt true) ++ sep true 10 ++ brkT (decide (c.rank < limR 10)) (c.txt true)
    rw [← hs0, ← hs1, ← hm0, ← hm1, ← g0, ← g1, show decide (r1 < limR 10) = decide (r1 < 5) from decide_eq_decide.2 (by show r1 < 5 ↔ r1 < 5; omega)]
    show _ = brkT (decide (r0 < 5)) _ ++ _ ++ _
    simp [sep]
  have R0 := Lib.hid hr0
  have R1 := Lib.hid hr1
  have M0 : Hid (decide ((r0 : Int) < 5) = m0) := by rw [← hm0]; exact decide_eq_decide.2 (by omega)
  have M1 : Hid (decide ((r1 : Int) < 5) = m1) := by rw [← hm1]; exact decide_eq_decide.2 (by omega)
  have S0 := Lib.hid hs0
  have S1 := Lib.hid hs1
  rw [hn0, hn1, hk0, hk1] at HBT
  rw [hn0] at P0
  rw [hn1] at P1
  clear hn0 hn1 hk0 hk1 hr0 hr1 hm0 hm1 hs0 hs1 G0 G1 HL
  refine Rg.wp_region_kept (by kernel_rfl) [(0, some 34), (1, some 35), (2, some 36), (3, some 37), (4, some 38), (5, some 39), (6, some 40), (7, some 41), (8, some 42), (9, some 43), (10, some 44), (11, some 45), (12, some 46), (13, some 47), (14, some 48), (15, some 49), (16, some 50), (17, some 51), (18, some 52), (19, some 53), (20, some 54), (21, some 55), (22, some 56), (23, some 57), (24, some 58), (25, some 59), (26, some 2)] (by rfl) (by kernel_rfl) (by kernel_rfl) (Bt w b' o' b0 o0 n0 c0 b1 o1 n1 c1 k0 k1 la lc) (RT10 b' o' c' b0 o0 n0 c0 b1 o1 n1 c1 k0 k1 r0 r1 m0 m1 s0 s1) (HBT.out.below (Below.refl _ _).drew) ?_ ⟨⟨⟨⟨⟨⟨⟨⟨⟨⟨⟨⟨⟨⟨⟨⟨⟨⟨⟨⟨⟨⟨⟨⟨⟨⟨⟨True.intro, ?_⟩, ?_⟩, ?_⟩, ?_⟩, ?_⟩, ?_⟩, ?_⟩, ?_⟩, ?_⟩, ?_⟩, ?_⟩, ?_⟩, ?_⟩, ?_⟩, ?_⟩, ?_⟩, ?_⟩, ?_⟩, ?_⟩, ?_⟩, ?_⟩, ?_⟩, ?_⟩, ?_⟩, ?_⟩, ?_⟩, ?_⟩ ?_
  · intro k v w' hk
    unfold RT10
    split
    case h_28 => trivial
    all_goals exact absurd hk (by decide)
  · intro o ho f us wl al ha g hf hdep K hKf
    obtain rfl := Option.some.inj ho
    have hB := Lib.hid g.1
    have hK : ∀ v w', RT10 b' o' c' b0 o0 n0 c0 b1 o1 n1 c1 k0 k1 r0 r1 m0 m1 s0 s1 0 v w' → Below wl.heap.size wl w' → K (al.put (some 34) v) w' := fun v w' hv hb => hKf v w' (Rg.Kept.put (Base := Bt w b' o' b0 o0 n0 c0 b1 o1 n1 c1 k0 k1 la lc) (R := RT10 b' o' c' b0 o0 n0 c0 b1 o1 n1 c1 k0 k1 r0 r1 m0 m1 s0 s1) (fun _ _ h hb => h.below hb) (fun _ _ _ _ h _ => h) g hb hv)
    have e3 : al.tmps[3]?.getD undef = .slice (some ⟨b', o', none⟩) 2 c' := by rw [← Rg.eval_getD, ha]; exact (Rg.puts_eval_ne _ _ _ (by rfl)).trans rfl
    clear ha hdep g hf hKf
    refine Rg.wpOp_of rfl rfl ?_
    go_simp
    exact hK _ _ rfl (Below.refl _ _)
  · intro o ho f us wl al ha g hf hdep K hKf
    obtain rfl := Option.some.inj ho
    have hB := Lib.hid g.1
    have hK : ∀ v w', RT10 b' o' c' b0 o0 n0 c0 b1 o1 n1 c1 k0 k1 r0 r1 m0 m1 s0 s1 1 v w' → Below wl.heap.size wl w' → K (al.put (some 35) v) w' := fun v w' hv hb => hKf v w' (Rg.Kept.put (Base := Bt w b' o' b0 o0 n0 c0 b1 o1 n1 c1 k0 k1 la lc) (R := RT10 b' o' c' b0 o0 n0 c0 b1 o1 n1 c1 k0 k1 r0 r1 m0 m1 s0 s1) (fun _ _ h hb => h.below hb) (fun _ _ _ _ h _ => h) g hb hv)
    have d0 : RT10 b' o' c' b0 o0 n0 c0 b1 o1 n1 c1 k0 k1 r0 r1 m0 m1 s0 s1 0 (us 0) wl := g.2 0 (hdep ⟨0, .data⟩ (by simp) rfl)
    have e34 : al.tmps[34]?.getD undef = us 0 := by rw [← Rg.eval_getD, ha]; exact Rg.puts_eval _ _ _ (by rfl) (by simp) (by simp)
    clear ha hdep g hf hKf
    have f0 : us 0 = .slice (some ⟨b', o', none⟩) 2 c' := d0
    clear d0
    refine Rg.wpOp_of rfl rfl ?_
    go_simp
    exact hK _ _ rfl (Below.refl _ _)
  · intro o ho f us wl al ha g hf hdep K hKf
    obtain rfl := Option.some.inj ho
    have hB := Lib.hid g.1
    have hK : ∀ v w', RT10 b' o' c' b0 o0 n0 c0 b1 o1 n1 c1 k0 k1 r0 r1 m0 m1 s0 s1 2 v w' → Below wl.heap.size wl w' → K (al.put (some 36) v) w' := fun v w' hv hb => hKf v w' (Rg.Kept.put (Base := Bt w b' o' b0 o0 n0 c0 b1 o1 n1 c1 k0 k1 la lc) (R := RT10 b' o' c' b0 o0 n0 c0 b1 o1 n1 c1 k0 k1 r0 r1 m0 m1 s0 s1) (fun _ _ h hb => h.below hb) (fun _ _ _ _ h _ => h) g hb hv)
    have d1 : RT10 b' o' c' b0 o0 n0 c0 b1 o1 n1 c1 k0 k1 r0 r1 m0 m1 s0 s1 1 (us 1) wl := g.2 1 (hdep ⟨1, .data⟩ (by simp) rfl)
    have e35 : al.tmps[35]?.getD undef = us 1 := by rw [← Rg.eval_getD, ha]; exact Rg.puts_eval _ _ _ (by rfl) (by simp) (by simp)
    clear ha hdep g hf hKf
    have f1 : us 1 = .pointer (some ⟨b', o', none⟩) := d1
    clear d1
    have q := hB.out.q0
    refine Rg.wpOp_of rfl rfl ?_
    go_simp
    exact hK _ _ rfl (Below.refl _ _)
  · intro o ho f us wl al ha g hf hdep K hKf
    obtain rfl := Option.some.inj ho
    have hB := Lib.hid g.1
    have hK : ∀ v w', RT10 b' o' c' b0 o0 n0 c0 b1 o1 n1 c1 k0 k1 r0 r1 m0 m1 s0 s1 3 v w' → Below wl.heap.size wl w' → K (al.put (some 37) v) w' := fun v w' hv hb => hKf v w' (Rg.Kept.put (Base := Bt w b' o' b0 o0 n0 c0 b1 o1 n1 c1 k0 k1 la lc) (R := RT10 b' o' c' b0 o0 n0 c0 b1 o1 n1 c1 k0 k1 r0 r1 m0 m1 s0 s1) (fun _ _ h hb => h.below hb) (fun _ _ _ _ h _ => h) g hb hv)
    have e3 : al.tmps[3]?.getD undef = .slice (some ⟨b', o', none⟩) 2 c' := by rw [← Rg.eval_getD, ha]; exact (Rg.puts_eval_ne _ _ _ (by rfl)).trans rfl
    clear ha hdep g hf hKf
    refine Rg.wpOp_of rfl rfl ?_
    go_simp
    exact hK _ _ rfl (Below.refl _ _)
  · intro o ho f us wl al ha g hf hdep K hKf
    obtain rfl := Option.some.inj ho
    have hB := Lib.hid g.1
    have hK : ∀ v w', RT10 b' o' c' b0 o0 n0 c0 b1 o1 n1 c1 k0 k1 r0 r1 m0 m1 s0 s1 4 v w' → Below wl.heap.size wl w' → K (al.put (some 38) v) w' := fun v w' hv hb => hKf v w' (Rg.Kept.put (Base := Bt w b' o' b0 o0 n0 c0 b1 o1 n1 c1 k0 k1 la lc) (R := RT10 b' o' c' b0 o0 n0 c0 b1 o1 n1 c1 k0 k1 r0 r1 m0 m1 s0 s1) (fun _ _ h hb => h.below hb) (fun _ _ _ _ h _ => h) g hb hv)
    have d3 : RT10 b' o' c' b0 o0 n0 c0 b1 o1 n1 c1 k0 k1 r0 r1 m0 m1 s0 s1 3 (us 3) wl := g.2 3 (hdep ⟨3, .data⟩ (by simp) rfl)
    have e37 : al.tmps[37]?.getD undef = us 3 := by rw [← Rg.eval_getD, ha]; exact Rg.puts_eval _ _ _ (by rfl) (by simp) (by simp)
    clear ha hdep g hf hKf
    have f3 : us 3 = .slice (some ⟨b', o', none⟩) 2 c' := d3
    clear d3
    refine Rg.wpOp_of rfl rfl ?_
    go_simp
    exact hK _ _ rfl (Below.refl _ _)
  · intro o ho f us wl al ha g hf hdep K hKf
    obtain rfl := Option.some.inj ho
    have hB := Lib.hid g.1
    have hK : ∀ v w', RT10 b' o' c' b0 o0 n0 c0 b1 o1 n1 c1 k0 k1 r0 r1 m0 m1 s0 s1 5 v w' → Below wl.heap.size wl w' → K (al.put (some 39) v) w' := fun v w' hv hb => hKf v w' (Rg.Kept.put (Base := Bt w b' o' b0 o0 n0 c0 b1 o1 n1 c1 k0 k1 la lc) (R := RT10 b' o' c' b0 o0 n0 c0 b1 o1 n1 c1 k0 k1 r0 r1 m0 m1 s0 s1) (fun _ _ h hb => h.below hb) (fun _ _ _ _ h _ => h) g hb hv)
    have d4 : RT10 b' o' c' b0 o0 n0 c0 b1 o1 n1 c1 k0 k1 r0 r1 m0 m1 s0 s1 4 (us 4) wl := g.2 4 (hdep ⟨4, .data⟩ (by simp) rfl)
    have e38 : al.tmps[38]?.getD undef = us 4 := by rw [← Rg.eval_getD, ha]; exact Rg.puts_eval _ _ _ (by rfl) (by simp) (by simp)
    clear ha hdep g hf hKf
    have f4 : us 4 = .pointer (some ⟨b', o', none⟩) := d4
    clear d4
    have q := hB.out.q0
    refine Rg.wpOp_of rfl rfl ?_
    go_simp
    exact hK _ _ rfl (Below.refl _ _)
  · intro o ho f us wl al ha g hf hdep K hKf
    obtain rfl := Option.some.inj ho
    have hB := Lib.hid g.1
    have hK : ∀ v w', RT10 b' o' c' b0 o0 n0 c0 b1 o1 n1 c1 k0 k1 r0 r1 m0 m1 s0 s1 6 v w' → Below wl.heap.size wl w' → K (al.put (some 40) v) w' := fun v w' hv hb => hKf v w' (Rg.Kept.put (Base := Bt w b' o' b0 o0 n0 c0 b1 o1 n1 c1 k0 k1 la lc) (R := RT10 b' o' c' b0 o0 n0 c0 b1 o1 n1 c1 k0 k1 r0 r1 m0 m1 s0 s1) (fun _ _ h hb => h.below hb) (fun _ _ _ _ h _ => h) g hb hv)
    have d5 : RT10 b' o' c' b0 o0 n0 c0 b1 o1 n1 c1 k0 k1 r0 r1 m0 m1 s0 s1 5 (us 5) wl := g.2 5 (hdep ⟨5, .data⟩ (by simp) rfl)
    have e39 : al.tmps[39]?.getD undef = us 5 := by rw [← Rg.eval_getD, ha]; exact Rg.puts_eval _ _ _ (by rfl) (by simp) (by simp)
    clear ha hdep g hf hKf
    have f5 : us 5 = .slice (some ⟨b0, o0, none⟩) n0 c0 := d5
    clear d5
    have p0 := P0.out
    refine Rg.wpOp_of rfl rfl ?_
    go_simp
    exact hK _ _ rfl (Below.refl _ _)
  · intro o ho f us wl al ha g hf hdep K hKf
    obtain rfl := Option.some.inj ho
    have hB := Lib.hid g.1
    have hK : ∀ v w', RT10 b' o' c' b0 o0 n0 c0 b1 o1 n1 c1 k0 k1 r0 r1 m0 m1 s0 s1 7 v w' → Below wl.heap.size wl w' → K (al.put (some 41) v) w' := fun v w' hv hb => hKf v w' (Rg.Kept.put (Base := Bt w b' o' b0 o0 n0 c0 b1 o1 n1 c1 k0 k1 la lc) (R := RT10 b' o' c' b0 o0 n0 c0 b1 o1 n1 c1 k0 k1 r0 r1 m0 m1 s0 s1) (fun _ _ h hb => h.below hb) (fun _ _ _ _ h _ => h) g hb hv)
    have d6 : RT10 b' o' c' b0 o0 n0 c0 b1 o1 n1 c1 k0 k1 r0 r1 m0 m1 s0 s1 6 (us 6) wl := g.2 6 (hdep ⟨6, .data⟩ (by simp) rfl)
    have e40 : al.tmps[40]?.getD undef = us 6 := by rw [← Rg.eval_getD, ha]; exact Rg.puts_eval _ _ _ (by rfl) (by simp) (by simp)
    clear ha hdep g hf hKf
    have f6 : us 6 = .pointer (some ⟨b0, o0, none⟩) := d6
    clear d6
    refine Rg.wpOp_of rfl rfl ?_
    go_simp
    exact hK _ _ rfl (Below.refl _ _)
  · intro o ho f us wl al ha g hf hdep K hKf
    obtain rfl := Option.some.inj ho
    have hB := Lib.hid g.1
    have hK : ∀ v w', RT10 b' o' c' b0 o0 n0 c0 b1 o1 n1 c1 k0 k1 r0 r1 m0 m1 s0 s1 8 v w' → Below wl.heap.size wl w' → K (al.put (some 42) v) w' := fun v w' hv hb => hKf v w' (Rg.Kept.put (Base := Bt w b' o' b0 o0 n0 c0 b1 o1 n1 c1 k0 k1 la lc) (R := RT10 b' o' c' b0 o0 n0 c0 b1 o1 n1 c1 k0 k1 r0 r1 m0 m1 s0 s1) (fun _ _ h hb => h.below hb) (fun _ _ _ _ h _ => h) g hb hv)
    have d7 : RT10 b' o' c' b0 o0 n0 c0 b1 o1 n1 c1 k0 k1 r0 r1 m0 m1 s0 s1 7 (us 7) wl := g.2 7 (hdep ⟨7, .data⟩ (by simp) rfl)
    have e41 : al.tmps[41]?.getD undef = us 7 := by rw [← Rg.eval_getD, ha]; exact Rg.puts_eval _ _ _ (by rfl) (by simp) (by simp)
    clear ha hdep g hf hKf
    have f7 : us 7 = .pointer (some ⟨b0, o0, none⟩) := d7
    clear d7
    have q := hB.out.h0
    refine Rg.wpOp_of rfl rfl ?_
    go_simp
    exact hK _ _ rfl (Below.refl _ _)
  · intro o ho f us wl al ha g hf hdep K hKf
    obtain rfl := Option.some.inj ho
    have hB := Lib.hid g.1
    have hK : ∀ v w', RT10 b' o' c' b0 o0 n0 c0 b1 o1 n1 c1 k0 k1 r0 r1 m0 m1 s0 s1 9 v w' → Below wl.heap.size wl w' → K (al.put (some 43) v) w' := fun v w' hv hb => hKf v w' (Rg.Kept.put (Base := Bt w b' o' b0 o0 n0 c0 b1 o1 n1 c1 k0 k1 la lc) (R := RT10 b' o' c' b0 o0 n0 c0 b1 o1 n1 c1 k0 k1 r0 r1 m0 m1 s0 s1) (fun _ _ h hb => h.below hb) (fun _ _ _ _ h _ => h) g hb hv)
    have d8 : RT10 b' o' c' b0 o0 n0 c0 b1 o1 n1 c1 k0 k1 r0 r1 m0 m1 s0 s1 8 (us 8) wl := g.2 8 (hdep ⟨8, .data⟩ (by simp) rfl)
    have e42 : al.tmps[42]?.getD undef = us 8 := by rw [← Rg.eval_getD, ha]; exact Rg.puts_eval _ _ _ (by rfl) (by simp) (by simp)
    clear ha hdep g hf hKf
    have f8 : us 8 = .int .i64 k0 := d8
    clear d8
    refine Rg.wpOp_of rfl rfl ?_
    go_simp
    refine (hrank.out _ _).mono ?_
    rintro e w' ⟨rfl, rfl⟩
    exact hK _ _ (by rw [R0.out]; rfl) (Below.refl _ _)
  · intro o ho f us wl al ha g hf hdep K hKf
    obtain rfl := Option.some.inj ho
    have hB := Lib.hid g.1
    have hK : ∀ v w', RT10 b' o' c' b0 o0 n0 c0 b1 o1 n1 c1 k0 k1 r0 r1 m0 m1 s0 s1 10 v w' → Below wl.heap.size wl w' → K (al.put (some 44) v) w' := fun v w' hv hb => hKf v w' (Rg.Kept.put (Base := Bt w b' o' b0 o0 n0 c0 b1 o1 n1 c1 k0 k1 la lc) (R := RT10 b' o' c' b0 o0 n0 c0 b1 o1 n1 c1 k0 k1 r0 r1 m0 m1 s0 s1) (fun _ _ h hb => h.below hb) (fun _ _ _ _ h _ => h) g hb hv)
    have d9 : RT10 b' o' c' b0 o0 n0 c0 b1 o1 n1 c1 k0 k1 r0 r1 m0 m1 s0 s1 9 (us 9) wl := g.2 9 (hdep ⟨9, .data⟩ (by simp) rfl)
    have e43 : al.tmps[43]?.getD undef = us 9 := by rw [← Rg.eval_getD, ha]; exact Rg.puts_eval _ _ _ (by rfl) (by simp) (by simp)
    clear ha hdep g hf hKf
    have f9 : us 9 = .int .i64 (r0 : Nat) := d9
    clear d9
    refine Rg.wpOp_of rfl rfl ?_
    go_simp
    exact hK _ _ (by rw [M0.out]; rfl) (Below.refl _ _)
  · intro o ho f us wl al ha g hf hdep K hKf
    obtain rfl := Option.some.inj ho
    have hB := Lib.hid g.1
    have hK : ∀ v w', RT10 b' o' c' b0 o0 n0 c0 b1 o1 n1 c1 k0 k1 r0 r1 m0 m1 s0 s1 11 v w' → Below wl.heap.size wl w' → K (al.put (some 45) v) w' := fun v w' hv hb => hKf v w' (Rg.Kept.put (Base := Bt w b' o' b0 o0 n0 c0 b1 o1 n1 c1 k0 k1 la lc) (R := RT10 b' o' c' b0 o0 n0 c0 b1 o1 n1 c1 k0 k1 r0 r1 m0 m1 s0 s1) (fun _ _ h hb => h.below hb) (fun _ _ _ _ h _ => h) g hb hv)
    have d2 : RT10 b' o' c' b0 o0 n0 c0 b1 o1 n1 c1 k0 k1 r0 r1 m0 m1 s0 s1 2 (us 2) wl := g.2 2 (hdep ⟨2, .data⟩ (by simp) rfl)
    have e36 : al.tmps[36]?.getD undef = us 2 := by rw [← Rg.eval_getD, ha]; exact Rg.puts_eval _ _ _ (by rfl) (by simp) (by simp)
    have d10 : RT10 b' o' c' b0 o0 n0 c0 b1 o1 n1 c1 k0 k1 r0 r1 m0 m1 s0 s1 10 (us 10) wl := g.2 10 (hdep ⟨10, .data⟩ (by simp) rfl)
    have e44 : al.tmps[44]?.getD undef = us 10 := by rw [← Rg.eval_getD, ha]; exact Rg.puts_eval _ _ _ (by rfl) (by simp) (by simp)
    clear ha hdep g hf hKf
    have f2 : us 2 = .slice (some ⟨b0, o0, none⟩) n0 c0 := d2
    clear d2
    have f10 : us 10 = .bool m0 := d10
    clear d10
    refine Rg.wpOp_of rfl rfl ?_
    go_simp
    refine (HW0.out _ _ hB.out.n0 m0).mono ?_
    rintro e w' ⟨u, rfl, hu, hb⟩
    exact hK _ _ ⟨u, rfl, hu.trans S0.out⟩ hb
  · intro o ho f us wl al ha g hf hdep K hKf
    obtain rfl := Option.some.inj ho
    have hB := Lib.hid g.1
    have hK : ∀ v w', RT10 b' o' c' b0 o0 n0 c0 b1 o1 n1 c1 k0 k1 r0 r1 m0 m1 s0 s1 12 v w' → Below wl.heap.size wl w' → K (al.put (some 46) v) w' := fun v w' hv hb => hKf v w' (Rg.Kept.put (Base := Bt w b' o' b0 o0 n0 c0 b1 o1 n1 c1 k0 k1 la lc) (R := RT10 b' o' c' b0 o0 n0 c0 b1 o1 n1 c1 k0 k1 r0 r1 m0 m1 s0 s1) (fun _ _ h hb => h.below hb) (fun _ _ _ _ h _ => h) g hb hv)
    have d11 : RT10 b' o' c' b0 o0 n0 c0 b1 o1 n1 c1 k0 k1 r0 r1 m0 m1 s0 s1 11 (us 11) wl := g.2 11 (hdep ⟨11, .data⟩ (by simp) rfl)
    have e45 : al.tmps[45]?.getD undef = us 11 := by rw [← Rg.eval_getD, ha]; exact Rg.puts_eval _ _ _ (by rfl) (by simp) (by simp)
    clear ha hdep g hf hKf
    obtain ⟨u11, f11, hu11⟩ : IsT (us 11) (s0) := d11
    have z11 : u11.size = (s0).length := by rw [← hu11]; exact (bytes_len u11).symm
    have HU11 := Lib.hid hu11
    clear hu11
    have L0 := L.out
    refine Rg.wpOp_of rfl rfl ?_
    go_simp
    rw [if_neg (by omega)]
    refine hK _ _ ?_ (Below.refl _ _)
    exact ⟨_, rfl, by rw [bytes_app, HU11.out]⟩
  · intro o ho f us wl al ha g hf hdep K hKf
    obtain rfl := Option.some.inj ho
    have hB := Lib.hid g.1
    have hK : ∀ v w', RT10 b' o' c' b0 o0 n0 c0 b1 o1 n1 c1 k0 k1 r0 r1 m0 m1 s0 s1 13 v w' → Below wl.heap.size wl w' → K (al.put (some 47) v) w' := fun v w' hv hb => hKf v w' (Rg.Kept.put (Base := Bt w b' o' b0 o0 n0 c0 b1 o1 n1 c1 k0 k1 la lc) (R := RT10 b' o' c' b0 o0 n0 c0 b1 o1 n1 c1 k0 k1 r0 r1 m0 m1 s0 s1) (fun _ _ h hb => h.below hb) (fun _ _ _ _ h _ => h) g hb hv)
    have e3 : al.tmps[3]?.getD undef = .slice (some ⟨b', o', none⟩) 2 c' := by rw [← Rg.eval_getD, ha]; exact (Rg.puts_eval_ne _ _ _ (by rfl)).trans rfl
    clear ha hdep g hf hKf
    refine Rg.wpOp_of rfl rfl ?_
    go_simp
    exact hK _ _ rfl (Below.refl _ _)
  · intro o ho f us wl al ha g hf hdep K hKf
    obtain rfl := Option.some.inj ho
    have hB := Lib.hid g.1
    have hK : ∀ v w', RT10 b' o' c' b0 o0 n0 c0 b1 o1 n1 c1 k0 k1 r0 r1 m0 m1 s0 s1 14 v w' → Below wl.heap.size wl w' → K (al.put (some 48) v) w' := fun v w' hv hb => hKf v w' (Rg.Kept.put (Base := Bt w b' o' b0 o0 n0 c0 b1 o1 n1 c1 k0 k1 la lc) (R := RT10 b' o' c' b0 o0 n0 c0 b1 o1 n1 c1 k0 k1 r0 r1 m0 m1 s0 s1) (fun _ _ h hb => h.below hb) (fun _ _ _ _ h _ => h) g hb hv)
    have d13 : RT10 b' o' c' b0 o0 n0 c0 b1 o1 n1 c1 k0 k1 r0 r1 m0 m1 s0 s1 13 (us 13) wl := g.2 13 (hdep ⟨13, .data⟩ (by simp) rfl)
    have e47 : al.tmps[47]?.getD undef = us 13 := by rw [← Rg.eval_getD, ha]; exact Rg.puts_eval _ _ _ (by rfl) (by simp) (by simp)
    clear ha hdep g hf hKf
    have f13 : us 13 = .slice (some ⟨b', o', none⟩) 2 c' := d13
    clear d13
    refine Rg.wpOp_of rfl rfl ?_
    go_simp
    exact hK _ _ rfl (Below.refl _ _)
  · intro o ho f us wl al ha g hf hdep K hKf
    obtain rfl := Option.some.inj ho
    have hB := Lib.hid g.1
    have hK : ∀ v w', RT10 b' o' c' b0 o0 n0 c0 b1 o1 n1 c1 k0 k1 r0 r1 m0 m1 s0 s1 15 v w' → Below wl.heap.size wl w' → K (al.put (some 49) v) w' := fun v w' hv hb => hKf v w' (Rg.Kept.put (Base := Bt w b' o' b0 o0 n0 c0 b1 o1 n1 c1 k0 k1 la lc) (R := RT10 b' o' c' b0 o0 n0 c0 b1 o1 n1 c1 k0 k1 r0 r1 m0 m1 s0 s1) (fun _ _ h hb => h.below hb) (fun _ _ _ _ h _ => h) g hb hv)
    have d14 : RT10 b' o' c' b0 o0 n0 c0 b1 o1 n1 c1 k0 k1 r0 r1 m0 m1 s0 s1 14 (us 14) wl := g.2 14 (hdep ⟨14, .data⟩ (by simp) rfl)
    have e48 : al.tmps[48]?.getD undef = us 14 := by rw [← Rg.eval_getD, ha]; exact Rg.puts_eval _ _ _ (by rfl) (by simp) (by simp)
    clear ha hdep g hf hKf
    have f14 : us 14 = .pointer (some ⟨b', o' + 1, none⟩) := d14
    clear d14
    have q := hB.out.q1
    refine Rg.wpOp_of rfl rfl ?_
    go_simp
    exact hK _ _ rfl (Below.refl _ _)
  · intro o ho f us wl al ha g hf hdep K hKf
    obtain rfl := Option.some.inj ho
    have hB := Lib.hid g.1
    have hK : ∀ v w', RT10 b' o' c' b0 o0 n0 c0 b1 o1 n1 c1 k0 k1 r0 r1 m0 m1 s0 s1 16 v w' → Below wl.heap.size wl w' → K (al.put (some 50) v) w' := fun v w' hv hb => hKf v w' (Rg.Kept.put (Base := Bt w b' o' b0 o0 n0 c0 b1 o1 n1 c1 k0 k1 la lc) (R := RT10 b' o' c' b0 o0 n0 c0 b1 o1 n1 c1 k0 k1 r0 r1 m0 m1 s0 s1) (fun _ _ h hb => h.below hb) (fun _ _ _ _ h _ => h) g hb hv)
    have e3 : al.tmps[3]?.getD undef = .slice (some ⟨b', o', none⟩) 2 c' := by rw [← Rg.eval_getD, ha]; exact (Rg.puts_eval_ne _ _ _ (by rfl)).trans rfl
    clear ha hdep g hf hKf
    refine Rg.wpOp_of rfl rfl ?_
    go_simp
    exact hK _ _ rfl (Below.refl _ _)
  · intro o ho f us wl al ha g hf hdep K hKf
    obtain rfl := Option.some.inj ho
    have hB := Lib.hid g.1
    have hK : ∀ v w', RT10 b' o' c' b0 o0 n0 c0 b1 o1 n1 c1 k0 k1 r0 r1 m0 m1 s0 s1 17 v w' → Below wl.heap.size wl w' → K (al.put (some 51) v) w' := fun v w' hv hb => hKf v w' (Rg.Kept.put (Base := Bt w b' o' b0 o0 n0 c0 b1 o1 n1 c1 k0 k1 la lc) (R := RT10 b' o' c' b0 o0 n0 c0 b1 o1 n1 c1 k0 k1 r0 r1 m0 m1 s0 s1) (fun _ _ h hb => h.below hb) (fun _ _ _ _ h _ => h) g hb hv)
    have d16 : RT10 b' o' c' b0 o0 n0 c0 b1 o1 n1 c1 k0 k1 r0 r1 m0 m1 s0 s1 16 (us 16) wl := g.2 16 (hdep ⟨16, .data⟩ (by simp) rfl)
    have e50 : al.tmps[50]?.getD undef = us 16 := by rw [← Rg.eval_getD, ha]; exact Rg.puts_eval _ _ _ (by rfl) (by simp) (by simp)
    clear ha hdep g hf hKf
    have f16 : us 16 = .slice (some ⟨b', o', none⟩) 2 c' := d16
    clear d16
    refine Rg.wpOp_of rfl rfl ?_
    go_simp
    exact hK _ _ rfl (Below.refl _ _)
  · intro o ho f us wl al ha g hf hdep K hKf
    obtain rfl := Option.some.inj ho
    have hB := Lib.hid g.1
    have hK : ∀ v w', RT10 b' o' c' b0 o0 n0 c0 b1 o1 n1 c1 k0 k1 r0 r1 m0 m1 s0 s1 18 v w' → Below wl.heap.size wl w' → K (al.put (some 52) v) w' := fun v w' hv hb => hKf v w' (Rg.Kept.put (Base := Bt w b' o' b0 o0 n0 c0 b1 o1 n1 c1 k0 k1 la lc) (R := RT10 b' o' c' b0 o0 n0 c0 b1 o1 n1 c1 k0 k1 r0 r1 m0 m1 s0 s1) (fun _ _ h hb => h.below hb) (fun _ _ _ _ h _ => h) g hb hv)
    have d17 : RT10 b' o' c' b0 o0 n0 c0 b1 o1 n1 c1 k0 k1 r0 r1 m0 m1 s0 s1 17 (us 17) wl := g.2 17 (hdep ⟨17, .data⟩ (by simp) rfl)
    have e51 : al.tmps[51]?.getD undef = us 17 := by rw [← Rg.eval_getD, ha]; exact Rg.puts_eval _ _ _ (by rfl) (by simp) (by simp)
    clear ha hdep g hf hKf
    have f17 : us 17 = .pointer (some ⟨b', o' + 1, none⟩) := d17
    clear d17
    have q := hB.out.q1
    refine Rg.wpOp_of rfl rfl ?_
    go_simp
    exact hK _ _ rfl (Below.refl _ _)
  · intro o ho f us wl al ha g hf hdep K hKf
    obtain rfl := Option.some.inj ho
    have hB := Lib.hid g.1
    have hK : ∀ v w', RT10 b' o' c' b0 o0 n0 c0 b1 o1 n1 c1 k0 k1 r0 r1 m0 m1 s0 s1 19 v w' → Below wl.heap.size wl w' → K (al.put (some 53) v) w' := fun v w' hv hb => hKf v w' (Rg.Kept.put (Base := Bt w b' o' b0 o0 n0 c0 b1 o1 n1 c1 k0 k1 la lc) (R := RT10 b' o' c' b0 o0 n0 c0 b1 o1 n1 c1 k0 k1 r0 r1 m0 m1 s0 s1) (fun _ _ h hb => h.below hb) (fun _ _ _ _ h _ => h) g hb hv)
    have d18 : RT10 b' o' c' b0 o0 n0 c0 b1 o1 n1 c1 k0 k1 r0 r1 m0 m1 s0 s1 18 (us 18) wl := g.2 18 (hdep ⟨18, .data⟩ (by simp) rfl)
    have e52 : al.tmps[52]?.getD undef = us 18 := by rw [← Rg.eval_getD, ha]; exact Rg.puts_eval _ _ _ (by rfl) (by simp) (by simp)
    clear ha hdep g hf hKf
    have f18 : us 18 = .slice (some ⟨b1, o1, none⟩) n1 c1 := d18
    clear d18
    have p1 := P1.out
    refine Rg.wpOp_of rfl rfl ?_
    go_simp
    exact hK _ _ rfl (Below.refl _ _)
  · intro o ho f us wl al ha g hf hdep K hKf
    obtain rfl := Option.some.inj ho
    have hB := Lib.hid g.1
    have hK : ∀ v w', RT10 b' o' c' b0 o0 n0 c0 b1 o1 n1 c1 k0 k1 r0 r1 m0 m1 s0 s1 20 v w' → Below wl.heap.size wl w' → K (al.put (some 54) v) w' := fun v w' hv hb => hKf v w' (Rg.Kept.put (Base := Bt w b' o' b0 o0 n0 c0 b1 o1 n1 c1 k0 k1 la lc) (R := RT10 b' o' c' b0 o0 n0 c0 b1 o1 n1 c1 k0 k1 r0 r1 m0 m1 s0 s1) (fun _ _ h hb => h.below hb) (fun _ _ _ _ h _ => h) g hb hv)
    have d19 : RT10 b' o' c' b0 o0 n0 c0 b1 o1 n1 c1 k0 k1 r0 r1 m0 m1 s0 s1 19 (us 19) wl := g.2 19 (hdep ⟨19, .data⟩ (by simp) rfl)
    have e53 : al.tmps[53]?.getD undef = us 19 := by rw [← Rg.eval_getD, ha]; exact Rg.puts_eval _ _ _ (by rfl) (by simp) (by simp)
    clear ha hdep g hf hKf
    have f19 : us 19 = .pointer (some ⟨b1, o1, none⟩) := d19
    clear d19
    refine Rg.wpOp_of rfl rfl ?_
    go_simp
    exact hK _ _ rfl (Below.refl _ _)
  · intro o ho f us wl al ha g hf hdep K hKf
    obtain rfl := Option.some.inj ho
    have hB := Lib.hid g.1
    have hK : ∀ v w', RT10 b' o' c' b0 o0 n0 c0 b1 o1 n1 c1 k0 k1 r0 r1 m0 m1 s0 s1 21 v w' → Below wl.heap.size wl w' → K (al.put (some 55) v) w' := fun v w' hv hb => hKf v w' (Rg.Kept.put (Base := Bt w b' o' b0 o0 n0 c0 b1 o1 n1 c1 k0 k1 la lc) (R := RT10 b' o' c' b0 o0 n0 c0 b1 o1 n1 c1 k0 k1 r0 r1 m0 m1 s0 s1) (fun _ _ h hb => h.below hb) (fun _ _ _ _ h _ => h) g hb hv)
    have d20 : RT10 b' o' c' b0 o0 n0 c0 b1 o1 n1 c1 k0 k1 r0 r1 m0 m1 s0 s1 20 (us 20) wl := g.2 20 (hdep ⟨20, .data⟩ (by simp) rfl)
    have e54 : al.tmps[54]?.getD undef = us 20 := by rw [← Rg.eval_getD, ha]; exact Rg.puts_eval _ _ _ (by rfl) (by simp) (by simp)
    clear ha hdep g hf hKf
    have f20 : us 20 = .pointer (some ⟨b1, o1, none⟩) := d20
    clear d20
    have q := hB.out.h1
    refine Rg.wpOp_of rfl rfl ?_
    go_simp
    exact hK _ _ rfl (Below.refl _ _)
  · intro o ho f us wl al ha g hf hdep K hKf
    obtain rfl := Option.some.inj ho
    have hB := Lib.hid g.1
    have hK : ∀ v w', RT10 b' o' c' b0 o0 n0 c0 b1 o1 n1 c1 k0 k1 r0 r1 m0 m1 s0 s1 22 v w' → Below wl.heap.size wl w' → K (al.put (some 56) v) w' := fun v w' hv hb => hKf v w' (Rg.Kept.put (Base := Bt w b' o' b0 o0 n0 c0 b1 o1 n1 c1 k0 k1 la lc) (R := RT10 b' o' c' b0 o0 n0 c0 b1 o1 n1 c1 k0 k1 r0 r1 m0 m1 s0 s1) (fun _ _ h hb => h.below hb) (fun _ _ _ _ h _ => h) g hb hv)
    have d21 : RT10 b' o' c' b0 o0 n0 c0 b1 o1 n1 c1 k0 k1 r0 r1 m0 m1 s0 s1 21 (us 21) wl := g.2 21 (hdep ⟨21, .data⟩ (by simp) rfl)
    have e55 : al.tmps[55]?.getD undef = us 21 := by rw [← Rg.eval_getD, ha]; exact Rg.puts_eval _ _ _ (by rfl) (by simp) (by simp)
    clear ha hdep g hf hKf
    have f21 : us 21 = .int .i64 k1 := d21
    clear d21
    refine Rg.wpOp_of rfl rfl ?_
    go_simp
    refine (hrank.out _ _).mono ?_
    rintro e w' ⟨rfl, rfl⟩
    exact hK _ _ (by rw [R1.out]; rfl) (Below.refl _ _)
  · intro o ho f us wl al ha g hf hdep K hKf
    obtain rfl := Option.some.inj ho
    have hB := Lib.hid g.1
    have hK : ∀ v w', RT10 b' o' c' b0 o0 n0 c0 b1 o1 n1 c1 k0 k1 r0 r1 m0 m1 s0 s1 23 v w' → Below wl.heap.size wl w' → K (al.put (some 57) v) w' := fun v w' hv hb => hKf v w' (Rg.Kept.put (Base := Bt w b' o' b0 o0 n0 c0 b1 o1 n1 c1 k0 k1 la lc) (R := RT10 b' o' c' b0 o0 n0 c0 b1 o1 n1 c1 k0 k1 r0 r1 m0 m1 s0 s1) (fun _ _ h hb => h.below hb) (fun _ _ _ _ h _ => h) g hb hv)
    have d22 : RT10 b' o' c' b0 o0 n0 c0 b1 o1 n1 c1 k0 k1 r0 r1 m0 m1 s0 s1 22 (us 22) wl := g.2 22 (hdep ⟨22, .data⟩ (by simp) rfl)
    have e56 : al.tmps[56]?.getD undef = us 22 := by rw [← Rg.eval_getD, ha]; exact Rg.puts_eval _ _ _ (by rfl) (by simp) (by simp)
    clear ha hdep g hf hKf
    have f22 : us 22 = .int .i64 (r1 : Nat) := d22
    clear d22
    refine Rg.wpOp_of rfl rfl ?_
    go_simp
    exact hK _ _ (by rw [M1.out]; rfl) (Below.refl _ _)
  · intro o ho f us wl al ha g hf hdep K hKf
    obtain rfl := Option.some.inj ho
    have hB := Lib.hid g.1
    have hK : ∀ v w', RT10 b' o' c' b0 o0 n0 c0 b1 o1 n1 c1 k0 k1 r0 r1 m0 m1 s0 s1 24 v w' → Below wl.heap.size wl w' → K (al.put (some 58) v) w' := fun v w' hv hb => hKf v w' (Rg.Kept.put (Base := Bt w b' o' b0 o0 n0 c0 b1 o1 n1 c1 k0 k1 la lc) (R := RT10 b' o' c' b0 o0 n0 c0 b1 o1 n1 c1 k0 k1 r0 r1 m0 m1 s0 s1) (fun _ _ h hb => h.below hb) (fun _ _ _ _ h _ => h) g hb hv)
    have d15 : RT10 b' o' c' b0 o0 n0 c0 b1 o1 n1 c1 k0 k1 r0 r1 m0 m1 s0 s1 15 (us 15) wl := g.2 15 (hdep ⟨15, .data⟩ (by simp) rfl)
    have e49 : al.tmps[49]?.getD undef = us 15 := by rw [← Rg.eval_getD, ha]; exact Rg.puts_eval _ _ _ (by rfl) (by simp) (by simp)
    have d23 : RT10 b' o' c' b0 o0 n0 c0 b1 o1 n1 c1 k0 k1 r0 r1 m0 m1 s0 s1 23 (us 23) wl := g.2 23 (hdep ⟨23, .data⟩ (by simp) rfl)
    have e57 : al.tmps[57]?.getD undef = us 23 := by rw [← Rg.eval_getD, ha]; exact Rg.puts_eval _ _ _ (by rfl) (by simp) (by simp)
    clear ha hdep g hf hKf
    have f15 : us 15 = .slice (some ⟨b1, o1, none⟩) n1 c1 := d15
    clear d15
    have f23 : us 23 = .bool m1 := d23
    clear d23
    refine Rg.wpOp_of rfl rfl ?_
    go_simp
    refine (HW1.out _ _ hB.out.n1 m1).mono ?_
    rintro e w' ⟨u, rfl, hu, hb⟩
    exact hK _ _ ⟨u, rfl, hu.trans S1.out⟩ hb
  · intro o ho f us wl al ha g hf hdep K hKf
    obtain rfl := Option.some.inj ho
    have hB := Lib.hid g.1
    have hK : ∀ v w', RT10 b' o' c' b0 o0 n0 c0 b1 o1 n1 c1 k0 k1 r0 r1 m0 m1 s0 s1 25 v w' → Below wl.heap.size wl w' → K (al.put (some 59) v) w' := fun v w' hv hb => hKf v w' (Rg.Kept.put (Base := Bt w b' o' b0 o0 n0 c0 b1 o1 n1 c1 k0 k1 la lc) (R := RT10 b' o' c' b0 o0 n0 c0 b1 o1 n1 c1 k0 k1 r0 r1 m0 m1 s0 s1) (fun _ _ h hb => h.below hb) (fun _ _ _ _ h _ => h) g hb hv)
    have d12 : RT10 b' o' c' b0 o0 n0 c0 b1 o1 n1 c1 k0 k1 r0 r1 m0 m1 s0 s1 12 (us 12) wl := g.2 12 (hdep ⟨12, .data⟩ (by simp) rfl)
    have e46 : al.tmps[46]?.getD undef = us 12 := by rw [← Rg.eval_getD, ha]; exact Rg.puts_eval _ _ _ (by rfl) (by simp) (by simp)
    have d24 : RT10 b' o' c' b0 o0 n0 c0 b1 o1 n1 c1 k0 k1 r0 r1 m0 m1 s0 s1 24 (us 24) wl := g.2 24 (hdep ⟨24, .data⟩ (by simp) rfl)
    have e58 : al.tmps[58]?.getD undef = us 24 := by rw [← Rg.eval_getD, ha]; exact Rg.puts_eval _ _ _ (by rfl) (by simp) (by simp)
    clear ha hdep g hf hKf
    obtain ⟨u12, f12, hu12⟩ : IsT (us 12) (s0 ++ [47]) := d12
    have z12 : u12.size = (s0 ++ [47]).length := by rw [← hu12]; exact (bytes_len u12).symm
    simp only [List.length_append, List.length_cons, List.length_nil] at z12
    have HU12 := Lib.hid hu12
    clear hu12
    obtain ⟨u24, f24, hu24⟩ : IsT (us 24) (s1) := d24
    have z24 : u24.size = (s1).length := by rw [← hu24]; exact (bytes_len u24).symm
    have HU24 := Lib.hid hu24
    clear hu24
    have L0 := L.out
    refine Rg.wpOp_of rfl rfl ?_
    go_simp
    rw [if_neg (by omega)]
    refine hK _ _ ?_ (Below.refl _ _)
    exact ⟨_, rfl, by rw [bytes_app, HU12.out, HU24.out]⟩
  · intro o ho f us wl al ha g hf hdep K hKf
    obtain rfl := Option.some.inj ho
    have hB := Lib.hid g.1
    have hK : ∀ v w', RT10 b' o' c' b0 o0 n0 c0 b1 o1 n1 c1 k0 k1 r0 r1 m0 m1 s0 s1 26 v w' → Below wl.heap.size wl w' → K (al.put (some 2) v) w' := fun v w' hv hb => hKf v w' (Rg.Kept.put (Base := Bt w b' o' b0 o0 n0 c0 b1 o1 n1 c1 k0 k1 la lc) (R := RT10 b' o' c' b0 o0 n0 c0 b1 o1 n1 c1 k0 k1 r0 r1 m0 m1 s0 s1) (fun _ _ h hb => h.below hb) (fun _ _ _ _ h _ => h) g hb hv)
    have d25 : RT10 b' o' c' b0 o0 n0 c0 b1 o1 n1 c1 k0 k1 r0 r1 m0 m1 s0 s1 25 (us 25) wl := g.2 25 (hdep ⟨25, .data⟩ (by simp) rfl)
    have e59 : al.tmps[59]?.getD undef = us 25 := by rw [← Rg.eval_getD, ha]; exact Rg.puts_eval _ _ _ (by rfl) (by simp) (by simp)
    clear ha hdep g hf hKf
    obtain ⟨u25, f25, hu25⟩ : IsT (us 25) (s0 ++ [47] ++ s1) := d25
    have z25 : u25.size = (s0 ++ [47] ++ s1).length := by rw [← hu25]; exact (bytes_len u25).symm
    simp only [List.length_append, List.length_cons, List.length_nil] at z25
    have HU25 := Lib.hid hu25
    clear hu25
    refine Rg.wpOp_of rfl rfl ?_
    go_simp
    exact hK _ _ ⟨_, rfl, HU25.out⟩ (Below.refl _ _)
  · intro us wz hB hR
    obtain ⟨u, fu, hu⟩ : IsT (us 26) (s0 ++ [47] ++ s1) := hR 26
    have HB2 := Lib.hid hB.bel
    have HU := Lib.hid hu
    clear hB hR hu
    simp only [Rg.puts, Act.put, List.setIfInBounds_toArray, List.set_cons_zero, List.set_cons_succ, fu]
    go_wp2_with fail
    go_ret
    exact ⟨_, rfl, by rw [HU.out, FIN.out], HB2.out⟩
end Go.Proofs.Ytdhaghabhdeakaa.Pa
