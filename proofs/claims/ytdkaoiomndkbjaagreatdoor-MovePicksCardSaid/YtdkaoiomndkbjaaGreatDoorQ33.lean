/- MovePicks, MoveTexts: the walks. -/
import Derived.Test.YtdkaoiomndkbjaaGreatDoorQ31
import Derived.Test.YtdkaoiomndkbjaaGreatDoorQ02
import Derived.Laws.StructEq

namespace Go.Proofs.YtdkaoiomndkbjaaGreatDoor.Me
open Go Go.RowKit Rw So Se Do
set_option maxRecDepth 20000
theorem bm_keep {w : World} {b : Nat} {m : Mv} (h : Bm w b m) : ∀ w', Below w.heap.size w w' → w'.cell? ⟨b, 0, none⟩ = some (.int .i64 m.p) ∧ w'.cell? ⟨b, 1, none⟩ = some (.int .i64 m.h) := fun _ hb => ⟨(h.below hb h.lt).cells.1, (h.below hb h.lt).cells.2.1⟩
theorem pkE_cases (l : List Nd) : (pkE l = 0 ∧ pkM l = pkM l ∧ 0 < (enR l).length) ∨ pkE l = 120 := by
  unfold pkE
  by_cases h : (enR l).length = 0
  · exact .inr (if_pos h)
  · exact .inl ⟨if_neg h, rfl, by omega⟩
def RTx (mp mh : Int) (s : ByteArray) (k : Nat) (v : Value) (_w' : World) : Prop := match k with
  | 0 => v = .bool true
  | 1 => v = .bool true
  | 2 => v = .agg #[.int .i64 mp, .int .i64 mh]
  | 3 => v = .string s
  | 4 => v = .agg #[.int .i64 mp, .int .i64 mh]
  | 5 => v = .string s
  | 6 => v = .bool true
  | 7 => v = .bool true
  | 8 => v = .bool true
  | _ => True
def RPk (n0 c0 : Nat) (a0 : Option Addr) (xp xh mp mh : Int) (y : Bool) (k : Nat) (v : Value) (_w' : World) : Prop := match k with
  | 0 => v = .bool true
  | 1 => v = .bool true
  | 2 => v = .agg #[.int .i64 xp, .int .i64 xh]
  | 3 => v = .agg #[.int .i64 xp, .int .i64 xh]
  | 4 => v = .bool true
  | 5 => v = .bool true
  | 6 => v = .bool true
  | 7 => v = .int .i64 0
  | 8 => v = .int .i64 0
  | 9 => v = .bool true
  | 10 => v = .bool true
  | 11 => v = .bool true
  | 12 => v = .slice a0 n0 c0
  | 13 => v = .agg #[.int .i64 mp, .int .i64 mh]
  | 14 => v = .bool y
  | 15 => v = .slice a0 n0 c0
  | 16 => v = .agg #[.int .i64 mp, .int .i64 mh]
  | 17 => v = .bool y
  | 18 => v = .bool true
  | 19 => v = .bool true
  | 20 => v = .bool true
  | 21 => v = .int .i64 0
  | 22 => v = .bool false
  | 23 => v = .bool false
  | 24 => v = .slice a0 n0 c0
  | 25 => v = .agg #[.int .i64 xp, .int .i64 xh]
  | 26 => v = .bool true
  | 27 => v = .bool true
  | 28 => v = .bool true
  | 29 => v = .bool true
  | _ => True
theorem RPk.below {n0 c0 : Nat} {a0 : Option Addr} {xp xh mp mh : Int} {y : Bool} {k : Nat} {v : Value} {w w' : World} (h : RPk n0 c0 a0 xp xh mp mh y k v w) (_hb : Below w.heap.size w w') : RPk n0 c0 a0 xp xh mp mh y k v w' := by
  unfold RPk at h ⊢
  split at h
  all_goals exact h
theorem RPk.put {w4 : World} {n0 c0 : Nat} {a0 : Option Addr} {xp xh mp mh : Int} {y : Bool} {v : Value} {w w' : World} {f : Nat → Bool} {us : Nat → Value} {i : Nat} (g : Rg.Kept (fun w' => Below w4.heap.size w4 w') (RPk n0 c0 a0 xp xh mp mh y) f us w) (hb : Below w.heap.size w w') (hv : RPk n0 c0 a0 xp xh mp mh y i v w') :
    Rg.Kept (fun w' => Below w4.heap.size w4 w') (RPk n0 c0 a0 xp xh mp mh y) (Rg.upd f i true) (Rg.upd us i v) w' :=
  Rg.Kept.put (Base := fun w' => Below w4.heap.size w4 w') (R := RPk n0 c0 a0 xp xh mp mh y) (fun _ _ h hb => h.trans (hb.mono h.size)) (fun _ _ _ _ h hb => RPk.below h hb) g hb hv
def RPn (n0 c0 : Nat) (a0 : Option Addr) (xp xh mp mh : Int) (y : Bool) (k : Nat) (v : Value) (_w' : World) : Prop := match k with
  | 0 => v = .bool true
  | 1 => v = .bool true
  | 2 => v = .agg #[.int .i64 xp, .int .i64 xh]
  | 3 => v = .agg #[.int .i64 xp, .int .i64 xh]
  | 4 => v = .bool true
  | 5 => v = .bool true
  | 6 => v = .bool true
  | 7 => v = .int .i64 120
  | 8 => v = .int .i64 120
  | 9 => v = .bool true
  | 10 => v = .bool true
  | 11 => v = .bool true
  | 12 => v = .slice a0 n0 c0
  | 13 => v = .agg #[.int .i64 mp, .int .i64 mh]
  | 14 => v = .bool y
  | 15 => v = .slice a0 n0 c0
  | 16 => v = .agg #[.int .i64 mp, .int .i64 mh]
  | 17 => v = .bool y
  | 18 => v = .bool true
  | 19 => v = .bool true
  | 20 => v = .bool true
  | 21 => v = .int .i64 120
  | 22 => v = .bool true
  | 23 => v = .bool true
  | 24 => v = undef
  | 25 => v = undef
  | 26 => v = undef
  | 27 => v = .bool true
  | 28 => v = .bool true
  | 29 => v = .bool true
  | _ => True
theorem RPn.below {n0 c0 : Nat} {a0 : Option Addr} {xp xh mp mh : Int} {y : Bool} {k : Nat} {v : Value} {w w' : World} (h : RPn n0 c0 a0 xp xh mp mh y k v w) (_hb : Below w.heap.size w w') : RPn n0 c0 a0 xp xh mp mh y k v w' := by
  unfold RPn at h ⊢
  split at h
  all_goals exact h
theorem RPn.put {w4 : World} {n0 c0 : Nat} {a0 : Option Addr} {xp xh mp mh : Int} {y : Bool} {v : Value} {w w' : World} {f : Nat → Bool} {us : Nat → Value} {i : Nat} (g : Rg.Kept (fun w' => Below w4.heap.size w4 w') (RPn n0 c0 a0 xp xh mp mh y) f us w) (hb : Below w.heap.size w w') (hv : RPn n0 c0 a0 xp xh mp mh y i v w') :
    Rg.Kept (fun w' => Below w4.heap.size w4 w') (RPn n0 c0 a0 xp xh mp mh y) (Rg.upd f i true) (Rg.upd us i v) w' :=
  Rg.Kept.put (Base := fun w' => Below w4.heap.size w4 w') (R := RPn n0 c0 a0 xp xh mp mh y) (fun _ _ h hb => h.trans (hb.mono h.size)) (fun _ _ _ _ h hb => RPn.below h hb) g hb hv
theorem step1 {w0 w1 w2 : World} {bM : Nat} {m : Mv} (xp xh : Int) (D1 : Below w0.heap.size w0 w1) (hM : Bm w1 bM m) (hb : Below w1.heap.size w1 w2) :
    Below w0.heap.size w0 (w2.alloc (.cells #[.int .i64 xp, .int .i64 xh] 29)) ∧ Bm (w2.alloc (.cells #[.int .i64 xp, .int .i64 xh] 29)) bM m ∧ Bm (w2.alloc (.cells #[.int .i64 xp, .int .i64 xh] 29)) w2.heap.size ⟨xp, xh⟩ := by
  have d2 := D1.trans (hb.mono D1.size)
  have hb2 := below1 w2 (.cells #[.int .i64 xp, .int .i64 xh] 29)
  exact ⟨d2.trans (hb2.mono d2.size), (hM.below hb hM.lt).below hb2 (Nat.lt_of_lt_of_le hM.lt hb.size), Bm.new w2 ⟨xp, xh⟩⟩
theorem step2 {w0 w1 w2 : World} {bM bA : Nat} {m x : Mv} (xp xh : Int) (D1 : Below w0.heap.size w0 w1) (hM : Bm w1 bM m) (hA : Bm w1 bA x) (hb : Below w1.heap.size w1 w2) :
    Below w0.heap.size w0 (w2.alloc (.cells #[.int .i64 xp, .int .i64 xh] 29)) ∧ Bm (w2.alloc (.cells #[.int .i64 xp, .int .i64 xh] 29)) bM m ∧ Bm (w2.alloc (.cells #[.int .i64 xp, .int .i64 xh] 29)) bA x ∧ Bm (w2.alloc (.cells #[.int .i64 xp, .int .i64 xh] 29)) w2.heap.size ⟨xp, xh⟩ :=
  ⟨(step1 xp xh D1 hM hb).1, (step1 xp xh D1 hM hb).2.1, (step1 xp xh D1 hA hb).2.1, (step1 xp xh D1 hM hb).2.2⟩
set_option maxHeartbeats 8000000 in
theorem picks_law (C : Con) (A : Alive) (v : Value) (l : List Nd) (n : Int) (m : Mv) (w0 : World) (hT : Tx w0) (hv : Nds w0 v l) (hm : Nms l) (hn : In64 n) :
    Calls Tryz.prog 4 #[v, .int .i64 n, mvV m] w0 fun e w' => e = .returned (.bool true) ∧ Below w0.heap.size w0 w' := by
  obtain ⟨mp, mh⟩ := m
  have D1 := Lib.hid (below1 w0 (.cells #[.int .i64 mp, .int .i64 mh] 29))
  have CM1 := Lib.hid (Bm.new w0 ⟨mp, mh⟩)
  have HF := Lib.hid (fun w1 (hb : Below w0.heap.size w0 w1) => few_any v l w1 (hv.below hb))
  have HA := Lib.hid (fun w1 (hb : Below w0.heap.size w0 w1) => A w1 (hT.below hb))
  clear hT
  cases hf : Do.fewB l with
  | false =>
    rw [hf] at HF
    obtain ⟨_, a, c, rfl, -⟩ := id hv
    clear hv hm hf
    go_enter Tryz.func4, Tryz.ntmps4
    go_wp2_with fail
    refine (HF.out _ D1.out).mono ?_
    rintro e w1 ⟨rfl, rfl⟩
    go_wp2_with fail
    refine (HA.out _ D1.out).mono ?_
    rintro e w2 ⟨rfl, hb2⟩
    have D2 := Lib.hid (D1.out.trans (hb2.mono D1.out.size))
    clear hb2
    go_wp2_with fail
    go_ret
    exact ⟨rfl, D2.out⟩
  | true =>
    rw [hf] at HF
    have hl := Do.few_len hf
    have HP := Lib.hid (fun w1 (hb : Below w0.heap.size w0 w1) => C.pk v l n w1 (hv.below hb) (by omega) hm hn)
    have HR := Lib.hid (fun w1 (hb : Below w0.heap.size w0 w1) => pickR_any v l n w1 (hv.below hb) (by omega) hm hn)
    have HI := Lib.hid (fun w1 (hb : Below w0.heap.size w0 w1) => C.is v l ⟨mp, mh⟩ w1 (hv.below hb) (by omega) hm)
    have HJ := Lib.hid (fun w1 (hb : Below w0.heap.size w0 w1) => isR_any v l ⟨mp, mh⟩ w1 (hv.below hb) (by omega) hm)
    have HX := Lib.hid (fun w1 (hb : Below w0.heap.size w0 w1) => C.is v l (pkM l n) w1 (hv.below hb) (by omega) hm)
    have HE := Lib.hid (fun h => pkM_mem (l := l) (n := n) h)
    obtain ⟨_, a0, c0, rfl, -⟩ := id hv
    generalize hy : decide ((⟨mp, mh⟩ : Mv) ∈ enR l) = y at HI HJ
    have hcs := pkE_cases l
    generalize hn0 : l.length = n0 at *
    obtain ⟨er, her⟩ : ∃ er, pkE l = er := ⟨_, rfl⟩
    rw [her] at HP HR hcs
    rcases hcs with ⟨rfl, -, h0⟩ | rfl
    · rw [decide_eq_true (HE.out h0)] at HX
      obtain ⟨x, hx⟩ : ∃ x, pkM l n = x := ⟨_, rfl⟩
      rw [hx] at HP HR HX
      obtain ⟨xp, xh⟩ := x
      have HP2 := HP
      have HR2 := HR
      clear hv hm hf hy hx her hn0 h0 hl hn
      clear HP HR HE
      go_enter Tryz.func4, Tryz.ntmps4
      go_wp2_with fail
      refine (HF.out _ D1.out).mono ?_
      rintro e w1 ⟨rfl, rfl⟩
      go_wp2_with fail
      refine (HP2.out _ D1.out).mono ?_
      rintro e w2 ⟨rfl, hb2⟩
      obtain ⟨D2, CM2, CA2⟩ := step1 xp xh D1.out CM1.out hb2
      clear hb2
      go_wp2_with fail
      refine (HR2.out _ D2).mono ?_
      rintro e w3 ⟨rfl, hb3⟩
      obtain ⟨D4', CM', CA', CB'⟩ := step2 xp xh D2 CM2 CA2 hb3
      have D4 := Lib.hid D4'
      have CM := Lib.hid (bm_keep CM')
      have CA := Lib.hid (bm_keep CA')
      have CB := Lib.hid (bm_keep CB')
      obtain ⟨bM, hbM⟩ : ∃ bM, w0.heap.size = bM := ⟨_, rfl⟩
      obtain ⟨bA, hbA⟩ : ∃ bA, w2.heap.size = bA := ⟨_, rfl⟩
      obtain ⟨bB, hbB⟩ : ∃ bB, w3.heap.size = bB := ⟨_, rfl⟩
      obtain ⟨w4, hw4⟩ : ∃ w4, w3.alloc (.cells #[.int .i64 xp, .int .i64 xh] 29) = w4 := ⟨_, rfl⟩
      rw [hw4] at D4 CM CA CB
      rw [hbM] at CM
      rw [hbA] at CA
      rw [hbB] at CB
      simp only at CM CA CB
      clear D2 hb3 D4' CM2 CA2 CM' CA' CB' HF HP2 HR2 D1 CM1
      go_wp2_with fail
      clear hbM hbA hbB hw4
      refine Rg.wp_region_kept (by kernel_rfl) [(0, some 27), (1, some 28), (2, some 29), (3, some 30), (4, some 31), (5, some 32), (6, some 33), (7, some 34), (8, some 35), (9, some 36), (10, some 37), (11, some 38), (12, some 39), (13, some 40), (14, some 41), (15, some 42), (16, some 43), (17, some 44), (18, some 45), (19, some 46), (20, some 47), (21, some 48), (22, some 49), (23, some 50), (24, some 51), (25, some 52), (26, some 53), (27, some 54), (28, some 55), (29, some 6)] (by rfl) (by kernel_rfl) (by kernel_rfl) (fun w' => Below w4.heap.size w4 w') (RPk n0 c0 a0 xp xh mp mh y) (Below.refl _ _).drew ?_ ⟨⟨⟨⟨⟨⟨⟨⟨⟨⟨⟨⟨⟨⟨⟨⟨⟨⟨⟨⟨⟨⟨⟨⟨⟨⟨⟨⟨⟨⟨True.intro, ?_⟩, ?_⟩, ?_⟩, ?_⟩, ?_⟩, ?_⟩, ?_⟩, ?_⟩, ?_⟩, ?_⟩, ?_⟩, ?_⟩, ?_⟩, ?_⟩, ?_⟩, ?_⟩, ?_⟩, ?_⟩, ?_⟩, ?_⟩, ?_⟩, ?_⟩, ?_⟩, ?_⟩, ?_⟩, ?_⟩, ?_⟩, ?_⟩, ?_⟩, ?_⟩ ?_
      · intro k v w' hk
        unfold RPk
        split
        case h_31 => trivial
        all_goals exact absurd hk (by decide)
      · intro o ho f us wl al ha g hf hdep K hKf
        obtain rfl := Option.some.inj ho
        have hB := g.1
        have hK : ∀ v w', RPk n0 c0 a0 xp xh mp mh y 0 v w' → Below wl.heap.size wl w' → K (al.put (some 27) v) w' := fun v w' hv hb => hKf v w' (RPk.put g hb hv)
        have HB := Lib.hid hB
        clear ha hdep g hf hKf hB
        refine Rg.wpOp_of rfl rfl ?_
        go_simp
        refine (HA.out _ (D4.out.trans (HB.out.mono D4.out.size))).mono ?_
        rintro e wn ⟨rfl, hb⟩
        exact hK _ _ rfl hb
      · intro o ho f us wl al ha g hf hdep K hKf
        obtain rfl := Option.some.inj ho
        have hB := g.1
        have hK : ∀ v w', RPk n0 c0 a0 xp xh mp mh y 1 v w' → Below wl.heap.size wl w' → K (al.put (some 28) v) w' := fun v w' hv hb => hKf v w' (RPk.put g hb hv)
        have d0 : RPk n0 c0 a0 xp xh mp mh y 0 (us 0) wl := g.2 0 (hdep ⟨0, .data⟩ (by simp) rfl)
        have e27 : al.tmps[27]?.getD undef = us 0 := by rw [← Rg.eval_getD, ha]; exact Rg.puts_eval _ _ _ (by rfl) (by simp) (by simp)
        have f0 : us 0 = .bool true := d0
        have HB := Lib.hid hB
        clear ha hdep g hf hKf d0 hB
        refine Rg.wpOp_of rfl rfl ?_
        go_simp
        exact hK _ _ rfl (Below.refl _ _)
      · intro o ho f us wl al ha g hf hdep K hKf
        obtain rfl := Option.some.inj ho
        have hB := g.1
        have hK : ∀ v w', RPk n0 c0 a0 xp xh mp mh y 2 v w' → Below wl.heap.size wl w' → K (al.put (some 29) v) w' := fun v w' hv hb => hKf v w' (RPk.put g hb hv)
        have e7 : al.tmps[7]?.getD undef = .pointer (some ⟨bA, 0, none⟩) := by rw [← Rg.eval_getD, ha]; exact (Rg.puts_eval_ne _ _ _ (by rfl)).trans rfl
        have dg : RPk n0 c0 a0 xp xh mp mh y 1 (us 1) wl := g.2 1 (hdep ⟨1, .guard⟩ (by simp) rfl)
        have gg : al.eval (.tmp 28) = .bool true := by rw [ha]; exact (Rg.puts_eval _ _ _ (by rfl) (by simp) (by simp)).trans dg
        obtain ⟨c0, c1⟩ := CA.out _ hB
        have HB := Lib.hid hB
        clear ha hdep g hf hKf hB
        refine Rg.wpOp_of rfl (Rg.wanted_of rfl (Rg.yielded_of (d := 28) (by rfl) gg)) ?_
        go_simp
        exact hK _ _ rfl (Below.refl _ _)
      · intro o ho f us wl al ha g hf hdep K hKf
        obtain rfl := Option.some.inj ho
        have hB := g.1
        have hK : ∀ v w', RPk n0 c0 a0 xp xh mp mh y 3 v w' → Below wl.heap.size wl w' → K (al.put (some 30) v) w' := fun v w' hv hb => hKf v w' (RPk.put g hb hv)
        have e9 : al.tmps[9]?.getD undef = .pointer (some ⟨bB, 0, none⟩) := by rw [← Rg.eval_getD, ha]; exact (Rg.puts_eval_ne _ _ _ (by rfl)).trans rfl
        have dg : RPk n0 c0 a0 xp xh mp mh y 1 (us 1) wl := g.2 1 (hdep ⟨1, .guard⟩ (by simp) rfl)
        have gg : al.eval (.tmp 28) = .bool true := by rw [ha]; exact (Rg.puts_eval _ _ _ (by rfl) (by simp) (by simp)).trans dg
        obtain ⟨c0, c1⟩ := CB.out _ hB
        have HB := Lib.hid hB
        clear ha hdep g hf hKf hB
        refine Rg.wpOp_of rfl (Rg.wanted_of rfl (Rg.yielded_of (d := 28) (by rfl) gg)) ?_
        go_simp
        exact hK _ _ rfl (Below.refl _ _)
      · intro o ho f us wl al ha g hf hdep K hKf
        obtain rfl := Option.some.inj ho
        have hB := g.1
        have hK : ∀ v w', RPk n0 c0 a0 xp xh mp mh y 4 v w' → Below wl.heap.size wl w' → K (al.put (some 31) v) w' := fun v w' hv hb => hKf v w' (RPk.put g hb hv)
        have d2 : RPk n0 c0 a0 xp xh mp mh y 2 (us 2) wl := g.2 2 (hdep ⟨2, .data⟩ (by simp) rfl)
        have e29 : al.tmps[29]?.getD undef = us 2 := by rw [← Rg.eval_getD, ha]; exact Rg.puts_eval _ _ _ (by rfl) (by simp) (by simp)
        have d3 : RPk n0 c0 a0 xp xh mp mh y 3 (us 3) wl := g.2 3 (hdep ⟨3, .data⟩ (by simp) rfl)
        have e30 : al.tmps[30]?.getD undef = us 3 := by rw [← Rg.eval_getD, ha]; exact Rg.puts_eval _ _ _ (by rfl) (by simp) (by simp)
        have dg : RPk n0 c0 a0 xp xh mp mh y 1 (us 1) wl := g.2 1 (hdep ⟨1, .guard⟩ (by simp) rfl)
        have gg : al.eval (.tmp 28) = .bool true := by rw [ha]; exact (Rg.puts_eval _ _ _ (by rfl) (by simp) (by simp)).trans dg
        have f2 : us 2 = .agg #[.int .i64 xp, .int .i64 xh] := d2
        have f3 : us 3 = .agg #[.int .i64 xp, .int .i64 xh] := d3
        have hq : (binOp .eql 29 (.agg #[.int .i64 xp, .int .i64 xh]) (.agg #[.int .i64 xp, .int .i64 xh])).run Tryz.prog wl = .ok (.bool true) wl := (eq_mv ⟨xp, xh⟩ ⟨xp, xh⟩ wl).trans (by rw [decide_eq_true rfl])
        have HB := Lib.hid hB
        clear ha hdep g hf hKf d2 d3 hB
        refine Rg.wpOp_of rfl (Rg.wanted_of rfl (Rg.yielded_of (d := 28) (by rfl) gg)) ?_
        go_simp
        exact hK _ _ rfl (Below.refl _ _)
      · intro o ho f us wl al ha g hf hdep K hKf
        obtain rfl := Option.some.inj ho
        have hB := g.1
        have hK : ∀ v w', RPk n0 c0 a0 xp xh mp mh y 5 v w' → Below wl.heap.size wl w' → K (al.put (some 32) v) w' := fun v w' hv hb => hKf v w' (RPk.put g hb hv)
        have d1 : RPk n0 c0 a0 xp xh mp mh y 1 (us 1) wl := g.2 1 (hdep ⟨1, .data⟩ (by simp) rfl)
        have e28 : al.tmps[28]?.getD undef = us 1 := by rw [← Rg.eval_getD, ha]; exact Rg.puts_eval _ _ _ (by rfl) (by simp) (by simp)
        have d4 : RPk n0 c0 a0 xp xh mp mh y 4 (us 4) wl := g.2 4 (hdep ⟨4, .data⟩ (by simp) rfl)
        have e31 : al.tmps[31]?.getD undef = us 4 := by rw [← Rg.eval_getD, ha]; exact Rg.puts_eval _ _ _ (by rfl) (by simp) (by simp)
        have f1 : us 1 = .bool true := d1
        have f4 : us 4 = .bool true := d4
        have HB := Lib.hid hB
        clear ha hdep g hf hKf d1 d4 hB
        refine Rg.wpOp_of rfl rfl ?_
        go_simp
        exact hK _ _ rfl (Below.refl _ _)
      · intro o ho f us wl al ha g hf hdep K hKf
        obtain rfl := Option.some.inj ho
        have hB := g.1
        have hK : ∀ v w', RPk n0 c0 a0 xp xh mp mh y 6 v w' → Below wl.heap.size wl w' → K (al.put (some 33) v) w' := fun v w' hv hb => hKf v w' (RPk.put g hb hv)
        have d5 : RPk n0 c0 a0 xp xh mp mh y 5 (us 5) wl := g.2 5 (hdep ⟨5, .data⟩ (by simp) rfl)
        have e32 : al.tmps[32]?.getD undef = us 5 := by rw [← Rg.eval_getD, ha]; exact Rg.puts_eval _ _ _ (by rfl) (by simp) (by simp)
        have f5 : us 5 = .bool true := d5
        have HB := Lib.hid hB
        clear ha hdep g hf hKf d5 hB
        refine Rg.wpOp_of rfl rfl ?_
        go_simp
        exact hK _ _ rfl (Below.refl _ _)
      · intro o ho f us wl al ha g hf hdep K hKf
        obtain rfl := Option.some.inj ho
        have hB := g.1
        have hK : ∀ v w', RPk n0 c0 a0 xp xh mp mh y 7 v w' → Below wl.heap.size wl w' → K (al.put (some 34) v) w' := fun v w' hv hb => hKf v w' (RPk.put g hb hv)
        have e8 : al.tmps[8]?.getD undef = .int .i64 0 := by rw [← Rg.eval_getD, ha]; exact (Rg.puts_eval_ne _ _ _ (by rfl)).trans rfl
        have dg : RPk n0 c0 a0 xp xh mp mh y 6 (us 6) wl := g.2 6 (hdep ⟨6, .guard⟩ (by simp) rfl)
        have gg : al.eval (.tmp 33) = .bool true := by rw [ha]; exact (Rg.puts_eval _ _ _ (by rfl) (by simp) (by simp)).trans dg
        have HB := Lib.hid hB
        clear ha hdep g hf hKf hB
        refine Rg.wpOp_of rfl (Rg.wanted_of rfl (Rg.yielded_of (d := 33) (by rfl) gg)) ?_
        go_simp
        exact hK _ _ rfl (Below.refl _ _)
      · intro o ho f us wl al ha g hf hdep K hKf
        obtain rfl := Option.some.inj ho
        have hB := g.1
        have hK : ∀ v w', RPk n0 c0 a0 xp xh mp mh y 8 v w' → Below wl.heap.size wl w' → K (al.put (some 35) v) w' := fun v w' hv hb => hKf v w' (RPk.put g hb hv)
        have e10 : al.tmps[10]?.getD undef = .int .i64 0 := by rw [← Rg.eval_getD, ha]; exact (Rg.puts_eval_ne _ _ _ (by rfl)).trans rfl
        have dg : RPk n0 c0 a0 xp xh mp mh y 6 (us 6) wl := g.2 6 (hdep ⟨6, .guard⟩ (by simp) rfl)
        have gg : al.eval (.tmp 33) = .bool true := by rw [ha]; exact (Rg.puts_eval _ _ _ (by rfl) (by simp) (by simp)).trans dg
        have HB := Lib.hid hB
        clear ha hdep g hf hKf hB
        refine Rg.wpOp_of rfl (Rg.wanted_of rfl (Rg.yielded_of (d := 33) (by rfl) gg)) ?_
        go_simp
        exact hK _ _ rfl (Below.refl _ _)
      · intro o ho f us wl al ha g hf hdep K hKf
        obtain rfl := Option.some.inj ho
        have hB := g.1
        have hK : ∀ v w', RPk n0 c0 a0 xp xh mp mh y 9 v w' → Below wl.heap.size wl w' → K (al.put (some 36) v) w' := fun v w' hv hb => hKf v w' (RPk.put g hb hv)
        have d7 : RPk n0 c0 a0 xp xh mp mh y 7 (us 7) wl := g.2 7 (hdep ⟨7, .data⟩ (by simp) rfl)
        have e34 : al.tmps[34]?.getD undef = us 7 := by rw [← Rg.eval_getD, ha]; exact Rg.puts_eval _ _ _ (by rfl) (by simp) (by simp)
        have d8 : RPk n0 c0 a0 xp xh mp mh y 8 (us 8) wl := g.2 8 (hdep ⟨8, .data⟩ (by simp) rfl)
        have e35 : al.tmps[35]?.getD undef = us 8 := by rw [← Rg.eval_getD, ha]; exact Rg.puts_eval _ _ _ (by rfl) (by simp) (by simp)
        have dg : RPk n0 c0 a0 xp xh mp mh y 6 (us 6) wl := g.2 6 (hdep ⟨6, .guard⟩ (by simp) rfl)
        have gg : al.eval (.tmp 33) = .bool true := by rw [ha]; exact (Rg.puts_eval _ _ _ (by rfl) (by simp) (by simp)).trans dg
        have f7 : us 7 = .int .i64 0 := d7
        have f8 : us 8 = .int .i64 0 := d8
        have HB := Lib.hid hB
        clear ha hdep g hf hKf d7 d8 hB
        refine Rg.wpOp_of rfl (Rg.wanted_of rfl (Rg.yielded_of (d := 33) (by rfl) gg)) ?_
        go_simp
        exact hK _ _ rfl (Below.refl _ _)
      · intro o ho f us wl al ha g hf hdep K hKf
        obtain rfl := Option.some.inj ho
        have hB := g.1
        have hK : ∀ v w', RPk n0 c0 a0 xp xh mp mh y 10 v w' → Below wl.heap.size wl w' → K (al.put (some 37) v) w' := fun v w' hv hb => hKf v w' (RPk.put g hb hv)
        have d6 : RPk n0 c0 a0 xp xh mp mh y 6 (us 6) wl := g.2 6 (hdep ⟨6, .data⟩ (by simp) rfl)
        have e33 : al.tmps[33]?.getD undef = us 6 := by rw [← Rg.eval_getD, ha]; exact Rg.puts_eval _ _ _ (by rfl) (by simp) (by simp)
        have d9 : RPk n0 c0 a0 xp xh mp mh y 9 (us 9) wl := g.2 9 (hdep ⟨9, .data⟩ (by simp) rfl)
        have e36 : al.tmps[36]?.getD undef = us 9 := by rw [← Rg.eval_getD, ha]; exact Rg.puts_eval _ _ _ (by rfl) (by simp) (by simp)
        have f6 : us 6 = .bool true := d6
        have f9 : us 9 = .bool true := d9
        have HB := Lib.hid hB
        clear ha hdep g hf hKf d6 d9 hB
        refine Rg.wpOp_of rfl rfl ?_
        go_simp
        exact hK _ _ rfl (Below.refl _ _)
      · intro o ho f us wl al ha g hf hdep K hKf
        obtain rfl := Option.some.inj ho
        have hB := g.1
        have hK : ∀ v w', RPk n0 c0 a0 xp xh mp mh y 11 v w' → Below wl.heap.size wl w' → K (al.put (some 38) v) w' := fun v w' hv hb => hKf v w' (RPk.put g hb hv)
        have d10 : RPk n0 c0 a0 xp xh mp mh y 10 (us 10) wl := g.2 10 (hdep ⟨10, .data⟩ (by simp) rfl)
        have e37 : al.tmps[37]?.getD undef = us 10 := by rw [← Rg.eval_getD, ha]; exact Rg.puts_eval _ _ _ (by rfl) (by simp) (by simp)
        have f10 : us 10 = .bool true := d10
        have HB := Lib.hid hB
        clear ha hdep g hf hKf d10 hB
        refine Rg.wpOp_of rfl rfl ?_
        go_simp
        exact hK _ _ rfl (Below.refl _ _)
      · intro o ho f us wl al ha g hf hdep K hKf
        obtain rfl := Option.some.inj ho
        have hB := g.1
        have hK : ∀ v w', RPk n0 c0 a0 xp xh mp mh y 12 v w' → Below wl.heap.size wl w' → K (al.put (some 39) v) w' := fun v w' hv hb => hKf v w' (RPk.put g hb hv)
        have e0 : al.tmps[0]?.getD undef = .slice a0 n0 c0 := by rw [← Rg.eval_getD, ha]; exact (Rg.puts_eval_ne _ _ _ (by rfl)).trans rfl
        have dg : RPk n0 c0 a0 xp xh mp mh y 11 (us 11) wl := g.2 11 (hdep ⟨11, .guard⟩ (by simp) rfl)
        have gg : al.eval (.tmp 38) = .bool true := by rw [ha]; exact (Rg.puts_eval _ _ _ (by rfl) (by simp) (by simp)).trans dg
        have HB := Lib.hid hB
        clear ha hdep g hf hKf hB
        refine Rg.wpOp_of rfl (Rg.wanted_of rfl (Rg.yielded_of (d := 38) (by rfl) gg)) ?_
        go_simp
        exact hK _ _ rfl (Below.refl _ _)
      · intro o ho f us wl al ha g hf hdep K hKf
        obtain rfl := Option.some.inj ho
        have hB := g.1
        have hK : ∀ v w', RPk n0 c0 a0 xp xh mp mh y 13 v w' → Below wl.heap.size wl w' → K (al.put (some 40) v) w' := fun v w' hv hb => hKf v w' (RPk.put g hb hv)
        have e5 : al.tmps[5]?.getD undef = .pointer (some ⟨bM, 0, none⟩) := by rw [← Rg.eval_getD, ha]; exact (Rg.puts_eval_ne _ _ _ (by rfl)).trans rfl
        have dg : RPk n0 c0 a0 xp xh mp mh y 11 (us 11) wl := g.2 11 (hdep ⟨11, .guard⟩ (by simp) rfl)
        have gg : al.eval (.tmp 38) = .bool true := by rw [ha]; exact (Rg.puts_eval _ _ _ (by rfl) (by simp) (by simp)).trans dg
        obtain ⟨c0, c1⟩ := CM.out _ hB
        have HB := Lib.hid hB
        clear ha hdep g hf hKf hB
        refine Rg.wpOp_of rfl (Rg.wanted_of rfl (Rg.yielded_of (d := 38) (by rfl) gg)) ?_
        go_simp
        exact hK _ _ rfl (Below.refl _ _)
      · intro o ho f us wl al ha g hf hdep K hKf
        obtain rfl := Option.some.inj ho
        have hB := g.1
        have hK : ∀ v w', RPk n0 c0 a0 xp xh mp mh y 14 v w' → Below wl.heap.size wl w' → K (al.put (some 41) v) w' := fun v w' hv hb => hKf v w' (RPk.put g hb hv)
        have d12 : RPk n0 c0 a0 xp xh mp mh y 12 (us 12) wl := g.2 12 (hdep ⟨12, .data⟩ (by simp) rfl)
        have e39 : al.tmps[39]?.getD undef = us 12 := by rw [← Rg.eval_getD, ha]; exact Rg.puts_eval _ _ _ (by rfl) (by simp) (by simp)
        have d13 : RPk n0 c0 a0 xp xh mp mh y 13 (us 13) wl := g.2 13 (hdep ⟨13, .data⟩ (by simp) rfl)
        have e40 : al.tmps[40]?.getD undef = us 13 := by rw [← Rg.eval_getD, ha]; exact Rg.puts_eval _ _ _ (by rfl) (by simp) (by simp)
        have dg : RPk n0 c0 a0 xp xh mp mh y 11 (us 11) wl := g.2 11 (hdep ⟨11, .guard⟩ (by simp) rfl)
        have gg : al.eval (.tmp 38) = .bool true := by rw [ha]; exact (Rg.puts_eval _ _ _ (by rfl) (by simp) (by simp)).trans dg
        have f12 : us 12 = .slice a0 n0 c0 := d12
        have f13 : us 13 = .agg #[.int .i64 mp, .int .i64 mh] := d13
        have HB := Lib.hid hB
        clear ha hdep g hf hKf d12 d13 hB
        refine Rg.wpOp_of rfl (Rg.wanted_of rfl (Rg.yielded_of (d := 38) (by rfl) gg)) ?_
        go_simp
        refine (HI.out _ (D4.out.trans (HB.out.mono D4.out.size))).mono ?_
        rintro e wn ⟨rfl, hb⟩
        exact hK _ _ rfl hb
      · intro o ho f us wl al ha g hf hdep K hKf
        obtain rfl := Option.some.inj ho
        have hB := g.1
        have hK : ∀ v w', RPk n0 c0 a0 xp xh mp mh y 15 v w' → Below wl.heap.size wl w' → K (al.put (some 42) v) w' := fun v w' hv hb => hKf v w' (RPk.put g hb hv)
        have e0 : al.tmps[0]?.getD undef = .slice a0 n0 c0 := by rw [← Rg.eval_getD, ha]; exact (Rg.puts_eval_ne _ _ _ (by rfl)).trans rfl
        have dg : RPk n0 c0 a0 xp xh mp mh y 11 (us 11) wl := g.2 11 (hdep ⟨11, .guard⟩ (by simp) rfl)
        have gg : al.eval (.tmp 38) = .bool true := by rw [ha]; exact (Rg.puts_eval _ _ _ (by rfl) (by simp) (by simp)).trans dg
        have HB := Lib.hid hB
        clear ha hdep g hf hKf hB
        refine Rg.wpOp_of rfl (Rg.wanted_of rfl (Rg.yielded_of (d := 38) (by rfl) gg)) ?_
        go_simp
        exact hK _ _ rfl (Below.refl _ _)
      · intro o ho f us wl al ha g hf hdep K hKf
        obtain rfl := Option.some.inj ho
        have hB := g.1
        have hK : ∀ v w', RPk n0 c0 a0 xp xh mp mh y 16 v w' → Below wl.heap.size wl w' → K (al.put (some 43) v) w' := fun v w' hv hb => hKf v w' (RPk.put g hb hv)
        have e5 : al.tmps[5]?.getD undef = .pointer (some ⟨bM, 0, none⟩) := by rw [← Rg.eval_getD, ha]; exact (Rg.puts_eval_ne _ _ _ (by rfl)).trans rfl
        have dg : RPk n0 c0 a0 xp xh mp mh y 11 (us 11) wl := g.2 11 (hdep ⟨11, .guard⟩ (by simp) rfl)
        have gg : al.eval (.tmp 38) = .bool true := by rw [ha]; exact (Rg.puts_eval _ _ _ (by rfl) (by simp) (by simp)).trans dg
        obtain ⟨c0, c1⟩ := CM.out _ hB
        have HB := Lib.hid hB
        clear ha hdep g hf hKf hB
        refine Rg.wpOp_of rfl (Rg.wanted_of rfl (Rg.yielded_of (d := 38) (by rfl) gg)) ?_
        go_simp
        exact hK _ _ rfl (Below.refl _ _)
      · intro o ho f us wl al ha g hf hdep K hKf
        obtain rfl := Option.some.inj ho
        have hB := g.1
        have hK : ∀ v w', RPk n0 c0 a0 xp xh mp mh y 17 v w' → Below wl.heap.size wl w' → K (al.put (some 44) v) w' := fun v w' hv hb => hKf v w' (RPk.put g hb hv)
        have d15 : RPk n0 c0 a0 xp xh mp mh y 15 (us 15) wl := g.2 15 (hdep ⟨15, .data⟩ (by simp) rfl)
        have e42 : al.tmps[42]?.getD undef = us 15 := by rw [← Rg.eval_getD, ha]; exact Rg.puts_eval _ _ _ (by rfl) (by simp) (by simp)
        have d16 : RPk n0 c0 a0 xp xh mp mh y 16 (us 16) wl := g.2 16 (hdep ⟨16, .data⟩ (by simp) rfl)
        have e43 : al.tmps[43]?.getD undef = us 16 := by rw [← Rg.eval_getD, ha]; exact Rg.puts_eval _ _ _ (by rfl) (by simp) (by simp)
        have dg : RPk n0 c0 a0 xp xh mp mh y 11 (us 11) wl := g.2 11 (hdep ⟨11, .guard⟩ (by simp) rfl)
        have gg : al.eval (.tmp 38) = .bool true := by rw [ha]; exact (Rg.puts_eval _ _ _ (by rfl) (by simp) (by simp)).trans dg
        have f15 : us 15 = .slice a0 n0 c0 := d15
        have f16 : us 16 = .agg #[.int .i64 mp, .int .i64 mh] := d16
        have HB := Lib.hid hB
        clear ha hdep g hf hKf d15 d16 hB
        refine Rg.wpOp_of rfl (Rg.wanted_of rfl (Rg.yielded_of (d := 38) (by rfl) gg)) ?_
        go_simp
        refine (HJ.out _ (D4.out.trans (HB.out.mono D4.out.size))).mono ?_
        rintro e wn ⟨rfl, hb⟩
        exact hK _ _ rfl hb
      · intro o ho f us wl al ha g hf hdep K hKf
        obtain rfl := Option.some.inj ho
        have hB := g.1
        have hK : ∀ v w', RPk n0 c0 a0 xp xh mp mh y 18 v w' → Below wl.heap.size wl w' → K (al.put (some 45) v) w' := fun v w' hv hb => hKf v w' (RPk.put g hb hv)
        have d14 : RPk n0 c0 a0 xp xh mp mh y 14 (us 14) wl := g.2 14 (hdep ⟨14, .data⟩ (by simp) rfl)
        have e41 : al.tmps[41]?.getD undef = us 14 := by rw [← Rg.eval_getD, ha]; exact Rg.puts_eval _ _ _ (by rfl) (by simp) (by simp)
        have d17 : RPk n0 c0 a0 xp xh mp mh y 17 (us 17) wl := g.2 17 (hdep ⟨17, .data⟩ (by simp) rfl)
        have e44 : al.tmps[44]?.getD undef = us 17 := by rw [← Rg.eval_getD, ha]; exact Rg.puts_eval _ _ _ (by rfl) (by simp) (by simp)
        have dg : RPk n0 c0 a0 xp xh mp mh y 11 (us 11) wl := g.2 11 (hdep ⟨11, .guard⟩ (by simp) rfl)
        have gg : al.eval (.tmp 38) = .bool true := by rw [ha]; exact (Rg.puts_eval _ _ _ (by rfl) (by simp) (by simp)).trans dg
        have f14 : us 14 = .bool y := d14
        have f17 : us 17 = .bool y := d17
        have HB := Lib.hid hB
        clear ha hdep g hf hKf d14 d17 hB
        refine Rg.wpOp_of rfl (Rg.wanted_of rfl (Rg.yielded_of (d := 38) (by rfl) gg)) ?_
        go_simp
        exact hK _ _ rfl (Below.refl _ _)
      · intro o ho f us wl al ha g hf hdep K hKf
        obtain rfl := Option.some.inj ho
        have hB := g.1
        have hK : ∀ v w', RPk n0 c0 a0 xp xh mp mh y 19 v w' → Below wl.heap.size wl w' → K (al.put (some 46) v) w' := fun v w' hv hb => hKf v w' (RPk.put g hb hv)
        have d11 : RPk n0 c0 a0 xp xh mp mh y 11 (us 11) wl := g.2 11 (hdep ⟨11, .data⟩ (by simp) rfl)
        have e38 : al.tmps[38]?.getD undef = us 11 := by rw [← Rg.eval_getD, ha]; exact Rg.puts_eval _ _ _ (by rfl) (by simp) (by simp)
        have d18 : RPk n0 c0 a0 xp xh mp mh y 18 (us 18) wl := g.2 18 (hdep ⟨18, .data⟩ (by simp) rfl)
        have e45 : al.tmps[45]?.getD undef = us 18 := by rw [← Rg.eval_getD, ha]; exact Rg.puts_eval _ _ _ (by rfl) (by simp) (by simp)
        have f11 : us 11 = .bool true := d11
        have f18 : us 18 = .bool true := d18
        have HB := Lib.hid hB
        clear ha hdep g hf hKf d11 d18 hB
        refine Rg.wpOp_of rfl rfl ?_
        go_simp
        exact hK _ _ rfl (Below.refl _ _)
      · intro o ho f us wl al ha g hf hdep K hKf
        obtain rfl := Option.some.inj ho
        have hB := g.1
        have hK : ∀ v w', RPk n0 c0 a0 xp xh mp mh y 20 v w' → Below wl.heap.size wl w' → K (al.put (some 47) v) w' := fun v w' hv hb => hKf v w' (RPk.put g hb hv)
        have d19 : RPk n0 c0 a0 xp xh mp mh y 19 (us 19) wl := g.2 19 (hdep ⟨19, .data⟩ (by simp) rfl)
        have e46 : al.tmps[46]?.getD undef = us 19 := by rw [← Rg.eval_getD, ha]; exact Rg.puts_eval _ _ _ (by rfl) (by simp) (by simp)
        have f19 : us 19 = .bool true := d19
        have HB := Lib.hid hB
        clear ha hdep g hf hKf d19 hB
        refine Rg.wpOp_of rfl rfl ?_
        go_simp
        exact hK _ _ rfl (Below.refl _ _)
      · intro o ho f us wl al ha g hf hdep K hKf
        obtain rfl := Option.some.inj ho
        have hB := g.1
        have hK : ∀ v w', RPk n0 c0 a0 xp xh mp mh y 21 v w' → Below wl.heap.size wl w' → K (al.put (some 48) v) w' := fun v w' hv hb => hKf v w' (RPk.put g hb hv)
        have e8 : al.tmps[8]?.getD undef = .int .i64 0 := by rw [← Rg.eval_getD, ha]; exact (Rg.puts_eval_ne _ _ _ (by rfl)).trans rfl
        have dg : RPk n0 c0 a0 xp xh mp mh y 20 (us 20) wl := g.2 20 (hdep ⟨20, .guard⟩ (by simp) rfl)
        have gg : al.eval (.tmp 47) = .bool true := by rw [ha]; exact (Rg.puts_eval _ _ _ (by rfl) (by simp) (by simp)).trans dg
        have HB := Lib.hid hB
        clear ha hdep g hf hKf hB
        refine Rg.wpOp_of rfl (Rg.wanted_of rfl (Rg.yielded_of (d := 47) (by rfl) gg)) ?_
        go_simp
        exact hK _ _ rfl (Below.refl _ _)
      · intro o ho f us wl al ha g hf hdep K hKf
        obtain rfl := Option.some.inj ho
        have hB := g.1
        have hK : ∀ v w', RPk n0 c0 a0 xp xh mp mh y 22 v w' → Below wl.heap.size wl w' → K (al.put (some 49) v) w' := fun v w' hv hb => hKf v w' (RPk.put g hb hv)
        have d21 : RPk n0 c0 a0 xp xh mp mh y 21 (us 21) wl := g.2 21 (hdep ⟨21, .data⟩ (by simp) rfl)
        have e48 : al.tmps[48]?.getD undef = us 21 := by rw [← Rg.eval_getD, ha]; exact Rg.puts_eval _ _ _ (by rfl) (by simp) (by simp)
        have dg : RPk n0 c0 a0 xp xh mp mh y 20 (us 20) wl := g.2 20 (hdep ⟨20, .guard⟩ (by simp) rfl)
        have gg : al.eval (.tmp 47) = .bool true := by rw [ha]; exact (Rg.puts_eval _ _ _ (by rfl) (by simp) (by simp)).trans dg
        have f21 : us 21 = .int .i64 0 := d21
        have HB := Lib.hid hB
        clear ha hdep g hf hKf d21 hB
        refine Rg.wpOp_of rfl (Rg.wanted_of rfl (Rg.yielded_of (d := 47) (by rfl) gg)) ?_
        go_simp
        exact hK _ _ rfl (Below.refl _ _)
      · intro o ho f us wl al ha g hf hdep K hKf
        obtain rfl := Option.some.inj ho
        have hB := g.1
        have hK : ∀ v w', RPk n0 c0 a0 xp xh mp mh y 23 v w' → Below wl.heap.size wl w' → K (al.put (some 50) v) w' := fun v w' hv hb => hKf v w' (RPk.put g hb hv)
        have d22 : RPk n0 c0 a0 xp xh mp mh y 22 (us 22) wl := g.2 22 (hdep ⟨22, .data⟩ (by simp) rfl)
        have e49 : al.tmps[49]?.getD undef = us 22 := by rw [← Rg.eval_getD, ha]; exact Rg.puts_eval _ _ _ (by rfl) (by simp) (by simp)
        have dg : RPk n0 c0 a0 xp xh mp mh y 20 (us 20) wl := g.2 20 (hdep ⟨20, .guard⟩ (by simp) rfl)
        have gg : al.eval (.tmp 47) = .bool true := by rw [ha]; exact (Rg.puts_eval _ _ _ (by rfl) (by simp) (by simp)).trans dg
        have f22 : us 22 = .bool false := d22
        have HB := Lib.hid hB
        clear ha hdep g hf hKf d22 hB
        refine Rg.wpOp_of rfl (Rg.wanted_of rfl (Rg.yielded_of (d := 47) (by rfl) gg)) ?_
        go_simp
        exact hK _ _ rfl (Below.refl _ _)
      · intro o ho f us wl al ha g hf hdep K hKf
        obtain rfl := Option.some.inj ho
        have hB := g.1
        have hK : ∀ v w', RPk n0 c0 a0 xp xh mp mh y 24 v w' → Below wl.heap.size wl w' → K (al.put (some 51) v) w' := fun v w' hv hb => hKf v w' (RPk.put g hb hv)
        have e0 : al.tmps[0]?.getD undef = .slice a0 n0 c0 := by rw [← Rg.eval_getD, ha]; exact (Rg.puts_eval_ne _ _ _ (by rfl)).trans rfl
        have dg : RPk n0 c0 a0 xp xh mp mh y 23 (us 23) wl := g.2 23 (hdep ⟨23, .guard⟩ (by simp) rfl)
        have gg : al.eval (.tmp 50) = .bool false := by rw [ha]; exact (Rg.puts_eval _ _ _ (by rfl) (by simp) (by simp)).trans dg
        have HB := Lib.hid hB
        clear ha hdep g hf hKf hB
        refine Rg.wpOp_of rfl (Rg.wanted_of rfl (Rg.yielded_of (d := 50) (by rfl) gg)) ?_
        go_simp
        exact hK _ _ rfl (Below.refl _ _)
      · intro o ho f us wl al ha g hf hdep K hKf
        obtain rfl := Option.some.inj ho
        have hB := g.1
        have hK : ∀ v w', RPk n0 c0 a0 xp xh mp mh y 25 v w' → Below wl.heap.size wl w' → K (al.put (some 52) v) w' := fun v w' hv hb => hKf v w' (RPk.put g hb hv)
        have e7 : al.tmps[7]?.getD undef = .pointer (some ⟨bA, 0, none⟩) := by rw [← Rg.eval_getD, ha]; exact (Rg.puts_eval_ne _ _ _ (by rfl)).trans rfl
        have dg : RPk n0 c0 a0 xp xh mp mh y 23 (us 23) wl := g.2 23 (hdep ⟨23, .guard⟩ (by simp) rfl)
        have gg : al.eval (.tmp 50) = .bool false := by rw [ha]; exact (Rg.puts_eval _ _ _ (by rfl) (by simp) (by simp)).trans dg
        obtain ⟨c0, c1⟩ := CA.out _ hB
        have HB := Lib.hid hB
        clear ha hdep g hf hKf hB
        refine Rg.wpOp_of rfl (Rg.wanted_of rfl (Rg.yielded_of (d := 50) (by rfl) gg)) ?_
        go_simp
        exact hK _ _ rfl (Below.refl _ _)
      · intro o ho f us wl al ha g hf hdep K hKf
        obtain rfl := Option.some.inj ho
        have hB := g.1
        have hK : ∀ v w', RPk n0 c0 a0 xp xh mp mh y 26 v w' → Below wl.heap.size wl w' → K (al.put (some 53) v) w' := fun v w' hv hb => hKf v w' (RPk.put g hb hv)
        have d24 : RPk n0 c0 a0 xp xh mp mh y 24 (us 24) wl := g.2 24 (hdep ⟨24, .data⟩ (by simp) rfl)
        have e51 : al.tmps[51]?.getD undef = us 24 := by rw [← Rg.eval_getD, ha]; exact Rg.puts_eval _ _ _ (by rfl) (by simp) (by simp)
        have d25 : RPk n0 c0 a0 xp xh mp mh y 25 (us 25) wl := g.2 25 (hdep ⟨25, .data⟩ (by simp) rfl)
        have e52 : al.tmps[52]?.getD undef = us 25 := by rw [← Rg.eval_getD, ha]; exact Rg.puts_eval _ _ _ (by rfl) (by simp) (by simp)
        have dg : RPk n0 c0 a0 xp xh mp mh y 23 (us 23) wl := g.2 23 (hdep ⟨23, .guard⟩ (by simp) rfl)
        have gg : al.eval (.tmp 50) = .bool false := by rw [ha]; exact (Rg.puts_eval _ _ _ (by rfl) (by simp) (by simp)).trans dg
        have f24 : us 24 = .slice a0 n0 c0 := d24
        have f25 : us 25 = .agg #[.int .i64 xp, .int .i64 xh] := d25
        have HB := Lib.hid hB
        clear ha hdep g hf hKf d24 d25 hB
        refine Rg.wpOp_of rfl (Rg.wanted_of rfl (Rg.yielded_of (d := 50) (by rfl) gg)) ?_
        go_simp
        refine (HX.out _ (D4.out.trans (HB.out.mono D4.out.size))).mono ?_
        rintro e wn ⟨rfl, hb⟩
        exact hK _ _ rfl hb
      · intro o ho f us wl al ha g hf hdep K hKf
        obtain rfl := Option.some.inj ho
        have hB := g.1
        have hK : ∀ v w', RPk n0 c0 a0 xp xh mp mh y 27 v w' → Below wl.heap.size wl w' → K (al.put (some 54) v) w' := fun v w' hv hb => hKf v w' (RPk.put g hb hv)
        have d23 : RPk n0 c0 a0 xp xh mp mh y 23 (us 23) wl := g.2 23 (hdep ⟨23, .data⟩ (by simp) rfl)
        have e50 : al.tmps[50]?.getD undef = us 23 := by rw [← Rg.eval_getD, ha]; exact Rg.puts_eval _ _ _ (by rfl) (by simp) (by simp)
        have d26 : RPk n0 c0 a0 xp xh mp mh y 26 (us 26) wl := g.2 26 (hdep ⟨26, .data⟩ (by simp) rfl)
        have e53 : al.tmps[53]?.getD undef = us 26 := by rw [← Rg.eval_getD, ha]; exact Rg.puts_eval _ _ _ (by rfl) (by simp) (by simp)
        have dg : RPk n0 c0 a0 xp xh mp mh y 20 (us 20) wl := g.2 20 (hdep ⟨20, .guard⟩ (by simp) rfl)
        have gg : al.eval (.tmp 47) = .bool true := by rw [ha]; exact (Rg.puts_eval _ _ _ (by rfl) (by simp) (by simp)).trans dg
        have f23 : us 23 = .bool false := d23
        have f26 : us 26 = .bool true := d26
        have HB := Lib.hid hB
        clear ha hdep g hf hKf d23 d26 hB
        refine Rg.wpOp_of rfl (Rg.wanted_of rfl (Rg.yielded_of (d := 47) (by rfl) gg)) ?_
        go_simp
        exact hK _ _ rfl (Below.refl _ _)
      · intro o ho f us wl al ha g hf hdep K hKf
        obtain rfl := Option.some.inj ho
        have hB := g.1
        have hK : ∀ v w', RPk n0 c0 a0 xp xh mp mh y 28 v w' → Below wl.heap.size wl w' → K (al.put (some 55) v) w' := fun v w' hv hb => hKf v w' (RPk.put g hb hv)
        have d20 : RPk n0 c0 a0 xp xh mp mh y 20 (us 20) wl := g.2 20 (hdep ⟨20, .data⟩ (by simp) rfl)
        have e47 : al.tmps[47]?.getD undef = us 20 := by rw [← Rg.eval_getD, ha]; exact Rg.puts_eval _ _ _ (by rfl) (by simp) (by simp)
        have d27 : RPk n0 c0 a0 xp xh mp mh y 27 (us 27) wl := g.2 27 (hdep ⟨27, .data⟩ (by simp) rfl)
        have e54 : al.tmps[54]?.getD undef = us 27 := by rw [← Rg.eval_getD, ha]; exact Rg.puts_eval _ _ _ (by rfl) (by simp) (by simp)
        have f20 : us 20 = .bool true := d20
        have f27 : us 27 = .bool true := d27
        have HB := Lib.hid hB
        clear ha hdep g hf hKf d20 d27 hB
        refine Rg.wpOp_of rfl rfl ?_
        go_simp
        exact hK _ _ rfl (Below.refl _ _)
      · intro o ho f us wl al ha g hf hdep K hKf
        obtain rfl := Option.some.inj ho
        have hB := g.1
        have hK : ∀ v w', RPk n0 c0 a0 xp xh mp mh y 29 v w' → Below wl.heap.size wl w' → K (al.put (some 6) v) w' := fun v w' hv hb => hKf v w' (RPk.put g hb hv)
        have d28 : RPk n0 c0 a0 xp xh mp mh y 28 (us 28) wl := g.2 28 (hdep ⟨28, .data⟩ (by simp) rfl)
        have e55 : al.tmps[55]?.getD undef = us 28 := by rw [← Rg.eval_getD, ha]; exact Rg.puts_eval _ _ _ (by rfl) (by simp) (by simp)
        have f28 : us 28 = .bool true := d28
        have HB := Lib.hid hB
        clear ha hdep g hf hKf d28 hB
        refine Rg.wpOp_of rfl rfl ?_
        go_simp
        exact hK _ _ rfl (Below.refl _ _)
      · intro us wz hB hR
        have fz : us 29 = .bool true := hR 29
        have DZ := Lib.hid (D4.out.trans (hB.mono D4.out.size))
        clear hB hR
        simp only [Rg.puts, Act.put, List.setIfInBounds_toArray, List.set_cons_zero, List.set_cons_succ, fz]
        go_wp2_with fail
        go_ret
        exact ⟨rfl, DZ.out⟩
    · clear HX
      obtain ⟨x, hx⟩ : ∃ x, pkM l n = x := ⟨_, rfl⟩
      rw [hx] at HP HR
      obtain ⟨xp, xh⟩ := x
      have HP2 := HP
      have HR2 := HR
      clear hv hm hf hy hx her hn0 hl hn
      clear HP HR HE
      go_enter Tryz.func4, Tryz.ntmps4
      go_wp2_with fail
      refine (HF.out _ D1.out).mono ?_
      rintro e w1 ⟨rfl, rfl⟩
      go_wp2_with fail
      refine (HP2.out _ D1.out).mono ?_
      rintro e w2 ⟨rfl, hb2⟩
      obtain ⟨D2, CM2, CA2⟩ := step1 xp xh D1.out CM1.out hb2
      clear hb2
      go_wp2_with fail
      refine (HR2.out _ D2).mono ?_
      rintro e w3 ⟨rfl, hb3⟩
      obtain ⟨D4', CM', CA', CB'⟩ := step2 xp xh D2 CM2 CA2 hb3
      have D4 := Lib.hid D4'
      have CM := Lib.hid (bm_keep CM')
      have CA := Lib.hid (bm_keep CA')
      have CB := Lib.hid (bm_keep CB')
      obtain ⟨bM, hbM⟩ : ∃ bM, w0.heap.size = bM := ⟨_, rfl⟩
      obtain ⟨bA, hbA⟩ : ∃ bA, w2.heap.size = bA := ⟨_, rfl⟩
      obtain ⟨bB, hbB⟩ : ∃ bB, w3.heap.size = bB := ⟨_, rfl⟩
      obtain ⟨w4, hw4⟩ : ∃ w4, w3.alloc (.cells #[.int .i64 xp, .int .i64 xh] 29) = w4 := ⟨_, rfl⟩
      rw [hw4] at D4 CM CA CB
      rw [hbM] at CM
      rw [hbA] at CA
      rw [hbB] at CB
      simp only at CM CA CB
      clear D2 hb3 D4' CM2 CA2 CM' CA' CB' HF HP2 HR2 D1 CM1
      go_wp2_with fail
      clear hbM hbA hbB hw4
      refine Rg.wp_region_kept (by kernel_rfl) [(0, some 27), (1, some 28), (2, some 29), (3, some 30), (4, some 31), (5, some 32), (6, some 33), (7, some 34), (8, some 35), (9, some 36), (10, some 37), (11, some 38), (12, some 39), (13, some 40), (14, some 41), (15, some 42), (16, some 43), (17, some 44), (18, some 45), (19, some 46), (20, some 47), (21, some 48), (22, some 49), (23, some 50), (24, some 51), (25, some 52), (26, some 53), (27, some 54), (28, some 55), (29, some 6)] (by rfl) (by kernel_rfl) (by kernel_rfl) (fun w' => Below w4.heap.size w4 w') (RPn n0 c0 a0 xp xh mp mh y) (Below.refl _ _).drew ?_ ⟨⟨⟨⟨⟨⟨⟨⟨⟨⟨⟨⟨⟨⟨⟨⟨⟨⟨⟨⟨⟨⟨⟨⟨⟨⟨⟨⟨⟨⟨True.intro, ?_⟩, ?_⟩, ?_⟩, ?_⟩, ?_⟩, ?_⟩, ?_⟩, ?_⟩, ?_⟩, ?_⟩, ?_⟩, ?_⟩, ?_⟩, ?_⟩, ?_⟩, ?_⟩, ?_⟩, ?_⟩, ?_⟩, ?_⟩, ?_⟩, ?_⟩, ?_⟩, ?_⟩, ?_⟩, ?_⟩, ?_⟩, ?_⟩, ?_⟩, ?_⟩ ?_
      · intro k v w' hk
        unfold RPn
        split
        case h_31 => trivial
        all_goals exact absurd hk (by decide)
      · intro o ho f us wl al ha g hf hdep K hKf
        obtain rfl := Option.some.inj ho
        have hB := g.1
        have hK : ∀ v w', RPn n0 c0 a0 xp xh mp mh y 0 v w' → Below wl.heap.size wl w' → K (al.put (some 27) v) w' := fun v w' hv hb => hKf v w' (RPn.put g hb hv)
        have HB := Lib.hid hB
        clear ha hdep g hf hKf hB
        refine Rg.wpOp_of rfl rfl ?_
        go_simp
        refine (HA.out _ (D4.out.trans (HB.out.mono D4.out.size))).mono ?_
        rintro e wn ⟨rfl, hb⟩
        exact hK _ _ rfl hb
      · intro o ho f us wl al ha g hf hdep K hKf
        obtain rfl := Option.some.inj ho
        have hB := g.1
        have hK : ∀ v w', RPn n0 c0 a0 xp xh mp mh y 1 v w' → Below wl.heap.size wl w' → K (al.put (some 28) v) w' := fun v w' hv hb => hKf v w' (RPn.put g hb hv)
        have d0 : RPn n0 c0 a0 xp xh mp mh y 0 (us 0) wl := g.2 0 (hdep ⟨0, .data⟩ (by simp) rfl)
        have e27 : al.tmps[27]?.getD undef = us 0 := by rw [← Rg.eval_getD, ha]; exact Rg.puts_eval _ _ _ (by rfl) (by simp) (by simp)
        have f0 : us 0 = .bool true := d0
        have HB := Lib.hid hB
        clear ha hdep g hf hKf d0 hB
        refine Rg.wpOp_of rfl rfl ?_
        go_simp
        exact hK _ _ rfl (Below.refl _ _)
      · intro o ho f us wl al ha g hf hdep K hKf
        obtain rfl := Option.some.inj ho
        have hB := g.1
        have hK : ∀ v w', RPn n0 c0 a0 xp xh mp mh y 2 v w' → Below wl.heap.size wl w' → K (al.put (some 29) v) w' := fun v w' hv hb => hKf v w' (RPn.put g hb hv)
        have e7 : al.tmps[7]?.getD undef = .pointer (some ⟨bA, 0, none⟩) := by rw [← Rg.eval_getD, ha]; exact (Rg.puts_eval_ne _ _ _ (by rfl)).trans rfl
        have dg : RPn n0 c0 a0 xp xh mp mh y 1 (us 1) wl := g.2 1 (hdep ⟨1, .guard⟩ (by simp) rfl)
        have gg : al.eval (.tmp 28) = .bool true := by rw [ha]; exact (Rg.puts_eval _ _ _ (by rfl) (by simp) (by simp)).trans dg
        obtain ⟨c0, c1⟩ := CA.out _ hB
        have HB := Lib.hid hB
        clear ha hdep g hf hKf hB
        refine Rg.wpOp_of rfl (Rg.wanted_of rfl (Rg.yielded_of (d := 28) (by rfl) gg)) ?_
        go_simp
        exact hK _ _ rfl (Below.refl _ _)
      · intro o ho f us wl al ha g hf hdep K hKf
        obtain rfl := Option.some.inj ho
        have hB := g.1
        have hK : ∀ v w', RPn n0 c0 a0 xp xh mp mh y 3 v w' → Below wl.heap.size wl w' → K (al.put (some 30) v) w' := fun v w' hv hb => hKf v w' (RPn.put g hb hv)
        have e9 : al.tmps[9]?.getD undef = .pointer (some ⟨bB, 0, none⟩) := by rw [← Rg.eval_getD, ha]; exact (Rg.puts_eval_ne _ _ _ (by rfl)).trans rfl
        have dg : RPn n0 c0 a0 xp xh mp mh y 1 (us 1) wl := g.2 1 (hdep ⟨1, .guard⟩ (by simp) rfl)
        have gg : al.eval (.tmp 28) = .bool true := by rw [ha]; exact (Rg.puts_eval _ _ _ (by rfl) (by simp) (by simp)).trans dg
        obtain ⟨c0, c1⟩ := CB.out _ hB
        have HB := Lib.hid hB
        clear ha hdep g hf hKf hB
        refine Rg.wpOp_of rfl (Rg.wanted_of rfl (Rg.yielded_of (d := 28) (by rfl) gg)) ?_
        go_simp
        exact hK _ _ rfl (Below.refl _ _)
      · intro o ho f us wl al ha g hf hdep K hKf
        obtain rfl := Option.some.inj ho
        have hB := g.1
        have hK : ∀ v w', RPn n0 c0 a0 xp xh mp mh y 4 v w' → Below wl.heap.size wl w' → K (al.put (some 31) v) w' := fun v w' hv hb => hKf v w' (RPn.put g hb hv)
        have d2 : RPn n0 c0 a0 xp xh mp mh y 2 (us 2) wl := g.2 2 (hdep ⟨2, .data⟩ (by simp) rfl)
        have e29 : al.tmps[29]?.getD undef = us 2 := by rw [← Rg.eval_getD, ha]; exact Rg.puts_eval _ _ _ (by rfl) (by simp) (by simp)
        have d3 : RPn n0 c0 a0 xp xh mp mh y 3 (us 3) wl := g.2 3 (hdep ⟨3, .data⟩ (by simp) rfl)
        have e30 : al.tmps[30]?.getD undef = us 3 := by rw [← Rg.eval_getD, ha]; exact Rg.puts_eval _ _ _ (by rfl) (by simp) (by simp)
        have dg : RPn n0 c0 a0 xp xh mp mh y 1 (us 1) wl := g.2 1 (hdep ⟨1, .guard⟩ (by simp) rfl)
        have gg : al.eval (.tmp 28) = .bool true := by rw [ha]; exact (Rg.puts_eval _ _ _ (by rfl) (by simp) (by simp)).trans dg
        have f2 : us 2 = .agg #[.int .i64 xp, .int .i64 xh] := d2
        have f3 : us 3 = .agg #[.int .i64 xp, .int .i64 xh] := d3
        have hq : (binOp .eql 29 (.agg #[.int .i64 xp, .int .i64 xh]) (.agg #[.int .i64 xp, .int .i64 xh])).run Tryz.prog wl = .ok (.bool true) wl := (eq_mv ⟨xp, xh⟩ ⟨xp, xh⟩ wl).trans (by rw [decide_eq_true rfl])
        have HB := Lib.hid hB
        clear ha hdep g hf hKf d2 d3 hB
        refine Rg.wpOp_of rfl (Rg.wanted_of rfl (Rg.yielded_of (d := 28) (by rfl) gg)) ?_
        go_simp
        exact hK _ _ rfl (Below.refl _ _)
      · intro o ho f us wl al ha g hf hdep K hKf
        obtain rfl := Option.some.inj ho
        have hB := g.1
        have hK : ∀ v w', RPn n0 c0 a0 xp xh mp mh y 5 v w' → Below wl.heap.size wl w' → K (al.put (some 32) v) w' := fun v w' hv hb => hKf v w' (RPn.put g hb hv)
        have d1 : RPn n0 c0 a0 xp xh mp mh y 1 (us 1) wl := g.2 1 (hdep ⟨1, .data⟩ (by simp) rfl)
        have e28 : al.tmps[28]?.getD undef = us 1 := by rw [← Rg.eval_getD, ha]; exact Rg.puts_eval _ _ _ (by rfl) (by simp) (by simp)
        have d4 : RPn n0 c0 a0 xp xh mp mh y 4 (us 4) wl := g.2 4 (hdep ⟨4, .data⟩ (by simp) rfl)
        have e31 : al.tmps[31]?.getD undef = us 4 := by rw [← Rg.eval_getD, ha]; exact Rg.puts_eval _ _ _ (by rfl) (by simp) (by simp)
        have f1 : us 1 = .bool true := d1
        have f4 : us 4 = .bool true := d4
        have HB := Lib.hid hB
        clear ha hdep g hf hKf d1 d4 hB
        refine Rg.wpOp_of rfl rfl ?_
        go_simp
        exact hK _ _ rfl (Below.refl _ _)
      · intro o ho f us wl al ha g hf hdep K hKf
        obtain rfl := Option.some.inj ho
        have hB := g.1
        have hK : ∀ v w', RPn n0 c0 a0 xp xh mp mh y 6 v w' → Below wl.heap.size wl w' → K (al.put (some 33) v) w' := fun v w' hv hb => hKf v w' (RPn.put g hb hv)
        have d5 : RPn n0 c0 a0 xp xh mp mh y 5 (us 5) wl := g.2 5 (hdep ⟨5, .data⟩ (by simp) rfl)
        have e32 : al.tmps[32]?.getD undef = us 5 := by rw [← Rg.eval_getD, ha]; exact Rg.puts_eval _ _ _ (by rfl) (by simp) (by simp)
        have f5 : us 5 = .bool true := d5
        have HB := Lib.hid hB
        clear ha hdep g hf hKf d5 hB
        refine Rg.wpOp_of rfl rfl ?_
        go_simp
        exact hK _ _ rfl (Below.refl _ _)
      · intro o ho f us wl al ha g hf hdep K hKf
        obtain rfl := Option.some.inj ho
        have hB := g.1
        have hK : ∀ v w', RPn n0 c0 a0 xp xh mp mh y 7 v w' → Below wl.heap.size wl w' → K (al.put (some 34) v) w' := fun v w' hv hb => hKf v w' (RPn.put g hb hv)
        have e8 : al.tmps[8]?.getD undef = .int .i64 120 := by rw [← Rg.eval_getD, ha]; exact (Rg.puts_eval_ne _ _ _ (by rfl)).trans rfl
        have dg : RPn n0 c0 a0 xp xh mp mh y 6 (us 6) wl := g.2 6 (hdep ⟨6, .guard⟩ (by simp) rfl)
        have gg : al.eval (.tmp 33) = .bool true := by rw [ha]; exact (Rg.puts_eval _ _ _ (by rfl) (by simp) (by simp)).trans dg
        have HB := Lib.hid hB
        clear ha hdep g hf hKf hB
        refine Rg.wpOp_of rfl (Rg.wanted_of rfl (Rg.yielded_of (d := 33) (by rfl) gg)) ?_
        go_simp
        exact hK _ _ rfl (Below.refl _ _)
      · intro o ho f us wl al ha g hf hdep K hKf
        obtain rfl := Option.some.inj ho
        have hB := g.1
        have hK : ∀ v w', RPn n0 c0 a0 xp xh mp mh y 8 v w' → Below wl.heap.size wl w' → K (al.put (some 35) v) w' := fun v w' hv hb => hKf v w' (RPn.put g hb hv)
        have e10 : al.tmps[10]?.getD undef = .int .i64 120 := by rw [← Rg.eval_getD, ha]; exact (Rg.puts_eval_ne _ _ _ (by rfl)).trans rfl
        have dg : RPn n0 c0 a0 xp xh mp mh y 6 (us 6) wl := g.2 6 (hdep ⟨6, .guard⟩ (by simp) rfl)
        have gg : al.eval (.tmp 33) = .bool true := by rw [ha]; exact (Rg.puts_eval _ _ _ (by rfl) (by simp) (by simp)).trans dg
        have HB := Lib.hid hB
        clear ha hdep g hf hKf hB
        refine Rg.wpOp_of rfl (Rg.wanted_of rfl (Rg.yielded_of (d := 33) (by rfl) gg)) ?_
        go_simp
        exact hK _ _ rfl (Below.refl _ _)
      · intro o ho f us wl al ha g hf hdep K hKf
        obtain rfl := Option.some.inj ho
        have hB := g.1
        have hK : ∀ v w', RPn n0 c0 a0 xp xh mp mh y 9 v w' → Below wl.heap.size wl w' → K (al.put (some 36) v) w' := fun v w' hv hb => hKf v w' (RPn.put g hb hv)
        have d7 : RPn n0 c0 a0 xp xh mp mh y 7 (us 7) wl := g.2 7 (hdep ⟨7, .data⟩ (by simp) rfl)
        have e34 : al.tmps[34]?.getD undef = us 7 := by rw [← Rg.eval_getD, ha]; exact Rg.puts_eval _ _ _ (by rfl) (by simp) (by simp)
        have d8 : RPn n0 c0 a0 xp xh mp mh y 8 (us 8) wl := g.2 8 (hdep ⟨8, .data⟩ (by simp) rfl)
        have e35 : al.tmps[35]?.getD undef = us 8 := by rw [← Rg.eval_getD, ha]; exact Rg.puts_eval _ _ _ (by rfl) (by simp) (by simp)
        have dg : RPn n0 c0 a0 xp xh mp mh y 6 (us 6) wl := g.2 6 (hdep ⟨6, .guard⟩ (by simp) rfl)
        have gg : al.eval (.tmp 33) = .bool true := by rw [ha]; exact (Rg.puts_eval _ _ _ (by rfl) (by simp) (by simp)).trans dg
        have f7 : us 7 = .int .i64 120 := d7
        have f8 : us 8 = .int .i64 120 := d8
        have HB := Lib.hid hB
        clear ha hdep g hf hKf d7 d8 hB
        refine Rg.wpOp_of rfl (Rg.wanted_of rfl (Rg.yielded_of (d := 33) (by rfl) gg)) ?_
        go_simp
        exact hK _ _ rfl (Below.refl _ _)
      · intro o ho f us wl al ha g hf hdep K hKf
        obtain rfl := Option.some.inj ho
        have hB := g.1
        have hK : ∀ v w', RPn n0 c0 a0 xp xh mp mh y 10 v w' → Below wl.heap.size wl w' → K (al.put (some 37) v) w' := fun v w' hv hb => hKf v w' (RPn.put g hb hv)
        have d6 : RPn n0 c0 a0 xp xh mp mh y 6 (us 6) wl := g.2 6 (hdep ⟨6, .data⟩ (by simp) rfl)
        have e33 : al.tmps[33]?.getD undef = us 6 := by rw [← Rg.eval_getD, ha]; exact Rg.puts_eval _ _ _ (by rfl) (by simp) (by simp)
        have d9 : RPn n0 c0 a0 xp xh mp mh y 9 (us 9) wl := g.2 9 (hdep ⟨9, .data⟩ (by simp) rfl)
        have e36 : al.tmps[36]?.getD undef = us 9 := by rw [← Rg.eval_getD, ha]; exact Rg.puts_eval _ _ _ (by rfl) (by simp) (by simp)
        have f6 : us 6 = .bool true := d6
        have f9 : us 9 = .bool true := d9
        have HB := Lib.hid hB
        clear ha hdep g hf hKf d6 d9 hB
        refine Rg.wpOp_of rfl rfl ?_
        go_simp
        exact hK _ _ rfl (Below.refl _ _)
      · intro o ho f us wl al ha g hf hdep K hKf
        obtain rfl := Option.some.inj ho
        have hB := g.1
        have hK : ∀ v w', RPn n0 c0 a0 xp xh mp mh y 11 v w' → Below wl.heap.size wl w' → K (al.put (some 38) v) w' := fun v w' hv hb => hKf v w' (RPn.put g hb hv)
        have d10 : RPn n0 c0 a0 xp xh mp mh y 10 (us 10) wl := g.2 10 (hdep ⟨10, .data⟩ (by simp) rfl)
        have e37 : al.tmps[37]?.getD undef = us 10 := by rw [← Rg.eval_getD, ha]; exact Rg.puts_eval _ _ _ (by rfl) (by simp) (by simp)
        have f10 : us 10 = .bool true := d10
        have HB := Lib.hid hB
        clear ha hdep g hf hKf d10 hB
        refine Rg.wpOp_of rfl rfl ?_
        go_simp
        exact hK _ _ rfl (Below.refl _ _)
      · intro o ho f us wl al ha g hf hdep K hKf
        obtain rfl := Option.some.inj ho
        have hB := g.1
        have hK : ∀ v w', RPn n0 c0 a0 xp xh mp mh y 12 v w' → Below wl.heap.size wl w' → K (al.put (some 39) v) w' := fun v w' hv hb => hKf v w' (RPn.put g hb hv)
        have e0 : al.tmps[0]?.getD undef = .slice a0 n0 c0 := by rw [← Rg.eval_getD, ha]; exact (Rg.puts_eval_ne _ _ _ (by rfl)).trans rfl
        have dg : RPn n0 c0 a0 xp xh mp mh y 11 (us 11) wl := g.2 11 (hdep ⟨11, .guard⟩ (by simp) rfl)
        have gg : al.eval (.tmp 38) = .bool true := by rw [ha]; exact (Rg.puts_eval _ _ _ (by rfl) (by simp) (by simp)).trans dg
        have HB := Lib.hid hB
        clear ha hdep g hf hKf hB
        refine Rg.wpOp_of rfl (Rg.wanted_of rfl (Rg.yielded_of (d := 38) (by rfl) gg)) ?_
        go_simp
        exact hK _ _ rfl (Below.refl _ _)
      · intro o ho f us wl al ha g hf hdep K hKf
        obtain rfl := Option.some.inj ho
        have hB := g.1
        have hK : ∀ v w', RPn n0 c0 a0 xp xh mp mh y 13 v w' → Below wl.heap.size wl w' → K (al.put (some 40) v) w' := fun v w' hv hb => hKf v w' (RPn.put g hb hv)
        have e5 : al.tmps[5]?.getD undef = .pointer (some ⟨bM, 0, none⟩) := by rw [← Rg.eval_getD, ha]; exact (Rg.puts_eval_ne _ _ _ (by rfl)).trans rfl
        have dg : RPn n0 c0 a0 xp xh mp mh y 11 (us 11) wl := g.2 11 (hdep ⟨11, .guard⟩ (by simp) rfl)
        have gg : al.eval (.tmp 38) = .bool true := by rw [ha]; exact (Rg.puts_eval _ _ _ (by rfl) (by simp) (by simp)).trans dg
        obtain ⟨c0, c1⟩ := CM.out _ hB
        have HB := Lib.hid hB
        clear ha hdep g hf hKf hB
        refine Rg.wpOp_of rfl (Rg.wanted_of rfl (Rg.yielded_of (d := 38) (by rfl) gg)) ?_
        go_simp
        exact hK _ _ rfl (Below.refl _ _)
      · intro o ho f us wl al ha g hf hdep K hKf
        obtain rfl := Option.some.inj ho
        have hB := g.1
        have hK : ∀ v w', RPn n0 c0 a0 xp xh mp mh y 14 v w' → Below wl.heap.size wl w' → K (al.put (some 41) v) w' := fun v w' hv hb => hKf v w' (RPn.put g hb hv)
        have d12 : RPn n0 c0 a0 xp xh mp mh y 12 (us 12) wl := g.2 12 (hdep ⟨12, .data⟩ (by simp) rfl)
        have e39 : al.tmps[39]?.getD undef = us 12 := by rw [← Rg.eval_getD, ha]; exact Rg.puts_eval _ _ _ (by rfl) (by simp) (by simp)
        have d13 : RPn n0 c0 a0 xp xh mp mh y 13 (us 13) wl := g.2 13 (hdep ⟨13, .data⟩ (by simp) rfl)
        have e40 : al.tmps[40]?.getD undef = us 13 := by rw [← Rg.eval_getD, ha]; exact Rg.puts_eval _ _ _ (by rfl) (by simp) (by simp)
        have dg : RPn n0 c0 a0 xp xh mp mh y 11 (us 11) wl := g.2 11 (hdep ⟨11, .guard⟩ (by simp) rfl)
        have gg : al.eval (.tmp 38) = .bool true := by rw [ha]; exact (Rg.puts_eval _ _ _ (by rfl) (by simp) (by simp)).trans dg
        have f12 : us 12 = .slice a0 n0 c0 := d12
        have f13 : us 13 = .agg #[.int .i64 mp, .int .i64 mh] := d13
        have HB := Lib.hid hB
        clear ha hdep g hf hKf d12 d13 hB
        refine Rg.wpOp_of rfl (Rg.wanted_of rfl (Rg.yielded_of (d := 38) (by rfl) gg)) ?_
        go_simp
        refine (HI.out _ (D4.out.trans (HB.out.mono D4.out.size))).mono ?_
        rintro e wn ⟨rfl, hb⟩
        exact hK _ _ rfl hb
      · intro o ho f us wl al ha g hf hdep K hKf
        obtain rfl := Option.some.inj ho
        have hB := g.1
        have hK : ∀ v w', RPn n0 c0 a0 xp xh mp mh y 15 v w' → Below wl.heap.size wl w' → K (al.put (some 42) v) w' := fun v w' hv hb => hKf v w' (RPn.put g hb hv)
        have e0 : al.tmps[0]?.getD undef = .slice a0 n0 c0 := by rw [← Rg.eval_getD, ha]; exact (Rg.puts_eval_ne _ _ _ (by rfl)).trans rfl
        have dg : RPn n0 c0 a0 xp xh mp mh y 11 (us 11) wl := g.2 11 (hdep ⟨11, .guard⟩ (by simp) rfl)
        have gg : al.eval (.tmp 38) = .bool true := by rw [ha]; exact (Rg.puts_eval _ _ _ (by rfl) (by simp) (by simp)).trans dg
        have HB := Lib.hid hB
        clear ha hdep g hf hKf hB
        refine Rg.wpOp_of rfl (Rg.wanted_of rfl (Rg.yielded_of (d := 38) (by rfl) gg)) ?_
        go_simp
        exact hK _ _ rfl (Below.refl _ _)
      · intro o ho f us wl al ha g hf hdep K hKf
        obtain rfl := Option.some.inj ho
        have hB := g.1
        have hK : ∀ v w', RPn n0 c0 a0 xp xh mp mh y 16 v w' → Below wl.heap.size wl w' → K (al.put (some 43) v) w' := fun v w' hv hb => hKf v w' (RPn.put g hb hv)
        have e5 : al.tmps[5]?.getD undef = .pointer (some ⟨bM, 0, none⟩) := by rw [← Rg.eval_getD, ha]; exact (Rg.puts_eval_ne _ _ _ (by rfl)).trans rfl
        have dg : RPn n0 c0 a0 xp xh mp mh y 11 (us 11) wl := g.2 11 (hdep ⟨11, .guard⟩ (by simp) rfl)
        have gg : al.eval (.tmp 38) = .bool true := by rw [ha]; exact (Rg.puts_eval _ _ _ (by rfl) (by simp) (by simp)).trans dg
        obtain ⟨c0, c1⟩ := CM.out _ hB
        have HB := Lib.hid hB
        clear ha hdep g hf hKf hB
        refine Rg.wpOp_of rfl (Rg.wanted_of rfl (Rg.yielded_of (d := 38) (by rfl) gg)) ?_
        go_simp
        exact hK _ _ rfl (Below.refl _ _)
      · intro o ho f us wl al ha g hf hdep K hKf
        obtain rfl := Option.some.inj ho
        have hB := g.1
        have hK : ∀ v w', RPn n0 c0 a0 xp xh mp mh y 17 v w' → Below wl.heap.size wl w' → K (al.put (some 44) v) w' := fun v w' hv hb => hKf v w' (RPn.put g hb hv)
        have d15 : RPn n0 c0 a0 xp xh mp mh y 15 (us 15) wl := g.2 15 (hdep ⟨15, .data⟩ (by simp) rfl)
        have e42 : al.tmps[42]?.getD undef = us 15 := by rw [← Rg.eval_getD, ha]; exact Rg.puts_eval _ _ _ (by rfl) (by simp) (by simp)
        have d16 : RPn n0 c0 a0 xp xh mp mh y 16 (us 16) wl := g.2 16 (hdep ⟨16, .data⟩ (by simp) rfl)
        have e43 : al.tmps[43]?.getD undef = us 16 := by rw [← Rg.eval_getD, ha]; exact Rg.puts_eval _ _ _ (by rfl) (by simp) (by simp)
        have dg : RPn n0 c0 a0 xp xh mp mh y 11 (us 11) wl := g.2 11 (hdep ⟨11, .guard⟩ (by simp) rfl)
        have gg : al.eval (.tmp 38) = .bool true := by rw [ha]; exact (Rg.puts_eval _ _ _ (by rfl) (by simp) (by simp)).trans dg
        have f15 : us 15 = .slice a0 n0 c0 := d15
        have f16 : us 16 = .agg #[.int .i64 mp, .int .i64 mh] := d16
        have HB := Lib.hid hB
        clear ha hdep g hf hKf d15 d16 hB
        refine Rg.wpOp_of rfl (Rg.wanted_of rfl (Rg.yielded_of (d := 38) (by rfl) gg)) ?_
        go_simp
        refine (HJ.out _ (D4.out.trans (HB.out.mono D4.out.size))).mono ?_
        rintro e wn ⟨rfl, hb⟩
        exact hK _ _ rfl hb
      · intro o ho f us wl al ha g hf hdep K hKf
        obtain rfl := Option.some.inj ho
        have hB := g.1
        have hK : ∀ v w', RPn n0 c0 a0 xp xh mp mh y 18 v w' → Below wl.heap.size wl w' → K (al.put (some 45) v) w' := fun v w' hv hb => hKf v w' (RPn.put g hb hv)
        have d14 : RPn n0 c0 a0 xp xh mp mh y 14 (us 14) wl := g.2 14 (hdep ⟨14, .data⟩ (by simp) rfl)
        have e41 : al.tmps[41]?.getD undef = us 14 := by rw [← Rg.eval_getD, ha]; exact Rg.puts_eval _ _ _ (by rfl) (by simp) (by simp)
        have d17 : RPn n0 c0 a0 xp xh mp mh y 17 (us 17) wl := g.2 17 (hdep ⟨17, .data⟩ (by simp) rfl)
        have e44 : al.tmps[44]?.getD undef = us 17 := by rw [← Rg.eval_getD, ha]; exact Rg.puts_eval _ _ _ (by rfl) (by simp) (by simp)
        have dg : RPn n0 c0 a0 xp xh mp mh y 11 (us 11) wl := g.2 11 (hdep ⟨11, .guard⟩ (by simp) rfl)
        have gg : al.eval (.tmp 38) = .bool true := by rw [ha]; exact (Rg.puts_eval _ _ _ (by rfl) (by simp) (by simp)).trans dg
        have f14 : us 14 = .bool y := d14
        have f17 : us 17 = .bool y := d17
        have HB := Lib.hid hB
        clear ha hdep g hf hKf d14 d17 hB
        refine Rg.wpOp_of rfl (Rg.wanted_of rfl (Rg.yielded_of (d := 38) (by rfl) gg)) ?_
        go_simp
        exact hK _ _ rfl (Below.refl _ _)
      · intro o ho f us wl al ha g hf hdep K hKf
        obtain rfl := Option.some.inj ho
        have hB := g.1
        have hK : ∀ v w', RPn n0 c0 a0 xp xh mp mh y 19 v w' → Below wl.heap.size wl w' → K (al.put (some 46) v) w' := fun v w' hv hb => hKf v w' (RPn.put g hb hv)
        have d11 : RPn n0 c0 a0 xp xh mp mh y 11 (us 11) wl := g.2 11 (hdep ⟨11, .data⟩ (by simp) rfl)
        have e38 : al.tmps[38]?.getD undef = us 11 := by rw [← Rg.eval_getD, ha]; exact Rg.puts_eval _ _ _ (by rfl) (by simp) (by simp)
        have d18 : RPn n0 c0 a0 xp xh mp mh y 18 (us 18) wl := g.2 18 (hdep ⟨18, .data⟩ (by simp) rfl)
        have e45 : al.tmps[45]?.getD undef = us 18 := by rw [← Rg.eval_getD, ha]; exact Rg.puts_eval _ _ _ (by rfl) (by simp) (by simp)
        have f11 : us 11 = .bool true := d11
        have f18 : us 18 = .bool true := d18
        have HB := Lib.hid hB
        clear ha hdep g hf hKf d11 d18 hB
        refine Rg.wpOp_of rfl rfl ?_
        go_simp
        exact hK _ _ rfl (Below.refl _ _)
      · intro o ho f us wl al ha g hf hdep K hKf
        obtain rfl := Option.some.inj ho
        have hB := g.1
        have hK : ∀ v w', RPn n0 c0 a0 xp xh mp mh y 20 v w' → Below wl.heap.size wl w' → K (al.put (some 47) v) w' := fun v w' hv hb => hKf v w' (RPn.put g hb hv)
        have d19 : RPn n0 c0 a0 xp xh mp mh y 19 (us 19) wl := g.2 19 (hdep ⟨19, .data⟩ (by simp) rfl)
        have e46 : al.tmps[46]?.getD undef = us 19 := by rw [← Rg.eval_getD, ha]; exact Rg.puts_eval _ _ _ (by rfl) (by simp) (by simp)
        have f19 : us 19 = .bool true := d19
        have HB := Lib.hid hB
        clear ha hdep g hf hKf d19 hB
        refine Rg.wpOp_of rfl rfl ?_
        go_simp
        exact hK _ _ rfl (Below.refl _ _)
      · intro o ho f us wl al ha g hf hdep K hKf
        obtain rfl := Option.some.inj ho
        have hB := g.1
        have hK : ∀ v w', RPn n0 c0 a0 xp xh mp mh y 21 v w' → Below wl.heap.size wl w' → K (al.put (some 48) v) w' := fun v w' hv hb => hKf v w' (RPn.put g hb hv)
        have e8 : al.tmps[8]?.getD undef = .int .i64 120 := by rw [← Rg.eval_getD, ha]; exact (Rg.puts_eval_ne _ _ _ (by rfl)).trans rfl
        have dg : RPn n0 c0 a0 xp xh mp mh y 20 (us 20) wl := g.2 20 (hdep ⟨20, .guard⟩ (by simp) rfl)
        have gg : al.eval (.tmp 47) = .bool true := by rw [ha]; exact (Rg.puts_eval _ _ _ (by rfl) (by simp) (by simp)).trans dg
        have HB := Lib.hid hB
        clear ha hdep g hf hKf hB
        refine Rg.wpOp_of rfl (Rg.wanted_of rfl (Rg.yielded_of (d := 47) (by rfl) gg)) ?_
        go_simp
        exact hK _ _ rfl (Below.refl _ _)
      · intro o ho f us wl al ha g hf hdep K hKf
        obtain rfl := Option.some.inj ho
        have hB := g.1
        have hK : ∀ v w', RPn n0 c0 a0 xp xh mp mh y 22 v w' → Below wl.heap.size wl w' → K (al.put (some 49) v) w' := fun v w' hv hb => hKf v w' (RPn.put g hb hv)
        have d21 : RPn n0 c0 a0 xp xh mp mh y 21 (us 21) wl := g.2 21 (hdep ⟨21, .data⟩ (by simp) rfl)
        have e48 : al.tmps[48]?.getD undef = us 21 := by rw [← Rg.eval_getD, ha]; exact Rg.puts_eval _ _ _ (by rfl) (by simp) (by simp)
        have dg : RPn n0 c0 a0 xp xh mp mh y 20 (us 20) wl := g.2 20 (hdep ⟨20, .guard⟩ (by simp) rfl)
        have gg : al.eval (.tmp 47) = .bool true := by rw [ha]; exact (Rg.puts_eval _ _ _ (by rfl) (by simp) (by simp)).trans dg
        have f21 : us 21 = .int .i64 120 := d21
        have HB := Lib.hid hB
        clear ha hdep g hf hKf d21 hB
        refine Rg.wpOp_of rfl (Rg.wanted_of rfl (Rg.yielded_of (d := 47) (by rfl) gg)) ?_
        go_simp
        exact hK _ _ rfl (Below.refl _ _)
      · intro o ho f us wl al ha g hf hdep K hKf
        obtain rfl := Option.some.inj ho
        have hB := g.1
        have hK : ∀ v w', RPn n0 c0 a0 xp xh mp mh y 23 v w' → Below wl.heap.size wl w' → K (al.put (some 50) v) w' := fun v w' hv hb => hKf v w' (RPn.put g hb hv)
        have d22 : RPn n0 c0 a0 xp xh mp mh y 22 (us 22) wl := g.2 22 (hdep ⟨22, .data⟩ (by simp) rfl)
        have e49 : al.tmps[49]?.getD undef = us 22 := by rw [← Rg.eval_getD, ha]; exact Rg.puts_eval _ _ _ (by rfl) (by simp) (by simp)
        have dg : RPn n0 c0 a0 xp xh mp mh y 20 (us 20) wl := g.2 20 (hdep ⟨20, .guard⟩ (by simp) rfl)
        have gg : al.eval (.tmp 47) = .bool true := by rw [ha]; exact (Rg.puts_eval _ _ _ (by rfl) (by simp) (by simp)).trans dg
        have f22 : us 22 = .bool true := d22
        have HB := Lib.hid hB
        clear ha hdep g hf hKf d22 hB
        refine Rg.wpOp_of rfl (Rg.wanted_of rfl (Rg.yielded_of (d := 47) (by rfl) gg)) ?_
        go_simp
        exact hK _ _ rfl (Below.refl _ _)
      · intro o ho f us wl al ha g hf hdep K hKf
        obtain rfl := Option.some.inj ho
        have hB := g.1
        have hK : ∀ v w', RPn n0 c0 a0 xp xh mp mh y 24 v w' → Below wl.heap.size wl w' → K (al.put (some 51) v) w' := fun v w' hv hb => hKf v w' (RPn.put g hb hv)
        have dg : RPn n0 c0 a0 xp xh mp mh y 23 (us 23) wl := g.2 23 (hdep ⟨23, .guard⟩ (by simp) rfl)
        have gg : al.eval (.tmp 50) = .bool true := by rw [ha]; exact (Rg.puts_eval _ _ _ (by rfl) (by simp) (by simp)).trans dg
        refine Rg.wpOp_off rfl (Rg.unwanted_of (b := false) rfl (Rg.yielded_of (d := 50) (by rfl) gg)) ?_
        exact hK _ _ rfl (Below.refl _ _)
      · intro o ho f us wl al ha g hf hdep K hKf
        obtain rfl := Option.some.inj ho
        have hB := g.1
        have hK : ∀ v w', RPn n0 c0 a0 xp xh mp mh y 25 v w' → Below wl.heap.size wl w' → K (al.put (some 52) v) w' := fun v w' hv hb => hKf v w' (RPn.put g hb hv)
        have dg : RPn n0 c0 a0 xp xh mp mh y 23 (us 23) wl := g.2 23 (hdep ⟨23, .guard⟩ (by simp) rfl)
        have gg : al.eval (.tmp 50) = .bool true := by rw [ha]; exact (Rg.puts_eval _ _ _ (by rfl) (by simp) (by simp)).trans dg
        refine Rg.wpOp_off rfl (Rg.unwanted_of (b := false) rfl (Rg.yielded_of (d := 50) (by rfl) gg)) ?_
        exact hK _ _ rfl (Below.refl _ _)
      · intro o ho f us wl al ha g hf hdep K hKf
        obtain rfl := Option.some.inj ho
        have hB := g.1
        have hK : ∀ v w', RPn n0 c0 a0 xp xh mp mh y 26 v w' → Below wl.heap.size wl w' → K (al.put (some 53) v) w' := fun v w' hv hb => hKf v w' (RPn.put g hb hv)
        have dg : RPn n0 c0 a0 xp xh mp mh y 23 (us 23) wl := g.2 23 (hdep ⟨23, .guard⟩ (by simp) rfl)
        have gg : al.eval (.tmp 50) = .bool true := by rw [ha]; exact (Rg.puts_eval _ _ _ (by rfl) (by simp) (by simp)).trans dg
        refine Rg.wpOp_off rfl (Rg.unwanted_of (b := false) rfl (Rg.yielded_of (d := 50) (by rfl) gg)) ?_
        exact hK _ _ rfl (Below.refl _ _)
      · intro o ho f us wl al ha g hf hdep K hKf
        obtain rfl := Option.some.inj ho
        have hB := g.1
        have hK : ∀ v w', RPn n0 c0 a0 xp xh mp mh y 27 v w' → Below wl.heap.size wl w' → K (al.put (some 54) v) w' := fun v w' hv hb => hKf v w' (RPn.put g hb hv)
        have d23 : RPn n0 c0 a0 xp xh mp mh y 23 (us 23) wl := g.2 23 (hdep ⟨23, .data⟩ (by simp) rfl)
        have e50 : al.tmps[50]?.getD undef = us 23 := by rw [← Rg.eval_getD, ha]; exact Rg.puts_eval _ _ _ (by rfl) (by simp) (by simp)
        have d26 : RPn n0 c0 a0 xp xh mp mh y 26 (us 26) wl := g.2 26 (hdep ⟨26, .data⟩ (by simp) rfl)
        have e53 : al.tmps[53]?.getD undef = us 26 := by rw [← Rg.eval_getD, ha]; exact Rg.puts_eval _ _ _ (by rfl) (by simp) (by simp)
        have dg : RPn n0 c0 a0 xp xh mp mh y 20 (us 20) wl := g.2 20 (hdep ⟨20, .guard⟩ (by simp) rfl)
        have gg : al.eval (.tmp 47) = .bool true := by rw [ha]; exact (Rg.puts_eval _ _ _ (by rfl) (by simp) (by simp)).trans dg
        have f23 : us 23 = .bool true := d23
        have f26 : us 26 = undef := d26
        have HB := Lib.hid hB
        clear ha hdep g hf hKf d23 d26 hB
        refine Rg.wpOp_of rfl (Rg.wanted_of rfl (Rg.yielded_of (d := 47) (by rfl) gg)) ?_
        go_simp
        exact hK _ _ rfl (Below.refl _ _)
      · intro o ho f us wl al ha g hf hdep K hKf
        obtain rfl := Option.some.inj ho
        have hB := g.1
        have hK : ∀ v w', RPn n0 c0 a0 xp xh mp mh y 28 v w' → Below wl.heap.size wl w' → K (al.put (some 55) v) w' := fun v w' hv hb => hKf v w' (RPn.put g hb hv)
        have d20 : RPn n0 c0 a0 xp xh mp mh y 20 (us 20) wl := g.2 20 (hdep ⟨20, .data⟩ (by simp) rfl)
        have e47 : al.tmps[47]?.getD undef = us 20 := by rw [← Rg.eval_getD, ha]; exact Rg.puts_eval _ _ _ (by rfl) (by simp) (by simp)
        have d27 : RPn n0 c0 a0 xp xh mp mh y 27 (us 27) wl := g.2 27 (hdep ⟨27, .data⟩ (by simp) rfl)
        have e54 : al.tmps[54]?.getD undef = us 27 := by rw [← Rg.eval_getD, ha]; exact Rg.puts_eval _ _ _ (by rfl) (by simp) (by simp)
        have f20 : us 20 = .bool true := d20
        have f27 : us 27 = .bool true := d27
        have HB := Lib.hid hB
        clear ha hdep g hf hKf d20 d27 hB
        refine Rg.wpOp_of rfl rfl ?_
        go_simp
        exact hK _ _ rfl (Below.refl _ _)
      · intro o ho f us wl al ha g hf hdep K hKf
        obtain rfl := Option.some.inj ho
        have hB := g.1
        have hK : ∀ v w', RPn n0 c0 a0 xp xh mp mh y 29 v w' → Below wl.heap.size wl w' → K (al.put (some 6) v) w' := fun v w' hv hb => hKf v w' (RPn.put g hb hv)
        have d28 : RPn n0 c0 a0 xp xh mp mh y 28 (us 28) wl := g.2 28 (hdep ⟨28, .data⟩ (by simp) rfl)
        have e55 : al.tmps[55]?.getD undef = us 28 := by rw [← Rg.eval_getD, ha]; exact Rg.puts_eval _ _ _ (by rfl) (by simp) (by simp)
        have f28 : us 28 = .bool true := d28
        have HB := Lib.hid hB
        clear ha hdep g hf hKf d28 hB
        refine Rg.wpOp_of rfl rfl ?_
        go_simp
        exact hK _ _ rfl (Below.refl _ _)
      · intro us wz hB hR
        have fz : us 29 = .bool true := hR 29
        have DZ := Lib.hid (D4.out.trans (hB.mono D4.out.size))
        clear hB hR
        simp only [Rg.puts, Act.put, List.setIfInBounds_toArray, List.set_cons_zero, List.set_cons_succ, fz]
        go_wp2_with fail
        go_ret
        exact ⟨rfl, DZ.out⟩
end Go.Proofs.YtdkaoiomndkbjaaGreatDoor.Me
