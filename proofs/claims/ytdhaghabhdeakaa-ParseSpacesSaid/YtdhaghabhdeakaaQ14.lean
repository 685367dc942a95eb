/- The document's level. The document's Right. -/
import Derived.Test.YtdhaghabhdeakaaQ12
import Derived.OwnWalk
import Derived.Deep.LoopGhost
import Derived.Deep.QuietTactic
import Derived.BigQuiet

namespace Go.Proofs.Ytdhaghabhdeakaa.Pa
open Go Go.RowKit Rw
set_option maxRecDepth 20000

theorem mo_stop {n : Nat} {q : List Kn} {k : Nat} {c g : Got} (h : mo n q k c = some g) (hc : ¬ (c.bad = false ∧ kd q c.next = sg k)) : g = c := by
  cases n with
  | zero => rw [mo] at h; cases h
  | succ n =>
    rw [mo_succ, if_neg hc] at h
    exact (Option.some.inj h).symm
theorem mo_go {n : Nat} {q : List Kn} {k : Nat} {c g : Got} (h : mo n q k c = some g) (hb : c.bad = false) (hc : kd q c.next = sg k) : ∃ n' x, n = n' + 1 ∧ lv n' q (c.next + 1) (k + 1) = some x ∧ mo n' q k (two (sg k) c x) = some g := by
  cases n with
  | zero => rw [mo] at h; cases h
  | succ n =>
    rw [mo_succ, if_pos ⟨hb, hc⟩] at h
    obtain ⟨x, hx, hm⟩ := Option.bind_eq_some_iff.1 h
    exact ⟨n, x, rfl, hx, hm⟩
/-- What the loop holds: what was read so far, in a block of the call's own, its row in another one. -/
structure Lp (W0 : World) (G : Nat) (c : Got) (yv : Value) (wr : World) : Prop where
  bk : Bk wr G yv (.int .i64 (c.next : Int)) (.bool c.bad)
  row : Ap.RdO (fun b => W0.heap.size ≤ b ∧ b ≠ G) wr 3 yv c.L.length (cls c.L)
  bel : Below W0.heap.size W0 wr
theorem Bk.keep {W0 wr : World} {b : Nat} {x y z : Value} (h : Bk W0 b x y z) (hb : Below W0.heap.size W0 wr) : Bk wr b x y z := (hb.block b h.lt).trans h

set_option maxHeartbeats 400000 in
theorem lv_four {f : Nat} {ts : List To.Tk} (ih : PrC f ts) (p : Nat) (g : Got) (w : World) (v : Value) (hp : p ≤ ts.length) (h : lv (f + 1) (tkn ts) p 4 = some g) (hv : To.Tks w v ts) : Calls Try.prog 29 #[v, .int .i64 (p : Int), .int .i64 4] w (GotPost g w) := by
  rw [lv_succ, if_pos rfl] at h
  have B0 := Lib.hid (below1 w gz)
  have IH := Lib.hid (ih p g _ v hp h (hv.below B0.out))
  have K0 := Lib.hid (Bk.new w)
  clear ih h hv
  go_enter Try.func29, Try.ntmps29
  go_wp2_with fail
  refine IH.out.mono ?_
  rintro e w1 ⟨y, rfl, hy, hb⟩
  have HB := Lib.hid (B0.out.trans (hb.mono B0.out.size))
  have K1 := Lib.hid (K0.out.below hb)
  have HY := Lib.hid hy
  obtain ⟨_, ya, yc, rfl, -⟩ := hy
  obtain ⟨d1, d2, d3, d4, d5, d6⟩ := K1.out.cells
  clear hb
  go_wp2_with fail
  exact ret_got rfl rfl (K1.out.put _ _ _) rfl ⟨_, rfl, (rdO_put3 HY.out (fun k hk => Nat.ne_of_gt (Nat.lt_of_lt_of_le K0.out.lt hk))).imp (fun b _ hb' => Nat.le_trans B0.out.size hb'), below_put3 HB.out _ _ _ _ (Nat.le_refl _)⟩

set_option maxHeartbeats 2000000 in
theorem lv_loop0 {f : Nat} {ts : List To.Tk} (hts : ts.length ≤ 1000) (ih : LvC f ts) (p : Nat) (g : Got) (w : World) (v : Value) (hp : p ≤ ts.length) (h : lv (f + 1) (tkn ts) p 0 = some g) (hv : To.Tks w v ts) : Calls Try.prog 29 #[v, .int .i64 (p : Int), .int .i64 0] w (GotPost g w) := by
  rw [lv_succ, if_neg (by decide)] at h
  have IH := Lib.hid ih
  have HV := Lib.hid hv
  have hkind := Lib.hid (fun i w' hv' => kindT_any v ts i w' hv')
  have B0 := Lib.hid (below1 w gz)
  have HV0 := Lib.hid (HV.out.below B0.out)
  have K0 := Lib.hid (Bk.new w)
  obtain ⟨x, hx, hm⟩ := Option.bind_eq_some_iff.1 h
  have IX := Lib.hid (fun w' v' hv' => IH.out p (0 + 1) x w' v' hp (by decide) hx hv')
  obtain ⟨q1, q2, q3⟩ := (few f).1 _ _ _ _ (by rw [tkn_len]; omega) hx
  rw [tkn_len] at q2
  have HM := Lib.hid hm
  obtain ⟨_, a, cap, rfl, -⟩ := hv
  clear ih h hx hm
  go_enter Try.func29, Try.ntmps29
  go_wp2_with fail
  refine (IX.out _ _ HV0.out).mono ?_
  rintro e w1 ⟨y, rfl, hy, hb⟩
  have HS := Lib.hid hb.size
  have HLT0 := Lib.hid K0.out.lt
  have LP0 : Hid (Lp (w.alloc gz) w1.heap.size x y (w1.alloc (.cells #[y, .int .i64 (x.next : Int), .bool x.bad] 49))) := Lib.hid
    ⟨Bk.mk w1 _ _ _, (hy.imp (ok' := fun b => (w.alloc gz).heap.size ≤ b ∧ b ≠ w1.heap.size) (fun b hlt hb' => ⟨hb', Nat.ne_of_lt hlt⟩)).below (below1 w1 _), hb.trans ((below1 w1 _).mono hb.size)⟩
  obtain ⟨_, ya, yc, rfl, -⟩ := hy
  clear hb
  go_wp2_with fail
  go_loopg [] f (fun n wr => ∃ (c : Got) (yv : Value), Hid (mo n (tkn ts) 0 c = some g) ∧ n ≤ f ∧ c.next ≤ ts.length ∧ c.L.length ≤ 3 * c.next ∧ Hid (Lp (w.alloc gz) w1.heap.size c yv wr))
  case atStart => exact ⟨x, _, HM, Nat.le_refl _, q2, by omega, LP0⟩
  case round =>
    obtain ⟨c, yv, HC, hn, hcn, hcl, HL⟩ := hrel
    have HVr := Lib.hid (HV0.out.below HL.out.bel)
    have KR := Lib.hid (K0.out.keep HL.out.bel)
    obtain ⟨f1, f2, f3, f4, f5, f6⟩ := HL.out.bk.cells
    obtain ⟨kk, hkk⟩ : ∃ kk, kd (tkn ts) c.next = kk := ⟨_, rfl⟩
    have HKK := Lib.hid hkk
    cases hcb : c.bad with
    | true =>
      have hg : g = c := mo_stop HC.out (by rw [hcb]; simp)
      subst hg
      rw [hcb] at f3
      have HCB := Lib.hid hcb
      have HY := Lib.hid HL.out.row
      have BB := Lib.hid (B0.out.trans (HL.out.bel.mono B0.out.size))
      obtain ⟨_, ya2, yc2, rfl, -⟩ := HL.out.row
      obtain ⟨d1, d2, d3, d4, d5, d6⟩ := KR.out.cells
      clear hcb hkk
      go_wp2_with fail
      refine ret_got rfl rfl (KR.out.put _ _ _) rfl ⟨_, by rw [HCB.out], (rdO_put3 HY.out (fun k hk => Nat.ne_of_gt (Nat.lt_of_lt_of_le HLT0.out hk.1))).imp (fun b _ hb' => Nat.le_trans B0.out.size hb'.1), below_put3 BB.out _ _ _ _ (Nat.le_refl _)⟩
    | false =>
      rw [hcb] at f3
      by_cases hks : kk = 7
      · obtain ⟨n', x2, rfl, hx2, hm2⟩ := mo_go HC.out hcb (hkk.trans (by rw [hks]; rfl))
        have hlt : c.next < ts.length := by
          apply Nat.lt_of_not_le
          intro hle
          rw [kd_out (by rw [tkn_len]; exact hle)] at hkk
          omega
        obtain ⟨r1, r2, r3⟩ := (few n').1 _ _ _ _ (by rw [tkn_len]; omega) hx2
        rw [tkn_len] at r2
        have IX2 := Lib.hid (fun w' v' hv' => IH.out (c.next + 1) (0 + 1) x2 w' v' (by omega) (by decide) (by have := lv_more hx2 (f - n'); rwa [show n' + (f - n') = f by omega] at this) hv')
        have HM2 := Lib.hid hm2
        have HY := Lib.hid HL.out.row
        have HBL := Lib.hid HL.out.bel
        have HBK := Lib.hid HL.out.bk
        rw [hcb] at HBK
        obtain ⟨_, ya2, yc2, rfl, -⟩ := HL.out.row
        subst hks
        clear hcb hkk hx2 hm2
        go_wp2_with fail
        refine (hkind.out c.next _ HVr.out).mono ?_
        rw [HKK.out]
        rintro e w' ⟨rfl, rfl⟩
        go_wp2_with fail
        refine (IX2.out _ _ HVr.out).mono ?_
        rintro e w3 ⟨yz, rfl, hyz, hb3⟩
        have HS3 := Lib.hid hb3.size
        have HLTG := Lib.hid HBK.out.lt
        have BK3 := Lib.hid (HBK.out.below hb3)
        have HY3 := Lib.hid (HY.out.below hb3)
        have HZ := Lib.hid hyz
        have BL3 := Lib.hid (HBL.out.trans (hb3.mono HBL.out.size))
        obtain ⟨_, za, zc, rfl, -⟩ := hyz
        have B4 := Lib.hid (below1 w3 (.cells #[.slice za x2.L.length zc, .int .i64 (x2.next : Int), .bool x2.bad] 49))
        have KH := Lib.hid (Bk.mk w3 (.slice za x2.L.length zc) (.int .i64 (x2.next : Int)) (.bool x2.bad))
        have BK4 := Lib.hid (BK3.out.below B4.out)
        have HY4 := Lib.hid (HY3.out.below B4.out)
        have HZ4 := Lib.hid (HZ.out.below B4.out)
        have BL4 := Lib.hid (BL3.out.trans (B4.out.mono BL3.out.size))
        clear f1 f2 f3 f4 f5 f6 hb3
        obtain ⟨f1, f2, f3, f4, f5, f6⟩ := BK4.out.cells
        obtain ⟨g1, g2, g3, g4, g5, g6⟩ := KH.out.cells
        go_wp2_with fail
        refine (twoR_own (nOf 7) _ _ c.L x2.L _ HY4.out.rd HZ4.out.rd (by omega) (by omega)).mono ?_
        rintro e w5 ⟨u, rfl, hu, hb5⟩
        obtain ⟨N, hN⟩ : ∃ N, (nOf 7 :: (c.L ++ x2.L)).length = N := ⟨_, rfl⟩
        rw [hN] at hu
        have HNN := Lib.hid hN
        have hNl : N = c.L.length + x2.L.length + 1 := by rw [← hN]; simp
        have HNL := Lib.hid hNl
        clear hN hNl
        have HU := Lib.hid ((Ap.RdO.fresh hu).imp (ok' := fun b => w3.heap.size + 1 ≤ b) fun b _ hb' => by simpa using hb')
        have KH5 := Lib.hid (KH.out.below hb5)
        have BK5 := Lib.hid (BK4.out.below hb5)
        have BL5 := Lib.hid (BL4.out.trans (hb5.mono BL4.out.size))
        have hlt3 : w1.heap.size < w3.heap.size := BK3.out.lt
        have hls : (w.alloc gz).heap.size ≤ w1.heap.size := HS.out
        have BK6 : Hid (Bk (w5.setCell ⟨w3.heap.size, 0, none⟩ u) w1.heap.size _ _ _) := Lib.hid ((heap_set w5 w3.heap.size 0 u w1.heap.size (by omega)).trans BK5.out)
        have HU6 := Lib.hid (rdO_set (g := w3.heap.size) (o := 0) (x := u) HU.out (fun k hk => by omega))
        have BL6 := Lib.hid (below_set BL5.out w3.heap.size 0 u (by omega))
        have LP6 : Hid (Lp (w.alloc gz) w1.heap.size (two 7 c x2) u (put3 (w5.setCell ⟨w3.heap.size, 0, none⟩ u) w1.heap.size u (.int .i64 (x2.next : Int)) (.bool x2.bad))) := Lib.hid
          ⟨BK6.out.put _ _ _, by rw [show (two 7 c x2).L.length = N from HNN.out]; exact (rdO_put3 HU6.out (fun k hk => by omega)).imp (fun b _ hb' => ⟨by omega, by omega⟩), below_put3 BL6.out _ _ _ _ hls⟩
        obtain ⟨_, ua, uc, rfl, -⟩ := HU.out
        clear f1 f2 f3 f4 f5 f6 g1 g2 g3 g4 g5 g6
        obtain ⟨f1, f2, f3, f4, f5, f6⟩ := BK5.out.cells
        obtain ⟨g1, g2, g3, g4, g5, g6⟩ := KH5.out.cells
        clear hu hb5
        go_wp2_with fail
        go_roundg n'
        case measure => omega
        case rel => exact ⟨two 7 c x2, _, HM2, by omega, r2, by rw [show (two 7 c x2).L.length = N from HNN.out, HNL.out]; show c.L.length + x2.L.length + 1 ≤ 3 * x2.next; omega, LP6⟩
      · have hg : g = c := mo_stop HC.out (fun hc => hks (hkk.symm.trans (hc.2.trans rfl)))
        subst hg
        have gk : (kk == 7) = false := by rw [beq_eq_false_iff_ne]; exact hks
        have HCB := Lib.hid hcb
        have HY := Lib.hid HL.out.row
        have BB := Lib.hid (B0.out.trans (HL.out.bel.mono B0.out.size))
        obtain ⟨_, ya2, yc2, rfl, -⟩ := HL.out.row
        obtain ⟨d1, d2, d3, d4, d5, d6⟩ := KR.out.cells
        clear hcb hkk hks
        go_wp2_with fail
        refine (hkind.out g.next _ HVr.out).mono ?_
        rw [HKK.out]
        rintro e w' ⟨rfl, rfl⟩
        go_wp2_with fail
        refine ret_got rfl rfl (KR.out.put _ _ _) rfl ⟨_, by rw [HCB.out], (rdO_put3 HY.out (fun k hk => Nat.ne_of_gt (Nat.lt_of_lt_of_le HLT0.out hk.1))).imp (fun b _ hb' => Nat.le_trans B0.out.size hb'.1), below_put3 BB.out _ _ _ _ (Nat.le_refl _)⟩

set_option maxHeartbeats 2000000 in
theorem lv_loop1 {f : Nat} {ts : List To.Tk} (hts : ts.length ≤ 1000) (ih : LvC f ts) (p : Nat) (g : Got) (w : World) (v : Value) (hp : p ≤ ts.length) (h : lv (f + 1) (tkn ts) p 1 = some g) (hv : To.Tks w v ts) : Calls Try.prog 29 #[v, .int .i64 (p : Int), .int .i64 1] w (GotPost g w) := by
  rw [lv_succ, if_neg (by decide)] at h
  have IH := Lib.hid ih
  have HV := Lib.hid hv
  have hkind := Lib.hid (fun i w' hv' => kindT_any v ts i w' hv')
  have B0 := Lib.hid (below1 w gz)
  have HV0 := Lib.hid (HV.out.below B0.out)
  have K0 := Lib.hid (Bk.new w)
  obtain ⟨x, hx, hm⟩ := Option.bind_eq_some_iff.1 h
  have IX := Lib.hid (fun w' v' hv' => IH.out p (1 + 1) x w' v' hp (by decide) hx hv')
  obtain ⟨q1, q2, q3⟩ := (few f).1 _ _ _ _ (by rw [tkn_len]; omega) hx
  rw [tkn_len] at q2
  have HM := Lib.hid hm
  obtain ⟨_, a, cap, rfl, -⟩ := hv
  clear ih h hx hm
  go_enter Try.func29, Try.ntmps29
  go_wp2_with fail
  refine (IX.out _ _ HV0.out).mono ?_
  rintro e w1 ⟨y, rfl, hy, hb⟩
  have HS := Lib.hid hb.size
  have HLT0 := Lib.hid K0.out.lt
  have LP0 : Hid (Lp (w.alloc gz) w1.heap.size x y (w1.alloc (.cells #[y, .int .i64 (x.next : Int), .bool x.bad] 49))) := Lib.hid
    ⟨Bk.mk w1 _ _ _, (hy.imp (ok' := fun b => (w.alloc gz).heap.size ≤ b ∧ b ≠ w1.heap.size) (fun b hlt hb' => ⟨hb', Nat.ne_of_lt hlt⟩)).below (below1 w1 _), hb.trans ((below1 w1 _).mono hb.size)⟩
  obtain ⟨_, ya, yc, rfl, -⟩ := hy
  clear hb
  go_wp2_with fail
  go_loopg [] f (fun n wr => ∃ (c : Got) (yv : Value), Hid (mo n (tkn ts) 1 c = some g) ∧ n ≤ f ∧ c.next ≤ ts.length ∧ c.L.length ≤ 3 * c.next ∧ Hid (Lp (w.alloc gz) w1.heap.size c yv wr))
  case atStart => exact ⟨x, _, HM, Nat.le_refl _, q2, by omega, LP0⟩
  case round =>
    obtain ⟨c, yv, HC, hn, hcn, hcl, HL⟩ := hrel
    have HVr := Lib.hid (HV0.out.below HL.out.bel)
    have KR := Lib.hid (K0.out.keep HL.out.bel)
    obtain ⟨f1, f2, f3, f4, f5, f6⟩ := HL.out.bk.cells
    obtain ⟨kk, hkk⟩ : ∃ kk, kd (tkn ts) c.next = kk := ⟨_, rfl⟩
    have HKK := Lib.hid hkk
    cases hcb : c.bad with
    | true =>
      have hg : g = c := mo_stop HC.out (by rw [hcb]; simp)
      subst hg
      rw [hcb] at f3
      have HCB := Lib.hid hcb
      have HY := Lib.hid HL.out.row
      have BB := Lib.hid (B0.out.trans (HL.out.bel.mono B0.out.size))
      obtain ⟨_, ya2, yc2, rfl, -⟩ := HL.out.row
      obtain ⟨d1, d2, d3, d4, d5, d6⟩ := KR.out.cells
      clear hcb hkk
      go_wp2_with fail
      refine ret_got rfl rfl (KR.out.put _ _ _) rfl ⟨_, by rw [HCB.out], (rdO_put3 HY.out (fun k hk => Nat.ne_of_gt (Nat.lt_of_lt_of_le HLT0.out hk.1))).imp (fun b _ hb' => Nat.le_trans B0.out.size hb'.1), below_put3 BB.out _ _ _ _ (Nat.le_refl _)⟩
    | false =>
      rw [hcb] at f3
      by_cases hks : kk = 6
      · obtain ⟨n', x2, rfl, hx2, hm2⟩ := mo_go HC.out hcb (hkk.trans (by rw [hks]; rfl))
        have hlt : c.next < ts.length := by
          apply Nat.lt_of_not_le
          intro hle
          rw [kd_out (by rw [tkn_len]; exact hle)] at hkk
          omega
        obtain ⟨r1, r2, r3⟩ := (few n').1 _ _ _ _ (by rw [tkn_len]; omega) hx2
        rw [tkn_len] at r2
        have IX2 := Lib.hid (fun w' v' hv' => IH.out (c.next + 1) (1 + 1) x2 w' v' (by omega) (by decide) (by have := lv_more hx2 (f - n'); rwa [show n' + (f - n') = f by omega] at this) hv')
        have HM2 := Lib.hid hm2
        have HY := Lib.hid HL.out.row
        have HBL := Lib.hid HL.out.bel
        have HBK := Lib.hid HL.out.bk
        rw [hcb] at HBK
        obtain ⟨_, ya2, yc2, rfl, -⟩ := HL.out.row
        subst hks
        clear hcb hkk hx2 hm2
        go_wp2_with fail
        refine (hkind.out c.next _ HVr.out).mono ?_
        rw [HKK.out]
        rintro e w' ⟨rfl, rfl⟩
        go_wp2_with fail
        refine (IX2.out _ _ HVr.out).mono ?_
        rintro e w3 ⟨yz, rfl, hyz, hb3⟩
        have HS3 := Lib.hid hb3.size
        have HLTG := Lib.hid HBK.out.lt
        have BK3 := Lib.hid (HBK.out.below hb3)
        have HY3 := Lib.hid (HY.out.below hb3)
        have HZ := Lib.hid hyz
        have BL3 := Lib.hid (HBL.out.trans (hb3.mono HBL.out.size))
        obtain ⟨_, za, zc, rfl, -⟩ := hyz
        have B4 := Lib.hid (below1 w3 (.cells #[.slice za x2.L.length zc, .int .i64 (x2.next : Int), .bool x2.bad] 49))
        have KH := Lib.hid (Bk.mk w3 (.slice za x2.L.length zc) (.int .i64 (x2.next : Int)) (.bool x2.bad))
        have BK4 := Lib.hid (BK3.out.below B4.out)
        have HY4 := Lib.hid (HY3.out.below B4.out)
        have HZ4 := Lib.hid (HZ.out.below B4.out)
        have BL4 := Lib.hid (BL3.out.trans (B4.out.mono BL3.out.size))
        clear f1 f2 f3 f4 f5 f6 hb3
        obtain ⟨f1, f2, f3, f4, f5, f6⟩ := BK4.out.cells
        obtain ⟨g1, g2, g3, g4, g5, g6⟩ := KH.out.cells
        go_wp2_with fail
        refine (twoR_own (nOf 6) _ _ c.L x2.L _ HY4.out.rd HZ4.out.rd (by omega) (by omega)).mono ?_
        rintro e w5 ⟨u, rfl, hu, hb5⟩
        obtain ⟨N, hN⟩ : ∃ N, (nOf 6 :: (c.L ++ x2.L)).length = N := ⟨_, rfl⟩
        rw [hN] at hu
        have HNN := Lib.hid hN
        have hNl : N = c.L.length + x2.L.length + 1 := by rw [← hN]; simp
        have HNL := Lib.hid hNl
        clear hN hNl
        have HU := Lib.hid ((Ap.RdO.fresh hu).imp (ok' := fun b => w3.heap.size + 1 ≤ b) fun b _ hb' => by simpa using hb')
        have KH5 := Lib.hid (KH.out.below hb5)
        have BK5 := Lib.hid (BK4.out.below hb5)
        have BL5 := Lib.hid (BL4.out.trans (hb5.mono BL4.out.size))
        have hlt3 : w1.heap.size < w3.heap.size := BK3.out.lt
        have hls : (w.alloc gz).heap.size ≤ w1.heap.size := HS.out
        have BK6 : Hid (Bk (w5.setCell ⟨w3.heap.size, 0, none⟩ u) w1.heap.size _ _ _) := Lib.hid ((heap_set w5 w3.heap.size 0 u w1.heap.size (by omega)).trans BK5.out)
        have HU6 := Lib.hid (rdO_set (g := w3.heap.size) (o := 0) (x := u) HU.out (fun k hk => by omega))
        have BL6 := Lib.hid (below_set BL5.out w3.heap.size 0 u (by omega))
        have LP6 : Hid (Lp (w.alloc gz) w1.heap.size (two 6 c x2) u (put3 (w5.setCell ⟨w3.heap.size, 0, none⟩ u) w1.heap.size u (.int .i64 (x2.next : Int)) (.bool x2.bad))) := Lib.hid
          ⟨BK6.out.put _ _ _, by rw [show (two 6 c x2).L.length = N from HNN.out]; exact (rdO_put3 HU6.out (fun k hk => by omega)).imp (fun b _ hb' => ⟨by omega, by omega⟩), below_put3 BL6.out _ _ _ _ hls⟩
        obtain ⟨_, ua, uc, rfl, -⟩ := HU.out
        clear f1 f2 f3 f4 f5 f6 g1 g2 g3 g4 g5 g6
        obtain ⟨f1, f2, f3, f4, f5, f6⟩ := BK5.out.cells
        obtain ⟨g1, g2, g3, g4, g5, g6⟩ := KH5.out.cells
        clear hu hb5
        go_wp2_with fail
        go_roundg n'
        case measure => omega
        case rel => exact ⟨two 6 c x2, _, HM2, by omega, r2, by rw [show (two 6 c x2).L.length = N from HNN.out, HNL.out]; show c.L.length + x2.L.length + 1 ≤ 3 * x2.next; omega, LP6⟩
      · have hg : g = c := mo_stop HC.out (fun hc => hks (hkk.symm.trans (hc.2.trans rfl)))
        subst hg
        have gk : (kk == 6) = false := by rw [beq_eq_false_iff_ne]; exact hks
        have HCB := Lib.hid hcb
        have HY := Lib.hid HL.out.row
        have BB := Lib.hid (B0.out.trans (HL.out.bel.mono B0.out.size))
        obtain ⟨_, ya2, yc2, rfl, -⟩ := HL.out.row
        obtain ⟨d1, d2, d3, d4, d5, d6⟩ := KR.out.cells
        clear hcb hkk hks
        go_wp2_with fail
        refine (hkind.out g.next _ HVr.out).mono ?_
        rw [HKK.out]
        rintro e w' ⟨rfl, rfl⟩
        go_wp2_with fail
        refine ret_got rfl rfl (KR.out.put _ _ _) rfl ⟨_, by rw [HCB.out], (rdO_put3 HY.out (fun k hk => Nat.ne_of_gt (Nat.lt_of_lt_of_le HLT0.out hk.1))).imp (fun b _ hb' => Nat.le_trans B0.out.size hb'.1), below_put3 BB.out _ _ _ _ (Nat.le_refl _)⟩

set_option maxHeartbeats 2000000 in
theorem lv_loop2 {f : Nat} {ts : List To.Tk} (hts : ts.length ≤ 1000) (ih : LvC f ts) (p : Nat) (g : Got) (w : World) (v : Value) (hp : p ≤ ts.length) (h : lv (f + 1) (tkn ts) p 2 = some g) (hv : To.Tks w v ts) : Calls Try.prog 29 #[v, .int .i64 (p : Int), .int .i64 2] w (GotPost g w) := by
  rw [lv_succ, if_neg (by decide)] at h
  have IH := Lib.hid ih
  have HV := Lib.hid hv
  have hkind := Lib.hid (fun i w' hv' => kindT_any v ts i w' hv')
  have B0 := Lib.hid (below1 w gz)
  have HV0 := Lib.hid (HV.out.below B0.out)
  have K0 := Lib.hid (Bk.new w)
  obtain ⟨x, hx, hm⟩ := Option.bind_eq_some_iff.1 h
  have IX := Lib.hid (fun w' v' hv' => IH.out p (2 + 1) x w' v' hp (by decide) hx hv')
  obtain ⟨q1, q2, q3⟩ := (few f).1 _ _ _ _ (by rw [tkn_len]; omega) hx
  rw [tkn_len] at q2
  have HM := Lib.hid hm
  obtain ⟨_, a, cap, rfl, -⟩ := hv
  clear ih h hx hm
  go_enter Try.func29, Try.ntmps29
  go_wp2_with fail
  refine (IX.out _ _ HV0.out).mono ?_
  rintro e w1 ⟨y, rfl, hy, hb⟩
  have HS := Lib.hid hb.size
  have HLT0 := Lib.hid K0.out.lt
  have LP0 : Hid (Lp (w.alloc gz) w1.heap.size x y (w1.alloc (.cells #[y, .int .i64 (x.next : Int), .bool x.bad] 49))) := Lib.hid
    ⟨Bk.mk w1 _ _ _, (hy.imp (ok' := fun b => (w.alloc gz).heap.size ≤ b ∧ b ≠ w1.heap.size) (fun b hlt hb' => ⟨hb', Nat.ne_of_lt hlt⟩)).below (below1 w1 _), hb.trans ((below1 w1 _).mono hb.size)⟩
  obtain ⟨_, ya, yc, rfl, -⟩ := hy
  clear hb
  go_wp2_with fail
  go_loopg [] f (fun n wr => ∃ (c : Got) (yv : Value), Hid (mo n (tkn ts) 2 c = some g) ∧ n ≤ f ∧ c.next ≤ ts.length ∧ c.L.length ≤ 3 * c.next ∧ Hid (Lp (w.alloc gz) w1.heap.size c yv wr))
  case atStart => exact ⟨x, _, HM, Nat.le_refl _, q2, by omega, LP0⟩
  case round =>
    obtain ⟨c, yv, HC, hn, hcn, hcl, HL⟩ := hrel
    have HVr := Lib.hid (HV0.out.below HL.out.bel)
    have KR := Lib.hid (K0.out.keep HL.out.bel)
    obtain ⟨f1, f2, f3, f4, f5, f6⟩ := HL.out.bk.cells
    obtain ⟨kk, hkk⟩ : ∃ kk, kd (tkn ts) c.next = kk := ⟨_, rfl⟩
    have HKK := Lib.hid hkk
    cases hcb : c.bad with
    | true =>
      have hg : g = c := mo_stop HC.out (by rw [hcb]; simp)
      subst hg
      rw [hcb] at f3
      have HCB := Lib.hid hcb
      have HY := Lib.hid HL.out.row
      have BB := Lib.hid (B0.out.trans (HL.out.bel.mono B0.out.size))
      obtain ⟨_, ya2, yc2, rfl, -⟩ := HL.out.row
      obtain ⟨d1, d2, d3, d4, d5, d6⟩ := KR.out.cells
      clear hcb hkk
      go_wp2_with fail
      refine ret_got rfl rfl (KR.out.put _ _ _) rfl ⟨_, by rw [HCB.out], (rdO_put3 HY.out (fun k hk => Nat.ne_of_gt (Nat.lt_of_lt_of_le HLT0.out hk.1))).imp (fun b _ hb' => Nat.le_trans B0.out.size hb'.1), below_put3 BB.out _ _ _ _ (Nat.le_refl _)⟩
    | false =>
      rw [hcb] at f3
      by_cases hks : kk = 8
      · obtain ⟨n', x2, rfl, hx2, hm2⟩ := mo_go HC.out hcb (hkk.trans (by rw [hks]; rfl))
        have hlt : c.next < ts.length := by
          apply Nat.lt_of_not_le
          intro hle
          rw [kd_out (by rw [tkn_len]; exact hle)] at hkk
          omega
        obtain ⟨r1, r2, r3⟩ := (few n').1 _ _ _ _ (by rw [tkn_len]; omega) hx2
        rw [tkn_len] at r2
        have IX2 := Lib.hid (fun w' v' hv' => IH.out (c.next + 1) (2 + 1) x2 w' v' (by omega) (by decide) (by have := lv_more hx2 (f - n'); rwa [show n' + (f - n') = f by omega] at this) hv')
        have HM2 := Lib.hid hm2
        have HY := Lib.hid HL.out.row
        have HBL := Lib.hid HL.out.bel
        have HBK := Lib.hid HL.out.bk
        rw [hcb] at HBK
        obtain ⟨_, ya2, yc2, rfl, -⟩ := HL.out.row
        subst hks
        clear hcb hkk hx2 hm2
        go_wp2_with fail
        refine (hkind.out c.next _ HVr.out).mono ?_
        rw [HKK.out]
        rintro e w' ⟨rfl, rfl⟩
        go_wp2_with fail
        refine (IX2.out _ _ HVr.out).mono ?_
        rintro e w3 ⟨yz, rfl, hyz, hb3⟩
        have HS3 := Lib.hid hb3.size
        have HLTG := Lib.hid HBK.out.lt
        have BK3 := Lib.hid (HBK.out.below hb3)
        have HY3 := Lib.hid (HY.out.below hb3)
        have HZ := Lib.hid hyz
        have BL3 := Lib.hid (HBL.out.trans (hb3.mono HBL.out.size))
        obtain ⟨_, za, zc, rfl, -⟩ := hyz
        have B4 := Lib.hid (below1 w3 (.cells #[.slice za x2.L.length zc, .int .i64 (x2.next : Int), .bool x2.bad] 49))
        have KH := Lib.hid (Bk.mk w3 (.slice za x2.L.length zc) (.int .i64 (x2.next : Int)) (.bool x2.bad))
        have BK4 := Lib.hid (BK3.out.below B4.out)
        have HY4 := Lib.hid (HY3.out.below B4.out)
        have HZ4 := Lib.hid (HZ.out.below B4.out)
        have BL4 := Lib.hid (BL3.out.trans (B4.out.mono BL3.out.size))
        clear f1 f2 f3 f4 f5 f6 hb3
        obtain ⟨f1, f2, f3, f4, f5, f6⟩ := BK4.out.cells
        obtain ⟨g1, g2, g3, g4, g5, g6⟩ := KH.out.cells
        go_wp2_with fail
        refine (twoR_own (nOf 8) _ _ c.L x2.L _ HY4.out.rd HZ4.out.rd (by omega) (by omega)).mono ?_
        rintro e w5 ⟨u, rfl, hu, hb5⟩
        obtain ⟨N, hN⟩ : ∃ N, (nOf 8 :: (c.L ++ x2.L)).length = N := ⟨_, rfl⟩
        rw [hN] at hu
        have HNN := Lib.hid hN
        have hNl : N = c.L.length + x2.L.length + 1 := by rw [← hN]; simp
        have HNL := Lib.hid hNl
        clear hN hNl
        have HU := Lib.hid ((Ap.RdO.fresh hu).imp (ok' := fun b => w3.heap.size + 1 ≤ b) fun b _ hb' => by simpa using hb')
        have KH5 := Lib.hid (KH.out.below hb5)
        have BK5 := Lib.hid (BK4.out.below hb5)
        have BL5 := Lib.hid (BL4.out.trans (hb5.mono BL4.out.size))
        have hlt3 : w1.heap.size < w3.heap.size := BK3.out.lt
        have hls : (w.alloc gz).heap.size ≤ w1.heap.size := HS.out
        have BK6 : Hid (Bk (w5.setCell ⟨w3.heap.size, 0, none⟩ u) w1.heap.size _ _ _) := Lib.hid ((heap_set w5 w3.heap.size 0 u w1.heap.size (by omega)).trans BK5.out)
        have HU6 := Lib.hid (rdO_set (g := w3.heap.size) (o := 0) (x := u) HU.out (fun k hk => by omega))
        have BL6 := Lib.hid (below_set BL5.out w3.heap.size 0 u (by omega))
        have LP6 : Hid (Lp (w.alloc gz) w1.heap.size (two 8 c x2) u (put3 (w5.setCell ⟨w3.heap.size, 0, none⟩ u) w1.heap.size u (.int .i64 (x2.next : Int)) (.bool x2.bad))) := Lib.hid
          ⟨BK6.out.put _ _ _, by rw [show (two 8 c x2).L.length = N from HNN.out]; exact (rdO_put3 HU6.out (fun k hk => by omega)).imp (fun b _ hb' => ⟨by omega, by omega⟩), below_put3 BL6.out _ _ _ _ hls⟩
        obtain ⟨_, ua, uc, rfl, -⟩ := HU.out
        clear f1 f2 f3 f4 f5 f6 g1 g2 g3 g4 g5 g6
        obtain ⟨f1, f2, f3, f4, f5, f6⟩ := BK5.out.cells
        obtain ⟨g1, g2, g3, g4, g5, g6⟩ := KH5.out.cells
        clear hu hb5
        go_wp2_with fail
        go_roundg n'
        case measure => omega
        case rel => exact ⟨two 8 c x2, _, HM2, by omega, r2, by rw [show (two 8 c x2).L.length = N from HNN.out, HNL.out]; show c.L.length + x2.L.length + 1 ≤ 3 * x2.next; omega, LP6⟩
      · have hg : g = c := mo_stop HC.out (fun hc => hks (hkk.symm.trans (hc.2.trans rfl)))
        subst hg
        have gk : (kk == 8) = false := by rw [beq_eq_false_iff_ne]; exact hks
        have HCB := Lib.hid hcb
        have HY := Lib.hid HL.out.row
        have BB := Lib.hid (B0.out.trans (HL.out.bel.mono B0.out.size))
        obtain ⟨_, ya2, yc2, rfl, -⟩ := HL.out.row
        obtain ⟨d1, d2, d3, d4, d5, d6⟩ := KR.out.cells
        clear hcb hkk hks
        go_wp2_with fail
        refine (hkind.out g.next _ HVr.out).mono ?_
        rw [HKK.out]
        rintro e w' ⟨rfl, rfl⟩
        go_wp2_with fail
        refine ret_got rfl rfl (KR.out.put _ _ _) rfl ⟨_, by rw [HCB.out], (rdO_put3 HY.out (fun k hk => Nat.ne_of_gt (Nat.lt_of_lt_of_le HLT0.out hk.1))).imp (fun b _ hb' => Nat.le_trans B0.out.size hb'.1), below_put3 BB.out _ _ _ _ (Nat.le_refl _)⟩

set_option maxHeartbeats 2000000 in
theorem lv_loop3 {f : Nat} {ts : List To.Tk} (hts : ts.length ≤ 1000) (ih : LvC f ts) (p : Nat) (g : Got) (w : World) (v : Value) (hp : p ≤ ts.length) (h : lv (f + 1) (tkn ts) p 3 = some g) (hv : To.Tks w v ts) : Calls Try.prog 29 #[v, .int .i64 (p : Int), .int .i64 3] w (GotPost g w) := by
  rw [lv_succ, if_neg (by decide)] at h
  have IH := Lib.hid ih
  have HV := Lib.hid hv
  have hkind := Lib.hid (fun i w' hv' => kindT_any v ts i w' hv')
  have B0 := Lib.hid (below1 w gz)
  have HV0 := Lib.hid (HV.out.below B0.out)
  have K0 := Lib.hid (Bk.new w)
  obtain ⟨x, hx, hm⟩ := Option.bind_eq_some_iff.1 h
  have IX := Lib.hid (fun w' v' hv' => IH.out p (3 + 1) x w' v' hp (by decide) hx hv')
  obtain ⟨q1, q2, q3⟩ := (few f).1 _ _ _ _ (by rw [tkn_len]; omega) hx
  rw [tkn_len] at q2
  have HM := Lib.hid hm
  obtain ⟨_, a, cap, rfl, -⟩ := hv
  clear ih h hx hm
  go_enter Try.func29, Try.ntmps29
  go_wp2_with fail
  refine (IX.out _ _ HV0.out).mono ?_
  rintro e w1 ⟨y, rfl, hy, hb⟩
  have HS := Lib.hid hb.size
  have HLT0 := Lib.hid K0.out.lt
  have LP0 : Hid (Lp (w.alloc gz) w1.heap.size x y (w1.alloc (.cells #[y, .int .i64 (x.next : Int), .bool x.bad] 49))) := Lib.hid
    ⟨Bk.mk w1 _ _ _, (hy.imp (ok' := fun b => (w.alloc gz).heap.size ≤ b ∧ b ≠ w1.heap.size) (fun b hlt hb' => ⟨hb', Nat.ne_of_lt hlt⟩)).below (below1 w1 _), hb.trans ((below1 w1 _).mono hb.size)⟩
  obtain ⟨_, ya, yc, rfl, -⟩ := hy
  clear hb
  go_wp2_with fail
  go_loopg [] f (fun n wr => ∃ (c : Got) (yv : Value), Hid (mo n (tkn ts) 3 c = some g) ∧ n ≤ f ∧ c.next ≤ ts.length ∧ c.L.length ≤ 3 * c.next ∧ Hid (Lp (w.alloc gz) w1.heap.size c yv wr))
  case atStart => exact ⟨x, _, HM, Nat.le_refl _, q2, by omega, LP0⟩
  case round =>
    obtain ⟨c, yv, HC, hn, hcn, hcl, HL⟩ := hrel
    have HVr := Lib.hid (HV0.out.below HL.out.bel)
    have KR := Lib.hid (K0.out.keep HL.out.bel)
    obtain ⟨f1, f2, f3, f4, f5, f6⟩ := HL.out.bk.cells
    obtain ⟨kk, hkk⟩ : ∃ kk, kd (tkn ts) c.next = kk := ⟨_, rfl⟩
    have HKK := Lib.hid hkk
    cases hcb : c.bad with
    | true =>
      have hg : g = c := mo_stop HC.out (by rw [hcb]; simp)
      subst hg
      rw [hcb] at f3
      have HCB := Lib.hid hcb
      have HY := Lib.hid HL.out.row
      have BB := Lib.hid (B0.out.trans (HL.out.bel.mono B0.out.size))
      obtain ⟨_, ya2, yc2, rfl, -⟩ := HL.out.row
      obtain ⟨d1, d2, d3, d4, d5, d6⟩ := KR.out.cells
      clear hcb hkk
      go_wp2_with fail
      refine ret_got rfl rfl (KR.out.put _ _ _) rfl ⟨_, by rw [HCB.out], (rdO_put3 HY.out (fun k hk => Nat.ne_of_gt (Nat.lt_of_lt_of_le HLT0.out hk.1))).imp (fun b _ hb' => Nat.le_trans B0.out.size hb'.1), below_put3 BB.out _ _ _ _ (Nat.le_refl _)⟩
    | false =>
      rw [hcb] at f3
      by_cases hks : kk = 5
      · obtain ⟨n', x2, rfl, hx2, hm2⟩ := mo_go HC.out hcb (hkk.trans (by rw [hks]; rfl))
        have hlt : c.next < ts.length := by
          apply Nat.lt_of_not_le
          intro hle
          rw [kd_out (by rw [tkn_len]; exact hle)] at hkk
          omega
        obtain ⟨r1, r2, r3⟩ := (few n').1 _ _ _ _ (by rw [tkn_len]; omega) hx2
        rw [tkn_len] at r2
        have IX2 := Lib.hid (fun w' v' hv' => IH.out (c.next + 1) (3 + 1) x2 w' v' (by omega) (by decide) (by have := lv_more hx2 (f - n'); rwa [show n' + (f - n') = f by omega] at this) hv')
        have HM2 := Lib.hid hm2
        have HY := Lib.hid HL.out.row
        have HBL := Lib.hid HL.out.bel
        have HBK := Lib.hid HL.out.bk
        rw [hcb] at HBK
        obtain ⟨_, ya2, yc2, rfl, -⟩ := HL.out.row
        subst hks
        clear hcb hkk hx2 hm2
        go_wp2_with fail
        refine (hkind.out c.next _ HVr.out).mono ?_
        rw [HKK.out]
        rintro e w' ⟨rfl, rfl⟩
        go_wp2_with fail
        refine (IX2.out _ _ HVr.out).mono ?_
        rintro e w3 ⟨yz, rfl, hyz, hb3⟩
        have HS3 := Lib.hid hb3.size
        have HLTG := Lib.hid HBK.out.lt
        have BK3 := Lib.hid (HBK.out.below hb3)
        have HY3 := Lib.hid (HY.out.below hb3)
        have HZ := Lib.hid hyz
        have BL3 := Lib.hid (HBL.out.trans (hb3.mono HBL.out.size))
        obtain ⟨_, za, zc, rfl, -⟩ := hyz
        have B4 := Lib.hid (below1 w3 (.cells #[.slice za x2.L.length zc, .int .i64 (x2.next : Int), .bool x2.bad] 49))
        have KH := Lib.hid (Bk.mk w3 (.slice za x2.L.length zc) (.int .i64 (x2.next : Int)) (.bool x2.bad))
        have BK4 := Lib.hid (BK3.out.below B4.out)
        have HY4 := Lib.hid (HY3.out.below B4.out)
        have HZ4 := Lib.hid (HZ.out.below B4.out)
        have BL4 := Lib.hid (BL3.out.trans (B4.out.mono BL3.out.size))
        clear f1 f2 f3 f4 f5 f6 hb3
        obtain ⟨f1, f2, f3, f4, f5, f6⟩ := BK4.out.cells
        obtain ⟨g1, g2, g3, g4, g5, g6⟩ := KH.out.cells
        go_wp2_with fail
        refine (twoR_own (nOf 5) _ _ c.L x2.L _ HY4.out.rd HZ4.out.rd (by omega) (by omega)).mono ?_
        rintro e w5 ⟨u, rfl, hu, hb5⟩
        obtain ⟨N, hN⟩ : ∃ N, (nOf 5 :: (c.L ++ x2.L)).length = N := ⟨_, rfl⟩
        rw [hN] at hu
        have HNN := Lib.hid hN
        have hNl : N = c.L.length + x2.L.length + 1 := by rw [← hN]; simp
        have HNL := Lib.hid hNl
        clear hN hNl
        have HU := Lib.hid ((Ap.RdO.fresh hu).imp (ok' := fun b => w3.heap.size + 1 ≤ b) fun b _ hb' => by simpa using hb')
        have KH5 := Lib.hid (KH.out.below hb5)
        have BK5 := Lib.hid (BK4.out.below hb5)
        have BL5 := Lib.hid (BL4.out.trans (hb5.mono BL4.out.size))
        have hlt3 : w1.heap.size < w3.heap.size := BK3.out.lt
        have hls : (w.alloc gz).heap.size ≤ w1.heap.size := HS.out
        have BK6 : Hid (Bk (w5.setCell ⟨w3.heap.size, 0, none⟩ u) w1.heap.size _ _ _) := Lib.hid ((heap_set w5 w3.heap.size 0 u w1.heap.size (by omega)).trans BK5.out)
        have HU6 := Lib.hid (rdO_set (g := w3.heap.size) (o := 0) (x := u) HU.out (fun k hk => by omega))
        have BL6 := Lib.hid (below_set BL5.out w3.heap.size 0 u (by omega))
        have LP6 : Hid (Lp (w.alloc gz) w1.heap.size (two 5 c x2) u (put3 (w5.setCell ⟨w3.heap.size, 0, none⟩ u) w1.heap.size u (.int .i64 (x2.next : Int)) (.bool x2.bad))) := Lib.hid
          ⟨BK6.out.put _ _ _, by rw [show (two 5 c x2).L.length = N from HNN.out]; exact (rdO_put3 HU6.out (fun k hk => by omega)).imp (fun b _ hb' => ⟨by omega, by omega⟩), below_put3 BL6.out _ _ _ _ hls⟩
        obtain ⟨_, ua, uc, rfl, -⟩ := HU.out
        clear f1 f2 f3 f4 f5 f6 g1 g2 g3 g4 g5 g6
        obtain ⟨f1, f2, f3, f4, f5, f6⟩ := BK5.out.cells
        obtain ⟨g1, g2, g3, g4, g5, g6⟩ := KH5.out.cells
        clear hu hb5
        go_wp2_with fail
        go_roundg n'
        case measure => omega
        case rel => exact ⟨two 5 c x2, _, HM2, by omega, r2, by rw [show (two 5 c x2).L.length = N from HNN.out, HNL.out]; show c.L.length + x2.L.length + 1 ≤ 3 * x2.next; omega, LP6⟩
      · have hg : g = c := mo_stop HC.out (fun hc => hks (hkk.symm.trans (hc.2.trans rfl)))
        subst hg
        have gk : (kk == 5) = false := by rw [beq_eq_false_iff_ne]; exact hks
        have HCB := Lib.hid hcb
        have HY := Lib.hid HL.out.row
        have BB := Lib.hid (B0.out.trans (HL.out.bel.mono B0.out.size))
        obtain ⟨_, ya2, yc2, rfl, -⟩ := HL.out.row
        obtain ⟨d1, d2, d3, d4, d5, d6⟩ := KR.out.cells
        clear hcb hkk hks
        go_wp2_with fail
        refine (hkind.out g.next _ HVr.out).mono ?_
        rw [HKK.out]
        rintro e w' ⟨rfl, rfl⟩
        go_wp2_with fail
        refine ret_got rfl rfl (KR.out.put _ _ _) rfl ⟨_, by rw [HCB.out], (rdO_put3 HY.out (fun k hk => Nat.ne_of_gt (Nat.lt_of_lt_of_le HLT0.out hk.1))).imp (fun b _ hb' => Nat.le_trans B0.out.size hb'.1), below_put3 BB.out _ _ _ _ (Nat.le_refl _)⟩
end Go.Proofs.Ytdhaghabhdeakaa.Pa

namespace Go.Proofs.Ytdhaghabhdeakaa.So
open Go Go.RowKit Go.Proofs.Ytdhaghabhdeakaa.Rw
set_option maxRecDepth 20000

def rightB (l : List Nd) : Bool := (of l == 1) && (decide (l.length ≤ 60) && decide (depth l ≤ 16))
set_option maxHeartbeats 2000000 in
theorem rightSR_any (l : List Nd) (v : Value) (w : World) (hv : Nds w v l) (hl : l.length ≤ 1000) (hm : Nms l) : Calls Try.prog 22 #[v] w fun e w' => e = .returned (.bool (rightB l)) ∧ Below w.heap.size w w' := by
  have HV := Lib.hid hv
  have HC := Lib.hid (fun w h => ofR_any l v w h hl hm)
  have hr : rightB l = ((of l == 1) && (decide (l.length ≤ 60) && decide (depth l ≤ 16))) := rfl
  obtain ⟨z, hzz⟩ : ∃ z, of l = z := ⟨_, rfl⟩
  rw [hzz] at hr HC
  rw [hr]
  obtain ⟨_, a, cap, rfl, -⟩ := hv
  clear hm hzz hr
  by_cases h1 : z = 1
  · subst h1
    rw [beq_self_eq_true, Bool.true_and]
    by_cases h2 : l.length ≤ 60
    · rw [decide_eq_true h2, Bool.true_and]
      obtain ⟨d, hd⟩ : ∃ d, depth l = d := ⟨_, rfl⟩
      have HD := Lib.hid hd
      rw [hd]
      clear hd
      go_enter Try.func22, Try.ntmps22
      go_wp2_with fail
      refine (HC.out _ HV.out).mono ?_
      rintro e w1 ⟨rfl, hb⟩
      have HV1 := Lib.hid (HV.out.below hb)
      have HB := Lib.hid hb
      clear hb
      go_wp2_with fail
      refine (depthR_any _ l _ HV1.out (by omega)).mono ?_
      rw [HD.out]
      rintro e w2 ⟨rfl, rfl⟩
      go_wp2_with fail
      go_ret
      exact ⟨ret_bool (decide_eq_decide.2 (by omega)), HB.out⟩
    · have g2 : decide (l.length ≤ 60) = false := decide_eq_false h2
      rw [g2, Bool.false_and]
      go_enter Try.func22, Try.ntmps22
      go_wp2_with fail
      refine (HC.out _ HV.out).mono ?_
      rintro e w1 ⟨rfl, hb⟩
      go_wp2_with fail
      go_ret
      exact ⟨rfl, hb⟩
  · have g1 : ((z : Int) == 1) = false := by rw [beq_eq_false_iff_ne]; omega
    have g2 : (z == 1) = false := by rw [beq_eq_false_iff_ne]; omega
    rw [g2, Bool.false_and]
    clear g2
    go_enter Try.func22, Try.ntmps22
    go_wp2_with fail
    refine (HC.out _ HV.out).mono ?_
    rintro e w1 ⟨rfl, hb⟩
    go_wp2_with fail
    go_ret
    exact ⟨rfl, hb⟩
theorem of_cases (l : List Nd) : of l = 0 ∨ of l = 1 ∨ of l = 2 ∨ of l = 3 ∨ of l = 4 := by have := of_le l; omega
end Go.Proofs.Ytdhaghabhdeakaa.So
