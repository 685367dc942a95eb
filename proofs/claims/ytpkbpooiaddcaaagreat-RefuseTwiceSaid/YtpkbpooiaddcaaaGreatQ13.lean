/- The program's loop of layer 8 with a goto: written, over any function of places. The document's Strip of layer 8. What is put together of three hangs not on how; what does nothing changes nothing; a block of a pair: plain. The program's Mark and Rewrite. The program's Places, and whether a row begins so. -/
import Derived.Test.YtpkbpooiaddcaaaGreatQ11
import Derived.Test.YtpkbpooiaddcaaaGreatQ12
import Derived.WalkMore
import Derived.ScopeJumps
import Derived.Deep.Upon
import Derived.Test.YtpkbpooiaddcaaaGreatQ05
import Derived.Test.YtpkbpooiaddcaaaGreatQ03

namespace Go.Proofs.YtpkbpooiaddcaaaGreat.Rf
open Go Go.RowKit Go.Proofs.YtpkbpooiaddcaaaGreat.Rw
set_option maxRecDepth 20000

/-- A row of which each Act may be refused that g tells by its place. -/
def wrt (g : Nat → Bool) (l : List Nd) : Nat → List Nd
  | 0 => []
  | k + 1 => wrt g l k ++ match l[k]? with
    | none => []
    | some x => if x.k = 1 ∧ g k = true then [alt, x, thr] else [x]
theorem wrt_yes {g : Nat → Bool} {l : List Nd} {k : Nat} (h : k < l.length) (h1 : l[k].k = 1) (h2 : g k = true) : wrt g l (k + 1) = wrt g l k ++ [alt, l[k], thr] := by
  rw [wrt, List.getElem?_eq_getElem h]
  simp only
  rw [if_pos ⟨h1, h2⟩]
theorem wrt_no {g : Nat → Bool} {l : List Nd} {k : Nat} (h : k < l.length) (h1 : ¬ (l[k].k = 1 ∧ g k = true)) : wrt g l (k + 1) = wrt g l k ++ [l[k]] := by
  rw [wrt, List.getElem?_eq_getElem h]
  simp only
  rw [if_neg h1]
theorem wrt_sub {g : Nat → Bool} {l : List Nd} {f : ByteArray → Bool} (h : ∀ k, (hk : k < l.length) → g k = f l[k].n) : ∀ k, k ≤ l.length → wrt g l k = sub f (l.take k)
  | 0, _ => rfl
  | k + 1, hk => by
    have hlt : k < l.length := hk
    by_cases h1 : l[k].k = 1
    · by_cases h2 : g k = true
      · rw [wrt_yes hlt h1 h2, wrt_sub h k (by omega), sub_hit hlt (hit_yes h1 (by rw [← h k hlt]; exact h2))]
      · rw [wrt_no hlt (fun e => h2 e.2), wrt_sub h k (by omega), sub_miss hlt (hit_not (by rw [← h k hlt]; exact Bool.eq_false_iff.2 h2))]
    · rw [wrt_no hlt (fun e => h1 e.1), wrt_sub h k (by omega), sub_miss hlt (hit_no h1)]
theorem wrt_mrk {at_ : Int} {l : List Nd} : ∀ k, k ≤ l.length → wrt (fun k => decide ((k : Int) = at_)) l k = mrk at_ l k
  | 0, _ => rfl
  | k + 1, hk => by
    have hlt : k < l.length := hk
    by_cases h1 : (k : Int) = at_ ∧ l[k].k = 1
    · rw [wrt_yes hlt h1.2 (decide_eq_true h1.1), wrt_mrk k (by omega), mrk_yes hlt h1.1 h1.2]
    · rw [wrt_no hlt (fun e => h1 ⟨of_decide_eq_true e.2, e.1⟩), wrt_mrk k (by omega), mrk_no hlt h1]
set_option maxHeartbeats 8000000 in
theorem written_empty (a : Option Addr) (cap : Nat) (fv : Value) (w : World) :
    Calls Tryz.prog 15 #[.slice a 0 cap, fv] w fun e w' => ∃ y, e = .returned y ∧ Nds w' y [] ∧ Below w.heap.size w w' := by
  go_enter Tryz.func15, Tryz.ntmps15
  go_wp2_with fail
  go_step3
  go_wp2_with fail
  go_step3
  go_wp2_with fail
  rw [Exit.noGoto_ret]
  go_ret
  exact ⟨_, rfl, (Got.start w).nds, Below.refl _ _⟩
set_option maxHeartbeats 8000000 in
theorem written_cells (fn : Nat) (caps : Array Value) (eg : ∀ args w, (callFunc fn args).run Tryz.prog w = .ok (.enter fn args) w) (g : Nat → Bool) (b off cap : Nat) (l : List Nd) (w : World) (hl : l.length ≤ 300000) (hat : At w b off l)
    (hg : ∀ k, k < l.length → ∀ wr, Below w.heap.size w wr → Calls Tryz.prog fn (#[.int .i64 (k : Int)] ++ caps) wr fun e w' => e = .returned (.bool (g k)) ∧ Below wr.heap.size wr w') :
    Calls Tryz.prog 15 #[.slice (some ⟨b, off, none⟩) l.length cap, .func (.func fn) #[] caps] w fun e w' => ∃ y, e = .returned y ∧ Nds w' y (wrt g l l.length) ∧ Below w.heap.size w w' := by
  have HA := Lib.hid hat
  have HGC := Lib.hid hg
  clear hat hg
  go_enter Tryz.func15, Tryz.ntmps15
  go_wp2_with fail
  refine wp_scope_jumps 0 (fun a' wr => ∃ (k : Nat) (a : Option Addr) (n c : Nat) (u7 u8 u9 u10 u11 u12 u13 u14 u15 u16 u17 u18 u19 u20 u21 u22 u23 u24 u25 u26 u27 u28 u29 u30 u31 u32 u33 u34 u35 u36 u37 u38 u39 : Value), k ≤ l.length ∧ n ≤ 3 * k ∧ a' = { tmps := #[.slice (some ⟨b, off, none⟩) l.length cap, .func (.func fn) #[] caps, undef, undef, .slice none 0 0, .slice a n c, .int .i64 (k : Int), u7, u8, u9, u10, u11, u12, u13, u14, u15, u16, u17, u18, u19, u20, u21, u22, u23, u24, u25, u26, u27, u28, u29, u30, u31, u32, u33, u34, u35, u36, u37, u38, u39], defers := [] } ∧ Hid ((wrt g l k).length = n) ∧ Hid (Got w wr (.slice a n c) (wrt g l k))) (fun a' _ => l.length - (intOf (a'.tmps.getD 6 undef)).toNat) rfl ?_ ?_
  · go_wp2_with fail
    go_step3
    have HL : Hid ((wrt g l 0).length = 0) := Lib.hid rfl
    have HG : Hid (Got w w (.slice none 0 0) (wrt g l 0)) := Lib.hid (Got.start w)
    by_cases hlt : 0 < l.length
    · obtain ⟨e1, e2, e3⟩ := HA.out 0 hlt
      rw [Nat.zero_mul, Nat.add_zero] at e1 e2 e3
      have c1 : w.cell? ⟨b, off, none⟩ = some (.int .i64 l[0].k) := by rw [HG.out.2.cell (Ap.cell_lt e1)]; exact e1
      have c2 : w.cell? ⟨b, off + 1, none⟩ = some (.string l[0].n) := by rw [HG.out.2.cell (Ap.cell_lt e2)]; exact e2
      have c3 : w.cell? ⟨b, off + 2, none⟩ = some (.int .i64 l[0].s) := by rw [HG.out.2.cell (Ap.cell_lt e3)]; exact e3
      have HY := Lib.hid (fun h h' => wrt_yes (g := g) hlt h h')
      have HO := Lib.hid (fun h => wrt_no (g := g) hlt h)
      have g0 : ((0 : Int) == (l.length : Int)) = false := by rw [beq_eq_false_iff_ne]; omega
      have HK := Lib.hid (fun wx hb => HGC.out 0 hlt wx hb)
      obtain ⟨q, hq⟩ : ∃ q, wrt g l 0 = q := ⟨_, rfl⟩
      obtain ⟨p, hp⟩ : ∃ p, g 0 = p := ⟨_, rfl⟩
      obtain ⟨x, hx⟩ : ∃ x, l[0] = x := ⟨_, rfl⟩
      rw [hx] at c1 c2 c3 HY HO
      rw [hq] at HL HG HY HO
      rw [hp] at HY HO HK
      clear hx e1 e2 e3 hq hp
      have D1 := Lib.hid (fun wx (hb : Below w.heap.size w wx) => (show wx.cell? ⟨b, off, none⟩ = some (.int .i64 x.k) by rw [hb.cell (Ap.cell_lt c1)]; exact c1))
      have D2 := Lib.hid (fun wx (hb : Below w.heap.size w wx) => (show wx.cell? ⟨b, off + 1, none⟩ = some (.string x.n) by rw [hb.cell (Ap.cell_lt c2)]; exact c2))
      have D3 := Lib.hid (fun wx (hb : Below w.heap.size w wx) => (show wx.cell? ⟨b, off + 2, none⟩ = some (.int .i64 x.s) by rw [hb.cell (Ap.cell_lt c3)]; exact c3))
      go_wp2_with fail
      refine (isAct_any x _).mono ?_
      rintro e w1 ⟨rfl, hb1⟩
      replace HG := Lib.hid (HG.out.below hb1)
      have HB1 := Lib.hid hb1
      clear c1 c2 c3 hb1
      by_cases h1 : x.k = 1
      · rw [decide_eq_true h1]
        go_wp2_with fail
        refine (HK.out _ HG.out.2).mono ?_
        rintro e w2 ⟨rfl, hb2⟩
        replace HG := Lib.hid (HG.out.below hb2)
        have HB2 := Lib.hid (HB1.out.trans (hb2.mono HB1.out.size))
        have c1 := D1.out w2 HB2.out
        have c2 := D2.out w2 HB2.out
        have c3 := D3.out w2 HB2.out
        clear hb2
        cases p with
        | true =>
          have HX := Lib.hid (HY.out h1 rfl)
          clear h1
          obtain ⟨v', w3, hrun, hgot⟩ := HG.out.new [alt, x, thr] (by rw [HL.out]; show _ + 3 ≤ _; omega)
          rw [← HX.out] at hgot
          replace hrun : _ := hrun
          obtain ⟨a', c', rfl⟩ := hgot.slice
          have HL' : Hid ((wrt g l (0 + 1)).length = 0 + 3) := by
            show _ = _
            rw [HX.out, List.length_append, HL.out]
            rfl
          rw [HL'.out] at hrun hgot
          have R := Lib.hid hrun
          have HG' := Lib.hid hgot
          clear hrun hgot
          go_wp2_with (at_builtin; refine Ap.wpList_append_run (by rfl) (.tmp 22) (.tmp 29) _ _ rfl _ _ rfl rfl _ w3 R.out ?_)
          go_step3
          exact ⟨rfl, ⟨0 + 1, _, 0 + 3, _, _, _, _, _, _, _, _, _, _, _, _, _, _, _, _, _, _, _, _, _, _, _, _, _, _, _, _, _, _, _, _, _, _, by omega, by omega, rfl, HL', HG'⟩⟩
        | false =>
          have HX := Lib.hid (HO.out (fun h => absurd h.2 (by decide)))
          clear h1
          obtain ⟨v', w3, hrun, hgot⟩ := HG.out.one x (by rw [HL.out]; omega)
          rw [← HX.out] at hgot
          obtain ⟨a', c', rfl⟩ := hgot.slice
          have HL' : Hid ((wrt g l (0 + 1)).length = 0 + 1) := by
            show _ = _
            rw [HX.out, List.length_append, HL.out]
            rfl
          rw [HL'.out] at hrun hgot
          have R := Lib.hid hrun
          have HG' := Lib.hid hgot
          clear hrun hgot
          go_wp2_with (at_builtin; refine Ap.wpList_append_run (by rfl) (.tmp 31) (.tmp 36) _ _ rfl _ _ rfl rfl _ w3 R.out ?_)
          go_step3
          exact ⟨rfl, ⟨0 + 1, _, 0 + 1, _, _, _, _, _, _, _, _, _, _, _, _, _, _, _, _, _, _, _, _, _, _, _, _, _, _, _, _, _, _, _, _, _, _, by omega, by omega, rfl, HL', HG'⟩⟩
      · rw [decide_eq_false h1]
        have HX := Lib.hid (HO.out (fun h => h1 h.1))
        have c1 := D1.out w1 HB1.out
        have c2 := D2.out w1 HB1.out
        have c3 := D3.out w1 HB1.out
        clear h1
        obtain ⟨v', w3, hrun, hgot⟩ := HG.out.one x (by rw [HL.out]; omega)
        rw [← HX.out] at hgot
        obtain ⟨a', c', rfl⟩ := hgot.slice
        have HL' : Hid ((wrt g l (0 + 1)).length = 0 + 1) := by
          show _ = _
          rw [HX.out, List.length_append, HL.out]
          rfl
        rw [HL'.out] at hrun hgot
        have R := Lib.hid hrun
        have HG' := Lib.hid hgot
        clear hrun hgot
        go_wp2_with (at_builtin; refine Ap.wpList_append_run (by rfl) (.tmp 31) (.tmp 36) _ _ rfl _ _ rfl rfl _ w3 R.out ?_)
        go_step3
        exact ⟨rfl, ⟨0 + 1, _, 0 + 1, _, _, _, _, _, _, _, _, _, _, _, _, _, _, _, _, _, _, _, _, _, _, _, _, _, _, _, _, _, _, _, _, _, _, by omega, by omega, rfl, HL', HG'⟩⟩
    · have g0 : ((0 : Int) == (l.length : Int)) = true := by rw [beq_iff_eq]; omega
      have HZ : Hid (wrt g l l.length = wrt g l 0) := by
        show _ = _
        rw [show l.length = 0 by omega]
      go_wp2_with fail
      simp only [Exit.jump]
      go_ret
      exact ⟨_, rfl, by rw [HZ.out]; exact HG.out.nds, HG.out.2⟩
  · rintro a' wr ⟨k, a, n, c, u7, u8, u9, u10, u11, u12, u13, u14, u15, u16, u17, u18, u19, u20, u21, u22, u23, u24, u25, u26, u27, u28, u29, u30, u31, u32, u33, u34, u35, u36, u37, u38, u39, hk, hn, rfl, HL, HG⟩
    by_cases hlt : k < l.length
    · obtain ⟨e1, e2, e3⟩ := HA.out k hlt
      have c1 : wr.cell? ⟨b, off + k * 3, none⟩ = some (.int .i64 l[k].k) := by rw [HG.out.2.cell (Ap.cell_lt e1)]; exact e1
      have c2 : wr.cell? ⟨b, off + k * 3 + 1, none⟩ = some (.string l[k].n) := by rw [HG.out.2.cell (Ap.cell_lt e2)]; exact e2
      have c3 : wr.cell? ⟨b, off + k * 3 + 2, none⟩ = some (.int .i64 l[k].s) := by rw [HG.out.2.cell (Ap.cell_lt e3)]; exact e3
      have HY := Lib.hid (fun h h' => wrt_yes (g := g) hlt h h')
      have HO := Lib.hid (fun h => wrt_no (g := g) hlt h)
      have g0 : ((k : Int) == (l.length : Int)) = false := by rw [beq_eq_false_iff_ne]; omega
      have HK := Lib.hid (fun wx hb => HGC.out k hlt wx hb)
      obtain ⟨q, hq⟩ : ∃ q, wrt g l k = q := ⟨_, rfl⟩
      obtain ⟨p, hp⟩ : ∃ p, g k = p := ⟨_, rfl⟩
      obtain ⟨x, hx⟩ : ∃ x, l[k] = x := ⟨_, rfl⟩
      rw [hx] at c1 c2 c3 HY HO
      rw [hq] at HL HG HY HO
      rw [hp] at HY HO HK
      clear hx e1 e2 e3 hq hp
      have D1 := Lib.hid (fun wx (hb : Below wr.heap.size wr wx) => (show wx.cell? ⟨b, off + k * 3, none⟩ = some (.int .i64 x.k) by rw [hb.cell (Ap.cell_lt c1)]; exact c1))
      have D2 := Lib.hid (fun wx (hb : Below wr.heap.size wr wx) => (show wx.cell? ⟨b, off + k * 3 + 1, none⟩ = some (.string x.n) by rw [hb.cell (Ap.cell_lt c2)]; exact c2))
      have D3 := Lib.hid (fun wx (hb : Below wr.heap.size wr wx) => (show wx.cell? ⟨b, off + k * 3 + 2, none⟩ = some (.int .i64 x.s) by rw [hb.cell (Ap.cell_lt c3)]; exact c3))
      go_wp2_with fail
      refine (isAct_any x _).mono ?_
      rintro e w1 ⟨rfl, hb1⟩
      replace HG := Lib.hid (HG.out.below hb1)
      have HB1 := Lib.hid hb1
      clear c1 c2 c3 hb1
      by_cases h1 : x.k = 1
      · rw [decide_eq_true h1]
        go_wp2_with fail
        refine (HK.out _ HG.out.2).mono ?_
        rintro e w2 ⟨rfl, hb2⟩
        replace HG := Lib.hid (HG.out.below hb2)
        have HB2 := Lib.hid (HB1.out.trans (hb2.mono HB1.out.size))
        have c1 := D1.out w2 HB2.out
        have c2 := D2.out w2 HB2.out
        have c3 := D3.out w2 HB2.out
        clear hb2
        cases p with
        | true =>
          have HX := Lib.hid (HY.out h1 rfl)
          clear h1
          obtain ⟨v', w3, hrun, hgot⟩ := HG.out.new [alt, x, thr] (by rw [HL.out]; show _ + 3 ≤ _; omega)
          rw [← HX.out] at hgot
          replace hrun : _ := hrun
          obtain ⟨a', c', rfl⟩ := hgot.slice
          have HL' : Hid ((wrt g l (k + 1)).length = n + 3) := by
            show _ = _
            rw [HX.out, List.length_append, HL.out]
            rfl
          rw [HL'.out] at hrun hgot
          have R := Lib.hid hrun
          have HG' := Lib.hid hgot
          clear hrun hgot
          go_wp2_with (at_builtin; refine Ap.wpList_append_run (by rfl) (.tmp 22) (.tmp 29) _ _ rfl _ _ rfl rfl _ w3 R.out ?_)
          go_step3
          refine ⟨rfl, ⟨k + 1, _, n + 3, _, _, _, _, _, _, _, _, _, _, _, _, _, _, _, _, _, _, _, _, _, _, _, _, _, _, _, _, _, _, _, _, _, _, by omega, by omega, rfl, HL', HG'⟩, ?_⟩
          simp [intOf]
          omega
        | false =>
          have HX := Lib.hid (HO.out (fun h => absurd h.2 (by decide)))
          clear h1
          obtain ⟨v', w3, hrun, hgot⟩ := HG.out.one x (by rw [HL.out]; omega)
          rw [← HX.out] at hgot
          obtain ⟨a', c', rfl⟩ := hgot.slice
          have HL' : Hid ((wrt g l (k + 1)).length = n + 1) := by
            show _ = _
            rw [HX.out, List.length_append, HL.out]
            rfl
          rw [HL'.out] at hrun hgot
          have R := Lib.hid hrun
          have HG' := Lib.hid hgot
          clear hrun hgot
          go_wp2_with (at_builtin; refine Ap.wpList_append_run (by rfl) (.tmp 31) (.tmp 36) _ _ rfl _ _ rfl rfl _ w3 R.out ?_)
          go_step3
          refine ⟨rfl, ⟨k + 1, _, n + 1, _, _, _, _, _, _, _, _, _, _, _, _, _, _, _, _, _, _, _, _, _, _, _, _, _, _, _, _, _, _, _, _, _, _, by omega, by omega, rfl, HL', HG'⟩, ?_⟩
          simp [intOf]
          omega
      · rw [decide_eq_false h1]
        have HX := Lib.hid (HO.out (fun h => h1 h.1))
        have c1 := D1.out w1 HB1.out
        have c2 := D2.out w1 HB1.out
        have c3 := D3.out w1 HB1.out
        clear h1
        obtain ⟨v', w3, hrun, hgot⟩ := HG.out.one x (by rw [HL.out]; omega)
        rw [← HX.out] at hgot
        obtain ⟨a', c', rfl⟩ := hgot.slice
        have HL' : Hid ((wrt g l (k + 1)).length = n + 1) := by
          show _ = _
          rw [HX.out, List.length_append, HL.out]
          rfl
        rw [HL'.out] at hrun hgot
        have R := Lib.hid hrun
        have HG' := Lib.hid hgot
        clear hrun hgot
        go_wp2_with (at_builtin; refine Ap.wpList_append_run (by rfl) (.tmp 31) (.tmp 36) _ _ rfl _ _ rfl rfl _ w3 R.out ?_)
        go_step3
        refine ⟨rfl, ⟨k + 1, _, n + 1, _, _, _, _, _, _, _, _, _, _, _, _, _, _, _, _, _, _, _, _, _, _, _, _, _, _, _, _, _, _, _, _, _, _, by omega, by omega, rfl, HL', HG'⟩, ?_⟩
        simp [intOf]
        omega
    · have g0 : ((k : Int) == (l.length : Int)) = true := by rw [beq_iff_eq]; omega
      have HZ : Hid (wrt g l l.length = wrt g l k) := by
        show _ = _
        rw [show l.length = k by omega]
      go_wp2_with fail
      simp only [Exit.jump]
      go_ret
      exact ⟨_, rfl, by rw [HZ.out]; exact HG.out.nds, HG.out.2⟩
theorem written_any (fn : Nat) (caps : Array Value) (eg : ∀ args w, (callFunc fn args).run Tryz.prog w = .ok (.enter fn args) w) (g : Nat → Bool) (v : Value) (l : List Nd) (w : World) (hv : Nds w v l) (hl : l.length ≤ 300000)
    (hg : ∀ k, k < l.length → ∀ wr, Below w.heap.size w wr → Calls Tryz.prog fn (#[.int .i64 (k : Int)] ++ caps) wr fun e w' => e = .returned (.bool (g k)) ∧ Below wr.heap.size wr w') :
    Calls Tryz.prog 15 #[v, .func (.func fn) #[] caps] w fun e w' => ∃ y, e = .returned y ∧ Nds w' y (wrt g l l.length) ∧ Below w.heap.size w w' := by
  rcases hv.form with ⟨rfl, a, cap, rfl⟩ | ⟨b, off, cap, rfl, _, hat⟩
  · exact written_empty a cap _ w
  · exact written_cells fn caps eg g b off cap l w hl hat hg
end Go.Proofs.YtpkbpooiaddcaaaGreat.Rf

namespace Go.Proofs.YtpkbpooiaddcaaaGreat.Rf
open Go Go.RowKit Go.Proofs.YtpkbpooiaddcaaaGreat.Rw
set_option maxRecDepth 20000

theorem eq_nd (x y : Nd) (w : World) : (binOp .eql 41 (.agg #[.int .i64 x.k, .string x.n, .int .i64 x.s]) (.agg #[.int .i64 y.k, .string y.n, .int .i64 y.s])).run Tryz.prog w = .ok (.bool (decide (x = y))) w := by
  rw [run_eql_struct, show (10000 : Nat) = 9998 + 2 from rfl, eql_nd]
  rfl
theorem wp_append_run {P : Program} {w : World} {o : Oper} {a : Act} {K : Act → World → Prop} {Q : Exit → Act → World → Prop} (s x : Operand) (t tx : TypeId)
    (ho : o.op = .call { callee := .builtin .append, args := #[s, x], argTypes := #[t, tx] }) (vs vx : Value) (hs : a.eval s = vs) (hx : a.eval x = vx) (v' : Value) (w' : World) (hrun : (Builtin.append_ #[t, tx] o.type #[vs, vx]).run P w = .ok v' w')
    (h : K (a.put o.dst v') w') : o.wp P a w K Q := by
  unfold Oper.wp
  simp [execOp, ho, resolve, invoke, builtin, hs, hx, hrun, Result.andThen]
  exact h
/-- What a row without its first nodes is. -/
theorem drop_nds {w : World} {b off cap : Nat} {l : List Nd} (h : At w b off l) (hc : l.length ≤ cap) (d : Nat) (hd : d ≤ l.length) : Nds w (.slice (some ⟨b, off + d * 3, none⟩) (l.length - d) (cap - d)) (l.drop d) := by
  have := part_nds h d (l.length - d) (cap - d) (by omega) (by omega)
  rwa [List.take_of_length_le (by rw [List.length_drop]; exact Nat.le_refl _)] at this
theorem empty_nds (w : World) (b o c : Nat) : Nds w (.slice (some ⟨b, o, none⟩) 0 c) [] := ⟨rfl, _, c, rfl, Nat.zero_le _, fun h => (by cases h), fun h => absurd h (Nat.lt_irrefl 0)⟩

/-- What each operation of the last region yields. -/
def RS (b off L cap p : Nat) (x : Nd) (r r' : List Nd) (k : Nat) (v : Value) (w' : World) : Prop := match k with
  | 0 => v = .slice (some ⟨b, off, none⟩) L cap
  | 1 => v = .pointer (some ⟨b, p, none⟩)
  | 2 => v = .agg #[.int .i64 x.k, .string x.n, .int .i64 x.s]
  | 3 => ∃ g, v = .slice (some ⟨g, 0, none⟩) 1 1 ∧ Nds w' v [x]
  | 4 => v = .slice (some ⟨b, off, none⟩) L cap
  | 5 => Nds w' v r
  | 6 => Nds w' v r'
  | 7 => Nds w' v (x :: r')
  | 8 => Nds w' v (x :: r')
  | _ => True
theorem RS.below {b off L cap p : Nat} {x : Nd} {r r' : List Nd} {k : Nat} {v : Value} {w w' : World} (h : RS b off L cap p x r r' k v w) (hb : Below w.heap.size w w') : RS b off L cap p x r r' k v w' := by
  unfold RS at h ⊢
  split at h
  case h_4 =>
    obtain ⟨g, h1, h2⟩ := h
    exact ⟨g, h1, h2.below hb⟩
  case h_6 => exact Nds.below h hb
  case h_7 => exact Nds.below h hb
  case h_8 => exact Nds.below h hb
  case h_9 => exact Nds.below h hb
  all_goals exact h
end Go.Proofs.YtpkbpooiaddcaaaGreat.Rf

namespace Go.Proofs.YtpkbpooiaddcaaaGreat.Mn
open Go Tr

/-- A row that has the actions of both, each in order. -/
inductive Mix : List ByteArray → List ByteArray → List ByteArray → Prop
  | nil : Mix [] [] []
  | l {x : ByteArray} {a b r : List ByteArray} : Mix a b r → Mix (x :: a) b (x :: r)
  | r {y : ByteArray} {a b r : List ByteArray} : Mix a b r → Mix a (y :: b) (y :: r)
theorem Mix.len {a b r : List ByteArray} (h : Mix a b r) : r.length = a.length + b.length := by
  induction h with
  | nil => rfl
  | l _ ih => simp [ih]; omega
  | r _ ih => simp [ih]; omega
theorem one5 (p q : Tr) : one 5 p q = [thn p q] := by unfold one; rw [if_pos rfl]
theorem one7 (p q : Tr) : one 7 p q = pr p q := by unfold one; rw [if_neg (by decide), if_pos rfl]
theorem one8 (p q : Tr) : one 8 p q = [hnd p q] := by unfold one; rw [if_neg (by decide), if_neg (by decide)]
theorem mem5 {A B : List Tr} {t : Tr} : t ∈ two 5 A B ↔ ∃ p ∈ A, ∃ q ∈ B, t = thn p q := by
  rw [mem_two, if_neg (by decide)]
  simp only [one5, List.mem_singleton]
theorem mem6 {A B : List Tr} {t : Tr} : t ∈ two 6 A B ↔ t ∈ A ∨ t ∈ B := by rw [mem_two, if_pos rfl]
theorem mem7 {A B : List Tr} {t : Tr} : t ∈ two 7 A B ↔ ∃ p ∈ A, ∃ q ∈ B, t ∈ pr p q := by
  rw [mem_two, if_neg (by decide)]
  simp only [one7]
theorem mem8 {A B : List Tr} {t : Tr} : t ∈ two 8 A B ↔ ∃ p ∈ A, ∃ q ∈ B, t = hnd p q := by
  rw [mem_two, if_neg (by decide)]
  simp only [one8, List.mem_singleton]
/-- What does nothing. -/
def bang : Tr := ⟨[], 2⟩
theorem norm_is {A l : List Tr} (h : Up A) (hm : ∀ t, t ∈ A ↔ t ∈ l) : norm l = A := (norm_eq h hm).symm
theorem up_one (t : Tr) : Up [t] := List.pairwise_singleton _ _
/-- What a block of a pair does: what the first one does, but for giving way. -/
def want (A : List Tr) : List Tr := A.flatMap fun p => if p.e = 3 then [] else [⟨p.a, 1⟩]
theorem mem_blk {X : List Pr} {t : Tr} : t ∈ blk X ↔ ∃ x ∈ X, t ∈ blk1 x := List.mem_flatMap
end Go.Proofs.YtpkbpooiaddcaaaGreat.Mn

namespace Go.Proofs.YtpkbpooiaddcaaaGreat.Rf
open Go Go.RowKit Go.Maps Go.WideMaps Go.Proofs.YtpkbpooiaddcaaaGreat.Rw Go.Proofs.YtpkbpooiaddcaaaGreat.Sx
set_option maxRecDepth 20000

theorem box_at (w : World) (v : Value) (t : TypeId) {wx : World} (hb : Below (w.alloc (.cells #[v] t)).heap.size (w.alloc (.cells #[v] t)) wx) : wx.cell? ⟨w.heap.size, 0, none⟩ = some v := by
  have h : (w.alloc (.cells #[v] t)).cell? ⟨w.heap.size, 0, none⟩ = some v := by simp
  rw [hb.cell (Ap.cell_lt h)]
  exact h
set_option maxHeartbeats 2000000 in
/-- The program's Mark. -/
theorem markP_any (v : Value) (l : List Nd) (at_ : Int) (w : World) (hv : Nds w v l) (hl : l.length ≤ 300000) :
    Calls Tryz.prog 21 #[v, .int .i64 at_] w fun e w' => ∃ y, e = .returned y ∧ Nds w' y (mark at_ l) ∧ Below w.heap.size w w' := by
  have hmf : ∀ (fn : Fn) (first cap : Array Value) (w : World), (Instr.makeFunc fn first cap).run Tryz.prog w = .ok (.func fn first cap) w := fun _ _ _ _ => rfl
  have HW := Lib.hid (wrt_mrk (at_ := at_) (l := l) l.length (Nat.le_refl _))
  have HC := Lib.hid (written_any 33 #[.pointer (some ⟨w.heap.size, 0, none⟩)] (fun _ _ => by simp [go_sem]) (fun k => decide ((k : Int) = at_)) v l (w.alloc (.cells #[.int .i64 at_] 3)) (hv.below (below1 _ _)) hl
    (fun k _ wr hb => mark1_any k at_ w.heap.size wr (box_at w _ _ hb)))
  have HB := Lib.hid (below1 w (.cells #[.int .i64 at_] 3))
  obtain ⟨_, a, cap, rfl, -⟩ := hv
  go_enter Tryz.func21, Tryz.ntmps21
  go_wp2_with fail
  refine HC.out.mono ?_
  rintro e w1 ⟨y, rfl, hy, hb1⟩
  have HY := Lib.hid hy
  have HB1 := Lib.hid (HB.out.trans (hb1.mono HB.out.size))
  obtain ⟨_, ya, yc, rfl, -⟩ := hy
  clear hb1
  go_wp2_with fail
  go_ret
  exact ⟨_, rfl, by rw [show mark at_ l = _ from HW.out.symm]; exact HY.out, HB1.out⟩

theorem mkMap (n : Int) (w : World) : (Instr.makeMap 38 (some (.int .i64 n))).run Tryz.prog w = .ok (.map (some w.heap.size)) (w.alloc (.map #[] 0)) := by
  simp [Instr.makeMap, go_sem]
theorem map_below {w w' : World} {B n : Nat} {D : DataW Unit} (h : w.ownsMap Tryz.prog 9 (plainElem Tryz.prog 4) B n D) (hb : Below w.heap.size w w') : w'.ownsMap Tryz.prog 9 (plainElem Tryz.prog 4) B n D := by
  have hlt := h.lt
  obtain ⟨es, clock, m1, m2, m3, m4⟩ := h
  exact ⟨es, clock, by rw [hb.block B hlt]; exact m1, m2, m3, m4⟩
/-- The row in a box, and the map of the first names, in a box. -/
structure RwE (w0 : World) (a : Option Addr) (L cap k : Nat) (os : List ByteArray) (w : World) : Prop where
  bel : Below w0.heap.size w0 w
  box : w.cell? ⟨w0.heap.size, 0, none⟩ = some (.slice a L cap)
  mb : w.cell? ⟨w0.heap.size + 1 + 1, 0, none⟩ = some (.map (some (w0.heap.size + 1)))
  map : ∃ D, w.ownsMap Tryz.prog 9 (plainElem Tryz.prog 4) (w0.heap.size + 1) k D ∧ TD os D
theorem RwE.below {w0 w w' : World} {a : Option Addr} {L cap k : Nat} {os : List ByteArray} (h : RwE w0 a L cap k os w) (hb : Below w.heap.size w w') : RwE w0 a L cap k os w' := by
  obtain ⟨D, h1, h2⟩ := h.map
  exact ⟨h.bel.trans (hb.mono h.bel.size), by rw [hb.cell (Ap.cell_lt h.box)]; exact h.box, by rw [hb.cell (Ap.cell_lt h.mb)]; exact h.mb, D, map_below h1 hb, h2⟩
theorem RwE.start (w : World) (a : Option Addr) (L cap : Nat) (t t' : TypeId) : RwE w a L cap 0 [] (((w.alloc (.cells #[.slice a L cap] t)).alloc (.map #[] 0)).alloc (.cells #[.map (some (w.heap.size + 1))] t')) := by
  have hs : (w.alloc (.cells #[.slice a L cap] t)).heap.size = w.heap.size + 1 := by simp
  have h1 : (w.alloc (.cells #[.slice a L cap] t)).cell? ⟨w.heap.size, 0, none⟩ = some (.slice a L cap) := by simp
  have b1 := below1 (w.alloc (.cells #[.slice a L cap] t)) (.map #[] 0)
  have b2 := below1 ((w.alloc (.cells #[.slice a L cap] t)).alloc (.map #[] 0)) (.cells #[.map (some (w.heap.size + 1))] t')
  have b3 := b1.trans (b2.mono b1.size)
  have b0 := below1 w (.cells #[.slice a L cap] t)
  refine ⟨b0.trans (b3.mono b0.size), ?_, ?_, ?_⟩
  · rw [b3.cell (Ap.cell_lt h1)]
    exact h1
  · have : ((w.alloc (.cells #[.slice a L cap] t)).alloc (.map #[] 0)).heap.size = w.heap.size + 1 + 1 := by simp
    rw [← this, World.cell?_alloc_new]
    rfl
  · have := World.ownsMap_made (H := Unit) (w.alloc (.cells #[.slice a L cap] t)) Tryz.prog 9 (plainElem Tryz.prog 4)
    rw [hs] at this
    exact ⟨_, this.alloc _, TD.none⟩
theorem RwE.put {w0 w w' : World} {a : Option Addr} {L cap k : Nat} {os : List ByteArray} (h : RwE w0 a L cap k os w) {D' : DataW Unit} (h1 : w'.ownsMap Tryz.prog 9 (plainElem Tryz.prog 4) (w0.heap.size + 1) (k + 1) D') {s : ByteArray} (h2 : TD (os ++ [s]) D') (hg : w.grownBy w' (some (w0.heap.size + 1))) : RwE w0 a L cap (k + 1) (os ++ [s]) w' :=
  ⟨h.bel.grown hg h.bel.size (fun k hk => by injection hk with hk; omega), hg.cell h.box (fun e => by injection e with e; simp at e), hg.cell h.mb (fun e => by injection e with e; simp at e), D', h1, h2⟩
theorem any_take (names : List ByteArray) (k : Nat) (h : k < names.length) : names.take (k + 1) = names.take k ++ [names[k]] := List.take_succ_eq_append_getElem h
set_option maxHeartbeats 4000000 in
/-- The program's Rewrite. -/
theorem rewP_any (v vn : Value) (l : List Nd) (names : List ByteArray) (w : World) (hv : Nds w v l) (hl : l.length ≤ 300000) (hm : Nms l) (hn : Strs w vn names) (hnl : names.length ≤ 1000000) (hns : ∀ s ∈ names, s.size ≤ maxLen) :
    Calls Tryz.prog 5 #[v, vn] w fun e w' => ∃ y, e = .returned y ∧ Nds w' y (sub (inN names) l) ∧ Below w.heap.size w w' := by
  have hmf : ∀ (fn : Fn) (first cap : Array Value) (w : World), (Instr.makeFunc fn first cap).run Tryz.prog w = .ok (.func fn first cap) w := fun _ _ _ _ => rfl
  have hmm := mkMap
  have HV := Lib.hid hv
  have HN := Lib.hid hn
  have HM := Lib.hid hm
  have HNS := Lib.hid hns
  obtain ⟨_, a, cap, rfl, -⟩ := hv
  obtain ⟨_, na, nc, rfl, -⟩ := hn
  have HS := Lib.hid (RwE.start w a l.length cap 22 38)
  clear hm hns
  go_enter Tryz.func5, Tryz.ntmps5
  go_wp2_with fail
  go_loopw [13] (fun i wr => ∃ k : Nat, k ≤ names.length ∧ i = .int .i64 k ∧ Hid (RwE w a l.length cap k (names.take k) wr)) (fun i _ => names.length - (intOf i).toNat)
  case atStart => exact ⟨0, Nat.zero_le _, rfl, HS⟩
  case round =>
    obtain ⟨k, hk, rfl, HE⟩ := hrel
    by_cases hlt : k < names.length
    · rcases (HN.out.below HE.out.bel).form with ⟨h0, _⟩ | ⟨nb_, no, nc', he, hat⟩
      · rw [h0] at hlt
        exact absurd hlt (Nat.not_lt_zero _)
      have hna : na = some ⟨nb_, no, none⟩ := by injection he
      have c1 := hat k hlt
      have HT := Lib.hid (any_take names k hlt)
      have HSM := Lib.hid (HNS.out _ (List.getElem_mem hlt))
      obtain ⟨s, hs⟩ : ∃ s, names[k] = s := ⟨_, rfl⟩
      rw [hs] at c1 HT HSM
      clear hs hat he
      subst hna
      obtain ⟨D, m1, m2⟩ := HE.out.map
      have HD := Lib.hid m2
      have HMM := Lib.hid m1
      have c2 := HE.out.mb
      clear m1 m2
      go_wp2_with (at_mapUpdate; refine wpList_mapUpdate_own _ rfl _ _ _ 38 rfl 9 4 lawS Tryz.underlying38 (plainElem (H := Unit) Tryz.prog 4) (w.heap.size + 1) k D rfl HMM.out (by unfold maxLen; omega) _ _ _ rfl rfl (keyOf_string_mk Tryz.underlying9 HSM.out) _ [] (plainElem_bool Tryz.underlying4 true) ?_; intro w1 hown1 hgrow1)
      have HE' : Hid (RwE w a l.length cap (k + 1) (names.take (k + 1)) w1) := Lib.hid (by rw [HT.out]; exact HE.out.put hown1 (HD.out.put s) hgrow1)
      clear hown1 hgrow1
      go_wp2_with fail
      go_roundw
      case rel => exact ⟨k + 1, by omega, by go_num, HE'⟩
      case measure => simp [intOf]; omega
    · have HZ : Hid (names.take k = names) := Lib.hid (List.take_of_length_le (by omega))
      rw [HZ.out] at HE
      have c1 := HE.out.box
      have HC := Lib.hid (written_any 16 #[.pointer (some ⟨w.heap.size + 1 + 1, 0, none⟩), .pointer (some ⟨w.heap.size, 0, none⟩)] (fun _ _ => by simp [go_sem]) (fun k => (l[k]?).any fun x => inN names x.n) _ l wr (HV.out.below HE.out.bel) hl
        (fun j hj wx hb => by
          have E := HE.out.below hb
          rcases (HV.out.below E.bel).form with ⟨h0, _⟩ | ⟨b, off, c, he, _, hat⟩
          · rw [h0] at hj
            exact absurd hj (Nat.not_lt_zero _)
          · injection he with e1 e2 e3
            subst e1 e3
            obtain ⟨D, m1, m2⟩ := E.map
            rw [List.getElem?_eq_getElem hj]
            exact rew1_any b off cap w.heap.size (w.heap.size + 1 + 1) (w.heap.size + 1) l j (inN names l[j].n) wx hj hat E.box E.mb (Sx.look m1.drew m2 _ (by have := HM.out _ (List.getElem_mem hj); unfold maxLen; omega))))
      have HW := Lib.hid (wrt_sub (g := fun k => (l[k]?).any fun x => inN names x.n) (f := inN names) (l := l) (fun k hk => by simp only [List.getElem?_eq_getElem hk]; rfl) l.length (Nat.le_refl _))
      go_wp2_with fail
      refine HC.out.mono ?_
      rintro e w1 ⟨y, rfl, hy, hb1⟩
      have HB1 := Lib.hid (HE.out.bel.trans (hb1.mono HE.out.bel.size))
      rw [HW.out, List.take_length] at hy
      have HY := Lib.hid hy
      obtain ⟨_, ya, yc, rfl, -⟩ := hy
      clear hb1
      go_wp2_with fail
      go_ret
      exact ⟨_, rfl, HY.out, HB1.out⟩
end Go.Proofs.YtpkbpooiaddcaaaGreat.Rf

namespace Go.Proofs.YtpkbpooiaddcaaaGreat.Rf
open Go Go.RowKit Go.Proofs.YtpkbpooiaddcaaaGreat.Rw
set_option maxRecDepth 20000

set_option maxHeartbeats 1000000 in
theorem placesP_empty (a : Option Addr) (cap : Nat) (s : ByteArray) (w : World) :
    Calls Tryz.prog 14 #[.slice a 0 cap, .string s] w fun e w' => ∃ y, e = .returned y ∧ Plc w' y [] ∧ Below w.heap.size w w' := by
  go_enter Tryz.func14, Tryz.ntmps14
  go_wp2_with fail
  refine Go.wp_loop_rounds 1 ?_
  rw [rounds_succ]
  go_wp2_with fail
  go_ret
  exact ⟨_, rfl, (GotI.start w).plc, Below.refl _ _⟩
theorem nb_cells (w : World) (x : Nd) {wx : World} (hb : Below (w.alloc (nb x)).heap.size (w.alloc (nb x)) wx) :
    wx.cell? ⟨w.heap.size, 0, none⟩ = some (.int .i64 x.k) ∧ wx.cell? ⟨w.heap.size, 1, none⟩ = some (.string x.n) ∧ wx.cell? ⟨w.heap.size, 2, none⟩ = some (.int .i64 x.s) := by
  have h0 : (w.alloc (nb x)).cell? ⟨w.heap.size, 0, none⟩ = some (.int .i64 x.k) := by simp
  have h1 : (w.alloc (nb x)).cell? ⟨w.heap.size, 1, none⟩ = some (.string x.n) := by simp
  have h2 : (w.alloc (nb x)).cell? ⟨w.heap.size, 2, none⟩ = some (.int .i64 x.s) := by simp
  exact ⟨by rw [hb.cell (Ap.cell_lt h0)]; exact h0, by rw [hb.cell (Ap.cell_lt h1)]; exact h1, by rw [hb.cell (Ap.cell_lt h2)]; exact h2⟩
set_option maxHeartbeats 8000000 in
theorem placesP_cells (b off cap : Nat) (l : List Nd) (s : ByteArray) (w : World) (hl : l.length ≤ 300000) (hat : At w b off l) :
    Calls Tryz.prog 14 #[.slice (some ⟨b, off, none⟩) l.length cap, .string s] w fun e w' => ∃ y, e = .returned y ∧ Plc w' y (plc (isN s) l) ∧ Below w.heap.size w w' := by
  have HA := Lib.hid hat
  clear hat
  go_enter Tryz.func14, Tryz.ntmps14
  go_wp2_with fail
  go_loopw [5, 10] (fun o i wr => ∃ (k : Nat) (a : Option Addr) (n c : Nat), k ≤ l.length ∧ n ≤ k ∧ i = .int .i64 k ∧ o = .slice a n c ∧ Hid ((plk (isN s) l k).length = n) ∧ Hid (GotI w wr (.slice a n c) (plk (isN s) l k))) (fun _ i _ => l.length - (intOf i).toNat)
  case atStart => exact ⟨0, none, 0, 0, Nat.zero_le _, Nat.le_refl _, rfl, rfl, Lib.hid rfl, Lib.hid (GotI.start w)⟩
  case round =>
    obtain ⟨k, a, n, c, hk, hn, rfl, rfl, HL, HG⟩ := hrel
    by_cases hlt : k < l.length
    · obtain ⟨e1, e2, e3⟩ := HA.out k hlt
      have c1 : wr.cell? ⟨b, off + k * 3, none⟩ = some (.int .i64 l[k].k) := by rw [HG.out.2.cell (Ap.cell_lt e1)]; exact e1
      have c2 : wr.cell? ⟨b, off + k * 3 + 1, none⟩ = some (.string l[k].n) := by rw [HG.out.2.cell (Ap.cell_lt e2)]; exact e2
      have c3 : wr.cell? ⟨b, off + k * 3 + 2, none⟩ = some (.int .i64 l[k].s) := by rw [HG.out.2.cell (Ap.cell_lt e3)]; exact e3
      have HY := Lib.hid (fun h => plk_yes (f := isN s) hlt h)
      have HO := Lib.hid (fun h => plk_no (f := isN s) hlt h)
      obtain ⟨q, hq⟩ : ∃ q, plk (isN s) l k = q := ⟨_, rfl⟩
      obtain ⟨x, hx⟩ : ∃ x, l[k] = x := ⟨_, rfl⟩
      rw [hx] at c1 c2 c3 HY HO
      rw [hq] at HL HG HY HO
      clear hx e1 e2 e3 hq
      have HNB := Lib.hid (fun wx hb => nb_cells wr x (wx := wx) hb)
      have HB0 := Lib.hid (below1 wr (nb x))
      go_wp2_with fail
      refine (isAct_any x _).mono ?_
      rintro e w1 ⟨rfl, hb1⟩
      obtain ⟨c4, c5, c6⟩ := HNB.out w1 hb1
      replace HG := Lib.hid ((HG.out.below HB0.out).below hb1)
      clear hb1 c1 c2 c3
      by_cases h1 : x.k = 1
      · rw [decide_eq_true h1]
        by_cases h2 : x.n = s
        · have HX := Lib.hid (HY.out (hit_yes h1 (by unfold isN; exact decide_eq_true h2)))
          have hq := bytes_eq h2
          clear h2 h1
          obtain ⟨v', w3, hrun, hgot⟩ := HG.out.one k (by rw [HL.out]; omega)
          rw [← HX.out] at hgot
          obtain ⟨a', c', rfl⟩ := hgot.slice
          have HL' : Hid ((plk (isN s) l (k + 1)).length = n + 1) := by
            show _ = _
            rw [HX.out, List.length_append, HL.out]
            rfl
          rw [HL'.out] at hrun hgot
          have R := Lib.hid hrun
          have HG' := Lib.hid hgot
          clear hrun hgot
          go_wp2_with (at_builtin; refine Ap.wpList_append_run (by rfl) (.tmp 23) (.tmp 25) _ _ rfl _ _ rfl rfl _ w3 R.out ?_)
          go_roundw
          case rel => exact ⟨k + 1, a', n + 1, c', by omega, by omega, by go_num, rfl, HL', HG'⟩
          case measure => simp [intOf]; omega
        · have HX := Lib.hid (HO.out (hit_not (by unfold isN; exact decide_eq_false h2)))
          have hq := bytes_ne h2
          clear h2 h1
          rw [← HX.out] at HL HG
          go_wp2_with fail
          go_roundw
          case rel => exact ⟨k + 1, a, n, c, by omega, by omega, by go_num, rfl, HL, HG⟩
          case measure => simp [intOf]; omega
      · rw [decide_eq_false h1]
        have HX := Lib.hid (HO.out (hit_no h1))
        clear h1
        rw [← HX.out] at HL HG
        go_wp2_with fail
        go_roundw
        case rel => exact ⟨k + 1, a, n, c, by omega, by omega, by go_num, rfl, HL, HG⟩
        case measure => simp [intOf]; omega
    · have HZ : Hid (plc (isN s) l = plk (isN s) l k) := by
        show _ = _
        unfold plc
        rw [show k = l.length by omega]
      go_wp2_with fail
      go_ret
      exact ⟨_, rfl, by rw [HZ.out]; exact HG.out.plc, HG.out.2⟩
/-- The program's Places. -/
theorem placesP_any (v : Value) (l : List Nd) (s : ByteArray) (w : World) (hv : Nds w v l) (hl : l.length ≤ 300000) :
    Calls Tryz.prog 14 #[v, .string s] w fun e w' => ∃ y, e = .returned y ∧ Plc w' y (plc (isN s) l) ∧ Below w.heap.size w w' := by
  rcases hv.form with ⟨rfl, a, cap, rfl⟩ | ⟨b, off, cap, rfl, _, hat⟩
  · exact placesP_empty a cap s w
  · exact placesP_cells b off cap l s w hl hat

/-- Does a row begin so? -/
def patB (l : List Nd) : Bool := match l with
  | a :: x :: c :: _ => decide (a = alt) && decide (x.k = 1) && decide (c = thr)
  | _ => false
theorem patB_short {l : List Nd} (h : l.length < 3) : patB l = false := by
  match l, h with
  | [], _ => rfl
  | [_], _ => rfl
  | [_, _], _ => rfl
theorem patB_at {l : List Nd} (h : 3 ≤ l.length) : patB l = (decide (l[0] = alt) && decide (l[1].k = 1) && decide (l[2] = thr)) := by
  match l, h with
  | a :: x :: c :: r, _ => rfl
theorem patB_iff {l : List Nd} : patB l = true ↔ pat l := by
  match l with
  | [] => simp [patB, pat]
  | [_] => simp [patB, pat]
  | [_, _] => simp [patB, pat]
  | a :: x :: c :: r => simp [patB, pat, and_assoc]
set_option maxHeartbeats 1000000 in
theorem mayP_short (a : Option Addr) (n cap : Nat) (w : World) (h : n < 3) :
    Calls Tryz.prog 34 #[.slice a n cap] w fun e w' => e = .returned (.bool false) ∧ Below w.heap.size w w' := by
  have h3 : ¬ (3 : Int) ≤ (n : Int) := by omega
  have d3 : decide ((3 : Int) ≤ (n : Int)) = false := decide_eq_false h3
  go_enter Tryz.func34, Tryz.ntmps34
  go_wp2_with fail
  go_ret
  exact ⟨rfl, Below.refl _ _⟩
set_option maxHeartbeats 8000000 in
theorem mayP_cells (b off cap : Nat) (l : List Nd) (w : World) (hl : l.length ≤ 1000000) (hat : At w b off l) (h3 : 3 ≤ l.length) :
    Calls Tryz.prog 34 #[.slice (some ⟨b, off, none⟩) l.length cap] w fun e w' => e = .returned (.bool (patB l)) ∧ Below w.heap.size w w' := by
  rw [patB_at h3]
  have HA := Lib.hid hat
  have hq0 : ∀ w, (binOp .eql 41 (.agg #[.int .i64 l[0].k, .string l[0].n, .int .i64 l[0].s]) (.agg #[.int .i64 6, .string ⟨#[]⟩, .int .i64 0])).run Tryz.prog w = .ok (.bool (decide (l[0] = alt))) w := fun w => eq_nd l[0] alt w
  have hq2 : ∀ w, (binOp .eql 41 (.agg #[.int .i64 l[2].k, .string l[2].n, .int .i64 l[2].s]) (.agg #[.int .i64 3, .string ⟨#[]⟩, .int .i64 0])).run Tryz.prog w = .ok (.bool (decide (l[2] = thr))) w := fun w => eq_nd l[2] thr w
  have hc0 := hat 0 (by omega)
  have hc1 := hat 1 (by omega)
  have hc2 := hat 2 (by omega)
  rw [Nat.zero_mul, Nat.add_zero] at hc0
  obtain ⟨x0, hx0⟩ : ∃ x, l[0] = x := ⟨_, rfl⟩
  obtain ⟨x1, hx1⟩ : ∃ x, l[1] = x := ⟨_, rfl⟩
  obtain ⟨x2, hx2⟩ : ∃ x, l[2] = x := ⟨_, rfl⟩
  rw [hx0] at hq0 hc0
  rw [hx1] at hc1
  rw [hx2] at hq2 hc2
  rw [hx0, hx1, hx2]
  clear hx0 hx1 hx2 hat
  obtain ⟨c01, c02, c03⟩ := hc0
  obtain ⟨c11, c12, c13⟩ := hc1
  obtain ⟨c21, c22, c23⟩ := hc2
  have HC2 := Lib.hid (fun wx (hb : Below w.heap.size w wx) => (show wx.cell? ⟨b, off + 6, none⟩ = some (.int .i64 x2.k) ∧ wx.cell? ⟨b, off + 6 + 1, none⟩ = some (.string x2.n) ∧ wx.cell? ⟨b, off + 6 + 2, none⟩ = some (.int .i64 x2.s) from ⟨by rw [hb.cell (Ap.cell_lt c21)]; exact c21, by rw [hb.cell (Ap.cell_lt c22)]; exact c22, by rw [hb.cell (Ap.cell_lt c23)]; exact c23⟩))
  obtain ⟨p, hp⟩ : ∃ p, decide (x2 = thr) = p := ⟨_, rfl⟩
  rw [hp] at hq2 ⊢
  clear hp
  by_cases h0 : x0 = alt
  · rw [decide_eq_true h0] at hq0 ⊢
    rw [Bool.true_and]
    clear h0
    by_cases h1 : x1.k = 1
    · have H1 := Lib.hid (decide_eq_true h1)
      rw [decide_eq_true h1, Bool.true_and]
      clear h1
      go_enter Tryz.func34, Tryz.ntmps34
      go_wp2_with fail
      refine (isAct_any x1 _).mono ?_
      rw [H1.out]
      rintro e w1 ⟨rfl, hb1⟩
      have HB1 := Lib.hid hb1
      obtain ⟨d1, d2, d3⟩ := HC2.out w1 hb1
      clear c01 c02 c03 c11 c12 c13 c21 c22 c23 hb1
      go_wp2_with fail
      go_ret
      exact ⟨rfl, HB1.out⟩
    · have H1 := Lib.hid (decide_eq_false h1)
      rw [decide_eq_false h1, Bool.false_and]
      clear h1
      go_enter Tryz.func34, Tryz.ntmps34
      go_wp2_with fail
      refine (isAct_any x1 _).mono ?_
      rw [H1.out]
      rintro e w1 ⟨rfl, hb1⟩
      have HB1 := Lib.hid hb1
      clear c01 c02 c03 c11 c12 c13 c21 c22 c23 hb1
      go_wp2_with fail
      go_ret
      exact ⟨rfl, HB1.out⟩
  · rw [decide_eq_false h0] at hq0 ⊢
    rw [Bool.false_and, Bool.false_and]
    clear h0
    go_enter Tryz.func34, Tryz.ntmps34
    go_wp2_with fail
    go_ret
    exact ⟨rfl, Below.refl _ _⟩
theorem mayP_any (v : Value) (l : List Nd) (w : World) (hv : Nds w v l) (hl : l.length ≤ 1000000) :
    Calls Tryz.prog 34 #[v] w fun e w' => e = .returned (.bool (patB l)) ∧ Below w.heap.size w w' := by
  by_cases h3 : 3 ≤ l.length
  · rcases hv.form with ⟨rfl, a, cap, rfl⟩ | ⟨b, off, cap, rfl, _, hat⟩
    · exact absurd h3 (by decide)
    · exact mayP_cells b off cap l w hl hat h3
  · obtain ⟨_, a, cap, rfl, -⟩ := hv
    rw [patB_short (by omega)]
    exact mayP_short a l.length cap w (by omega)
end Go.Proofs.YtpkbpooiaddcaaaGreat.Rf
