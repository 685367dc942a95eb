/- The program's loop of layer 8 with a goto: written, over any function of places. -/
import Derived.Test.YtpkbpooiaddcaaaRfg
import Derived.Test.YtpkbpooiaddcaaaRfd
import Derived.WalkMore
import Derived.ScopeJumps
import Derived.Deep.Upon
namespace Go.Proofs.Ytpkbpooiaddcaaa.Rf
open Go Go.RowKit Go.Proofs.Ytpkbpooiaddcaaa.Rw
set_option maxRecDepth 20000

/-- A row of which each Act may be refused that g tells by its place. -/
def wrt (g : Nat → Bool) (l : List Nd) : Nat → List Nd
  | 0 => []
  | k + 1 => wrt g l k ++ match l[k]? with
    | none => []
    | some x => if x.k = 1 ∧ g k = true then [alt, x, thr] else [x]
theorem wrt_yes {g : Nat → Bool} {l : List Nd} {k : Nat} (h : k < l.length) (h1 : l[k].k = 1) (h2 : g k = true) : wrt g l (k + 1) = wrt g l k ++ [alt, l[k], thr] := by
  rw [wrt, List.getElem?_eq_getElem h]
  simp only
  rw [if_pos ⟨h1, h2⟩]
theorem wrt_no {g : Nat → Bool} {l : List Nd} {k : Nat} (h : k < l.length) (h1 : ¬ (l[k].k = 1 ∧ g k = true)) : wrt g l (k + 1) = wrt g l k ++ [l[k]] := by
  rw [wrt, List.getElem?_eq_getElem h]
  simp only
  rw [if_neg h1]
theorem wrt_sub {g : Nat → Bool} {l : List Nd} {f : ByteArray → Bool} (h : ∀ k, (hk : k < l.length) → g k = f l[k].n) : ∀ k, k ≤ l.length → wrt g l k = sub f (l.take k)
  | 0, _ => rfl
  | k + 1, hk => by
    have hlt : k < l.length := hk
    by_cases h1 : l[k].k = 1
    · by_cases h2 : g k = true
      · rw [wrt_yes hlt h1 h2, wrt_sub h k (by omega), sub_hit hlt (hit_yes h1 (by rw [← h k hlt]; exact h2))]
      · rw [wrt_no hlt (fun e => h2 e.2), wrt_sub h k (by omega), sub_miss hlt (hit_not (by rw [← h k hlt]; exact Bool.eq_false_iff.2 h2))]
    · rw [wrt_no hlt (fun e => h1 e.1), wrt_sub h k (by omega), sub_miss hlt (hit_no h1)]
theorem wrt_mrk {at_ : Int} {l : List Nd} : ∀ k, k ≤ l.length → wrt (fun k => decide ((k : Int) = at_)) l k = mrk at_ l k
  | 0, _ => rfl
  | k + 1, hk => by
    have hlt : k < l.length := hk
    by_cases h1 : (k : Int) = at_ ∧ l[k].k = 1
    · rw [wrt_yes hlt h1.2 (decide_eq_true h1.1), wrt_mrk k (by omega), mrk_yes hlt h1.1 h1.2]
    · rw [wrt_no hlt (fun e => h1 ⟨of_decide_eq_true e.2, e.1⟩), wrt_mrk k (by omega), mrk_no hlt h1]
set_option maxHeartbeats 8000000 in
theorem written_empty (a : Option Addr) (cap : Nat) (fv : Value) (w : World) :
    Calls Try.prog 22 #[.slice a 0 cap, fv] w fun e w' => ∃ y, e = .returned y ∧ Nds w' y [] ∧ Below w.heap.size w w' := by
  go_enter Try.func22, Try.ntmps22
  go_wp2_with fail
  go_step3
  go_wp2_with fail
  go_step3
  go_wp2_with fail
  rw [Exit.noGoto_ret]
  go_ret
  exact ⟨_, rfl, (Got.start w).nds, Below.refl _ _⟩
set_option maxHeartbeats 8000000 in
theorem written_cells (fn : Nat) (caps : Array Value) (eg : ∀ args w, (callFunc fn args).run Try.prog w = .ok (.enter fn args) w) (g : Nat → Bool) (b off cap : Nat) (l : List Nd) (w : World) (hl : l.length ≤ 300000) (hat : At w b off l)
    (hg : ∀ k, k < l.length → ∀ wr, Below w.heap.size w wr → Calls Try.prog fn (#[.int .i64 (k : Int)] ++ caps) wr fun e w' => e = .returned (.bool (g k)) ∧ Below wr.heap.size wr w') :
    Calls Try.prog 22 #[.slice (some ⟨b, off, none⟩) l.length cap, .func (.func fn) #[] caps] w fun e w' => ∃ y, e = .returned y ∧ Nds w' y (wrt g l l.length) ∧ Below w.heap.size w w' := by
  have HA := Lib.hid hat
  have HGC := Lib.hid hg
  clear hat hg
  go_enter Try.func22, Try.ntmps22
  go_wp2_with fail
  refine wp_scope_jumps 0 (fun a' wr => ∃ (k : Nat) (a : Option Addr) (n c : Nat) (u7 u8 u9 u10 u11 u12 u13 u14 u15 u16 u17 u18 u19 u20 u21 u22 u23 u24 u25 u26 u27 u28 u29 u30 u31 u32 u33 u34 u35 u36 u37 u38 u39 : Value), k ≤ l.length ∧ n ≤ 3 * k ∧ a' = { tmps := #[.slice (some ⟨b, off, none⟩) l.length cap, .func (.func fn) #[] caps, undef, undef, .slice none 0 0, .slice a n c, .int .i64 (k : Int), u7, u8, u9, u10, u11, u12, u13, u14, u15, u16, u17, u18, u19, u20, u21, u22, u23, u24, u25, u26, u27, u28, u29, u30, u31, u32, u33, u34, u35, u36, u37, u38, u39], defers := [] } ∧ Hid ((wrt g l k).length = n) ∧ Hid (Got w wr (.slice a n c) (wrt g l k))) (fun a' _ => l.length - (intOf (a'.tmps.getD 6 undef)).toNat) rfl ?_ ?_
  · go_wp2_with fail
    go_step3
    have HL : Hid ((wrt g l 0).length = 0) := Lib.hid rfl
    have HG : Hid (Got w w (.slice none 0 0) (wrt g l 0)) := Lib.hid (Got.start w)
    by_cases hlt : 0 < l.length
    · obtain ⟨e1, e2, e3⟩ := HA.out 0 hlt
      rw [Nat.zero_mul, Nat.add_zero] at e1 e2 e3
      have c1 : w.cell? ⟨b, off, none⟩ = some (.int .i64 l[0].k) := by rw [HG.out.2.cell (Ap.cell_lt e1)]; exact e1
      have c2 : w.cell? ⟨b, off + 1, none⟩ = some (.string l[0].n) := by rw [HG.out.2.cell (Ap.cell_lt e2)]; exact e2
      have c3 : w.cell? ⟨b, off + 2, none⟩ = some (.int .i64 l[0].s) := by rw [HG.out.2.cell (Ap.cell_lt e3)]; exact e3
      have HY := Lib.hid (fun h h' => wrt_yes (g := g) hlt h h')
      have HO := Lib.hid (fun h => wrt_no (g := g) hlt h)
      have g0 : ((0 : Int) == (l.length : Int)) = false := by rw [beq_eq_false_iff_ne]; omega
      have HK := Lib.hid (fun wx hb => HGC.out 0 hlt wx hb)
      obtain ⟨q, hq⟩ : ∃ q, wrt g l 0 = q := ⟨_, rfl⟩
      obtain ⟨p, hp⟩ : ∃ p, g 0 = p := ⟨_, rfl⟩
      obtain ⟨x, hx⟩ : ∃ x, l[0] = x := ⟨_, rfl⟩
      rw [hx] at c1 c2 c3 HY HO
      rw [hq] at HL HG HY HO
      rw [hp] at HY HO HK
      clear hx e1 e2 e3 hq hp
      have D1 := Lib.hid (fun wx (hb : Below w.heap.size w wx) => (show wx.cell? ⟨b, off, none⟩ = some (.int .i64 x.k) by rw [hb.cell (Ap.cell_lt c1)]; exact c1))
      have D2 := Lib.hid (fun wx (hb : Below w.heap.size w wx) => (show wx.cell? ⟨b, off + 1, none⟩ = some (.string x.n) by rw [hb.cell (Ap.cell_lt c2)]; exact c2))
      have D3 := Lib.hid (fun wx (hb : Below w.heap.size w wx) => (show wx.cell? ⟨b, off + 2, none⟩ = some (.int .i64 x.s) by rw [hb.cell (Ap.cell_lt c3)]; exact c3))
      go_wp2_with fail
      refine (isAct_any x _).mono ?_
      rintro e w1 ⟨rfl, hb1⟩
      replace HG := Lib.hid (HG.out.below hb1)
      have HB1 := Lib.hid hb1
      clear c1 c2 c3 hb1
      by_cases h1 : x.k = 1
      · rw [decide_eq_true h1]
        go_wp2_with fail
        refine (HK.out _ HG.out.2).mono ?_
        rintro e w2 ⟨rfl, hb2⟩
        replace HG := Lib.hid (HG.out.below hb2)
        have HB2 := Lib.hid (HB1.out.trans (hb2.mono HB1.out.size))
        have c1 := D1.out w2 HB2.out
        have c2 := D2.out w2 HB2.out
        have c3 := D3.out w2 HB2.out
        clear hb2
        cases p with
        | true =>
          have HX := Lib.hid (HY.out h1 rfl)
          clear h1
          obtain ⟨v', w3, hrun, hgot⟩ := HG.out.new [alt, x, thr] (by rw [HL.out]; show _ + 3 ≤ _; omega)
          rw [← HX.out] at hgot
          replace hrun : _ := hrun
          obtain ⟨a', c', rfl⟩ := hgot.slice
          have HL' : Hid ((wrt g l (0 + 1)).length = 0 + 3) := by
            show _ = _
            rw [HX.out, List.length_append, HL.out]
            rfl
          rw [HL'.out] at hrun hgot
          have R := Lib.hid hrun
          have HG' := Lib.hid hgot
          clear hrun hgot
          go_wp2_with (at_builtin; refine Ap.wpList_append_run (by rfl) (.tmp 22) (.tmp 29) _ _ rfl _ _ rfl rfl _ w3 R.out ?_)
          go_step3
          exact ⟨rfl, ⟨0 + 1, _, 0 + 3, _, _, _, _, _, _, _, _, _, _, _, _, _, _, _, _, _, _, _, _, _, _, _, _, _, _, _, _, _, _, _, _, _, _, by omega, by omega, rfl, HL', HG'⟩⟩
        | false =>
          have HX := Lib.hid (HO.out (fun h => absurd h.2 (by decide)))
          clear h1
          obtain ⟨v', w3, hrun, hgot⟩ := HG.out.one x (by rw [HL.out]; omega)
          rw [← HX.out] at hgot
          obtain ⟨a', c', rfl⟩ := hgot.slice
          have HL' : Hid ((wrt g l (0 + 1)).length = 0 + 1) := by
            show _ = _
            rw [HX.out, List.length_append, HL.out]
            rfl
          rw [HL'.out] at hrun hgot
          have R := Lib.hid hrun
          have HG' := Lib.hid hgot
          clear hrun hgot
          go_wp2_with (at_builtin; refine Ap.wpList_append_run (by rfl) (.tmp 31) (.tmp 36) _ _ rfl _ _ rfl rfl _ w3 R.out ?_)
          go_step3
          exact ⟨rfl, ⟨0 + 1, _, 0 + 1, _, _, _, _, _, _, _, _, _, _, _, _, _, _, _, _, _, _, _, _, _, _, _, _, _, _, _, _, _, _, _, _, _, _, by omega, by omega, rfl, HL', HG'⟩⟩
      · rw [decide_eq_false h1]
        have HX := Lib.hid (HO.out (fun h => h1 h.1))
        have c1 := D1.out w1 HB1.out
        have c2 := D2.out w1 HB1.out
        have c3 := D3.out w1 HB1.out
        clear h1
        obtain ⟨v', w3, hrun, hgot⟩ := HG.out.one x (by rw [HL.out]; omega)
        rw [← HX.out] at hgot
        obtain ⟨a', c', rfl⟩ := hgot.slice
        have HL' : Hid ((wrt g l (0 + 1)).length = 0 + 1) := by
          show _ = _
          rw [HX.out, List.length_append, HL.out]
          rfl
        rw [HL'.out] at hrun hgot
        have R := Lib.hid hrun
        have HG' := Lib.hid hgot
        clear hrun hgot
        go_wp2_with (at_builtin; refine Ap.wpList_append_run (by rfl) (.tmp 31) (.tmp 36) _ _ rfl _ _ rfl rfl _ w3 R.out ?_)
        go_step3
        exact ⟨rfl, ⟨0 + 1, _, 0 + 1, _, _, _, _, _, _, _, _, _, _, _, _, _, _, _, _, _, _, _, _, _, _, _, _, _, _, _, _, _, _, _, _, _, _, by omega, by omega, rfl, HL', HG'⟩⟩
    · have g0 : ((0 : Int) == (l.length : Int)) = true := by rw [beq_iff_eq]; omega
      have HZ : Hid (wrt g l l.length = wrt g l 0) := by
        show _ = _
        rw [show l.length = 0 by omega]
      go_wp2_with fail
      simp only [Exit.jump]
      go_ret
      exact ⟨_, rfl, by rw [HZ.out]; exact HG.out.nds, HG.out.2⟩
  · rintro a' wr ⟨k, a, n, c, u7, u8, u9, u10, u11, u12, u13, u14, u15, u16, u17, u18, u19, u20, u21, u22, u23, u24, u25, u26, u27, u28, u29, u30, u31, u32, u33, u34, u35, u36, u37, u38, u39, hk, hn, rfl, HL, HG⟩
    by_cases hlt : k < l.length
    · obtain ⟨e1, e2, e3⟩ := HA.out k hlt
      have c1 : wr.cell? ⟨b, off + k * 3, none⟩ = some (.int .i64 l[k].k) := by rw [HG.out.2.cell (Ap.cell_lt e1)]; exact e1
      have c2 : wr.cell? ⟨b, off + k * 3 + 1, none⟩ = some (.string l[k].n) := by rw [HG.out.2.cell (Ap.cell_lt e2)]; exact e2
      have c3 : wr.cell? ⟨b, off + k * 3 + 2, none⟩ = some (.int .i64 l[k].s) := by rw [HG.out.2.cell (Ap.cell_lt e3)]; exact e3
      have HY := Lib.hid (fun h h' => wrt_yes (g := g) hlt h h')
      have HO := Lib.hid (fun h => wrt_no (g := g) hlt h)
      have g0 : ((k : Int) == (l.length : Int)) = false := by rw [beq_eq_false_iff_ne]; omega
      have HK := Lib.hid (fun wx hb => HGC.out k hlt wx hb)
      obtain ⟨q, hq⟩ : ∃ q, wrt g l k = q := ⟨_, rfl⟩
      obtain ⟨p, hp⟩ : ∃ p, g k = p := ⟨_, rfl⟩
      obtain ⟨x, hx⟩ : ∃ x, l[k] = x := ⟨_, rfl⟩
      rw [hx] at c1 c2 c3 HY HO
      rw [hq] at HL HG HY HO
      rw [hp] at HY HO HK
      clear hx e1 e2 e3 hq hp
      have D1 := Lib.hid (fun wx (hb : Below wr.heap.size wr wx) => (show wx.cell? ⟨b, off + k * 3, none⟩ = some (.int .i64 x.k) by rw [hb.cell (Ap.cell_lt c1)]; exact c1))
      have D2 := Lib.hid (fun wx (hb : Below wr.heap.size wr wx) => (show wx.cell? ⟨b, off + k * 3 + 1, none⟩ = some (.string x.n) by rw [hb.cell (Ap.cell_lt c2)]; exact c2))
      have D3 := Lib.hid (fun wx (hb : Below wr.heap.size wr wx) => (show wx.cell? ⟨b, off + k * 3 + 2, none⟩ = some (.int .i64 x.s) by rw [hb.cell (Ap.cell_lt c3)]; exact c3))
      go_wp2_with fail
      refine (isAct_any x _).mono ?_
      rintro e w1 ⟨rfl, hb1⟩
      replace HG := Lib.hid (HG.out.below hb1)
      have HB1 := Lib.hid hb1
      clear c1 c2 c3 hb1
      by_cases h1 : x.k = 1
      · rw [decide_eq_true h1]
        go_wp2_with fail
        refine (HK.out _ HG.out.2).mono ?_
        rintro e w2 ⟨rfl, hb2⟩
        replace HG := Lib.hid (HG.out.below hb2)
        have HB2 := Lib.hid (HB1.out.trans (hb2.mono HB1.out.size))
        have c1 := D1.out w2 HB2.out
        have c2 := D2.out w2 HB2.out
        have c3 := D3.out w2 HB2.out
        clear hb2
        cases p with
        | true =>
          have HX := Lib.hid (HY.out h1 rfl)
          clear h1
          obtain ⟨v', w3, hrun, hgot⟩ := HG.out.new [alt, x, thr] (by rw [HL.out]; show _ + 3 ≤ _; omega)
          rw [← HX.out] at hgot
          replace hrun : _ := hrun
          obtain ⟨a', c', rfl⟩ := hgot.slice
          have HL' : Hid ((wrt g l (k + 1)).length = n + 3) := by
            show _ = _
            rw [HX.out, List.length_append, HL.out]
            rfl
          rw [HL'.out] at hrun hgot
          have R := Lib.hid hrun
          have HG' := Lib.hid hgot
          clear hrun hgot
          go_wp2_with (at_builtin; refine Ap.wpList_append_run (by rfl) (.tmp 22) (.tmp 29) _ _ rfl _ _ rfl rfl _ w3 R.out ?_)
          go_step3
          refine ⟨rfl, ⟨k + 1, _, n + 3, _, _, _, _, _, _, _, _, _, _, _, _, _, _, _, _, _, _, _, _, _, _, _, _, _, _, _, _, _, _, _, _, _, _, by omega, by omega, rfl, HL', HG'⟩, ?_⟩
          simp [intOf]
          omega
        | false =>
          have HX := Lib.hid (HO.out (fun h => absurd h.2 (by decide)))
          clear h1
          obtain ⟨v', w3, hrun, hgot⟩ := HG.out.one x (by rw [HL.out]; omega)
          rw [← HX.out] at hgot
          obtain ⟨a', c', rfl⟩ := hgot.slice
          have HL' : Hid ((wrt g l (k + 1)).length = n + 1) := by
            show _ = _
            rw [HX.out, List.length_append, HL.out]
            rfl
          rw [HL'.out] at hrun hgot
          have R := Lib.hid hrun
          have HG' := Lib.hid hgot
          clear hrun hgot
          go_wp2_with (at_builtin; refine Ap.wpList_append_run (by rfl) (.tmp 31) (.tmp 36) _ _ rfl _ _ rfl rfl _ w3 R.out ?_)
          go_step3
          refine ⟨rfl, ⟨k + 1, _, n + 1, _, _, _, _, _, _, _, _, _, _, _, _, _, _, _, _, _, _, _, _, _, _, _, _, _, _, _, _, _, _, _, _, _, _, by omega, by omega, rfl, HL', HG'⟩, ?_⟩
          simp [intOf]
          omega
      · rw [decide_eq_false h1]
        have HX := Lib.hid (HO.out (fun h => h1 h.1))
        have c1 := D1.out w1 HB1.out
        have c2 := D2.out w1 HB1.out
        have c3 := D3.out w1 HB1.out
        clear h1
        obtain ⟨v', w3, hrun, hgot⟩ := HG.out.one x (by rw [HL.out]; omega)
        rw [← HX.out] at hgot
        obtain ⟨a', c', rfl⟩ := hgot.slice
        have HL' : Hid ((wrt g l (k + 1)).length = n + 1) := by
          show _ = _
          rw [HX.out, List.length_append, HL.out]
          rfl
        rw [HL'.out] at hrun hgot
        have R := Lib.hid hrun
        have HG' := Lib.hid hgot
        clear hrun hgot
        go_wp2_with (at_builtin; refine Ap.wpList_append_run (by rfl) (.tmp 31) (.tmp 36) _ _ rfl _ _ rfl rfl _ w3 R.out ?_)
        go_step3
        refine ⟨rfl, ⟨k + 1, _, n + 1, _, _, _, _, _, _, _, _, _, _, _, _, _, _, _, _, _, _, _, _, _, _, _, _, _, _, _, _, _, _, _, _, _, _, by omega, by omega, rfl, HL', HG'⟩, ?_⟩
        simp [intOf]
        omega
    · have g0 : ((k : Int) == (l.length : Int)) = true := by rw [beq_iff_eq]; omega
      have HZ : Hid (wrt g l l.length = wrt g l k) := by
        show _ = _
        rw [show l.length = k by omega]
      go_wp2_with fail
      simp only [Exit.jump]
      go_ret
      exact ⟨_, rfl, by rw [HZ.out]; exact HG.out.nds, HG.out.2⟩
theorem written_any (fn : Nat) (caps : Array Value) (eg : ∀ args w, (callFunc fn args).run Try.prog w = .ok (.enter fn args) w) (g : Nat → Bool) (v : Value) (l : List Nd) (w : World) (hv : Nds w v l) (hl : l.length ≤ 300000)
    (hg : ∀ k, k < l.length → ∀ wr, Below w.heap.size w wr → Calls Try.prog fn (#[.int .i64 (k : Int)] ++ caps) wr fun e w' => e = .returned (.bool (g k)) ∧ Below wr.heap.size wr w') :
    Calls Try.prog 22 #[v, .func (.func fn) #[] caps] w fun e w' => ∃ y, e = .returned y ∧ Nds w' y (wrt g l l.length) ∧ Below w.heap.size w w' := by
  rcases hv.form with ⟨rfl, a, cap, rfl⟩ | ⟨b, off, cap, rfl, _, hat⟩
  · exact written_empty a cap _ w
  · exact written_cells fn caps eg g b off cap l w hl hat hg
end Go.Proofs.Ytpkbpooiaddcaaa.Rf
