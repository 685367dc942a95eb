/- The document's Rewrite of layer 8. -/
import Derived.Test.YtpkbpooiaddcaaaRfb
namespace Go.Proofs.Ytpkbpooiaddcaaa.Rf
open Go Go.RowKit Go.Proofs.Ytpkbpooiaddcaaa.Rw
set_option maxRecDepth 20000

set_option maxHeartbeats 1000000 in
theorem rewR_empty (a : Option Addr) (cap : Nat) (names : Value) (w : World) :
    Calls Try.prog 13 #[.slice a 0 cap, names] w fun e w' => ∃ y, e = .returned y ∧ Nds w' y [] ∧ Below w.heap.size w w' := by
  go_enter Try.func13, Try.ntmps13
  go_wp2_with fail
  refine Go.wp_loop_rounds 1 ?_
  rw [rounds_succ]
  go_wp2_with fail
  go_ret
  exact ⟨_, rfl, (Got.start w).nds, Below.refl _ _⟩
theorem hit_yes {f : ByteArray → Bool} {x : Nd} (h : x.k = 1) (hf : f x.n = true) : hit f x = true := by
  unfold hit
  rw [decide_eq_true h, hf]
  rfl
theorem hit_not {f : ByteArray → Bool} {x : Nd} (hf : f x.n = false) : hit f x = false := by
  unfold hit
  rw [hf, Bool.and_false]
theorem sub_hit {f : ByteArray → Bool} {l : List Nd} {k : Nat} (h : k < l.length) (hh : hit f l[k] = true) : sub f (l.take (k + 1)) = sub f (l.take k) ++ [alt, l[k], thr] := by
  rw [sub_take f l k h]
  unfold sub1
  rw [hh]
  rfl
theorem sub_miss {f : ByteArray → Bool} {l : List Nd} {k : Nat} (h : k < l.length) (hh : hit f l[k] = false) : sub f (l.take (k + 1)) = sub f (l.take k) ++ [l[k]] := by
  rw [sub_take f l k h]
  unfold sub1
  rw [hh]
  rfl
theorem sub_take_len (f : ByteArray → Bool) (l : List Nd) (k : Nat) : (sub f (l.take k)).length ≤ 3 * k := by
  have h1 := (sub_le f (l.take k)).2
  have h2 : (l.take k).length ≤ k := List.length_take_le _ _
  omega
set_option maxHeartbeats 8000000 in
theorem rewR_cells (b off cap : Nat) (l : List Nd) (vn : Value) (names : List ByteArray) (w : World) (hl : l.length ≤ 300000) (hat : At w b off l) (hn : Strs w vn names) (hnl : names.length ≤ 1000000) :
    Calls Try.prog 13 #[.slice (some ⟨b, off, none⟩) l.length cap, vn] w fun e w' => ∃ y, e = .returned y ∧ Nds w' y (sub (inN names) l) ∧ Below w.heap.size w w' := by
  have HA := Lib.hid hat
  have HN := Lib.hid hn
  obtain ⟨_, na, nc, rfl, -⟩ := hn
  have HNL := Lib.hid hnl
  clear hat hnl
  go_enter Try.func13, Try.ntmps13
  go_wp2_with fail
  go_loopw [5, 6] (fun o i wr => ∃ (k : Nat) (a : Option Addr) (n c : Nat), k ≤ l.length ∧ n ≤ 3 * k ∧ i = .int .i64 k ∧ o = .slice a n c ∧ Hid ((sub (inN names) (l.take k)).length = n) ∧ Hid (Got w wr (.slice a n c) (sub (inN names) (l.take k)))) (fun _ i _ => l.length - (intOf i).toNat)
  case atStart => exact ⟨0, none, 0, 0, Nat.zero_le _, Nat.le_refl _, rfl, rfl, Lib.hid rfl, Lib.hid (Got.start w)⟩
  case round =>
    obtain ⟨k, a, n, c, hk, hn, rfl, rfl, HL, HG⟩ := hrel
    by_cases hlt : k < l.length
    · obtain ⟨e1, e2, e3⟩ := HA.out k hlt
      have c1 : wr.cell? ⟨b, off + k * 3, none⟩ = some (.int .i64 l[k].k) := by rw [HG.out.2.cell (Ap.cell_lt e1)]; exact e1
      have c2 : wr.cell? ⟨b, off + k * 3 + 1, none⟩ = some (.string l[k].n) := by rw [HG.out.2.cell (Ap.cell_lt e2)]; exact e2
      have c3 : wr.cell? ⟨b, off + k * 3 + 2, none⟩ = some (.int .i64 l[k].s) := by rw [HG.out.2.cell (Ap.cell_lt e3)]; exact e3
      have HY := Lib.hid (fun h => sub_hit (f := inN names) hlt h)
      have HO := Lib.hid (fun h => sub_miss (f := inN names) hlt h)
      obtain ⟨q, hq⟩ : ∃ q, sub (inN names) (l.take k) = q := ⟨_, rfl⟩
      obtain ⟨x, hx⟩ : ∃ x, l[k] = x := ⟨_, rfl⟩
      rw [hx] at c1 c2 c3 HY HO
      rw [hq] at HL HG HY HO
      clear hx e1 e2 e3 hq
      have D1 := Lib.hid (fun wx (hb : Below wr.heap.size wr wx) => (show wx.cell? ⟨b, off + k * 3, none⟩ = some (.int .i64 x.k) by rw [hb.cell (Ap.cell_lt c1)]; exact c1))
      have D2 := Lib.hid (fun wx (hb : Below wr.heap.size wr wx) => (show wx.cell? ⟨b, off + k * 3 + 1, none⟩ = some (.string x.n) by rw [hb.cell (Ap.cell_lt c2)]; exact c2))
      have D3 := Lib.hid (fun wx (hb : Below wr.heap.size wr wx) => (show wx.cell? ⟨b, off + k * 3 + 2, none⟩ = some (.int .i64 x.s) by rw [hb.cell (Ap.cell_lt c3)]; exact c3))
      by_cases h1 : x.k = 1
      · obtain ⟨xk, xn, xs⟩ := x
        obtain rfl : xk = 1 := h1
        obtain ⟨p, hp⟩ : ∃ p, inN names xn = p := ⟨_, rfl⟩
        have HP := Lib.hid hp
        clear hp
        go_wp2_with fail
        refine (in_any _ names xn _ (HN.out.below HG.out.2) HNL.out).mono ?_
        rw [HP.out]
        rintro e w1 ⟨rfl, hb1⟩
        have HB1 := Lib.hid hb1
        have c1 := D1.out w1 hb1
        have c2 := D2.out w1 hb1
        have c3 := D3.out w1 hb1
        replace HG := Lib.hid (HG.out.below hb1)
        clear hb1
        cases p with
        | true =>
          have HX := Lib.hid (HY.out (hit_yes rfl HP.out))
          go_wp2_with fail
          refine (may_any ⟨1, xn, xs⟩ _).mono ?_
          rintro e w2 ⟨y, rfl, hy, hb2⟩
          replace HG := Lib.hid (HG.out.below hb2)
          obtain ⟨v', w3, hrun, hgot⟩ := HG.out.row hy (by rw [HL.out]; simp; omega)
          rw [← HX.out] at hgot
          obtain ⟨ya, yc, rfl⟩ : ∃ ya yc, y = .slice ya 3 yc := by
            obtain ⟨_, ya, yc, e, -⟩ := hy
            exact ⟨ya, yc, e⟩
          obtain ⟨a', c', rfl⟩ := hgot.slice
          have HL' : Hid ((sub (inN names) (l.take (k + 1))).length = n + 3) := by
            show _ = _
            rw [HX.out, List.length_append, HL.out]
            rfl
          rw [HL'.out] at hrun hgot
          have R := Lib.hid hrun
          have HG' := Lib.hid hgot
          clear hrun hgot hy hb2 c1 c2 c3
          go_wp2_with (at_builtin; refine Ap.wpList_append_run (by rfl) (.tmp 28) (.tmp 33) _ _ rfl _ _ rfl rfl _ w3 R.out ?_)
          go_roundw
          case rel => exact ⟨k + 1, a', n + 3, c', by omega, by omega, by go_num, rfl, HL', HG'⟩
          case measure => simp [intOf]; omega
        | false =>
          have HX := Lib.hid (HO.out (hit_not HP.out))
          obtain ⟨v', w3, hrun, hgot⟩ := HG.out.one ⟨1, xn, xs⟩ (by rw [HL.out]; omega)
          rw [← HX.out] at hgot
          obtain ⟨a', c', rfl⟩ := hgot.slice
          have HL' : Hid ((sub (inN names) (l.take (k + 1))).length = n + 1) := by
            show _ = _
            rw [HX.out, List.length_append, HL.out]
            rfl
          rw [HL'.out] at hrun hgot
          have R := Lib.hid hrun
          have HG' := Lib.hid hgot
          clear hrun hgot
          go_wp2_with (at_builtin; refine Ap.wpList_append_run (by rfl) (.tmp 35) (.tmp 40) _ _ rfl _ _ rfl rfl _ w3 R.out ?_)
          go_roundw
          case rel => exact ⟨k + 1, a', n + 1, c', by omega, by omega, by go_num, rfl, HL', HG'⟩
          case measure => simp [intOf]; omega
      · have g1 : (x.k == 1) = false := by rw [beq_eq_false_iff_ne]; exact h1
        have HX := Lib.hid (HO.out (hit_no h1))
        clear h1
        obtain ⟨v', w3, hrun, hgot⟩ := HG.out.one x (by rw [HL.out]; omega)
        rw [← HX.out] at hgot
        obtain ⟨a', c', rfl⟩ := hgot.slice
        have HL' : Hid ((sub (inN names) (l.take (k + 1))).length = n + 1) := by
          show _ = _
          rw [HX.out, List.length_append, HL.out]
          rfl
        rw [HL'.out] at hrun hgot
        have R := Lib.hid hrun
        have HG' := Lib.hid hgot
        clear hrun hgot
        go_wp2_with (at_builtin; refine Ap.wpList_append_run (by rfl) (.tmp 35) (.tmp 40) _ _ rfl _ _ rfl rfl _ w3 R.out ?_)
        go_roundw
        case rel => exact ⟨k + 1, a', n + 1, c', by omega, by omega, by go_num, rfl, HL', HG'⟩
        case measure => simp [intOf]; omega
    · have HZ : Hid (sub (inN names) l = sub (inN names) (l.take k)) := by
        show _ = _
        rw [List.take_of_length_le (by omega)]
      go_wp2_with fail
      go_ret
      exact ⟨_, rfl, by rw [HZ.out]; exact HG.out.nds, HG.out.2⟩
theorem rewR_any (v : Value) (l : List Nd) (vn : Value) (names : List ByteArray) (w : World) (hv : Nds w v l) (hl : l.length ≤ 300000) (hn : Strs w vn names) (hnl : names.length ≤ 1000000) :
    Calls Try.prog 13 #[v, vn] w fun e w' => ∃ y, e = .returned y ∧ Nds w' y (sub (inN names) l) ∧ Below w.heap.size w w' := by
  rcases hv.form with ⟨rfl, a, cap, rfl⟩ | ⟨b, off, cap, rfl, _, hat⟩
  · exact rewR_empty a cap vn w
  · exact rewR_cells b off cap l vn names w hl hat hn hnl
end Go.Proofs.Ytpkbpooiaddcaaa.Rf
