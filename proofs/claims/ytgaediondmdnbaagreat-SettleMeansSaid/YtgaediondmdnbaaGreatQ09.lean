/- slices.CompactFunc over pairs: the walk. The statements' own Olds: the walk. The document's Is, Of, On and Right. The program's fit and made: what kids a node may have, and what it then is. The document's Cat: two rows of actions as one of the call's own. -/
import Derived.Test.YtgaediondmdnbaaGreatQ07
import Derived.Test.YtgaediondmdnbaaGreatQ04
import Derived.Test.YtgaediondmdnbaaGreatQ08

namespace Go.Proofs.YtgaediondmdnbaaGreat.Mn
open Go Go.RowKit Tr
set_option maxRecDepth 20000

def ShapeP (x : Qd) : Prop := ∃ a n c z a' n' c' z', x.a = .slice a n c ∧ x.b = .int .i64 z ∧ x.c = .slice a' n' c' ∧ x.d = .int .i64 z'
/-- 'clear' of a slice of pairs. -/
theorem run_clear4 {P : Program} (w : World) (t e ty : TypeId) (z : Value) (ht : P.underlying t = some (.slice e)) (hv : ∀ w, (zeroValue e).run P w = .ok z w) (b o n c : Nat) (hn : 0 < n)
    (hl : (Builtin.zeroCells z.cells n).toList.length = n * 4) (h1 : ∀ v ∈ (Builtin.zeroCells z.cells n).toList, v.oneCell' = true)
    (hc : ∀ j, j < n * 4 → (w.cell? ⟨b, o + j, none⟩).isSome = true) (hf : ∀ j, j < n * 4 → w.frozen? ⟨b, o + j, none⟩ = false) :
    (Builtin.clear_ #[t] ty #[.slice (some ⟨b, o, none⟩) n c]).run P w = .ok (.tuple #[]) (w.setCells b o (Builtin.zeroCells z.cells n).toList) := by
  have hst := run_storeCells_cells (P := P) b o (Builtin.zeroCells z.cells n).toList 0 w (by rw [hl]; simpa using hc) (by rw [hl]; simpa using hf) h1
  simp only [Nat.add_zero] at hst
  obtain ⟨m, rfl⟩ : ∃ m, n = m + 1 := ⟨n - 1, by omega⟩
  simp [Builtin.clear_, run_underlying ht, hv, hst]
theorem zsP (n : Nat) : (Builtin.zeroCells #[.slice none 0 0, .int .i64 0, .slice none 0 0, .int .i64 0] n).toList.length = n * 4 ∧ ∀ v ∈ (Builtin.zeroCells #[.slice none 0 0, .int .i64 0, .slice none 0 0, .int .i64 0] n).toList, v.oneCell' = true := by
  refine ⟨by simp [Builtin.zeroCells], fun v hv => ?_⟩
  obtain ⟨i, _, rfl⟩ := zc_mem hv
  have h4 : i % 4 = 0 ∨ i % 4 = 1 ∨ i % 4 = 2 ∨ i % 4 = 3 := by omega
  rcases h4 with h | h | h | h
  all_goals (
    show ((#[.slice none 0 0, .int .i64 0, .slice none 0 0, .int .i64 0] : Array Value)[i % 4]!).oneCell' = true
    rw [h]; rfl)

set_option maxHeartbeats 4000000 in
theorem compactP (g cap : Nat) (q : Qd → Qd → Bool) (xs : List (Qd)) (w : World) (h : Own4 w g 61 cap xs) (hlen : xs.length ≤ 1000000000000) (hsh : ∀ x ∈ xs, ShapeP x)
    (hq : ∀ W, w.grownBy W (some g) → ∀ x ∈ xs, ∀ y ∈ xs, Calls Tryz.prog 91 #[.agg #[x.a, x.b, x.c, x.d], .agg #[y.a, y.b, y.c, y.d]] W fun e w' => e = .returned (.bool (q x y)) ∧ Below W.heap.size W w') :
    Calls Tryz.prog 90 #[.slice (some ⟨g, 0, none⟩) xs.length cap, .func (.func 91) #[] #[]] w fun e w' => e = .returned (.slice (some ⟨g, 0, none⟩) (cpt q xs).length cap) ∧ Own4 w' g 61 cap (cpt q xs) ∧ w.grownBy w' (some g) := by
  have hcap := h.len
  have H := Lib.hid h
  have HS := Lib.hid hsh
  have HQ := Lib.hid hq
  clear h hsh hq
  by_cases h2 : xs.length < 2
  · have HX : Hid (cpt q xs = xs) := by
      match xs, h2 with
      | [], _ => exact rfl
      | [x], _ => exact rfl
    go_enter Tryz.func90, Tryz.ntmps90
    go_wp2_with fail
    go_ret
    rw [HX.out]
    exact ⟨rfl, H.out, gb_refl _ _⟩
  · go_enter Tryz.func90, Tryz.ntmps90
    go_wp2_with fail
    go_loopw [5] (fun kv wr => ∃ k : Nat, 1 ≤ k ∧ k ≤ xs.length ∧ kv = .int .i64 (k : Int) ∧ Own4 wr g 61 cap xs ∧ w.grownBy wr (some g) ∧ cpt q (xs.take k) = xs.take k) (fun kv _ => xs.length - (intOf kv).toNat)
    case atStart =>
      refine ⟨1, Nat.le_refl _, by omega, rfl, H.out, gb_refl _ _, ?_⟩
      match xs, h2 with
      | x :: xs, _ => simp [cpt, cptF]
    case round =>
      obtain ⟨k, hk1, hk, rfl, ho, hg, hcp⟩ := hrel
      have HO := Lib.hid ho
      have HG := Lib.hid hg
      have HCP := Lib.hid hcp
      clear ho hg hcp
      by_cases hlt : k < xs.length
      · obtain ⟨c0, c1, c2, c3⟩ := HO.out.cell k hlt
        obtain ⟨d0, d1, d2, d3⟩ := HO.out.cell (k - 1) (by omega)
        have M1 := Lib.hid (List.getElem_mem hlt)
        have M0 := Lib.hid (List.getElem_mem (show k - 1 < xs.length by omega))
        have SN := Lib.hid (cpt_at q xs k hk1 hlt)
        have TK := Lib.hid (List.take_succ_eq_append_getElem hlt)
        obtain ⟨x, hx⟩ : ∃ x, xs[k] = x := ⟨_, rfl⟩
        obtain ⟨y, hy⟩ : ∃ y, xs[k - 1]'(by omega) = y := ⟨_, rfl⟩
        rw [hx] at c0 c1 c2 c3 M1 SN TK
        rw [hy] at d0 d1 d2 d3 M0 SN
        clear hx hy
        obtain ⟨j, hjk⟩ : ∃ j, k - 1 = j := ⟨_, rfl⟩
        have HW1 := Lib.hid (wrap_pred k j hjk hk1 (by omega))
        have hjlt : j < xs.length := by omega
        rw [hjk] at d0 d1 d2 d3
        have HJK := Lib.hid hjk
        clear hjk
        have QC := Lib.hid (fun W hW => HQ.out W hW x M1.out y M0.out)
        cases hxy : q x y with
        | false =>
          rw [hxy] at QC SN
          obtain ⟨x1, x2, x3, x4⟩ := x
          obtain ⟨y1, y2, y3, y4⟩ := y
          go_wp2_with fail
          go_still_tail 10, (by kernel_rfl)
          simp only [HW1.out]
          repeat still_step
          refine wpStill_nil ?_
          change wpList _ _ _ _ _ wr.drew
          go_wp2_with fail
          refine (QC.out _ (gb_trans HG.out (gb_drew _ _))).mono ?_
          rintro e w1 ⟨rfl, hb1⟩
          have G1 := Lib.hid (gb_trans (gb_trans HG.out (gb_drew _ _)) (gb_below hb1))
          have O1 := Lib.hid (HO.out.below ((Below.refl _ _).drew.trans hb1))
          clear hb1
          go_wp2_with fail
          go_roundw
          case rel => exact ⟨k + 1, by omega, by omega, by go_num, O1.out, G1.out, by rw [SN.out, HCP.out, TK.out]; rfl⟩
          case measure => simp [intOf]; omega
        | true =>
          rw [hxy] at QC SN
          obtain ⟨x1, x2, x3, x4⟩ := x
          obtain ⟨y1, y2, y3, y4⟩ := y
          go_wp2_with fail
          go_still_tail 10, (by kernel_rfl)
          simp only [HW1.out]
          repeat still_step
          refine wpStill_nil ?_
          change wpList _ _ _ _ _ wr.drew
          go_wp2_with fail
          refine (QC.out _ (gb_trans HG.out (gb_drew _ _))).mono ?_
          rintro e w1 ⟨rfl, hb1⟩
          have G1 := Lib.hid (gb_trans (gb_trans HG.out (gb_drew _ _)) (gb_below hb1))
          have O1 := Lib.hid (HO.out.below ((Below.refl _ _).drew.trans hb1))
          clear hb1 c0 c1 c2 c3 d0 d1 d2 d3
          go_wp2_with fail
          go_loopw [5, 7] (fun kv k2v wr => ∃ kk k2 : Nat, kv = .int .i64 (kk : Int) ∧ k2v = .int .i64 (k2 : Int) ∧ 1 ≤ k2 ∧ k + k2 ≤ xs.length ∧ kk = (cpt q (xs.take (k + k2))).length ∧ kk < k + k2 ∧ Own4 wr g 61 cap (cpt q (xs.take (k + k2)) ++ xs.drop kk) ∧ w.grownBy wr (some g)) (fun _ k2v _ => xs.length - (k + (intOf k2v).toNat))
          case atStart =>
            have e0 : cpt q (xs.take (k + 1)) = xs.take k := by rw [SN.out, HCP.out]; simp
            refine ⟨k, 1, rfl, rfl, Nat.le_refl _, by omega, by rw [e0, List.length_take]; omega, by omega, ?_, G1.out⟩
            rw [e0, List.take_append_drop]
            exact O1.out
          case round =>
            obtain ⟨kk, k2, rfl, rfl, hk2, hle, hkk, hkl, ho2, hg2⟩ := hrel
            have HKK := Lib.hid hkk
            have HO2 := Lib.hid ho2
            have HG2 := Lib.hid hg2
            clear hkk ho2 hg2
            by_cases hlt2 : k + k2 < xs.length
            · have ey : ∀ m (hm : m < xs.length) (hk : kk ≤ m), ∃ hm' : m < (cpt q (xs.take (k + k2)) ++ xs.drop kk).length, (cpt q (xs.take (k + k2)) ++ xs.drop kk)[m] = xs[m] := fun m hm hk => by
                refine ⟨by simp [← HKK.out]; omega, ?_⟩
                rw [List.getElem_append_right (by rw [← HKK.out]; exact hk)]
                simp [← HKK.out, Nat.add_sub_cancel' hk]
              obtain ⟨hA, eA⟩ := ey (k + k2) hlt2 (by omega)
              obtain ⟨hB, eB⟩ := ey (k + k2 - 1) (by omega) (by omega)
              obtain ⟨c0, c1, c2, c3⟩ := HO2.out.cell _ hA
              obtain ⟨d0, d1, d2, d3⟩ := HO2.out.cell _ hB
              rw [eA] at c0 c1 c2 c3
              rw [eB] at d0 d1 d2 d3
              have M1' := Lib.hid (List.getElem_mem hlt2)
              have M0' := Lib.hid (List.getElem_mem (show k + k2 - 1 < xs.length by omega))
              have SN' := Lib.hid (cpt_at q xs (k + k2) (by omega) hlt2)
              have DK := Lib.hid (List.drop_eq_getElem_cons (show kk < xs.length by omega))
              obtain ⟨u, hu⟩ : ∃ u, xs[k + k2] = u := ⟨_, rfl⟩
              obtain ⟨v, hv⟩ : ∃ v, xs[k + k2 - 1]'(by omega) = v := ⟨_, rfl⟩
              rw [hu] at c0 c1 c2 c3 M1' SN'
              rw [hv] at d0 d1 d2 d3 M0' SN'
              clear hu hv eA eB ey
              have f0 := HO2.out.soft (kk * 4)
              have f1 := HO2.out.soft (kk * 4 + 1)
              have f2 := HO2.out.soft (kk * 4 + 2)
              have f3 := HO2.out.soft (kk * 4 + 3)
              have t0 := HO2.out.there (kk * 4) (by omega)
              have t1 := HO2.out.there (kk * 4 + 1) (by omega)
              have t2 := HO2.out.there (kk * 4 + 2) (by omega)
              have t3 := HO2.out.there (kk * 4 + 3) (by omega)
              obtain ⟨o0, t0⟩ := Option.isSome_iff_exists.1 t0
              obtain ⟨o1, t1⟩ := Option.isSome_iff_exists.1 t1
              obtain ⟨o2, t2⟩ := Option.isSome_iff_exists.1 t2
              obtain ⟨o3, t3⟩ := Option.isSome_iff_exists.1 t3
              rw [show (k + k2) * 4 = k * 4 + k2 * 4 by omega] at c0 c1 c2 c3
              rw [show (k + k2 - 1) * 4 = k * 4 + (k2 - 1) * 4 by omega] at d0 d1 d2 d3
              obtain ⟨j2, hjk2⟩ : ∃ j2, k2 - 1 = j2 := ⟨_, rfl⟩
              have HW2 := Lib.hid (wrap_pred k2 j2 hjk2 hk2 (by omega))
              have hjlt2 : j2 < xs.length - k := by omega
              have hklt2 : k2 < xs.length - k := by omega
              rw [hjk2] at d0 d1 d2 d3
              have HJK2 := Lib.hid hjk2
              clear hjk2
              have QC2 := Lib.hid (fun W hW => HQ.out W hW u M1'.out v M0'.out)
              cases huv : q u v with
              | true =>
                rw [huv] at QC2 SN'
                obtain ⟨u1, u2, u3, u4⟩ := u
                obtain ⟨v1, v2, v3, v4⟩ := v
                go_wp2_with fail
                go_still_tail 10, (by kernel_rfl)
                simp only [HW2.out]
                repeat still_step
                refine wpStill_nil ?_
                change wpList _ _ _ _ _ wr.drew
                go_wp2_with fail
                refine (QC2.out _ (gb_trans HG2.out (gb_drew _ _))).mono ?_
                rintro e w2 ⟨rfl, hb2⟩
                have G2 := Lib.hid (gb_trans (gb_trans HG2.out (gb_drew _ _)) (gb_below hb2))
                have O2 := Lib.hid (HO2.out.below ((Below.refl _ _).drew.trans hb2))
                clear hb2
                go_wp2_with fail
                go_roundw
                case rel =>
                  have e1 : cpt q (xs.take (k + (k2 + 1))) = cpt q (xs.take (k + k2)) := by
                    rw [show k + (k2 + 1) = k + k2 + 1 by omega]
                    have := SN'.out
                    simpa using this
                  refine ⟨kk, k2 + 1, rfl, by go_num, by omega, by omega, by rw [e1]; exact HKK.out, by omega, ?_, G2.out⟩
                  rw [e1]
                  exact O2.out
                case measure => simp [intOf]; omega
              | false =>
                rw [huv] at QC2 SN'
                have hsu := HS.out u M1'.out
                obtain ⟨u1, u2, u3, u4⟩ := u
                obtain ⟨ua, un, uc, uz, ua', un', uc', uz', rfl, rfl, rfl, rfl⟩ := hsu
                obtain ⟨v1, v2, v3, v4⟩ := v
                go_wp2_with fail
                go_still_tail 10, (by kernel_rfl)
                simp only [HW2.out]
                repeat still_step
                refine wpStill_nil ?_
                change wpList _ _ _ _ _ wr.drew
                go_wp2_with fail
                refine (QC2.out _ (gb_trans HG2.out (gb_drew _ _))).mono ?_
                rintro e w2 ⟨rfl, hb2⟩
                have hD : Below wr.heap.size wr w2 := (Below.refl _ _).drew.trans hb2
                have G2 := Lib.hid (gb_trans (gb_trans HG2.out (gb_drew _ _)) (gb_below hb2))
                have O2 := Lib.hid (HO2.out.below hD)
                have hgl := HO2.out.lt
                rw [← hD.cell (p := ⟨g, k * 4 + k2 * 4, none⟩) hgl] at c0
                rw [← hD.cell (p := ⟨g, k * 4 + k2 * 4 + 1, none⟩) hgl] at c1
                rw [← hD.cell (p := ⟨g, k * 4 + k2 * 4 + 2, none⟩) hgl] at c2
                rw [← hD.cell (p := ⟨g, k * 4 + k2 * 4 + 3, none⟩) hgl] at c3
                rw [← hD.cell (p := ⟨g, kk * 4, none⟩) hgl] at t0
                rw [← hD.cell (p := ⟨g, kk * 4 + 1, none⟩) hgl] at t1
                rw [← hD.cell (p := ⟨g, kk * 4 + 2, none⟩) hgl] at t2
                rw [← hD.cell (p := ⟨g, kk * 4 + 3, none⟩) hgl] at t3
                rw [← hD.frozen (p := ⟨g, kk * 4, none⟩) hgl] at f0
                rw [← hD.frozen (p := ⟨g, kk * 4 + 1, none⟩) hgl] at f1
                rw [← hD.frozen (p := ⟨g, kk * 4 + 2, none⟩) hgl] at f2
                rw [← hD.frozen (p := ⟨g, kk * 4 + 3, none⟩) hgl] at f3
                clear hb2 hD d0 d1 d2 d3
                go_wp2_with fail
                go_roundw
                case rel =>
                  have e1 : cpt q (xs.take (k + (k2 + 1))) = cpt q (xs.take (k + k2)) ++ [⟨.slice ua un uc, .int .i64 uz, .slice ua' un' uc', .int .i64 uz'⟩] := by
                    rw [show k + (k2 + 1) = k + k2 + 1 by omega]
                    have := SN'.out
                    simpa using this
                  refine ⟨kk + 1, k2 + 1, by go_num, by go_num, by omega, by omega, by rw [e1, List.length_append, ← HKK.out]; rfl, by omega, ?_, gb_trans G2.out (gb_set4 _ _ _ _ _ _ _)⟩
                  have := O2.out.store kk (by simp [← HKK.out]; omega) (.slice ua un uc) (.int .i64 uz) (.slice ua' un' uc') (.int .i64 uz')
                  rw [DK.out] at this
                  rw [e1]
                  have e3 := set_mid (cpt q (xs.take (k + k2))) (xs.drop (kk + 1)) (xs[kk]'(by omega)) ⟨.slice ua un uc, .int .i64 uz, .slice ua' un' uc', .int .i64 uz'⟩
                  rw [← HKK.out] at e3
                  rw [e3] at this
                  simpa using this
                case measure => simp [intOf]; omega
            · have hend : k + k2 = xs.length := by omega
              have hcl : ∀ ty, (Builtin.clear_ #[34] ty #[.slice (some ⟨g, kk * 4, none⟩) (xs.length - kk) (cap - kk)]).run Tryz.prog wr = .ok (.tuple #[]) (wr.setCells g (kk * 4) (Builtin.zeroCells #[.slice none 0 0, .int .i64 0, .slice none 0 0, .int .i64 0] (xs.length - kk)).toList) :=
                fun ty => run_clear4 wr _ _ ty (.agg #[.slice none 0 0, .int .i64 0, .slice none 0 0, .int .i64 0]) Tryz.underlying34 Tryz.zeroValue61 g (kk * 4) _ _ (by omega) (zsP _).1 (zsP _).2 (fun j hj => HO2.out.there _ (by omega)) (fun j hj => HO2.out.soft _)
              have ET : Hid (cpt q (xs.take (k + k2)) = cpt q xs) := by rw [hend, List.take_length]; exact rfl
              have KC := HKK.out
              rw [ET.out] at KC
              have O3 := HO2.out.take kk
              rw [ET.out, List.take_left' KC.symm] at O3
              have HO3 := Lib.hid O3
              have HKC := Lib.hid KC
              clear O3 KC
              go_wp2_with fail
              go_ret
              refine ⟨by rw [← HKC.out]; go_num, HO3.out.setOut _ _ _ (by rw [← HKC.out]; exact Nat.le_refl _), gb_trans HG2.out (gb_setCells _ _ _ _)⟩
      · have hend : k = xs.length := by omega
        have HX : Hid (cpt q xs = xs) := by
          have := HCP.out
          rw [hend, List.take_length] at this
          exact this
        go_wp2_with fail
        go_ret
        rw [HX.out]
        exact ⟨rfl, HO.out, HG.out⟩
end Go.Proofs.YtgaediondmdnbaaGreat.Mn

namespace Go.Proofs.YtgaediondmdnbaaGreat.Tr
open Go Go.RowKit
set_option maxRecDepth 20000

theorem info_olds : (Tryz.prog.info? 54).map (fun i => (i.zero, i.size, i.bytes)) = some (some (.agg #[.slice none 0 0, .int .i64 0]), 2, 32) := by kernel_rfl
theorem run_append_olds {wk wr : World} {base : Nat} {v a : Value} {o : List Tr} {t : Tr} {cs : List Value} (hown : wr.ownsRow base 54 2 v o.length cs) (hbase : base ≤ wr.heap.size) (ha : Strs wk a t.a) (hlen : o.length ≤ 2000000000000) :
    ∃ v' w', (Builtin.append_ #[32, 32] 32 #[v, .slice (some ⟨wr.heap.size, 0, none⟩) 1 1]).run Tryz.prog (wr.alloc (.cells #[a, .int .i64 t.e] 54)) = .ok v' w' ∧
      w'.ownsRow base 54 2 v' (o ++ [t]).length (cs ++ [a, .int .i64 t.e]) ∧ wr.grownBy w' v.ownBlock ∧ Below base wr w' ∧ Ap.Fresh wr v v' := by
  obtain ⟨i0, hi, hz, hs1, hb8⟩ := info_parts info_olds
  obtain ⟨v', w', h1, h2, h3, h4, h5⟩ := Ap.run_append_one (P := Tryz.prog) (ty := 32) Tryz.underlying32 hi hz hs1 hb8 (by rfl) (by omega) hown hbase #[a, .int .i64 t.e] rfl
    (fun u hu => by
      simp at hu
      rcases hu with rfl | rfl
      · exact ha.one
      · rfl) (by unfold maxLen; omega) (by omega)
  exact ⟨v', w', h1, by simpa using h2, h3, h4, h5⟩

set_option maxHeartbeats 2000000 in
theorem olds_any (x : Value) (ts : List Tr) (w : World) (hx : Trs w x ts) (hn : ts.length ≤ 1000000000000) :
    Calls Tryz.prog 11 #[x] w fun e w' => ∃ v, e = .returned v ∧ Trs w' v ts ∧ Below w.heap.size w w' := by
  obtain ⟨a1, c1, rfl, _, h1⟩ := hx.val
  have H1 := Lib.hid h1
  clear h1 hx
  go_enter Tryz.func11, Tryz.ntmps11
  go_wp2_with fail
  go_loopw [3, 8] (fun v i wr => ∃ (k : Nat) (cs : List Value), k ≤ ts.length ∧ i = .int .i64 k ∧ Below w.heap.size w wr ∧ wr.ownsRow w.heap.size 54 2 v (ts.take k).length cs ∧ TrCells w cs (ts.take k)) (fun _ i _ => ts.length - (intOf i).toNat)
  case atStart => exact ⟨0, [], Nat.zero_le _, rfl, Below.refl _ _, ⟨rfl, .inl ⟨rfl, rfl⟩⟩, trivial⟩
  case round =>
    obtain ⟨k, cs, hk, rfl, hb, hown, hcs⟩ := hrel
    have HB := Lib.hid hb
    have HO := Lib.hid hown
    have HC := Lib.hid hcs
    clear hb hown hcs
    by_cases hlt : k < ts.length
    · obtain ⟨b1, o1, a, rfl, e1, e2, hs⟩ := H1.out k hlt
      have c1' : wr.cell? ⟨b1, o1 + k * 2, none⟩ = some a := by rw [Nat.mul_comm k 2, HB.out.cell (Ap.cell_lt e1)]; exact e1
      have c2' : wr.cell? ⟨b1, o1 + k * 2 + 1, none⟩ = some (.int .i64 ts[k].e) := by rw [Nat.mul_comm k 2, HB.out.cell (Ap.cell_lt e2)]; exact e2
      have HT := Lib.hid (List.take_succ_eq_append_getElem hlt)
      have HS := Lib.hid hs
      generalize ts[k] = t at *
      obtain ⟨_, av, cv, rfl, _⟩ := hs
      clear e1 e2
      have B1 : Hid (Below wr.heap.size wr (wr.alloc (.cells #[.slice av t.a.length cv, .int .i64 t.e] 55))) := (Below.refl _ _).alloc (Nat.le_refl _) _
      obtain ⟨v2, w2, hrun, ho2, _, hb2, _⟩ := run_append_olds (t := t) (Ap.own_below HO.out B1.out) (Nat.le_trans HB.out.size B1.out.size) HS.out (by simp; omega)
      rw [show (wr.alloc (.cells #[.slice av t.a.length cv, .int .i64 t.e] _)).heap.size = wr.heap.size + 1 by simp] at hrun
      have HRUN := Lib.hid hrun
      have O2 := Lib.hid ho2
      have B2 := Lib.hid ((HB.out.trans (B1.out.mono HB.out.size)).trans hb2)
      clear hrun ho2 hb2
      go_wp2_with (at_builtin; refine Ap.wpList_append_run (by rfl) _ _ _ _ rfl _ _ rfl rfl v2 w2 HRUN.out ?_)
      go_roundw
      case rel => exact ⟨k + 1, _, by omega, by go_num, B2.out, by rw [HT.out]; exact O2.out, by rw [HT.out]; exact HC.out.snoc HS.out⟩
      case measure => simp [intOf]; omega
    · go_wp2_with fail
      go_ret
      refine ⟨_, rfl, ?_, HB.out⟩
      have h1 := HO.out
      have h2 := HC.out
      rw [List.take_of_length_le (by omega)] at h1 h2
      exact ⟨cs, Ap.Rd.owned h1, h2.below HB.out⟩
end Go.Proofs.YtgaediondmdnbaaGreat.Tr

namespace Go.Proofs.YtgaediondmdnbaaGreat.So
open Go Go.RowKit Go.Proofs.YtgaediondmdnbaaGreat.Rw
set_option maxRecDepth 20000

theorem whole_tre {l : List Nd} (h : whole l = true) : Tre l := by
  unfold whole at h
  simp only [Bool.and_eq_true, decide_eq_true_eq] at h
  exact Tre.of_size h.2 (fun e => by rw [e] at h; exact absurd h.1.2.1 (by decide))
/-- No sort below s. -/
def Not (l : List Nd) (s : Nat) : Prop := ∀ i, 1 ≤ i → i < s → Is i l = false
theorem Not.next {l : List Nd} {s : Nat} (h : Not l s) (hs : Is s l = false) : Not l (s + 1) := fun i h1 h2 => by
  rcases Nat.lt_or_ge i s with h' | h'
  · exact h i h1 h'
  · rw [show i = s by omega]
    exact hs

end Go.Proofs.YtgaediondmdnbaaGreat.So

namespace Go.Proofs.YtgaediondmdnbaaGreat.Sx
open Go Go.RowKit Go.Proofs.YtgaediondmdnbaaGreat.Rw Go.Proofs.YtgaediondmdnbaaGreat.So
set_option maxRecDepth 20000

theorem five {a : Nat} (h : a ≤ 4) : a = 0 ∨ a = 1 ∨ a = 2 ∨ a = 3 ∨ a = 4 := by omega
set_option maxHeartbeats 400000 in
theorem plP (a : Nat) (w : World) (h : a ≤ 4) : Calls Tryz.prog 25 #[.int .i64 a] w fun e w' => e = .returned (.bool (pl a)) ∧ w = w' := by
  rcases five h with rfl | rfl | rfl | rfl | rfl
  all_goals
    go_enter Tryz.func25, Tryz.ntmps25
    go_wp2_with fail
    go_ret
    exact ⟨rfl, rfl⟩
set_option maxHeartbeats 400000 in
theorem pdP (a : Nat) (w : World) (h : a ≤ 4) : Calls Tryz.prog 23 #[.int .i64 a] w fun e w' => e = .returned (.bool (pd a)) ∧ w = w' := by
  rcases five h with rfl | rfl | rfl | rfl | rfl
  all_goals
    go_enter Tryz.func23, Tryz.ntmps23
    go_wp2_with fail
    go_ret
    exact ⟨rfl, rfl⟩
set_option maxHeartbeats 400000 in
theorem onP (a : Nat) (w : World) (h : a ≤ 4) : Calls Tryz.prog 109 #[.int .i64 a] w fun e w' => e = .returned (.bool (on a)) ∧ w = w' := by
  rcases five h with rfl | rfl | rfl | rfl | rfl
  all_goals
    go_enter Tryz.func109, Tryz.ntmps109
    go_wp2_with fail
    go_ret
    exact ⟨rfl, rfl⟩
set_option maxHeartbeats 2000000 in
theorem fit_leaf (k : Int) (w : World) (h : k = 1 ∨ k = 2 ∨ k = 3 ∨ k = 4 ∨ k = 11) : Calls Tryz.prog 70 #[.int .i64 k, .int .i64 0, .int .i64 0] w fun e w' => e = .returned (.bool (fit k 0 0)) ∧ w = w' := by
  rcases h with rfl | rfl | rfl | rfl | rfl
  all_goals
    go_enter Tryz.func70, Tryz.ntmps70
    go_wp2_with fail
    go_ret
    exact ⟨rfl, rfl⟩
set_option maxHeartbeats 2000000 in
theorem fit_9 (a : Nat) (w : World) (ha : a ≤ 4) : Calls Tryz.prog 70 #[.int .i64 9, .int .i64 a, .int .i64 0] w fun e w' => e = .returned (.bool (fit 9 a 0)) ∧ w = w' := by
  go_enter Tryz.func70, Tryz.ntmps70
  go_wp2_with fail
  refine (pdP a _ ha).mono ?_
  rintro e w' ⟨rfl, rfl⟩
  go_wp2_with fail
  go_ret
  exact ⟨rfl, rfl⟩
set_option maxHeartbeats 2000000 in
theorem fit_14 (a : Nat) (w : World) (ha : a ≤ 4) : Calls Tryz.prog 70 #[.int .i64 14, .int .i64 a, .int .i64 0] w fun e w' => e = .returned (.bool (fit 14 a 0)) ∧ w = w' := by
  rcases five ha with rfl | rfl | rfl | rfl | rfl
  all_goals
    go_enter Tryz.func70, Tryz.ntmps70
    go_wp2_with fail
    go_ret
    exact ⟨rfl, rfl⟩
set_option maxHeartbeats 4000000 in
theorem fit_5 (a b : Nat) (w : World) (ha : a ≤ 4) (hb : b ≤ 4) : Calls Tryz.prog 70 #[.int .i64 5, .int .i64 a, .int .i64 b] w fun e w' => e = .returned (.bool (fit 5 a b)) ∧ w = w' := by
  have c_onb := fun w => onP b w hb
  have c_pla := fun w => plP a w ha
  have c_pda := fun w => pdP a w ha
  have c_pdb := fun w => pdP b w hb
  have c_plb := fun w => plP b w hb
  have hr : fit 5 a b = (!on b && (pl a && pl b || pd a && pd b)) := rfl
  rw [hr]
  clear hr
  generalize on b = x_onb at *
  generalize pl a = x_pla at *
  generalize pd a = x_pda at *
  generalize pd b = x_pdb at *
  generalize pl b = x_plb at *
  go_enter Tryz.func70, Tryz.ntmps70
  go_wp2_with fail
  refine (c_onb _).mono ?_
  rintro e w' ⟨rfl, rfl⟩
  cases x_onb
  · go_wp2_with fail
    refine (c_pla _).mono ?_
    rintro e w' ⟨rfl, rfl⟩
    cases x_pla
    · go_wp2_with fail
      refine (c_pda _).mono ?_
      rintro e w' ⟨rfl, rfl⟩
      cases x_pda
      · go_wp2_with fail
        go_ret
        exact ⟨rfl, rfl⟩
      · go_wp2_with fail
        refine (c_pdb _).mono ?_
        rintro e w' ⟨rfl, rfl⟩
        cases x_pdb
        · go_wp2_with fail
          go_ret
          exact ⟨rfl, rfl⟩
        · go_wp2_with fail
          go_ret
          exact ⟨rfl, rfl⟩
    · go_wp2_with fail
      refine (c_plb _).mono ?_
      rintro e w' ⟨rfl, rfl⟩
      cases x_plb
      · go_wp2_with fail
        refine (c_pda _).mono ?_
        rintro e w' ⟨rfl, rfl⟩
        cases x_pda
        · go_wp2_with fail
          go_ret
          exact ⟨rfl, rfl⟩
        · go_wp2_with fail
          refine (c_pdb _).mono ?_
          rintro e w' ⟨rfl, rfl⟩
          cases x_pdb
          · go_wp2_with fail
            go_ret
            exact ⟨rfl, rfl⟩
          · go_wp2_with fail
            go_ret
            exact ⟨rfl, rfl⟩
      · go_wp2_with fail
        go_ret
        exact ⟨rfl, rfl⟩
  · go_wp2_with fail
    go_ret
    exact ⟨rfl, rfl⟩
set_option maxHeartbeats 4000000 in
theorem fit_6 (a b : Nat) (w : World) (ha : a ≤ 4) (hb : b ≤ 4) : Calls Tryz.prog 70 #[.int .i64 6, .int .i64 a, .int .i64 b] w fun e w' => e = .returned (.bool (fit 6 a b)) ∧ w = w' := by
  have c_ona := fun w => onP a w ha
  have c_onb := fun w => onP b w hb
  have c_pla := fun w => plP a w ha
  have c_pda := fun w => pdP a w ha
  have c_pdb := fun w => pdP b w hb
  have c_plb := fun w => plP b w hb
  have hr : fit 6 a b = (!on a && (!on b && (pl a && pl b || pd a && pd b))) := rfl
  rw [hr]
  clear hr
  generalize on a = x_ona at *
  generalize on b = x_onb at *
  generalize pl a = x_pla at *
  generalize pd a = x_pda at *
  generalize pd b = x_pdb at *
  generalize pl b = x_plb at *
  go_enter Tryz.func70, Tryz.ntmps70
  go_wp2_with fail
  refine (c_ona _).mono ?_
  rintro e w' ⟨rfl, rfl⟩
  cases x_ona
  · go_wp2_with fail
    refine (c_onb _).mono ?_
    rintro e w' ⟨rfl, rfl⟩
    cases x_onb
    · go_wp2_with fail
      refine (c_pla _).mono ?_
      rintro e w' ⟨rfl, rfl⟩
      cases x_pla
      · go_wp2_with fail
        refine (c_pda _).mono ?_
        rintro e w' ⟨rfl, rfl⟩
        cases x_pda
        · go_wp2_with fail
          go_ret
          exact ⟨rfl, rfl⟩
        · go_wp2_with fail
          refine (c_pdb _).mono ?_
          rintro e w' ⟨rfl, rfl⟩
          cases x_pdb
          · go_wp2_with fail
            go_ret
            exact ⟨rfl, rfl⟩
          · go_wp2_with fail
            go_ret
            exact ⟨rfl, rfl⟩
      · go_wp2_with fail
        refine (c_plb _).mono ?_
        rintro e w' ⟨rfl, rfl⟩
        cases x_plb
        · go_wp2_with fail
          refine (c_pda _).mono ?_
          rintro e w' ⟨rfl, rfl⟩
          cases x_pda
          · go_wp2_with fail
            go_ret
            exact ⟨rfl, rfl⟩
          · go_wp2_with fail
            refine (c_pdb _).mono ?_
            rintro e w' ⟨rfl, rfl⟩
            cases x_pdb
            · go_wp2_with fail
              go_ret
              exact ⟨rfl, rfl⟩
            · go_wp2_with fail
              go_ret
              exact ⟨rfl, rfl⟩
        · go_wp2_with fail
          go_ret
          exact ⟨rfl, rfl⟩
    · go_wp2_with fail
      go_ret
      exact ⟨rfl, rfl⟩
  · go_wp2_with fail
    go_ret
    exact ⟨rfl, rfl⟩
set_option maxHeartbeats 4000000 in
theorem fit_7 (a b : Nat) (w : World) (ha : a ≤ 4) (hb : b ≤ 4) : Calls Tryz.prog 70 #[.int .i64 7, .int .i64 a, .int .i64 b] w fun e w' => e = .returned (.bool (fit 7 a b)) ∧ w = w' := by
  have c_pla := fun w => plP a w ha
  have c_pda := fun w => pdP a w ha
  have c_pdb := fun w => pdP b w hb
  have c_plb := fun w => plP b w hb
  have hr : fit 7 a b = (pl a && pl b || pd a && pd b) := rfl
  rw [hr]
  clear hr
  generalize pl a = x_pla at *
  generalize pd a = x_pda at *
  generalize pd b = x_pdb at *
  generalize pl b = x_plb at *
  go_enter Tryz.func70, Tryz.ntmps70
  go_wp2_with fail
  refine (c_pla _).mono ?_
  rintro e w' ⟨rfl, rfl⟩
  cases x_pla
  · go_wp2_with fail
    refine (c_pda _).mono ?_
    rintro e w' ⟨rfl, rfl⟩
    cases x_pda
    · go_wp2_with fail
      go_ret
      exact ⟨rfl, rfl⟩
    · go_wp2_with fail
      refine (c_pdb _).mono ?_
      rintro e w' ⟨rfl, rfl⟩
      cases x_pdb
      · go_wp2_with fail
        go_ret
        exact ⟨rfl, rfl⟩
      · go_wp2_with fail
        go_ret
        exact ⟨rfl, rfl⟩
  · go_wp2_with fail
    refine (c_plb _).mono ?_
    rintro e w' ⟨rfl, rfl⟩
    cases x_plb
    · go_wp2_with fail
      refine (c_pda _).mono ?_
      rintro e w' ⟨rfl, rfl⟩
      cases x_pda
      · go_wp2_with fail
        go_ret
        exact ⟨rfl, rfl⟩
      · go_wp2_with fail
        refine (c_pdb _).mono ?_
        rintro e w' ⟨rfl, rfl⟩
        cases x_pdb
        · go_wp2_with fail
          go_ret
          exact ⟨rfl, rfl⟩
        · go_wp2_with fail
          go_ret
          exact ⟨rfl, rfl⟩
    · go_wp2_with fail
      go_ret
      exact ⟨rfl, rfl⟩
set_option maxHeartbeats 4000000 in
theorem fit_8 (a b : Nat) (w : World) (ha : a ≤ 4) : Calls Tryz.prog 70 #[.int .i64 8, .int .i64 a, .int .i64 b] w fun e w' => e = .returned (.bool (fit 8 a b)) ∧ w = w' := by
  have c_pla := fun w => plP a w ha
  have hr : fit 8 a b = (pl a && (b == 1)) := rfl
  rw [hr]
  clear hr
  generalize pl a = x_pla at *
  have hi : ((b : Int) == 1) = (b == 1) := by rw [Bool.eq_iff_iff, beq_iff_eq, beq_iff_eq]; omega
  generalize (b == 1) = q at *
  cases q
  all_goals
    go_enter Tryz.func70, Tryz.ntmps70
    go_wp2_with fail
    refine (c_pla _).mono ?_
    rintro e w' ⟨rfl, rfl⟩
    cases x_pla
    · go_wp2_with fail
      go_ret
      exact ⟨rfl, rfl⟩
    · go_wp2_with fail
      go_ret
      exact ⟨rfl, rfl⟩
set_option maxHeartbeats 4000000 in
theorem fit_10 (a b : Nat) (w : World) (ha : a ≤ 4) : Calls Tryz.prog 70 #[.int .i64 10, .int .i64 a, .int .i64 b] w fun e w' => e = .returned (.bool (fit 10 a b)) ∧ w = w' := by
  have c_ona := fun w => onP a w ha
  have c_pla := fun w => plP a w ha
  have hr : fit 10 a b = (!on a && (pl a && (b == 1))) := rfl
  rw [hr]
  clear hr
  generalize on a = x_ona at *
  generalize pl a = x_pla at *
  have hi : ((b : Int) == 1) = (b == 1) := by rw [Bool.eq_iff_iff, beq_iff_eq, beq_iff_eq]; omega
  generalize (b == 1) = q at *
  cases q
  all_goals
    go_enter Tryz.func70, Tryz.ntmps70
    go_wp2_with fail
    refine (c_ona _).mono ?_
    rintro e w' ⟨rfl, rfl⟩
    cases x_ona
    · go_wp2_with fail
      refine (c_pla _).mono ?_
      rintro e w' ⟨rfl, rfl⟩
      cases x_pla
      · go_wp2_with fail
        go_ret
        exact ⟨rfl, rfl⟩
      · go_wp2_with fail
        go_ret
        exact ⟨rfl, rfl⟩
    · go_wp2_with fail
      go_ret
      exact ⟨rfl, rfl⟩
set_option maxHeartbeats 4000000 in
theorem fit_12 (a b : Nat) (w : World) (ha : a ≤ 4) : Calls Tryz.prog 70 #[.int .i64 12, .int .i64 a, .int .i64 b] w fun e w' => e = .returned (.bool (fit 12 a b)) ∧ w = w' := by
  have c_pla := fun w => plP a w ha
  have hr : fit 12 a b = (pl a && (b == 1)) := rfl
  rw [hr]
  clear hr
  generalize pl a = x_pla at *
  have hi : ((b : Int) == 1) = (b == 1) := by rw [Bool.eq_iff_iff, beq_iff_eq, beq_iff_eq]; omega
  generalize (b == 1) = q at *
  cases q
  all_goals
    go_enter Tryz.func70, Tryz.ntmps70
    go_wp2_with fail
    refine (c_pla _).mono ?_
    rintro e w' ⟨rfl, rfl⟩
    cases x_pla
    · go_wp2_with fail
      go_ret
      exact ⟨rfl, rfl⟩
    · go_wp2_with fail
      go_ret
      exact ⟨rfl, rfl⟩
set_option maxHeartbeats 4000000 in
theorem fit_13 (a b : Nat) (w : World) (ha : a ≤ 4) : Calls Tryz.prog 70 #[.int .i64 13, .int .i64 a, .int .i64 b] w fun e w' => e = .returned (.bool (fit 13 a b)) ∧ w = w' := by
  have c_pda := fun w => pdP a w ha
  have hr : fit 13 a b = (pd a && (b == 1)) := rfl
  rw [hr]
  clear hr
  generalize pd a = x_pda at *
  have hi : ((b : Int) == 1) = (b == 1) := by rw [Bool.eq_iff_iff, beq_iff_eq, beq_iff_eq]; omega
  generalize (b == 1) = q at *
  cases q
  all_goals
    go_enter Tryz.func70, Tryz.ntmps70
    go_wp2_with fail
    refine (c_pda _).mono ?_
    rintro e w' ⟨rfl, rfl⟩
    cases x_pda
    · go_wp2_with fail
      go_ret
      exact ⟨rfl, rfl⟩
    · go_wp2_with fail
      go_ret
      exact ⟨rfl, rfl⟩
theorem fit_any (k : Int) (a b : Nat) (w : World) (hk : 0 ≤ Rw.ar k) (ha : a ≤ 4) (hb : b ≤ 4) (h0 : Rw.ar k = 0 → a = 0) (h1 : Rw.ar k ≤ 1 → b = 0) : Calls Tryz.prog 70 #[.int .i64 k, .int .i64 a, .int .i64 b] w fun e w' => e = .returned (.bool (fit k a b)) ∧ w = w' := by
  rcases kinds hk with rfl | rfl | rfl | rfl | rfl | rfl | rfl | rfl | rfl | rfl | rfl | rfl | rfl | rfl
  case inr.inr.inr.inr.inl => exact fit_5 a b w ha hb
  case inr.inr.inr.inr.inr.inl => exact fit_6 a b w ha hb
  case inr.inr.inr.inr.inr.inr.inl => exact fit_7 a b w ha hb
  case inr.inr.inr.inr.inr.inr.inr.inl => exact fit_8 a b w ha
  case inr.inr.inr.inr.inr.inr.inr.inr.inl => obtain rfl := h1 (by decide); exact fit_9 a w ha
  case inr.inr.inr.inr.inr.inr.inr.inr.inr.inl => exact fit_10 a b w ha
  case inr.inr.inr.inr.inr.inr.inr.inr.inr.inr.inr.inl => exact fit_12 a b w ha
  case inr.inr.inr.inr.inr.inr.inr.inr.inr.inr.inr.inr.inl => exact fit_13 a b w ha
  case inr.inr.inr.inr.inr.inr.inr.inr.inr.inr.inr.inr.inr => obtain rfl := h1 (by decide); exact fit_14 a w ha
  all_goals
    obtain rfl := h0 (by decide)
    obtain rfl := h1 (by decide)
    exact fit_leaf _ w (by decide)
set_option maxHeartbeats 2000000 in
theorem made_two (k : Int) (a b : Nat) (w : World) (h : k = 5 ∨ k = 6 ∨ k = 7 ∨ k = 8) : Calls Tryz.prog 71 #[.int .i64 k, .int .i64 a, .int .i64 b] w fun e w' => e = .returned (.int .i64 (made k a b)) ∧ w = w' := by
  have hm : made k a b = max a b := by unfold made; rw [if_pos h]
  have HM : Hid (((max a b : Nat) : Int) = (made k a b : Nat)) := by show _ = _; rw [hm]
  clear hm
  rcases h with rfl | rfl | rfl | rfl
  all_goals
    go_enter Tryz.func71, Tryz.ntmps71
    go_wp2_with fail
  all_goals
    go_ret
    exact ⟨ret_int (by rw [← HM.out]; omega), rfl⟩
set_option maxHeartbeats 2000000 in
theorem made_9 (a b : Nat) (w : World) (ha : a ≤ 4) : Calls Tryz.prog 71 #[.int .i64 9, .int .i64 a, .int .i64 b] w fun e w' => e = .returned (.int .i64 (made 9 a b)) ∧ w = w' := by
  rcases five ha with rfl | rfl | rfl | rfl | rfl
  all_goals
    go_enter Tryz.func71, Tryz.ntmps71
    go_wp2_with fail
    go_ret
    exact ⟨rfl, rfl⟩
set_option maxHeartbeats 2000000 in
theorem made_other (k : Int) (a b : Nat) (w : World) (h : k = 1 ∨ k = 2 ∨ k = 3 ∨ k = 4 ∨ k = 10 ∨ k = 11 ∨ k = 12 ∨ k = 13 ∨ k = 14) : Calls Tryz.prog 71 #[.int .i64 k, .int .i64 a, .int .i64 b] w fun e w' => e = .returned (.int .i64 (made k a b)) ∧ w = w' := by
  rcases h with rfl | rfl | rfl | rfl | rfl | rfl | rfl | rfl | rfl
  all_goals
    go_enter Tryz.func71, Tryz.ntmps71
    go_wp2_with fail
    go_ret
    exact ⟨rfl, rfl⟩
theorem made_any (k : Int) (a b : Nat) (w : World) (hk : 0 ≤ Rw.ar k) (ha : a ≤ 4) : Calls Tryz.prog 71 #[.int .i64 k, .int .i64 a, .int .i64 b] w fun e w' => e = .returned (.int .i64 (made k a b)) ∧ w = w' := by
  by_cases h2 : k = 5 ∨ k = 6 ∨ k = 7 ∨ k = 8
  · exact made_two k a b w h2
  · by_cases h9 : k = 9
    · subst h9
      exact made_9 a b w ha
    · exact made_other k a b w (by have := kinds hk; omega)
end Go.Proofs.YtgaediondmdnbaaGreat.Sx

namespace Go.Proofs.YtgaediondmdnbaaGreat.Tr
open Go Go.RowKit
set_option maxRecDepth 20000

theorem infoS : (Tryz.prog.info? 9).map (fun i => (i.zero, i.size, i.bytes)) = some (some (.string ⟨#[]⟩), 1, 16) := by kernel_rfl

/-- Texts of any slice appended to a row that the call owns. -/
theorem run_append_strs {w : World} {base : Nat} {v x : Value} {l m : List ByteArray} (hown : w.ownsRow base 9 1 v l.length (l.map .string)) (hbase : base ≤ w.heap.size) (hx : Strs w x m) (hlen : l.length + m.length ≤ 2000000000000) :
    ∃ v' w', (Builtin.append_ #[52, 52] 52 #[v, x]).run Tryz.prog w = .ok v' w' ∧ w'.ownsRow base 9 1 v' (l ++ m).length ((l ++ m).map .string) ∧ w.grownBy w' v.ownBlock ∧ Below base w w' ∧ Ap.Fresh w v v' := by
  obtain ⟨i0, hi, hz, hs1, hb8⟩ := info_parts infoS
  obtain ⟨v', w', h1, h2, h3, h4, h5⟩ := Ap.run_append_rd (P := Tryz.prog) (ty := 52) Tryz.underlying52 hi hz hs1 hb8 (by rfl) (by omega) hown hbase hx
    (fun u hu => by obtain ⟨b, _, rfl⟩ := List.mem_map.1 hu; rfl) (by unfold maxLen; omega) (by omega)
  exact ⟨v', w', h1, by simpa using h2, h3, h4, h5⟩

end Go.Proofs.YtgaediondmdnbaaGreat.Tr
