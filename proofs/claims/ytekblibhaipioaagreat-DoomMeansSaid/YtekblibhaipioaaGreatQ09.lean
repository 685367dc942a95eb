/- slices.CompactFunc over rests: the walk. slices.CompactFunc over pairs: the walk. The statements' own Olds: the walk. The document's Cat: two rows of actions as one of the call's own. The document's Is, Of, On and Right. -/
import Derived.Test.YtekblibhaipioaaGreatQ07
import Derived.Test.YtekblibhaipioaaGreatQ04
import Derived.Test.YtekblibhaipioaaGreatQ06

namespace Go.Proofs.YtekblibhaipioaaGreat.Tr
open Go Go.RowKit
set_option maxRecDepth 20000
def ShapeR (x : Value × Value) : Prop := ∃ a n c a' n' c', x = (.slice a n c, .slice a' n' c')
theorem zsR (n : Nat) : (Builtin.zeroCells #[.slice none 0 0, .slice none 0 0] n).toList.length = n * 2 ∧ ∀ v ∈ (Builtin.zeroCells #[.slice none 0 0, .slice none 0 0] n).toList, v.oneCell' = true := by
  refine ⟨by simp [Builtin.zeroCells], fun v hv => ?_⟩
  obtain ⟨i, _, rfl⟩ := zc_mem hv
  rcases Nat.mod_two_eq_zero_or_one i with h | h
  · show ((#[.slice none 0 0, .slice none 0 0] : Array Value)[i % 2]!).oneCell' = true
    rw [h]; rfl
  · show ((#[.slice none 0 0, .slice none 0 0] : Array Value)[i % 2]!).oneCell' = true
    rw [h]; rfl
set_option maxHeartbeats 4000000 in
theorem compactR (g cap : Nat) (q : Value × Value → Value × Value → Bool) (xs : List (Value × Value)) (w : World) (h : Own2 w g 171 cap xs) (hlen : xs.length ≤ 1000000000000) (hsh : ∀ x ∈ xs, ShapeR x)
    (hq : ∀ W, w.grownBy W (some g) → ∀ x ∈ xs, ∀ y ∈ xs, Calls Tryz.prog 176 #[.agg #[x.1, x.2], .agg #[y.1, y.2]] W fun e w' => e = .returned (.bool (q x y)) ∧ Below W.heap.size W w') :
    Calls Tryz.prog 175 #[.slice (some ⟨g, 0, none⟩) xs.length cap, .func (.func 176) #[] #[]] w fun e w' => e = .returned (.slice (some ⟨g, 0, none⟩) (cpt q xs).length cap) ∧ Own2 w' g 171 cap (cpt q xs) ∧ w.grownBy w' (some g) := by
  have hcap := h.len
  have H := Lib.hid h
  have HS := Lib.hid hsh
  have HQ := Lib.hid hq
  clear h hsh hq
  by_cases h2 : xs.length < 2
  · have HX : Hid (cpt q xs = xs) := by
      match xs, h2 with
      | [], _ => exact rfl
      | [x], _ => exact rfl
    go_enter Tryz.func175, Tryz.ntmps175
    go_wp2_with fail
    go_ret
    rw [HX.out]
    exact ⟨rfl, H.out, gb_refl _ _⟩
  · go_enter Tryz.func175, Tryz.ntmps175
    go_wp2_with fail
    go_loopw [5] (fun kv wr => ∃ k : Nat, 1 ≤ k ∧ k ≤ xs.length ∧ kv = .int .i64 (k : Int) ∧ Own2 wr g 171 cap xs ∧ w.grownBy wr (some g) ∧ cpt q (xs.take k) = xs.take k) (fun kv _ => xs.length - (intOf kv).toNat)
    case atStart =>
      refine ⟨1, Nat.le_refl _, by omega, rfl, H.out, gb_refl _ _, ?_⟩
      match xs, h2 with
      | x :: xs, _ => simp [cpt, cptF]
    case round =>
      obtain ⟨k, hk1, hk, rfl, ho, hg, hcp⟩ := hrel
      have HO := Lib.hid ho
      have HG := Lib.hid hg
      have HCP := Lib.hid hcp
      clear ho hg hcp
      by_cases hlt : k < xs.length
      · have c0 := HO.out.cell0 k hlt
        have c1 := HO.out.cell1 k hlt
        have d0 := HO.out.cell0 (k - 1) (by omega)
        have d1 := HO.out.cell1 (k - 1) (by omega)
        have M1 := Lib.hid (List.getElem_mem hlt)
        have M0 := Lib.hid (List.getElem_mem (show k - 1 < xs.length by omega))
        have SN := Lib.hid (cpt_at q xs k hk1 hlt)
        have TK := Lib.hid (List.take_succ_eq_append_getElem hlt)
        obtain ⟨x, hx⟩ : ∃ x, xs[k] = x := ⟨_, rfl⟩
        obtain ⟨y, hy⟩ : ∃ y, xs[k - 1]'(by omega) = y := ⟨_, rfl⟩
        rw [hx] at c0 c1 M1 SN TK
        rw [hy] at d0 d1 M0 SN
        clear hx hy
        obtain ⟨j, hjk⟩ : ∃ j, k - 1 = j := ⟨_, rfl⟩
        have HW1 := Lib.hid (wrap_pred k j hjk hk1 (by omega))
        have hjlt : j < xs.length := by omega
        rw [hjk] at d0 d1
        have HJK := Lib.hid hjk
        clear hjk
        have QC := Lib.hid (fun W hW => HQ.out W hW x M1.out y M0.out)
        cases hxy : q x y with
        | false =>
          rw [hxy] at QC SN
          obtain ⟨x1, x2⟩ := x
          obtain ⟨y1, y2⟩ := y
          go_wp2_with fail
          go_still_tail 10, (by kernel_rfl)
          simp only [HW1.out]
          repeat still_step
          refine wpStill_nil ?_
          change wpList _ _ _ _ _ wr.drew
          go_wp2_with fail
          refine (QC.out _ (gb_trans HG.out (gb_drew _ _))).mono ?_
          rintro e w1 ⟨rfl, hb1⟩
          have G1 := Lib.hid (gb_trans (gb_trans HG.out (gb_drew _ _)) (gb_below hb1))
          have O1 := Lib.hid (HO.out.below ((Below.refl _ _).drew.trans hb1))
          clear hb1
          go_wp2_with fail
          go_roundw
          case rel => exact ⟨k + 1, by omega, by omega, by go_num, O1.out, G1.out, by rw [SN.out, HCP.out, TK.out]; rfl⟩
          case measure => simp [intOf]; omega
        | true =>
          rw [hxy] at QC SN
          obtain ⟨x1, x2⟩ := x
          obtain ⟨y1, y2⟩ := y
          go_wp2_with fail
          go_still_tail 10, (by kernel_rfl)
          simp only [HW1.out]
          repeat still_step
          refine wpStill_nil ?_
          change wpList _ _ _ _ _ wr.drew
          go_wp2_with fail
          refine (QC.out _ (gb_trans HG.out (gb_drew _ _))).mono ?_
          rintro e w1 ⟨rfl, hb1⟩
          have G1 := Lib.hid (gb_trans (gb_trans HG.out (gb_drew _ _)) (gb_below hb1))
          have O1 := Lib.hid (HO.out.below ((Below.refl _ _).drew.trans hb1))
          clear hb1 c0 c1 d0 d1
          go_wp2_with fail
          go_loopw [5, 7] (fun kv k2v wr => ∃ kk k2 : Nat, kv = .int .i64 (kk : Int) ∧ k2v = .int .i64 (k2 : Int) ∧ 1 ≤ k2 ∧ k + k2 ≤ xs.length ∧ kk = (cpt q (xs.take (k + k2))).length ∧ kk < k + k2 ∧ Own2 wr g 171 cap (cpt q (xs.take (k + k2)) ++ xs.drop kk) ∧ w.grownBy wr (some g)) (fun _ k2v _ => xs.length - (k + (intOf k2v).toNat))
          case atStart =>
            have e0 : cpt q (xs.take (k + 1)) = xs.take k := by rw [SN.out, HCP.out]; simp
            refine ⟨k, 1, rfl, rfl, Nat.le_refl _, by omega, by rw [e0, List.length_take]; omega, by omega, ?_, G1.out⟩
            rw [e0, List.take_append_drop]
            exact O1.out
          case round =>
            obtain ⟨kk, k2, rfl, rfl, hk2, hle, hkk, hkl, ho2, hg2⟩ := hrel
            have HKK := Lib.hid hkk
            have HO2 := Lib.hid ho2
            have HG2 := Lib.hid hg2
            clear hkk ho2 hg2
            by_cases hlt2 : k + k2 < xs.length
            · have ey : ∀ m (hm : m < xs.length) (hk : kk ≤ m), ∃ hm' : m < (cpt q (xs.take (k + k2)) ++ xs.drop kk).length, (cpt q (xs.take (k + k2)) ++ xs.drop kk)[m] = xs[m] := fun m hm hk => by
                refine ⟨by simp [← HKK.out]; omega, ?_⟩
                rw [List.getElem_append_right (by rw [← HKK.out]; exact hk)]
                simp [← HKK.out, Nat.add_sub_cancel' hk]
              obtain ⟨hA, eA⟩ := ey (k + k2) hlt2 (by omega)
              obtain ⟨hB, eB⟩ := ey (k + k2 - 1) (by omega) (by omega)
              have c0 := HO2.out.cell0 _ hA
              have c1 := HO2.out.cell1 _ hA
              have d0 := HO2.out.cell0 _ hB
              have d1 := HO2.out.cell1 _ hB
              rw [eA] at c0 c1
              rw [eB] at d0 d1
              have M1' := Lib.hid (List.getElem_mem hlt2)
              have M0' := Lib.hid (List.getElem_mem (show k + k2 - 1 < xs.length by omega))
              have SN' := Lib.hid (cpt_at q xs (k + k2) (by omega) hlt2)
              have DK := Lib.hid (List.drop_eq_getElem_cons (show kk < xs.length by omega))
              obtain ⟨u, hu⟩ : ∃ u, xs[k + k2] = u := ⟨_, rfl⟩
              obtain ⟨v, hv⟩ : ∃ v, xs[k + k2 - 1]'(by omega) = v := ⟨_, rfl⟩
              rw [hu] at c0 c1 M1' SN'
              rw [hv] at d0 d1 M0' SN'
              clear hu hv eA eB ey
              have f0 := HO2.out.soft (kk * 2)
              have f1 := HO2.out.soft (kk * 2 + 1)
              have t0 := HO2.out.there (kk * 2) (by omega)
              have t1 := HO2.out.there (kk * 2 + 1) (by omega)
              obtain ⟨o0, t0⟩ := Option.isSome_iff_exists.1 t0
              obtain ⟨o1, t1⟩ := Option.isSome_iff_exists.1 t1
              rw [show (k + k2) * 2 = k * 2 + k2 * 2 by omega] at c0 c1
              rw [show (k + k2 - 1) * 2 = k * 2 + (k2 - 1) * 2 by omega] at d0 d1
              obtain ⟨j2, hjk2⟩ : ∃ j2, k2 - 1 = j2 := ⟨_, rfl⟩
              have HW2 := Lib.hid (wrap_pred k2 j2 hjk2 hk2 (by omega))
              have hjlt2 : j2 < xs.length - k := by omega
              have hklt2 : k2 < xs.length - k := by omega
              rw [hjk2] at d0 d1
              have HJK2 := Lib.hid hjk2
              clear hjk2
              have QC2 := Lib.hid (fun W hW => HQ.out W hW u M1'.out v M0'.out)
              cases huv : q u v with
              | true =>
                rw [huv] at QC2 SN'
                obtain ⟨u1, u2⟩ := u
                obtain ⟨v1, v2⟩ := v
                go_wp2_with fail
                go_still_tail 10, (by kernel_rfl)
                simp only [HW2.out]
                repeat still_step
                refine wpStill_nil ?_
                change wpList _ _ _ _ _ wr.drew
                go_wp2_with fail
                refine (QC2.out _ (gb_trans HG2.out (gb_drew _ _))).mono ?_
                rintro e w2 ⟨rfl, hb2⟩
                have G2 := Lib.hid (gb_trans (gb_trans HG2.out (gb_drew _ _)) (gb_below hb2))
                have O2 := Lib.hid (HO2.out.below ((Below.refl _ _).drew.trans hb2))
                clear hb2
                go_wp2_with fail
                go_roundw
                case rel =>
                  have e1 : cpt q (xs.take (k + (k2 + 1))) = cpt q (xs.take (k + k2)) := by
                    rw [show k + (k2 + 1) = k + k2 + 1 by omega]
                    have := SN'.out
                    simpa using this
                  refine ⟨kk, k2 + 1, rfl, by go_num, by omega, by omega, by rw [e1]; exact HKK.out, by omega, ?_, G2.out⟩
                  rw [e1]
                  exact O2.out
                case measure => simp [intOf]; omega
              | false =>
                rw [huv] at QC2 SN'
                obtain ⟨a', n', c', a3, n3, c3, rfl⟩ := HS.out u M1'.out
                obtain ⟨v1, v2⟩ := v
                go_wp2_with fail
                go_still_tail 10, (by kernel_rfl)
                simp only [HW2.out]
                repeat still_step
                refine wpStill_nil ?_
                change wpList _ _ _ _ _ wr.drew
                go_wp2_with fail
                refine (QC2.out _ (gb_trans HG2.out (gb_drew _ _))).mono ?_
                rintro e w2 ⟨rfl, hb2⟩
                have hD : Below wr.heap.size wr w2 := (Below.refl _ _).drew.trans hb2
                have G2 := Lib.hid (gb_trans (gb_trans HG2.out (gb_drew _ _)) (gb_below hb2))
                have O2 := Lib.hid (HO2.out.below hD)
                have hgl := HO2.out.lt
                rw [← hD.cell (p := ⟨g, k * 2 + k2 * 2, none⟩) hgl] at c0
                rw [← hD.cell (p := ⟨g, k * 2 + k2 * 2 + 1, none⟩) hgl] at c1
                rw [← hD.cell (p := ⟨g, kk * 2, none⟩) hgl] at t0
                rw [← hD.cell (p := ⟨g, kk * 2 + 1, none⟩) hgl] at t1
                rw [← hD.frozen (p := ⟨g, kk * 2, none⟩) hgl] at f0
                rw [← hD.frozen (p := ⟨g, kk * 2 + 1, none⟩) hgl] at f1
                clear hb2 hD d0 d1
                go_wp2_with fail
                go_roundw
                case rel =>
                  have e1 : cpt q (xs.take (k + (k2 + 1))) = cpt q (xs.take (k + k2)) ++ [(.slice a' n' c', .slice a3 n3 c3)] := by
                    rw [show k + (k2 + 1) = k + k2 + 1 by omega]
                    have := SN'.out
                    simpa using this
                  refine ⟨kk + 1, k2 + 1, by go_num, by go_num, by omega, by omega, by rw [e1, List.length_append, ← HKK.out]; rfl, by omega, ?_, gb_trans G2.out (gb_trans (gb_setCell _ _ _ _) (gb_setCell _ _ _ _))⟩
                  have := O2.out.store kk (by simp [← HKK.out]; omega) (.slice a' n' c') (.slice a3 n3 c3)
                  rw [DK.out] at this
                  rw [e1]
                  have e3 := set_mid (cpt q (xs.take (k + k2))) (xs.drop (kk + 1)) (xs[kk]'(by omega)) (.slice a' n' c', .slice a3 n3 c3)
                  rw [← HKK.out] at e3
                  rw [e3] at this
                  simpa using this
                case measure => simp [intOf]; omega
            · have hend : k + k2 = xs.length := by omega
              have hcl : ∀ ty, (Builtin.clear_ #[167] ty #[.slice (some ⟨g, kk * 2, none⟩) (xs.length - kk) (cap - kk)]).run Tryz.prog wr = .ok (.tuple #[]) (wr.setCells g (kk * 2) (Builtin.zeroCells #[.slice none 0 0, .slice none 0 0] (xs.length - kk)).toList) :=
                fun ty => run_clear2 wr _ _ ty (.agg #[.slice none 0 0, .slice none 0 0]) Tryz.underlying167 Tryz.zeroValue171 g (kk * 2) _ _ (by omega) (zsR _).1 (zsR _).2 (fun j hj => HO2.out.there _ (by omega)) (fun j hj => HO2.out.soft _)
              have ET : Hid (cpt q (xs.take (k + k2)) = cpt q xs) := by rw [hend, List.take_length]; exact rfl
              have KC := HKK.out
              rw [ET.out] at KC
              have O3 := HO2.out.take kk
              rw [ET.out, List.take_left' KC.symm] at O3
              have HO3 := Lib.hid O3
              have HKC := Lib.hid KC
              clear O3 KC
              go_wp2_with fail
              go_ret
              refine ⟨by rw [← HKC.out]; go_num, HO3.out.setOut _ _ _ (by rw [← HKC.out]; exact Nat.le_refl _), gb_trans HG2.out (gb_setCells _ _ _ _)⟩
      · have hend : k = xs.length := by omega
        have HX : Hid (cpt q xs = xs) := by
          have := HCP.out
          rw [hend, List.take_length] at this
          exact this
        go_wp2_with fail
        go_ret
        rw [HX.out]
        exact ⟨rfl, HO.out, HG.out⟩
end Go.Proofs.YtekblibhaipioaaGreat.Tr

namespace Go.Proofs.YtekblibhaipioaaGreat.Mn
open Go Go.RowKit Tr
set_option maxRecDepth 20000
def ShapeP (x : Qd) : Prop := ∃ a n c z a' n' c' z', x.a = .slice a n c ∧ x.b = .int .i64 z ∧ x.c = .slice a' n' c' ∧ x.d = .int .i64 z'
theorem run_clear4 {P : Program} (w : World) (t e ty : TypeId) (z : Value) (ht : P.underlying t = some (.slice e)) (hv : ∀ w, (zeroValue e).run P w = .ok z w) (b o n c : Nat) (hn : 0 < n)
    (hl : (Builtin.zeroCells z.cells n).toList.length = n * 4) (h1 : ∀ v ∈ (Builtin.zeroCells z.cells n).toList, v.oneCell' = true)
    (hc : ∀ j, j < n * 4 → (w.cell? ⟨b, o + j, none⟩).isSome = true) (hf : ∀ j, j < n * 4 → w.frozen? ⟨b, o + j, none⟩ = false) :
    (Builtin.clear_ #[t] ty #[.slice (some ⟨b, o, none⟩) n c]).run P w = .ok (.tuple #[]) (w.setCells b o (Builtin.zeroCells z.cells n).toList) := by
  have hst := run_storeCells_cells (P := P) b o (Builtin.zeroCells z.cells n).toList 0 w (by rw [hl]; simpa using hc) (by rw [hl]; simpa using hf) h1
  simp only [Nat.add_zero] at hst
  obtain ⟨m, rfl⟩ : ∃ m, n = m + 1 := ⟨n - 1, by omega⟩
  simp [Builtin.clear_, run_underlying ht, hv, hst]
theorem zsP (n : Nat) : (Builtin.zeroCells #[.slice none 0 0, .int .i64 0, .slice none 0 0, .int .i64 0] n).toList.length = n * 4 ∧ ∀ v ∈ (Builtin.zeroCells #[.slice none 0 0, .int .i64 0, .slice none 0 0, .int .i64 0] n).toList, v.oneCell' = true := by
  refine ⟨by simp [Builtin.zeroCells], fun v hv => ?_⟩
  obtain ⟨i, _, rfl⟩ := zc_mem hv
  have h4 : i % 4 = 0 ∨ i % 4 = 1 ∨ i % 4 = 2 ∨ i % 4 = 3 := by omega
  rcases h4 with h | h | h | h
  all_goals (
    show ((#[.slice none 0 0, .int .i64 0, .slice none 0 0, .int .i64 0] : Array Value)[i % 4]!).oneCell' = true
    rw [h]; rfl)
set_option maxHeartbeats 4000000 in
theorem compactP (g cap : Nat) (q : Qd → Qd → Bool) (xs : List (Qd)) (w : World) (h : Own4 w g 34 cap xs) (hlen : xs.length ≤ 1000000000000) (hsh : ∀ x ∈ xs, ShapeP x)
    (hq : ∀ W, w.grownBy W (some g) → ∀ x ∈ xs, ∀ y ∈ xs, Calls Tryz.prog 72 #[.agg #[x.a, x.b, x.c, x.d], .agg #[y.a, y.b, y.c, y.d]] W fun e w' => e = .returned (.bool (q x y)) ∧ Below W.heap.size W w') :
    Calls Tryz.prog 71 #[.slice (some ⟨g, 0, none⟩) xs.length cap, .func (.func 72) #[] #[]] w fun e w' => e = .returned (.slice (some ⟨g, 0, none⟩) (cpt q xs).length cap) ∧ Own4 w' g 34 cap (cpt q xs) ∧ w.grownBy w' (some g) := by
  have hcap := h.len
  have H := Lib.hid h
  have HS := Lib.hid hsh
  have HQ := Lib.hid hq
  clear h hsh hq
  by_cases h2 : xs.length < 2
  · have HX : Hid (cpt q xs = xs) := by
      match xs, h2 with
      | [], _ => exact rfl
      | [x], _ => exact rfl
    go_enter Tryz.func71, Tryz.ntmps71
    go_wp2_with fail
    go_ret
    rw [HX.out]
    exact ⟨rfl, H.out, gb_refl _ _⟩
  · go_enter Tryz.func71, Tryz.ntmps71
    go_wp2_with fail
    go_loopw [5] (fun kv wr => ∃ k : Nat, 1 ≤ k ∧ k ≤ xs.length ∧ kv = .int .i64 (k : Int) ∧ Own4 wr g 34 cap xs ∧ w.grownBy wr (some g) ∧ cpt q (xs.take k) = xs.take k) (fun kv _ => xs.length - (intOf kv).toNat)
    case atStart =>
      refine ⟨1, Nat.le_refl _, by omega, rfl, H.out, gb_refl _ _, ?_⟩
      match xs, h2 with
      | x :: xs, _ => simp [cpt, cptF]
    case round =>
      obtain ⟨k, hk1, hk, rfl, ho, hg, hcp⟩ := hrel
      have HO := Lib.hid ho
      have HG := Lib.hid hg
      have HCP := Lib.hid hcp
      clear ho hg hcp
      by_cases hlt : k < xs.length
      · obtain ⟨c0, c1, c2, c3⟩ := HO.out.cell k hlt
        obtain ⟨d0, d1, d2, d3⟩ := HO.out.cell (k - 1) (by omega)
        have M1 := Lib.hid (List.getElem_mem hlt)
        have M0 := Lib.hid (List.getElem_mem (show k - 1 < xs.length by omega))
        have SN := Lib.hid (cpt_at q xs k hk1 hlt)
        have TK := Lib.hid (List.take_succ_eq_append_getElem hlt)
        obtain ⟨x, hx⟩ : ∃ x, xs[k] = x := ⟨_, rfl⟩
        obtain ⟨y, hy⟩ : ∃ y, xs[k - 1]'(by omega) = y := ⟨_, rfl⟩
        rw [hx] at c0 c1 c2 c3 M1 SN TK
        rw [hy] at d0 d1 d2 d3 M0 SN
        clear hx hy
        obtain ⟨j, hjk⟩ : ∃ j, k - 1 = j := ⟨_, rfl⟩
        have HW1 := Lib.hid (wrap_pred k j hjk hk1 (by omega))
        have hjlt : j < xs.length := by omega
        rw [hjk] at d0 d1 d2 d3
        have HJK := Lib.hid hjk
        clear hjk
        have QC := Lib.hid (fun W hW => HQ.out W hW x M1.out y M0.out)
        cases hxy : q x y with
        | false =>
          rw [hxy] at QC SN
          obtain ⟨x1, x2, x3, x4⟩ := x
          obtain ⟨y1, y2, y3, y4⟩ := y
          go_wp2_with fail
          go_still_tail 10, (by kernel_rfl)
          simp only [HW1.out]
          repeat still_step
          refine wpStill_nil ?_
          change wpList _ _ _ _ _ wr.drew
          go_wp2_with fail
          refine (QC.out _ (gb_trans HG.out (gb_drew _ _))).mono ?_
          rintro e w1 ⟨rfl, hb1⟩
          have G1 := Lib.hid (gb_trans (gb_trans HG.out (gb_drew _ _)) (gb_below hb1))
          have O1 := Lib.hid (HO.out.below ((Below.refl _ _).drew.trans hb1))
          clear hb1
          go_wp2_with fail
          go_roundw
          case rel => exact ⟨k + 1, by omega, by omega, by go_num, O1.out, G1.out, by rw [SN.out, HCP.out, TK.out]; rfl⟩
          case measure => simp [intOf]; omega
        | true =>
          rw [hxy] at QC SN
          obtain ⟨x1, x2, x3, x4⟩ := x
          obtain ⟨y1, y2, y3, y4⟩ := y
          go_wp2_with fail
          go_still_tail 10, (by kernel_rfl)
          simp only [HW1.out]
          repeat still_step
          refine wpStill_nil ?_
          change wpList _ _ _ _ _ wr.drew
          go_wp2_with fail
          refine (QC.out _ (gb_trans HG.out (gb_drew _ _))).mono ?_
          rintro e w1 ⟨rfl, hb1⟩
          have G1 := Lib.hid (gb_trans (gb_trans HG.out (gb_drew _ _)) (gb_below hb1))
          have O1 := Lib.hid (HO.out.below ((Below.refl _ _).drew.trans hb1))
          clear hb1 c0 c1 c2 c3 d0 d1 d2 d3
          go_wp2_with fail
          go_loopw [5, 7] (fun kv k2v wr => ∃ kk k2 : Nat, kv = .int .i64 (kk : Int) ∧ k2v = .int .i64 (k2 : Int) ∧ 1 ≤ k2 ∧ k + k2 ≤ xs.length ∧ kk = (cpt q (xs.take (k + k2))).length ∧ kk < k + k2 ∧ Own4 wr g 34 cap (cpt q (xs.take (k + k2)) ++ xs.drop kk) ∧ w.grownBy wr (some g)) (fun _ k2v _ => xs.length - (k + (intOf k2v).toNat))
          case atStart =>
            have e0 : cpt q (xs.take (k + 1)) = xs.take k := by rw [SN.out, HCP.out]; simp
            refine ⟨k, 1, rfl, rfl, Nat.le_refl _, by omega, by rw [e0, List.length_take]; omega, by omega, ?_, G1.out⟩
            rw [e0, List.take_append_drop]
            exact O1.out
          case round =>
            obtain ⟨kk, k2, rfl, rfl, hk2, hle, hkk, hkl, ho2, hg2⟩ := hrel
            have HKK := Lib.hid hkk
            have HO2 := Lib.hid ho2
            have HG2 := Lib.hid hg2
            clear hkk ho2 hg2
            by_cases hlt2 : k + k2 < xs.length
            · have ey : ∀ m (hm : m < xs.length) (hk : kk ≤ m), ∃ hm' : m < (cpt q (xs.take (k + k2)) ++ xs.drop kk).length, (cpt q (xs.take (k + k2)) ++ xs.drop kk)[m] = xs[m] := fun m hm hk => by
                refine ⟨by simp [← HKK.out]; omega, ?_⟩
                rw [List.getElem_append_right (by rw [← HKK.out]; exact hk)]
                simp [← HKK.out, Nat.add_sub_cancel' hk]
              obtain ⟨hA, eA⟩ := ey (k + k2) hlt2 (by omega)
              obtain ⟨hB, eB⟩ := ey (k + k2 - 1) (by omega) (by omega)
              obtain ⟨c0, c1, c2, c3⟩ := HO2.out.cell _ hA
              obtain ⟨d0, d1, d2, d3⟩ := HO2.out.cell _ hB
              rw [eA] at c0 c1 c2 c3
              rw [eB] at d0 d1 d2 d3
              have M1' := Lib.hid (List.getElem_mem hlt2)
              have M0' := Lib.hid (List.getElem_mem (show k + k2 - 1 < xs.length by omega))
              have SN' := Lib.hid (cpt_at q xs (k + k2) (by omega) hlt2)
              have DK := Lib.hid (List.drop_eq_getElem_cons (show kk < xs.length by omega))
              obtain ⟨u, hu⟩ : ∃ u, xs[k + k2] = u := ⟨_, rfl⟩
              obtain ⟨v, hv⟩ : ∃ v, xs[k + k2 - 1]'(by omega) = v := ⟨_, rfl⟩
              rw [hu] at c0 c1 c2 c3 M1' SN'
              rw [hv] at d0 d1 d2 d3 M0' SN'
              clear hu hv eA eB ey
              have f0 := HO2.out.soft (kk * 4)
              have f1 := HO2.out.soft (kk * 4 + 1)
              have f2 := HO2.out.soft (kk * 4 + 2)
              have f3 := HO2.out.soft (kk * 4 + 3)
              have t0 := HO2.out.there (kk * 4) (by omega)
              have t1 := HO2.out.there (kk * 4 + 1) (by omega)
              have t2 := HO2.out.there (kk * 4 + 2) (by omega)
              have t3 := HO2.out.there (kk * 4 + 3) (by omega)
              obtain ⟨o0, t0⟩ := Option.isSome_iff_exists.1 t0
              obtain ⟨o1, t1⟩ := Option.isSome_iff_exists.1 t1
              obtain ⟨o2, t2⟩ := Option.isSome_iff_exists.1 t2
              obtain ⟨o3, t3⟩ := Option.isSome_iff_exists.1 t3
              rw [show (k + k2) * 4 = k * 4 + k2 * 4 by omega] at c0 c1 c2 c3
              rw [show (k + k2 - 1) * 4 = k * 4 + (k2 - 1) * 4 by omega] at d0 d1 d2 d3
              obtain ⟨j2, hjk2⟩ : ∃ j2, k2 - 1 = j2 := ⟨_, rfl⟩
              have HW2 := Lib.hid (wrap_pred k2 j2 hjk2 hk2 (by omega))
              have hjlt2 : j2 < xs.length - k := by omega
              have hklt2 : k2 < xs.length - k := by omega
              rw [hjk2] at d0 d1 d2 d3
              have HJK2 := Lib.hid hjk2
              clear hjk2
              have QC2 := Lib.hid (fun W hW => HQ.out W hW u M1'.out v M0'.out)
              cases huv : q u v with
              | true =>
                rw [huv] at QC2 SN'
                obtain ⟨u1, u2, u3, u4⟩ := u
                obtain ⟨v1, v2, v3, v4⟩ := v
                go_wp2_with fail
                go_still_tail 10, (by kernel_rfl)
                simp only [HW2.out]
                repeat still_step
                refine wpStill_nil ?_
                change wpList _ _ _ _ _ wr.drew
                go_wp2_with fail
                refine (QC2.out _ (gb_trans HG2.out (gb_drew _ _))).mono ?_
                rintro e w2 ⟨rfl, hb2⟩
                have G2 := Lib.hid (gb_trans (gb_trans HG2.out (gb_drew _ _)) (gb_below hb2))
                have O2 := Lib.hid (HO2.out.below ((Below.refl _ _).drew.trans hb2))
                clear hb2
                go_wp2_with fail
                go_roundw
                case rel =>
                  have e1 : cpt q (xs.take (k + (k2 + 1))) = cpt q (xs.take (k + k2)) := by
                    rw [show k + (k2 + 1) = k + k2 + 1 by omega]
                    have := SN'.out
                    simpa using this
                  refine ⟨kk, k2 + 1, rfl, by go_num, by omega, by omega, by rw [e1]; exact HKK.out, by omega, ?_, G2.out⟩
                  rw [e1]
                  exact O2.out
                case measure => simp [intOf]; omega
              | false =>
                rw [huv] at QC2 SN'
                have hsu := HS.out u M1'.out
                obtain ⟨u1, u2, u3, u4⟩ := u
                obtain ⟨ua, un, uc, uz, ua', un', uc', uz', rfl, rfl, rfl, rfl⟩ := hsu
                obtain ⟨v1, v2, v3, v4⟩ := v
                go_wp2_with fail
                go_still_tail 10, (by kernel_rfl)
                simp only [HW2.out]
                repeat still_step
                refine wpStill_nil ?_
                change wpList _ _ _ _ _ wr.drew
                go_wp2_with fail
                refine (QC2.out _ (gb_trans HG2.out (gb_drew _ _))).mono ?_
                rintro e w2 ⟨rfl, hb2⟩
                have hD : Below wr.heap.size wr w2 := (Below.refl _ _).drew.trans hb2
                have G2 := Lib.hid (gb_trans (gb_trans HG2.out (gb_drew _ _)) (gb_below hb2))
                have O2 := Lib.hid (HO2.out.below hD)
                have hgl := HO2.out.lt
                rw [← hD.cell (p := ⟨g, k * 4 + k2 * 4, none⟩) hgl] at c0
                rw [← hD.cell (p := ⟨g, k * 4 + k2 * 4 + 1, none⟩) hgl] at c1
                rw [← hD.cell (p := ⟨g, k * 4 + k2 * 4 + 2, none⟩) hgl] at c2
                rw [← hD.cell (p := ⟨g, k * 4 + k2 * 4 + 3, none⟩) hgl] at c3
                rw [← hD.cell (p := ⟨g, kk * 4, none⟩) hgl] at t0
                rw [← hD.cell (p := ⟨g, kk * 4 + 1, none⟩) hgl] at t1
                rw [← hD.cell (p := ⟨g, kk * 4 + 2, none⟩) hgl] at t2
                rw [← hD.cell (p := ⟨g, kk * 4 + 3, none⟩) hgl] at t3
                rw [← hD.frozen (p := ⟨g, kk * 4, none⟩) hgl] at f0
                rw [← hD.frozen (p := ⟨g, kk * 4 + 1, none⟩) hgl] at f1
                rw [← hD.frozen (p := ⟨g, kk * 4 + 2, none⟩) hgl] at f2
                rw [← hD.frozen (p := ⟨g, kk * 4 + 3, none⟩) hgl] at f3
                clear hb2 hD d0 d1 d2 d3
                go_wp2_with fail
                go_roundw
                case rel =>
                  have e1 : cpt q (xs.take (k + (k2 + 1))) = cpt q (xs.take (k + k2)) ++ [⟨.slice ua un uc, .int .i64 uz, .slice ua' un' uc', .int .i64 uz'⟩] := by
                    rw [show k + (k2 + 1) = k + k2 + 1 by omega]
                    have := SN'.out
                    simpa using this
                  refine ⟨kk + 1, k2 + 1, by go_num, by go_num, by omega, by omega, by rw [e1, List.length_append, ← HKK.out]; rfl, by omega, ?_, gb_trans G2.out (gb_set4 _ _ _ _ _ _ _)⟩
                  have := O2.out.store kk (by simp [← HKK.out]; omega) (.slice ua un uc) (.int .i64 uz) (.slice ua' un' uc') (.int .i64 uz')
                  rw [DK.out] at this
                  rw [e1]
                  have e3 := set_mid (cpt q (xs.take (k + k2))) (xs.drop (kk + 1)) (xs[kk]'(by omega)) ⟨.slice ua un uc, .int .i64 uz, .slice ua' un' uc', .int .i64 uz'⟩
                  rw [← HKK.out] at e3
                  rw [e3] at this
                  simpa using this
                case measure => simp [intOf]; omega
            · have hend : k + k2 = xs.length := by omega
              have hcl : ∀ ty, (Builtin.clear_ #[26] ty #[.slice (some ⟨g, kk * 4, none⟩) (xs.length - kk) (cap - kk)]).run Tryz.prog wr = .ok (.tuple #[]) (wr.setCells g (kk * 4) (Builtin.zeroCells #[.slice none 0 0, .int .i64 0, .slice none 0 0, .int .i64 0] (xs.length - kk)).toList) :=
                fun ty => run_clear4 wr _ _ ty (.agg #[.slice none 0 0, .int .i64 0, .slice none 0 0, .int .i64 0]) Tryz.underlying26 Tryz.zeroValue34 g (kk * 4) _ _ (by omega) (zsP _).1 (zsP _).2 (fun j hj => HO2.out.there _ (by omega)) (fun j hj => HO2.out.soft _)
              have ET : Hid (cpt q (xs.take (k + k2)) = cpt q xs) := by rw [hend, List.take_length]; exact rfl
              have KC := HKK.out
              rw [ET.out] at KC
              have O3 := HO2.out.take kk
              rw [ET.out, List.take_left' KC.symm] at O3
              have HO3 := Lib.hid O3
              have HKC := Lib.hid KC
              clear O3 KC
              go_wp2_with fail
              go_ret
              refine ⟨by rw [← HKC.out]; go_num, HO3.out.setOut _ _ _ (by rw [← HKC.out]; exact Nat.le_refl _), gb_trans HG2.out (gb_setCells _ _ _ _)⟩
      · have hend : k = xs.length := by omega
        have HX : Hid (cpt q xs = xs) := by
          have := HCP.out
          rw [hend, List.take_length] at this
          exact this
        go_wp2_with fail
        go_ret
        rw [HX.out]
        exact ⟨rfl, HO.out, HG.out⟩
end Go.Proofs.YtekblibhaipioaaGreat.Mn

namespace Go.Proofs.YtekblibhaipioaaGreat.Tr
open Go Go.RowKit
set_option maxRecDepth 20000
end Go.Proofs.YtekblibhaipioaaGreat.Tr

namespace Go.Proofs.YtekblibhaipioaaGreat.Tr
open Go Go.RowKit
set_option maxRecDepth 20000
theorem infoS : (Tryz.prog.info? 9).map (fun i => (i.zero, i.size, i.bytes)) = some (some (.string ⟨#[]⟩), 1, 16) := by kernel_rfl
theorem run_append_strs {w : World} {base : Nat} {v x : Value} {l m : List ByteArray} (hown : w.ownsRow base 9 1 v l.length (l.map .string)) (hbase : base ≤ w.heap.size) (hx : Strs w x m) (hlen : l.length + m.length ≤ 2000000000000) :
    ∃ v' w', (Builtin.append_ #[30, 30] 30 #[v, x]).run Tryz.prog w = .ok v' w' ∧ w'.ownsRow base 9 1 v' (l ++ m).length ((l ++ m).map .string) ∧ w.grownBy w' v.ownBlock ∧ Below base w w' ∧ Ap.Fresh w v v' := by
  obtain ⟨i0, hi, hz, hs1, hb8⟩ := info_parts infoS
  obtain ⟨v', w', h1, h2, h3, h4, h5⟩ := Ap.run_append_rd (P := Tryz.prog) (ty := 30) Tryz.underlying30 hi hz hs1 hb8 (by rfl) (by omega) hown hbase hx
    (fun u hu => by obtain ⟨b, _, rfl⟩ := List.mem_map.1 hu; rfl) (by unfold maxLen; omega) (by omega)
  exact ⟨v', w', h1, by simpa using h2, h3, h4, h5⟩
end Go.Proofs.YtekblibhaipioaaGreat.Tr

namespace Go.Proofs.YtekblibhaipioaaGreat.So
open Go Go.RowKit Rw
set_option maxRecDepth 20000
theorem whole_tre {l : List Nd} (h : whole l = true) : Tre l := by
  unfold whole at h
  simp only [Bool.and_eq_true, decide_eq_true_eq] at h
  exact Tre.of_size h.2 (fun e => by rw [e] at h; exact absurd h.1.2.1 (by decide))
def Not (l : List Nd) (s : Nat) : Prop := ∀ i, 1 ≤ i → i < s → Is i l = false
end Go.Proofs.YtekblibhaipioaaGreat.So
