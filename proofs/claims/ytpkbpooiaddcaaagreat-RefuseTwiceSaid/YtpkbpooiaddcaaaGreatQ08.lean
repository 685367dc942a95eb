/- The document's Set: by halves. A trace appended to a row of the program's. slices.CompactFunc over rests: the walk. slices.CompactFunc over pairs: the walk. -/
import Derived.Test.YtpkbpooiaddcaaaGreatQ07
import Derived.IntWalk
import Derived.Test.YtpkbpooiaddcaaaGreatQ04

namespace Go.Proofs.YtpkbpooiaddcaaaGreat.Tr
open Go Go.RowKit
set_option maxRecDepth 20000

theorem TrCells.take {w : World} : ∀ {cs : List Value} {ts : List Tr}, TrCells w cs ts → ∀ k, TrCells w (cs.take (k * 2)) (ts.take k)
  | [], [], _, k => by simp [TrCells]
  | a :: e :: cs, t :: ts, h, 0 => by simp [TrCells]
  | a :: e :: cs, t :: ts, h, k + 1 => by
    rw [show (k + 1) * 2 = k * 2 + 1 + 1 by omega]
    exact ⟨h.1, h.2.1, TrCells.take h.2.2 k⟩
  | [], _ :: _, h, _ => h.elim
  | [_], [], h, _ => h.elim
  | [_], _ :: _, h, _ => h.elim
  | _ :: _ :: _, [], h, _ => h.elim
theorem TrCells.drop {w : World} : ∀ {cs : List Value} {ts : List Tr}, TrCells w cs ts → ∀ k, TrCells w (cs.drop (k * 2)) (ts.drop k)
  | [], [], _, k => by simp [TrCells]
  | a :: e :: cs, t :: ts, h, 0 => by simpa using h
  | a :: e :: cs, t :: ts, h, k + 1 => by
    rw [show (k + 1) * 2 = k * 2 + 1 + 1 by omega]
    exact TrCells.drop h.2.2 k
  | [], _ :: _, h, _ => h.elim
  | [_], [], h, _ => h.elim
  | [_], _ :: _, h, _ => h.elim
  | _ :: _ :: _, [], h, _ => h.elim

/-- The beginning of a row. -/
theorem Trs.take {w : World} {b off cap : Nat} {ts : List Tr} (h : Trs w (.slice (some ⟨b, off, none⟩) ts.length cap) ts) (k : Nat) (hk : k ≤ ts.length) : Trs w (.slice (some ⟨b, off, none⟩) k cap) (ts.take k) := by
  obtain ⟨cs, ⟨hl, a, cap', hv, hc, hn, hcell⟩, ht⟩ := h
  cases hv
  refine ⟨cs.take (k * 2), ⟨?_, some ⟨b, off, none⟩, cap, ?_, ?_, fun h => (by cases h), fun h0 => ?_⟩, ht.take k⟩
  · simp; omega
  · rw [List.length_take, Nat.min_eq_left hk]
  · simp; omega
  · obtain ⟨b', off', ha, hj⟩ := hcell (by simp at h0; omega)
    cases ha
    exact ⟨b, off, rfl, fun j u hu => hj j u (by rw [List.getElem?_take] at hu; split at hu; exact hu; cases hu)⟩
/-- The rest of a row. -/
theorem Trs.drop {w : World} {b off cap : Nat} {ts : List Tr} (h : Trs w (.slice (some ⟨b, off, none⟩) ts.length cap) ts) (k : Nat) (hk : k < ts.length) : Trs w (.slice (some ⟨b, off + k * 2, none⟩) (ts.length - k) (cap - k)) (ts.drop k) := by
  obtain ⟨cs, ⟨hl, a, cap', hv, hc, hn, hcell⟩, ht⟩ := h
  cases hv
  refine ⟨cs.drop (k * 2), ⟨?_, some ⟨b, off + k * 2, none⟩, cap - k, ?_, ?_, fun h => (by cases h), fun h0 => ?_⟩, ht.drop k⟩
  · simp; omega
  · simp
  · simp; omega
  · obtain ⟨b', off', ha, hj⟩ := hcell (by omega)
    cases ha
    exact ⟨b, _, rfl, fun j u hu => by rw [Nat.add_assoc]; exact hj _ u (by rw [List.getElem?_drop] at hu; exact hu)⟩

theorem Few.sub {l m : List Tr} (h : Few l) (hl : m.length ≤ l.length) (hm : ∀ t ∈ m, t ∈ l) : Few m := ⟨Nat.le_trans hl h.1, fun t ht => h.2 t (hm t ht)⟩
theorem Few.norm {l : List Tr} (h : Few l) : Few (norm l) := h.sub (length_norm l) fun t ht => (mem_norm t l).1 ht
theorem norm_short {l : List Tr} (h : l.length < 2) : norm l = l := by
  match l, h with
  | [], _ => rfl
  | [t], _ => rfl

set_option maxHeartbeats 2000000 in
theorem set_any (n : Nat) : ∀ (x : Value) (l : List Tr) (w : World), l.length ≤ n → Trs w x l → Few l →
    Calls Tryz.prog 26 #[x] w fun e w' => ∃ v, e = .returned v ∧ Trs w' v (norm l) ∧ Below w.heap.size w w' := by
  induction n with
  | zero =>
    intro x l w hn hx hf
    obtain rfl : l = [] := List.eq_nil_of_length_eq_zero (by omega)
    obtain ⟨a, c, rfl, _⟩ := hx.val
    have HX := Lib.hid hx
    clear hx hf
    go_enter Tryz.func26, Tryz.ntmps26
    go_wp2_with fail
    go_ret
    exact ⟨_, rfl, HX.out, Below.refl _ _⟩
  | succ n ih =>
    intro x l w hn hx hf
    by_cases h2 : l.length < 2
    · obtain ⟨a, c, rfl, _⟩ := hx.val
      have HX := Lib.hid hx
      have HN := Lib.hid (norm_short h2)
      clear hx hf ih
      go_enter Tryz.func26, Tryz.ntmps26
      go_wp2_with fail
      go_ret
      exact ⟨_, rfl, by rw [HN.out]; exact HX.out, Below.refl _ _⟩
    · rcases hx.form with ⟨rfl, _⟩ | ⟨b, off, cap, rfl, _⟩
      · simp at h2
      have hcap : l.length ≤ cap := by
        obtain ⟨_, ⟨_, a, cap', hv, hc, _⟩, _⟩ := hx
        cases hv
        exact hc
      obtain ⟨hf2, hh⟩ : ∃ hf2, l.length / 2 = hf2 := ⟨_, rfl⟩
      have hh1 : 0 < hf2 := by omega
      have hh2 : hf2 < l.length := by omega
      have hh3 : l.length - hf2 ≤ n := by omega
      have hh4 : hf2 ≤ n := by omega
      have HT1 := Lib.hid (hx.take hf2 (by omega))
      have HT2 := Lib.hid (hx.drop hf2 (by omega))
      have IH := Lib.hid ih
      have HF := Lib.hid hf
      have hlen := hf.1
      have i1 : (0 : Int) ≤ (hf2 : Int) := by omega
      have i2 : (hf2 : Int) ≤ (l.length : Int) := by omega
      have i3 : (hf2 : Int) ≤ (cap : Int) := by omega
      have i4 : (l.length : Int) ≤ (cap : Int) := by omega
      have q1 : (l.length : Int).tdiv 2 = (hf2 : Int) := by rw [← hh]; rfl
      have q2 : IntKind.i64.wrap (hf2 : Int) = (hf2 : Int) := IntWalk.i64_in _ (by omega)
      clear hx hf ih hh
      go_enter Tryz.func26, Tryz.ntmps26
      go_wp2_with fail
      go_region_held3 (fun _ => True) (trivial) (first
        | (go_at_call 26
           (with_reducible refine (IH.out (.slice (some ⟨b, off, none⟩) hf2 cap) (l.take hf2) _ (by simp; omega) (HT1.out.below (Below.refl _ _).drew) (HF.out.sub (by simp; omega) (fun t ht => List.mem_of_mem_take ht))).mono ?_)
           rintro e w1 ⟨v1, rfl, ht1, hb1⟩
           have T1 := Lib.hid ht1
           have B1 : Hid (Below w.heap.size w w1) := (Below.refl _ _).drew.trans hb1
           clear ht1 hb1)
        | (go_at_call 26
           (with_reducible refine (IH.out (.slice (some ⟨b, off + hf2 * 2, none⟩) (l.length - hf2) (cap - hf2)) (l.drop hf2) _ (by simp; omega) (HT2.out.below B1.out) (HF.out.sub (by simp) (fun t ht => List.mem_of_mem_drop ht))).mono ?_)
           rintro e w2 ⟨v2, rfl, ht2, hb2⟩
           have T2 := Lib.hid ht2
           have T3 := Lib.hid (T1.out.below hb2)
           have B2 := Lib.hid (B1.out.trans (hb2.mono B1.out.size))
           clear ht2 hb2)
        | (go_at_call 25
           (with_reducible refine (merge_any v1 v2 (norm (l.take hf2)) (norm (l.drop hf2)) _ T3.out T2.out (HF.out.sub (by simp; omega) (fun t ht => List.mem_of_mem_take ht)).norm (HF.out.sub (by simp) (fun t ht => List.mem_of_mem_drop ht)).norm ?_).mono ?_)
           · have e1 := length_norm (l.take hf2)
             have e2 := length_norm (l.drop hf2)
             simp at e1 e2
             omega
           rintro e w3 ⟨v3, rfl, ht3, hb3⟩
           have T4 := Lib.hid ht3
           have B3 := Lib.hid (B2.out.trans (hb3.mono B2.out.size))
           clear ht3 hb3))
      go_wp2_with fail
      go_ret
      refine ⟨_, rfl, ?_, B3.out⟩
      have := T4.out
      rw [mg_norm _ _ _ (Nat.lt_succ_self _), List.take_append_drop] at this
      exact this

end Go.Proofs.YtpkbpooiaddcaaaGreat.Tr

namespace Go.Proofs.YtpkbpooiaddcaaaGreat.Tr
open Go Go.RowKit
set_option maxRecDepth 20000

theorem info_news : (Tryz.prog.info? 52).map (fun i => (i.zero, i.size, i.bytes)) = some (some (.agg #[.slice none 0 0, .int .i64 0]), 2, 32) := by kernel_rfl
theorem run_append_news {wk wr : World} {base : Nat} {v a : Value} {o : List Tr} {t : Tr} {cs : List Value} (hown : wr.ownsRow base 52 2 v o.length cs) (hbase : base ≤ wr.heap.size) (ha : Strs wk a t.a) (hlen : o.length ≤ 2000000000000) :
    ∃ v' w', (Builtin.append_ #[26, 26] 26 #[v, .slice (some ⟨wr.heap.size, 0, none⟩) 1 1]).run Tryz.prog (wr.alloc (.cells #[a, .int .i64 t.e] 52)) = .ok v' w' ∧
      w'.ownsRow base 52 2 v' (o ++ [t]).length (cs ++ [a, .int .i64 t.e]) ∧ wr.grownBy w' v.ownBlock ∧ Below base wr w' ∧ Ap.Fresh wr v v' := by
  obtain ⟨i0, hi, hz, hs1, hb8⟩ := info_parts info_news
  obtain ⟨v', w', h1, h2, h3, h4, h5⟩ := Ap.run_append_one (P := Tryz.prog) (ty := 26) Tryz.underlying26 hi hz hs1 hb8 (by rfl) (by omega) hown hbase #[a, .int .i64 t.e] rfl
    (fun u hu => by
      simp at hu
      rcases hu with rfl | rfl
      · exact ha.one
      · rfl) (by unfold maxLen; omega) (by omega)
  exact ⟨v', w', h1, by simpa using h2, h3, h4, h5⟩
end Go.Proofs.YtpkbpooiaddcaaaGreat.Tr

namespace Go.Proofs.YtpkbpooiaddcaaaGreat.Tr
open Go Go.RowKit
set_option maxRecDepth 20000

def ShapeR (x : Value × Value) : Prop := ∃ a n c a' n' c', x = (.slice a n c, .slice a' n' c')

theorem zsR (n : Nat) : (Builtin.zeroCells #[.slice none 0 0, .slice none 0 0] n).toList.length = n * 2 ∧ ∀ v ∈ (Builtin.zeroCells #[.slice none 0 0, .slice none 0 0] n).toList, v.oneCell' = true := by
  refine ⟨by simp [Builtin.zeroCells], fun v hv => ?_⟩
  obtain ⟨i, _, rfl⟩ := zc_mem hv
  rcases Nat.mod_two_eq_zero_or_one i with h | h
  · show ((#[.slice none 0 0, .slice none 0 0] : Array Value)[i % 2]!).oneCell' = true
    rw [h]; rfl
  · show ((#[.slice none 0 0, .slice none 0 0] : Array Value)[i % 2]!).oneCell' = true
    rw [h]; rfl

set_option maxHeartbeats 4000000 in
theorem compactR (g cap : Nat) (q : Value × Value → Value × Value → Bool) (xs : List (Value × Value)) (w : World) (h : Own2 w g 155 cap xs) (hlen : xs.length ≤ 1000000000000) (hsh : ∀ x ∈ xs, ShapeR x)
    (hq : ∀ W, w.grownBy W (some g) → ∀ x ∈ xs, ∀ y ∈ xs, Calls Tryz.prog 156 #[.agg #[x.1, x.2], .agg #[y.1, y.2]] W fun e w' => e = .returned (.bool (q x y)) ∧ Below W.heap.size W w') :
    Calls Tryz.prog 155 #[.slice (some ⟨g, 0, none⟩) xs.length cap, .func (.func 156) #[] #[]] w fun e w' => e = .returned (.slice (some ⟨g, 0, none⟩) (cpt q xs).length cap) ∧ Own2 w' g 155 cap (cpt q xs) ∧ w.grownBy w' (some g) := by
  have hcap := h.len
  have H := Lib.hid h
  have HS := Lib.hid hsh
  have HQ := Lib.hid hq
  clear h hsh hq
  by_cases h2 : xs.length < 2
  · have HX : Hid (cpt q xs = xs) := by
      match xs, h2 with
      | [], _ => exact rfl
      | [x], _ => exact rfl
    go_enter Tryz.func155, Tryz.ntmps155
    go_wp2_with fail
    go_ret
    rw [HX.out]
    exact ⟨rfl, H.out, gb_refl _ _⟩
  · go_enter Tryz.func155, Tryz.ntmps155
    go_wp2_with fail
    go_loopw [5] (fun kv wr => ∃ k : Nat, 1 ≤ k ∧ k ≤ xs.length ∧ kv = .int .i64 (k : Int) ∧ Own2 wr g 155 cap xs ∧ w.grownBy wr (some g) ∧ cpt q (xs.take k) = xs.take k) (fun kv _ => xs.length - (intOf kv).toNat)
    case atStart =>
      refine ⟨1, Nat.le_refl _, by omega, rfl, H.out, gb_refl _ _, ?_⟩
      match xs, h2 with
      | x :: xs, _ => simp [cpt, cptF]
    case round =>
      obtain ⟨k, hk1, hk, rfl, ho, hg, hcp⟩ := hrel
      have HO := Lib.hid ho
      have HG := Lib.hid hg
      have HCP := Lib.hid hcp
      clear ho hg hcp
      by_cases hlt : k < xs.length
      · have c0 := HO.out.cell0 k hlt
        have c1 := HO.out.cell1 k hlt
        have d0 := HO.out.cell0 (k - 1) (by omega)
        have d1 := HO.out.cell1 (k - 1) (by omega)
        have M1 := Lib.hid (List.getElem_mem hlt)
        have M0 := Lib.hid (List.getElem_mem (show k - 1 < xs.length by omega))
        have SN := Lib.hid (cpt_at q xs k hk1 hlt)
        have TK := Lib.hid (List.take_succ_eq_append_getElem hlt)
        obtain ⟨x, hx⟩ : ∃ x, xs[k] = x := ⟨_, rfl⟩
        obtain ⟨y, hy⟩ : ∃ y, xs[k - 1]'(by omega) = y := ⟨_, rfl⟩
        rw [hx] at c0 c1 M1 SN TK
        rw [hy] at d0 d1 M0 SN
        clear hx hy
        obtain ⟨j, hjk⟩ : ∃ j, k - 1 = j := ⟨_, rfl⟩
        have HW1 := Lib.hid (wrap_pred k j hjk hk1 (by omega))
        have hjlt : j < xs.length := by omega
        rw [hjk] at d0 d1
        have HJK := Lib.hid hjk
        clear hjk
        have QC := Lib.hid (fun W hW => HQ.out W hW x M1.out y M0.out)
        cases hxy : q x y with
        | false =>
          rw [hxy] at QC SN
          obtain ⟨x1, x2⟩ := x
          obtain ⟨y1, y2⟩ := y
          go_wp2_with fail
          go_still_tail 10, (by kernel_rfl)
          simp only [HW1.out]
          repeat still_step
          refine wpStill_nil ?_
          change wpList _ _ _ _ _ wr.drew
          go_wp2_with fail
          refine (QC.out _ (gb_trans HG.out (gb_drew _ _))).mono ?_
          rintro e w1 ⟨rfl, hb1⟩
          have G1 := Lib.hid (gb_trans (gb_trans HG.out (gb_drew _ _)) (gb_below hb1))
          have O1 := Lib.hid (HO.out.below ((Below.refl _ _).drew.trans hb1))
          clear hb1
          go_wp2_with fail
          go_roundw
          case rel => exact ⟨k + 1, by omega, by omega, by go_num, O1.out, G1.out, by rw [SN.out, HCP.out, TK.out]; rfl⟩
          case measure => simp [intOf]; omega
        | true =>
          rw [hxy] at QC SN
          obtain ⟨x1, x2⟩ := x
          obtain ⟨y1, y2⟩ := y
          go_wp2_with fail
          go_still_tail 10, (by kernel_rfl)
          simp only [HW1.out]
          repeat still_step
          refine wpStill_nil ?_
          change wpList _ _ _ _ _ wr.drew
          go_wp2_with fail
          refine (QC.out _ (gb_trans HG.out (gb_drew _ _))).mono ?_
          rintro e w1 ⟨rfl, hb1⟩
          have G1 := Lib.hid (gb_trans (gb_trans HG.out (gb_drew _ _)) (gb_below hb1))
          have O1 := Lib.hid (HO.out.below ((Below.refl _ _).drew.trans hb1))
          clear hb1 c0 c1 d0 d1
          go_wp2_with fail
          go_loopw [5, 7] (fun kv k2v wr => ∃ kk k2 : Nat, kv = .int .i64 (kk : Int) ∧ k2v = .int .i64 (k2 : Int) ∧ 1 ≤ k2 ∧ k + k2 ≤ xs.length ∧ kk = (cpt q (xs.take (k + k2))).length ∧ kk < k + k2 ∧ Own2 wr g 155 cap (cpt q (xs.take (k + k2)) ++ xs.drop kk) ∧ w.grownBy wr (some g)) (fun _ k2v _ => xs.length - (k + (intOf k2v).toNat))
          case atStart =>
            have e0 : cpt q (xs.take (k + 1)) = xs.take k := by rw [SN.out, HCP.out]; simp
            refine ⟨k, 1, rfl, rfl, Nat.le_refl _, by omega, by rw [e0, List.length_take]; omega, by omega, ?_, G1.out⟩
            rw [e0, List.take_append_drop]
            exact O1.out
          case round =>
            obtain ⟨kk, k2, rfl, rfl, hk2, hle, hkk, hkl, ho2, hg2⟩ := hrel
            have HKK := Lib.hid hkk
            have HO2 := Lib.hid ho2
            have HG2 := Lib.hid hg2
            clear hkk ho2 hg2
            by_cases hlt2 : k + k2 < xs.length
            · have ey : ∀ m (hm : m < xs.length) (hk : kk ≤ m), ∃ hm' : m < (cpt q (xs.take (k + k2)) ++ xs.drop kk).length, (cpt q (xs.take (k + k2)) ++ xs.drop kk)[m] = xs[m] := fun m hm hk => by
                refine ⟨by simp [← HKK.out]; omega, ?_⟩
                rw [List.getElem_append_right (by rw [← HKK.out]; exact hk)]
                simp [← HKK.out, Nat.add_sub_cancel' hk]
              obtain ⟨hA, eA⟩ := ey (k + k2) hlt2 (by omega)
              obtain ⟨hB, eB⟩ := ey (k + k2 - 1) (by omega) (by omega)
              have c0 := HO2.out.cell0 _ hA
              have c1 := HO2.out.cell1 _ hA
              have d0 := HO2.out.cell0 _ hB
              have d1 := HO2.out.cell1 _ hB
              rw [eA] at c0 c1
              rw [eB] at d0 d1
              have M1' := Lib.hid (List.getElem_mem hlt2)
              have M0' := Lib.hid (List.getElem_mem (show k + k2 - 1 < xs.length by omega))
              have SN' := Lib.hid (cpt_at q xs (k + k2) (by omega) hlt2)
              have DK := Lib.hid (List.drop_eq_getElem_cons (show kk < xs.length by omega))
              obtain ⟨u, hu⟩ : ∃ u, xs[k + k2] = u := ⟨_, rfl⟩
              obtain ⟨v, hv⟩ : ∃ v, xs[k + k2 - 1]'(by omega) = v := ⟨_, rfl⟩
              rw [hu] at c0 c1 M1' SN'
              rw [hv] at d0 d1 M0' SN'
              clear hu hv eA eB ey
              have f0 := HO2.out.soft (kk * 2)
              have f1 := HO2.out.soft (kk * 2 + 1)
              have t0 := HO2.out.there (kk * 2) (by omega)
              have t1 := HO2.out.there (kk * 2 + 1) (by omega)
              obtain ⟨o0, t0⟩ := Option.isSome_iff_exists.1 t0
              obtain ⟨o1, t1⟩ := Option.isSome_iff_exists.1 t1
              rw [show (k + k2) * 2 = k * 2 + k2 * 2 by omega] at c0 c1
              rw [show (k + k2 - 1) * 2 = k * 2 + (k2 - 1) * 2 by omega] at d0 d1
              obtain ⟨j2, hjk2⟩ : ∃ j2, k2 - 1 = j2 := ⟨_, rfl⟩
              have HW2 := Lib.hid (wrap_pred k2 j2 hjk2 hk2 (by omega))
              have hjlt2 : j2 < xs.length - k := by omega
              have hklt2 : k2 < xs.length - k := by omega
              rw [hjk2] at d0 d1
              have HJK2 := Lib.hid hjk2
              clear hjk2
              have QC2 := Lib.hid (fun W hW => HQ.out W hW u M1'.out v M0'.out)
              cases huv : q u v with
              | true =>
                rw [huv] at QC2 SN'
                obtain ⟨u1, u2⟩ := u
                obtain ⟨v1, v2⟩ := v
                go_wp2_with fail
                go_still_tail 10, (by kernel_rfl)
                simp only [HW2.out]
                repeat still_step
                refine wpStill_nil ?_
                change wpList _ _ _ _ _ wr.drew
                go_wp2_with fail
                refine (QC2.out _ (gb_trans HG2.out (gb_drew _ _))).mono ?_
                rintro e w2 ⟨rfl, hb2⟩
                have G2 := Lib.hid (gb_trans (gb_trans HG2.out (gb_drew _ _)) (gb_below hb2))
                have O2 := Lib.hid (HO2.out.below ((Below.refl _ _).drew.trans hb2))
                clear hb2
                go_wp2_with fail
                go_roundw
                case rel =>
                  have e1 : cpt q (xs.take (k + (k2 + 1))) = cpt q (xs.take (k + k2)) := by
                    rw [show k + (k2 + 1) = k + k2 + 1 by omega]
                    have := SN'.out
                    simpa using this
                  refine ⟨kk, k2 + 1, rfl, by go_num, by omega, by omega, by rw [e1]; exact HKK.out, by omega, ?_, G2.out⟩
                  rw [e1]
                  exact O2.out
                case measure => simp [intOf]; omega
              | false =>
                rw [huv] at QC2 SN'
                obtain ⟨a', n', c', a3, n3, c3, rfl⟩ := HS.out u M1'.out
                obtain ⟨v1, v2⟩ := v
                go_wp2_with fail
                go_still_tail 10, (by kernel_rfl)
                simp only [HW2.out]
                repeat still_step
                refine wpStill_nil ?_
                change wpList _ _ _ _ _ wr.drew
                go_wp2_with fail
                refine (QC2.out _ (gb_trans HG2.out (gb_drew _ _))).mono ?_
                rintro e w2 ⟨rfl, hb2⟩
                have hD : Below wr.heap.size wr w2 := (Below.refl _ _).drew.trans hb2
                have G2 := Lib.hid (gb_trans (gb_trans HG2.out (gb_drew _ _)) (gb_below hb2))
                have O2 := Lib.hid (HO2.out.below hD)
                have hgl := HO2.out.lt
                rw [← hD.cell (p := ⟨g, k * 2 + k2 * 2, none⟩) hgl] at c0
                rw [← hD.cell (p := ⟨g, k * 2 + k2 * 2 + 1, none⟩) hgl] at c1
                rw [← hD.cell (p := ⟨g, kk * 2, none⟩) hgl] at t0
                rw [← hD.cell (p := ⟨g, kk * 2 + 1, none⟩) hgl] at t1
                rw [← hD.frozen (p := ⟨g, kk * 2, none⟩) hgl] at f0
                rw [← hD.frozen (p := ⟨g, kk * 2 + 1, none⟩) hgl] at f1
                clear hb2 hD d0 d1
                go_wp2_with fail
                go_roundw
                case rel =>
                  have e1 : cpt q (xs.take (k + (k2 + 1))) = cpt q (xs.take (k + k2)) ++ [(.slice a' n' c', .slice a3 n3 c3)] := by
                    rw [show k + (k2 + 1) = k + k2 + 1 by omega]
                    have := SN'.out
                    simpa using this
                  refine ⟨kk + 1, k2 + 1, by go_num, by go_num, by omega, by omega, by rw [e1, List.length_append, ← HKK.out]; rfl, by omega, ?_, gb_trans G2.out (gb_trans (gb_setCell _ _ _ _) (gb_setCell _ _ _ _))⟩
                  have := O2.out.store kk (by simp [← HKK.out]; omega) (.slice a' n' c') (.slice a3 n3 c3)
                  rw [DK.out] at this
                  rw [e1]
                  have e3 := set_mid (cpt q (xs.take (k + k2))) (xs.drop (kk + 1)) (xs[kk]'(by omega)) (.slice a' n' c', .slice a3 n3 c3)
                  rw [← HKK.out] at e3
                  rw [e3] at this
                  simpa using this
                case measure => simp [intOf]; omega
            · have hend : k + k2 = xs.length := by omega
              have hcl : ∀ ty, (Builtin.clear_ #[151] ty #[.slice (some ⟨g, kk * 2, none⟩) (xs.length - kk) (cap - kk)]).run Tryz.prog wr = .ok (.tuple #[]) (wr.setCells g (kk * 2) (Builtin.zeroCells #[.slice none 0 0, .slice none 0 0] (xs.length - kk)).toList) :=
                fun ty => run_clear2 wr _ _ ty (.agg #[.slice none 0 0, .slice none 0 0]) Tryz.underlying151 Tryz.zeroValue155 g (kk * 2) _ _ (by omega) (zsR _).1 (zsR _).2 (fun j hj => HO2.out.there _ (by omega)) (fun j hj => HO2.out.soft _)
              have ET : Hid (cpt q (xs.take (k + k2)) = cpt q xs) := by rw [hend, List.take_length]; exact rfl
              have KC := HKK.out
              rw [ET.out] at KC
              have O3 := HO2.out.take kk
              rw [ET.out, List.take_left' KC.symm] at O3
              have HO3 := Lib.hid O3
              have HKC := Lib.hid KC
              clear O3 KC
              go_wp2_with fail
              go_ret
              refine ⟨by rw [← HKC.out]; go_num, HO3.out.setOut _ _ _ (by rw [← HKC.out]; exact Nat.le_refl _), gb_trans HG2.out (gb_setCells _ _ _ _)⟩
      · have hend : k = xs.length := by omega
        have HX : Hid (cpt q xs = xs) := by
          have := HCP.out
          rw [hend, List.take_length] at this
          exact this
        go_wp2_with fail
        go_ret
        rw [HX.out]
        exact ⟨rfl, HO.out, HG.out⟩
end Go.Proofs.YtpkbpooiaddcaaaGreat.Tr

namespace Go.Proofs.YtpkbpooiaddcaaaGreat.Mn
open Go Go.RowKit Tr
set_option maxRecDepth 20000

def ShapeP (x : Qd) : Prop := ∃ a n c z a' n' c' z', x.a = .slice a n c ∧ x.b = .int .i64 z ∧ x.c = .slice a' n' c' ∧ x.d = .int .i64 z'
/-- 'clear' of a slice of pairs. -/
theorem run_clear4 {P : Program} (w : World) (t e ty : TypeId) (z : Value) (ht : P.underlying t = some (.slice e)) (hv : ∀ w, (zeroValue e).run P w = .ok z w) (b o n c : Nat) (hn : 0 < n)
    (hl : (Builtin.zeroCells z.cells n).toList.length = n * 4) (h1 : ∀ v ∈ (Builtin.zeroCells z.cells n).toList, v.oneCell' = true)
    (hc : ∀ j, j < n * 4 → (w.cell? ⟨b, o + j, none⟩).isSome = true) (hf : ∀ j, j < n * 4 → w.frozen? ⟨b, o + j, none⟩ = false) :
    (Builtin.clear_ #[t] ty #[.slice (some ⟨b, o, none⟩) n c]).run P w = .ok (.tuple #[]) (w.setCells b o (Builtin.zeroCells z.cells n).toList) := by
  have hst := run_storeCells_cells (P := P) b o (Builtin.zeroCells z.cells n).toList 0 w (by rw [hl]; simpa using hc) (by rw [hl]; simpa using hf) h1
  simp only [Nat.add_zero] at hst
  obtain ⟨m, rfl⟩ : ∃ m, n = m + 1 := ⟨n - 1, by omega⟩
  simp [Builtin.clear_, run_underlying ht, hv, hst]
theorem zsP (n : Nat) : (Builtin.zeroCells #[.slice none 0 0, .int .i64 0, .slice none 0 0, .int .i64 0] n).toList.length = n * 4 ∧ ∀ v ∈ (Builtin.zeroCells #[.slice none 0 0, .int .i64 0, .slice none 0 0, .int .i64 0] n).toList, v.oneCell' = true := by
  refine ⟨by simp [Builtin.zeroCells], fun v hv => ?_⟩
  obtain ⟨i, _, rfl⟩ := zc_mem hv
  have h4 : i % 4 = 0 ∨ i % 4 = 1 ∨ i % 4 = 2 ∨ i % 4 = 3 := by omega
  rcases h4 with h | h | h | h
  all_goals (
    show ((#[.slice none 0 0, .int .i64 0, .slice none 0 0, .int .i64 0] : Array Value)[i % 4]!).oneCell' = true
    rw [h]; rfl)

set_option maxHeartbeats 4000000 in
theorem compactP (g cap : Nat) (q : Qd → Qd → Bool) (xs : List (Qd)) (w : World) (h : Own4 w g 69 cap xs) (hlen : xs.length ≤ 1000000000000) (hsh : ∀ x ∈ xs, ShapeP x)
    (hq : ∀ W, w.grownBy W (some g) → ∀ x ∈ xs, ∀ y ∈ xs, Calls Tryz.prog 91 #[.agg #[x.a, x.b, x.c, x.d], .agg #[y.a, y.b, y.c, y.d]] W fun e w' => e = .returned (.bool (q x y)) ∧ Below W.heap.size W w') :
    Calls Tryz.prog 90 #[.slice (some ⟨g, 0, none⟩) xs.length cap, .func (.func 91) #[] #[]] w fun e w' => e = .returned (.slice (some ⟨g, 0, none⟩) (cpt q xs).length cap) ∧ Own4 w' g 69 cap (cpt q xs) ∧ w.grownBy w' (some g) := by
  have hcap := h.len
  have H := Lib.hid h
  have HS := Lib.hid hsh
  have HQ := Lib.hid hq
  clear h hsh hq
  by_cases h2 : xs.length < 2
  · have HX : Hid (cpt q xs = xs) := by
      match xs, h2 with
      | [], _ => exact rfl
      | [x], _ => exact rfl
    go_enter Tryz.func90, Tryz.ntmps90
    go_wp2_with fail
    go_ret
    rw [HX.out]
    exact ⟨rfl, H.out, gb_refl _ _⟩
  · go_enter Tryz.func90, Tryz.ntmps90
    go_wp2_with fail
    go_loopw [5] (fun kv wr => ∃ k : Nat, 1 ≤ k ∧ k ≤ xs.length ∧ kv = .int .i64 (k : Int) ∧ Own4 wr g 69 cap xs ∧ w.grownBy wr (some g) ∧ cpt q (xs.take k) = xs.take k) (fun kv _ => xs.length - (intOf kv).toNat)
    case atStart =>
      refine ⟨1, Nat.le_refl _, by omega, rfl, H.out, gb_refl _ _, ?_⟩
      match xs, h2 with
      | x :: xs, _ => simp [cpt, cptF]
    case round =>
      obtain ⟨k, hk1, hk, rfl, ho, hg, hcp⟩ := hrel
      have HO := Lib.hid ho
      have HG := Lib.hid hg
      have HCP := Lib.hid hcp
      clear ho hg hcp
      by_cases hlt : k < xs.length
      · obtain ⟨c0, c1, c2, c3⟩ := HO.out.cell k hlt
        obtain ⟨d0, d1, d2, d3⟩ := HO.out.cell (k - 1) (by omega)
        have M1 := Lib.hid (List.getElem_mem hlt)
        have M0 := Lib.hid (List.getElem_mem (show k - 1 < xs.length by omega))
        have SN := Lib.hid (cpt_at q xs k hk1 hlt)
        have TK := Lib.hid (List.take_succ_eq_append_getElem hlt)
        obtain ⟨x, hx⟩ : ∃ x, xs[k] = x := ⟨_, rfl⟩
        obtain ⟨y, hy⟩ : ∃ y, xs[k - 1]'(by omega) = y := ⟨_, rfl⟩
        rw [hx] at c0 c1 c2 c3 M1 SN TK
        rw [hy] at d0 d1 d2 d3 M0 SN
        clear hx hy
        obtain ⟨j, hjk⟩ : ∃ j, k - 1 = j := ⟨_, rfl⟩
        have HW1 := Lib.hid (wrap_pred k j hjk hk1 (by omega))
        have hjlt : j < xs.length := by omega
        rw [hjk] at d0 d1 d2 d3
        have HJK := Lib.hid hjk
        clear hjk
        have QC := Lib.hid (fun W hW => HQ.out W hW x M1.out y M0.out)
        cases hxy : q x y with
        | false =>
          rw [hxy] at QC SN
          obtain ⟨x1, x2, x3, x4⟩ := x
          obtain ⟨y1, y2, y3, y4⟩ := y
          go_wp2_with fail
          go_still_tail 10, (by kernel_rfl)
          simp only [HW1.out]
          repeat still_step
          refine wpStill_nil ?_
          change wpList _ _ _ _ _ wr.drew
          go_wp2_with fail
          refine (QC.out _ (gb_trans HG.out (gb_drew _ _))).mono ?_
          rintro e w1 ⟨rfl, hb1⟩
          have G1 := Lib.hid (gb_trans (gb_trans HG.out (gb_drew _ _)) (gb_below hb1))
          have O1 := Lib.hid (HO.out.below ((Below.refl _ _).drew.trans hb1))
          clear hb1
          go_wp2_with fail
          go_roundw
          case rel => exact ⟨k + 1, by omega, by omega, by go_num, O1.out, G1.out, by rw [SN.out, HCP.out, TK.out]; rfl⟩
          case measure => simp [intOf]; omega
        | true =>
          rw [hxy] at QC SN
          obtain ⟨x1, x2, x3, x4⟩ := x
          obtain ⟨y1, y2, y3, y4⟩ := y
          go_wp2_with fail
          go_still_tail 10, (by kernel_rfl)
          simp only [HW1.out]
          repeat still_step
          refine wpStill_nil ?_
          change wpList _ _ _ _ _ wr.drew
          go_wp2_with fail
          refine (QC.out _ (gb_trans HG.out (gb_drew _ _))).mono ?_
          rintro e w1 ⟨rfl, hb1⟩
          have G1 := Lib.hid (gb_trans (gb_trans HG.out (gb_drew _ _)) (gb_below hb1))
          have O1 := Lib.hid (HO.out.below ((Below.refl _ _).drew.trans hb1))
          clear hb1 c0 c1 c2 c3 d0 d1 d2 d3
          go_wp2_with fail
          go_loopw [5, 7] (fun kv k2v wr => ∃ kk k2 : Nat, kv = .int .i64 (kk : Int) ∧ k2v = .int .i64 (k2 : Int) ∧ 1 ≤ k2 ∧ k + k2 ≤ xs.length ∧ kk = (cpt q (xs.take (k + k2))).length ∧ kk < k + k2 ∧ Own4 wr g 69 cap (cpt q (xs.take (k + k2)) ++ xs.drop kk) ∧ w.grownBy wr (some g)) (fun _ k2v _ => xs.length - (k + (intOf k2v).toNat))
          case atStart =>
            have e0 : cpt q (xs.take (k + 1)) = xs.take k := by rw [SN.out, HCP.out]; simp
            refine ⟨k, 1, rfl, rfl, Nat.le_refl _, by omega, by rw [e0, List.length_take]; omega, by omega, ?_, G1.out⟩
            rw [e0, List.take_append_drop]
            exact O1.out
          case round =>
            obtain ⟨kk, k2, rfl, rfl, hk2, hle, hkk, hkl, ho2, hg2⟩ := hrel
            have HKK := Lib.hid hkk
            have HO2 := Lib.hid ho2
            have HG2 := Lib.hid hg2
            clear hkk ho2 hg2
            by_cases hlt2 : k + k2 < xs.length
            · have ey : ∀ m (hm : m < xs.length) (hk : kk ≤ m), ∃ hm' : m < (cpt q (xs.take (k + k2)) ++ xs.drop kk).length, (cpt q (xs.take (k + k2)) ++ xs.drop kk)[m] = xs[m] := fun m hm hk => by
                refine ⟨by simp [← HKK.out]; omega, ?_⟩
                rw [List.getElem_append_right (by rw [← HKK.out]; exact hk)]
                simp [← HKK.out, Nat.add_sub_cancel' hk]
              obtain ⟨hA, eA⟩ := ey (k + k2) hlt2 (by omega)
              obtain ⟨hB, eB⟩ := ey (k + k2 - 1) (by omega) (by omega)
              obtain ⟨c0, c1, c2, c3⟩ := HO2.out.cell _ hA
              obtain ⟨d0, d1, d2, d3⟩ := HO2.out.cell _ hB
              rw [eA] at c0 c1 c2 c3
              rw [eB] at d0 d1 d2 d3
              have M1' := Lib.hid (List.getElem_mem hlt2)
              have M0' := Lib.hid (List.getElem_mem (show k + k2 - 1 < xs.length by omega))
              have SN' := Lib.hid (cpt_at q xs (k + k2) (by omega) hlt2)
              have DK := Lib.hid (List.drop_eq_getElem_cons (show kk < xs.length by omega))
              obtain ⟨u, hu⟩ : ∃ u, xs[k + k2] = u := ⟨_, rfl⟩
              obtain ⟨v, hv⟩ : ∃ v, xs[k + k2 - 1]'(by omega) = v := ⟨_, rfl⟩
              rw [hu] at c0 c1 c2 c3 M1' SN'
              rw [hv] at d0 d1 d2 d3 M0' SN'
              clear hu hv eA eB ey
              have f0 := HO2.out.soft (kk * 4)
              have f1 := HO2.out.soft (kk * 4 + 1)
              have f2 := HO2.out.soft (kk * 4 + 2)
              have f3 := HO2.out.soft (kk * 4 + 3)
              have t0 := HO2.out.there (kk * 4) (by omega)
              have t1 := HO2.out.there (kk * 4 + 1) (by omega)
              have t2 := HO2.out.there (kk * 4 + 2) (by omega)
              have t3 := HO2.out.there (kk * 4 + 3) (by omega)
              obtain ⟨o0, t0⟩ := Option.isSome_iff_exists.1 t0
              obtain ⟨o1, t1⟩ := Option.isSome_iff_exists.1 t1
              obtain ⟨o2, t2⟩ := Option.isSome_iff_exists.1 t2
              obtain ⟨o3, t3⟩ := Option.isSome_iff_exists.1 t3
              rw [show (k + k2) * 4 = k * 4 + k2 * 4 by omega] at c0 c1 c2 c3
              rw [show (k + k2 - 1) * 4 = k * 4 + (k2 - 1) * 4 by omega] at d0 d1 d2 d3
              obtain ⟨j2, hjk2⟩ : ∃ j2, k2 - 1 = j2 := ⟨_, rfl⟩
              have HW2 := Lib.hid (wrap_pred k2 j2 hjk2 hk2 (by omega))
              have hjlt2 : j2 < xs.length - k := by omega
              have hklt2 : k2 < xs.length - k := by omega
              rw [hjk2] at d0 d1 d2 d3
              have HJK2 := Lib.hid hjk2
              clear hjk2
              have QC2 := Lib.hid (fun W hW => HQ.out W hW u M1'.out v M0'.out)
              cases huv : q u v with
              | true =>
                rw [huv] at QC2 SN'
                obtain ⟨u1, u2, u3, u4⟩ := u
                obtain ⟨v1, v2, v3, v4⟩ := v
                go_wp2_with fail
                go_still_tail 10, (by kernel_rfl)
                simp only [HW2.out]
                repeat still_step
                refine wpStill_nil ?_
                change wpList _ _ _ _ _ wr.drew
                go_wp2_with fail
                refine (QC2.out _ (gb_trans HG2.out (gb_drew _ _))).mono ?_
                rintro e w2 ⟨rfl, hb2⟩
                have G2 := Lib.hid (gb_trans (gb_trans HG2.out (gb_drew _ _)) (gb_below hb2))
                have O2 := Lib.hid (HO2.out.below ((Below.refl _ _).drew.trans hb2))
                clear hb2
                go_wp2_with fail
                go_roundw
                case rel =>
                  have e1 : cpt q (xs.take (k + (k2 + 1))) = cpt q (xs.take (k + k2)) := by
                    rw [show k + (k2 + 1) = k + k2 + 1 by omega]
                    have := SN'.out
                    simpa using this
                  refine ⟨kk, k2 + 1, rfl, by go_num, by omega, by omega, by rw [e1]; exact HKK.out, by omega, ?_, G2.out⟩
                  rw [e1]
                  exact O2.out
                case measure => simp [intOf]; omega
              | false =>
                rw [huv] at QC2 SN'
                have hsu := HS.out u M1'.out
                obtain ⟨u1, u2, u3, u4⟩ := u
                obtain ⟨ua, un, uc, uz, ua', un', uc', uz', rfl, rfl, rfl, rfl⟩ := hsu
                obtain ⟨v1, v2, v3, v4⟩ := v
                go_wp2_with fail
                go_still_tail 10, (by kernel_rfl)
                simp only [HW2.out]
                repeat still_step
                refine wpStill_nil ?_
                change wpList _ _ _ _ _ wr.drew
                go_wp2_with fail
                refine (QC2.out _ (gb_trans HG2.out (gb_drew _ _))).mono ?_
                rintro e w2 ⟨rfl, hb2⟩
                have hD : Below wr.heap.size wr w2 := (Below.refl _ _).drew.trans hb2
                have G2 := Lib.hid (gb_trans (gb_trans HG2.out (gb_drew _ _)) (gb_below hb2))
                have O2 := Lib.hid (HO2.out.below hD)
                have hgl := HO2.out.lt
                rw [← hD.cell (p := ⟨g, k * 4 + k2 * 4, none⟩) hgl] at c0
                rw [← hD.cell (p := ⟨g, k * 4 + k2 * 4 + 1, none⟩) hgl] at c1
                rw [← hD.cell (p := ⟨g, k * 4 + k2 * 4 + 2, none⟩) hgl] at c2
                rw [← hD.cell (p := ⟨g, k * 4 + k2 * 4 + 3, none⟩) hgl] at c3
                rw [← hD.cell (p := ⟨g, kk * 4, none⟩) hgl] at t0
                rw [← hD.cell (p := ⟨g, kk * 4 + 1, none⟩) hgl] at t1
                rw [← hD.cell (p := ⟨g, kk * 4 + 2, none⟩) hgl] at t2
                rw [← hD.cell (p := ⟨g, kk * 4 + 3, none⟩) hgl] at t3
                rw [← hD.frozen (p := ⟨g, kk * 4, none⟩) hgl] at f0
                rw [← hD.frozen (p := ⟨g, kk * 4 + 1, none⟩) hgl] at f1
                rw [← hD.frozen (p := ⟨g, kk * 4 + 2, none⟩) hgl] at f2
                rw [← hD.frozen (p := ⟨g, kk * 4 + 3, none⟩) hgl] at f3
                clear hb2 hD d0 d1 d2 d3
                go_wp2_with fail
                go_roundw
                case rel =>
                  have e1 : cpt q (xs.take (k + (k2 + 1))) = cpt q (xs.take (k + k2)) ++ [⟨.slice ua un uc, .int .i64 uz, .slice ua' un' uc', .int .i64 uz'⟩] := by
                    rw [show k + (k2 + 1) = k + k2 + 1 by omega]
                    have := SN'.out
                    simpa using this
                  refine ⟨kk + 1, k2 + 1, by go_num, by go_num, by omega, by omega, by rw [e1, List.length_append, ← HKK.out]; rfl, by omega, ?_, gb_trans G2.out (gb_set4 _ _ _ _ _ _ _)⟩
                  have := O2.out.store kk (by simp [← HKK.out]; omega) (.slice ua un uc) (.int .i64 uz) (.slice ua' un' uc') (.int .i64 uz')
                  rw [DK.out] at this
                  rw [e1]
                  have e3 := set_mid (cpt q (xs.take (k + k2))) (xs.drop (kk + 1)) (xs[kk]'(by omega)) ⟨.slice ua un uc, .int .i64 uz, .slice ua' un' uc', .int .i64 uz'⟩
                  rw [← HKK.out] at e3
                  rw [e3] at this
                  simpa using this
                case measure => simp [intOf]; omega
            · have hend : k + k2 = xs.length := by omega
              have hcl : ∀ ty, (Builtin.clear_ #[70] ty #[.slice (some ⟨g, kk * 4, none⟩) (xs.length - kk) (cap - kk)]).run Tryz.prog wr = .ok (.tuple #[]) (wr.setCells g (kk * 4) (Builtin.zeroCells #[.slice none 0 0, .int .i64 0, .slice none 0 0, .int .i64 0] (xs.length - kk)).toList) :=
                fun ty => run_clear4 wr _ _ ty (.agg #[.slice none 0 0, .int .i64 0, .slice none 0 0, .int .i64 0]) Tryz.underlying70 Tryz.zeroValue69 g (kk * 4) _ _ (by omega) (zsP _).1 (zsP _).2 (fun j hj => HO2.out.there _ (by omega)) (fun j hj => HO2.out.soft _)
              have ET : Hid (cpt q (xs.take (k + k2)) = cpt q xs) := by rw [hend, List.take_length]; exact rfl
              have KC := HKK.out
              rw [ET.out] at KC
              have O3 := HO2.out.take kk
              rw [ET.out, List.take_left' KC.symm] at O3
              have HO3 := Lib.hid O3
              have HKC := Lib.hid KC
              clear O3 KC
              go_wp2_with fail
              go_ret
              refine ⟨by rw [← HKC.out]; go_num, HO3.out.setOut _ _ _ (by rw [← HKC.out]; exact Nat.le_refl _), gb_trans HG2.out (gb_setCells _ _ _ _)⟩
      · have hend : k = xs.length := by omega
        have HX : Hid (cpt q xs = xs) := by
          have := HCP.out
          rw [hend, List.take_length] at this
          exact this
        go_wp2_with fail
        go_ret
        rw [HX.out]
        exact ⟨rfl, HO.out, HG.out⟩
end Go.Proofs.YtpkbpooiaddcaaaGreat.Mn
