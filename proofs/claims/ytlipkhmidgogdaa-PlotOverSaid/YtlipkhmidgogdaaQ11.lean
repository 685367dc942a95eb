/- The program's Lines. The document's Points, At and Box of layer 9. -/
import Derived.Test.YtlipkhmidgogdaaQ08
import Derived.Test.YtlipkhmidgogdaaQ09
import Derived.Test.YtlipkhmidgogdaaQ10

namespace Go.Proofs.Ytlipkhmidgogdaa.Pl
open Go Go.RowKit Go.Proofs.Ytlipkhmidgogdaa.Rw Go.Proofs.Ytlipkhmidgogdaa.So Go.Proofs.Ytlipkhmidgogdaa.Ro
set_option maxRecDepth 20000
attribute [local go_sem] Oper.semAt_some

/-- Between two rounds of Lines: the points in block bp, the lines in the one behind. -/
structure Lst (w1 : World) (l : List Nd) (T : Nat → Prop) (vp : Value) (bp : Nat) (k : Nat) (vm : Value) (W : World) : Prop where
  cp : W.cell? ⟨bp, 0, none⟩ = some vp
  cm : W.cell? ⟨bp + 1, 0, none⟩ = some vm
  fm : W.frozen? ⟨bp + 1, 0, none⟩ = false
  own : OwL (bp + 3) W vm (lnsN l k)
  apart : ∀ g, vm.ownBlock = some g → ¬ T g
  bel : Below bp w1 W
  size : bp + 3 ≤ W.heap.size
theorem Lst.turn {w1 : World} {l : List Nd} {T : Nat → Prop} {vp : Value} {bp k : Nat} {vm : Value} {A B : World} (h : Lst w1 l T vp bp k vm A) (hw : bp ≤ A.heap.size) (hT : ∀ t, T t → bp + 3 ≤ t ∧ t < A.heap.size) (ht : Turn T A B) : Lst w1 l T vp bp k vm B := by
  have n0 : ∀ t, t < bp + 3 → ¬ T t := fun t h1 h2 => by have := hT t h2; omega
  exact ⟨ht.cell h.cp (n0 _ (by show bp < _; omega)), ht.cell h.cm (n0 _ (by show bp + 1 < _; omega)), (turn_frozen ht h.cm (n0 _ (by show bp + 1 < _; omega))).trans h.fm, h.own.turn ht h.apart, h.apart, h.bel.trans (ht.below hw fun t h' => by have := hT t h'; omega), Nat.le_trans h.size ht.size⟩
theorem Lst.more {w1 : World} {l : List Nd} {T : Nat → Prop} {vp : Value} {bp k : Nat} {vm : Value} {A B : World} (h : Lst w1 l T vp bp k vm A) (hw : bp ≤ A.heap.size) (hT : ∀ t, T t → bp + 3 ≤ t ∧ t < A.heap.size) (ht : Turn T A B) : Lst w1 l (more T A B) vp bp k vm B := by
  have := h.turn hw hT ht
  refine ⟨this.cp, this.cm, this.fm, this.own, fun g hg hm => ?_, this.bel, this.size⟩
  rcases hm with hm | hm
  · exact h.apart g hg hm
  · have := (h.own.ge g hg).2
    omega

set_option maxHeartbeats 400000 in
theorem linesP_any (v : Value) (l : List Nd) (w : World) (hv : Nds w v l) (hl : l.length ≤ 2199023255552) :
    Calls Try.prog 15 #[v] w fun e w' => ∃ y, e = .returned y ∧ Lns w' y (lns l) ∧ Below w.heap.size w w' := by
  have HN := Lib.hid hv
  obtain ⟨_, a, cap, rfl, -⟩ := hv
  refine calls_of_marks Try.func15 rfl ?_
  simp only [Try.ntmps15, List.size_toArray, List.length_cons, List.length_nil, Nat.reduceAdd, Nat.reduceSub, Array.replicate_succ, Array.replicate_zero, List.push_toArray, List.append_toArray, List.nil_append, List.cons_append]
  go_wp2_with fail
  refine (pointsP_any _ l _ HN.out (by omega)).mono ?_
  rintro e w1 ⟨vp, rfl, hvp, hb1⟩
  obtain ⟨bp, hbp⟩ : ∃ bp, w1.heap.size = bp := ⟨_, rfl⟩
  obtain ⟨np, hnp⟩ : ∃ np, (pts l).length = np := ⟨_, rfl⟩
  obtain ⟨ap, cp, rfl⟩ : ∃ ap cp, vp = .slice ap np cp := by
    obtain ⟨_, ap, cp, e, -⟩ := id hvp
    exact ⟨ap, cp, by rw [e, hnp]⟩
  have HVP := Lib.hid hvp
  have HB1 := Lib.hid hb1
  have HNP := Lib.hid hnp
  clear hvp hb1 hnp
  go_wp2_with fail
  refine (nodes_any a l.length cap _).mono ?_
  rintro e w' ⟨rfl, rfl⟩
  go_wp2_with fail
  try rw [show ((w1.alloc (.cells #[.slice ap np cp] 25)).alloc (.cells #[.slice none 0 0] 29)).heap.size = bp + 1 + 1 by simp [hbp]]
  obtain ⟨wl, hwl⟩ : ∃ wl, (((w1.alloc (.cells #[.slice ap np cp] 25)).alloc (.cells #[.slice none 0 0] 29)).alloc (.cells #[.slice a l.length cap] 22)) = wl := ⟨_, rfl⟩
  have hsz : wl.heap.size = bp + 3 := by rw [← hwl]; simp [hbp]
  have hbl : Below bp w1 wl := by
    rw [← hwl, ← hbp]
    exact ((below1 w1 _).alloc (by simp) _).alloc (by simp; omega) _
  have b0 := cell_new_l w1 (.slice ap np cp) 25
  have b1 := cell_new_l (w1.alloc (.cells #[.slice ap np cp] 25)) (.slice none 0 0) 29
  have b2 := cell_new_l ((w1.alloc (.cells #[.slice ap np cp] 25)).alloc (.cells #[.slice none 0 0] 29)) (.slice a l.length cap) 22
  simp only [World.size_alloc] at b1 b2
  rw [hbp] at b0 b1 b2
  have hc0 := (cell_al (.cells #[.slice a l.length cap] 22) (cell_al (.cells #[.slice none 0 0] 29) b0)).1
  have hc1 := cell_al (.cells #[.slice a l.length cap] 22) b1
  have hc2 := b2.1
  have hzb : w.heap.size ≤ bp := by have := HB1.out.size; omega
  rw [hwl] at hc0 hc1 hc2 ⊢
  clear b0 b1 b2 hwl
  refine wp_range (gf := 38) (lb := #[.pointer (some ⟨bp + 1 + 1, 0, none⟩)]) rfl (enters_of Try.func38 (by kernel_rfl) rfl)
    (iter_any (bp + 1 + 1) _ l w wl HN.out (by omega) (HB1.out.trans (hbl.mono hzb)) hc2) (by omega) (Below.refl _ _) Told.size Told.stay
    (fun T k W => ∃ vm, Lst w1 l T (.slice ap np cp) bp k vm W) (fun _ _ _ _ => False)
    (fun T k A B ⟨vm, h⟩ hT ht => ⟨vm, h.more (by have := h.size; omega) (by rw [← hsz]; exact hT) ht⟩) (fun T k A B ⟨vm, h⟩ hT ht _ => ⟨vm, h.turn (by have := h.size; omega) (by rw [← hsz]; exact hT) ht⟩) (fun _ _ _ _ _ h _ _ _ => h)
    (fun W hb _ => ⟨.slice none 0 0, by rw [hb.cell (Ap.cell_lt hc0)]; exact hc0, by rw [hb.cell (Ap.cell_lt hc1.1)]; exact hc1.1, (World.frozen?_of_block (hb.block _ (Ap.cell_lt hc1.1))).trans hc1.2,
      ⟨rfl, .inl ⟨rfl, rfl⟩⟩, fun g hg => (by cases hg), hbl.trans (hb.mono (by omega)), by have := hb.size; omega⟩)
    (fun args => { tmps := #[.slice a l.length cap, undef, .slice none 0 0, .pointer (some ⟨bp, 0, none⟩), .pointer (some ⟨bp + 1, 0, none⟩), args.getD 0 undef, args.getD 1 undef, .slice a l.length cap, .slice ap np cp, .slice a l.length cap, .func (.func 38) #[] #[.pointer (some ⟨bp + 1 + 1, 0, none⟩)], args.getD 0 undef, args.getD 1 undef, undef, undef, undef, undef, undef, undef, undef, undef, undef, undef, undef, undef, undef, undef, undef, undef, undef, undef, undef, undef, undef], defers := [] }) ?assign ?body ?done ?stop
  case assign =>
    rintro l0 k args A K ⟨va, rfl, hva⟩ hK
    gi_wp2
    exact hK
  case body =>
    rintro l0 T k args A ⟨vm, hp⟩ hT hk ⟨va, rfl, hva⟩
    have hlt := rounds_lt hk
    have hT3 : ∀ t, T t → bp + 3 ≤ t ∧ t < A.heap.size := by rw [← hsz]; exact hT
    have h1 : one l = true := by
      cases h : one l with
      | true => rfl
      | false => unfold rounds at hk; rw [h] at hk; exact absurd hk (Nat.not_lt_zero k)
    have hrd : rounds l = l.length := by unfold rounds; rw [h1]; rfl
    obtain ⟨nv, hnv⟩ : ∃ nv, (ov l k).length = nv := ⟨_, rfl⟩
    obtain ⟨aa, ca, rfl⟩ : ∃ aa ca, va = .slice aa nv ca := by
      obtain ⟨_, aa, ca, rfl, -⟩ := id hva
      exact ⟨aa, ca, by rw [hnv]⟩
    by_cases hk0 : k = 0
    · subst hk0
      obtain rfl : nv = 0 := by rw [← hnv, ov_zero]; rfl
      have HP := Lib.hid hp
      clear hp hva hT hnv hk
      gi_wp2
      refine ⟨Keep.refl _ _, vm, ?_⟩
      exact ⟨HP.out.cp, HP.out.cm, HP.out.fm, by rw [lnsN_one]; exact HP.out.own, HP.out.apart, HP.out.bel, HP.out.size⟩
    · obtain ⟨hpa, hn0, hlast, -, -⟩ := par_is (one_tre.1 h1) (Nat.pos_of_ne_zero hk0) hlt
      obtain ⟨n, rfl⟩ : ∃ n, nv = n + 1 := ⟨nv - 1, by omega⟩
      rw [hnv, Nat.add_sub_cancel] at hlast
      obtain ⟨o, ho⟩ : ∃ o, par l k = o := ⟨_, rfl⟩
      rw [ho] at hpa hlast
      have hnp : np = l.length := by rw [← HNP.out]; unfold pts; rw [ptsN_len, hrd]
      have hln : lnsN l (k + 1) = lnsN l k ++ [(pt l o, pt l k)] := by
        obtain ⟨j, rfl⟩ : ∃ j, k = j + 1 := ⟨k - 1, by omega⟩
        rw [lnsN_succ]
        unfold ln
        rw [ho]
      -- the places above, the points
      obtain ⟨ab, ao, rfl, hca⟩ : ∃ ab ao, aa = some ⟨ab, ao, none⟩ ∧ A.cell? ⟨ab, ao + n, none⟩ = some (.int .i64 (o : Nat)) := by
        obtain ⟨_, aa', ca', e, _, _, hc⟩ := id hva
        simp only [Value.slice.injEq] at e
        obtain ⟨rfl, _, _⟩ := e
        obtain ⟨ab, ao, e, hj⟩ := hc (by omega)
        exact ⟨ab, ao, e, hj n _ (by rw [List.getElem?_map, hlast]; rfl)⟩
      have hvA : Cxs A (.slice ap np cp) (pts l) := HVP.out.below (by rw [hbp]; exact hp.bel)
      obtain ⟨pb, po, rfl, hpc⟩ : ∃ pb po, ap = some ⟨pb, po, none⟩ ∧ ∀ j, j < l.length → A.cell? ⟨pb, po + j, none⟩ = some (cx (pt l j)) := by
        obtain ⟨_, ap', cp', e, _, _, hc⟩ := id hvA
        simp only [Value.slice.injEq] at e
        obtain ⟨rfl, _, _⟩ := e
        obtain ⟨pb, po, e, hj⟩ := hc (by rw [HNP.out]; omega)
        refine ⟨pb, po, e, fun j hj' => hj j _ ?_⟩
        unfold pts ptsN
        rw [List.getElem?_map, List.getElem?_map, hrd, List.getElem?_range hj']
        rfl
      have hq1 := hpc o (by omega)
      have hq2 := hpc k hlt
      obtain ⟨p1, hp1⟩ : ∃ p, pt l o = p := ⟨_, rfl⟩
      obtain ⟨p2, hp2⟩ : ∃ p, pt l k = p := ⟨_, rfl⟩
      rw [hp1] at hq1 hln
      rw [hp2] at hq2 hln
      have HCA : Hid (∀ wx, Below A.heap.size A wx → wx.cell? ⟨ab, ao + n, none⟩ = some (.int .i64 (o : Nat)) ∧ wx.cell? ⟨pb, po + o, none⟩ = some (.complex .f64 (fo p1.1) (fo p1.2)) ∧ wx.cell? ⟨pb, po + k, none⟩ = some (.complex .f64 (fo p2.1) (fo p2.2)) ∧ wx.cell? ⟨bp, 0, none⟩ = some (.slice (some ⟨pb, po, none⟩) np cp) ∧ wx.cell? ⟨bp + 1, 0, none⟩ = some vm) := Lib.hid fun wx hb =>
        ⟨by rw [hb.cell (Ap.cell_lt hca)]; exact hca, by rw [hb.cell (Ap.cell_lt hq1)]; exact hq1, by rw [hb.cell (Ap.cell_lt hq2)]; exact hq2, by rw [hb.cell (Ap.cell_lt hp.cp)]; exact hp.cp, by rw [hb.cell (Ap.cell_lt hp.cm)]; exact hp.cm⟩
      have HSep : Hid (SepK (bp + 3) A vm (bp + 1)) := Lib.hid ⟨hp.own.ge, by omega, hp.size⟩
      have HP := Lib.hid hp
      have HT3 := Lib.hid hT3
      have HLN := Lib.hid hln
      have HLEN : Hid ((lnsN l k).length ≤ 2199023255552) := Lib.hid (by rw [lnsN_len]; omega)
      have hnb : n ≤ 4398046511104 := by
        have : (ov l k).length ≤ k := by unfold ov; exact Nat.le_trans (List.length_filter_le _ _) (by simp)
        omega
      have i1 : (o : Int) < (np : Int) := by omega
      have i2 : (k : Int) < (np : Int) := by omega
      clear hp hva hT hnv hk hca hvA hpc hq1 hq2 hp1 hp2 hlast hn0 ho hT3 hnp
      gi_wp2
      refine Rq.wpIn_region_steps (by kernel_rfl) (by kernel_rfl) (fun _ _ h => h) [(0, some 16), (1, some 17), (2, some 18), (3, some 19), (4, some 20), (5, some 21), (6, some 22), (7, some 23), (8, some 24), (9, some 25), (10, some 26), (11, some 27), (12, some 28), (13, some 29), (14, some 30), (15, some 31), (16, some 32), (17, none)] (by rfl) (by kernel_rfl) (by kernel_rfl) tabK (by kernel_rfl) (by kernel_rfl) (Mk2 vm (bp + 1)) (Turn (fun t => vm.ownBlock = some t ∨ t = bp + 1) A) (Rk2 (bp + 3) A vm (.slice (some ⟨pb, po, none⟩) np cp) (.slice (some ⟨ab, ao, none⟩) (n + 1) ca) (bp + 1) ab ao pb po n o k p1 p2 (lnsN l k)) (Nk2 A vm (bp + 1)) (fun _ _ _ _ => True) (fun i w w' h ht => Bk2.turn i w w' h ht) (fun i j v w w' h1 h2 h3 _ h4 h5 => Rk2.turn HSep.out i j v w w' h1 h2 h3 h4 h5) (fun i j w w' h1 h2 _ h4 h5 => Nk2.turn HSep.out i j w w' h1 h2 h4 h5) (Turn.of_below (Below.refl _ _).drew) (fun i v w hi => ?_) (fun i hi => ⟨fun _ => (Below.refl _ _).drew, fun h => ⟨by simpa using HP.out.cm, by simpa using HP.out.fm⟩⟩) ⟨⟨⟨⟨⟨⟨⟨⟨⟨⟨⟨⟨⟨⟨⟨⟨⟨⟨True.intro, ?_⟩, ?_⟩, ?_⟩, ?_⟩, ?_⟩, ?_⟩, ?_⟩, ?_⟩, ?_⟩, ?_⟩, ?_⟩, ?_⟩, ?_⟩, ?_⟩, ?_⟩, ?_⟩, ?_⟩, ?_⟩ ?_
      · unfold Rk2
        split
        case h_19 => trivial
        all_goals exact absurd hi (by decide)
      · intro oo hoo us wl al ha hB hN hdep hslot K hKf
        obtain rfl := Option.some.inj hoo
        have e4 : al.tmps[4]?.getD undef = .pointer (some ⟨bp + 1, 0, none⟩) := by rw [← Rg.eval_getD, ha]; exact (Rg.puts_eval_ne _ _ _ (by rfl)).trans rfl
        clear ha hdep hslot
        obtain ⟨q1, q2, q3, q4, q5⟩ := HCA.out wl (hN.1 (by decide))
        refine Rg.wpOp_of rfl rfl ?_
        go_simp
        exact hKf _ _ (rfl) (Turn.refl _ _) (fun _ _ _ _ _ _ => ⟨trivial, trivial⟩)
      · intro oo hoo us wl al ha hB hN hdep hslot K hKf
        obtain rfl := Option.some.inj hoo
        have e3 : al.tmps[3]?.getD undef = .pointer (some ⟨bp, 0, none⟩) := by rw [← Rg.eval_getD, ha]; exact (Rg.puts_eval_ne _ _ _ (by rfl)).trans rfl
        clear ha hdep hslot
        obtain ⟨q1, q2, q3, q4, q5⟩ := HCA.out wl (hN.1 (by decide))
        refine Rg.wpOp_of rfl rfl ?_
        go_simp
        exact hKf _ _ (rfl) (Turn.refl _ _) (fun _ _ _ _ _ _ => ⟨trivial, trivial⟩)
      · intro oo hoo us wl al ha hB hN hdep hslot K hKf
        obtain rfl := Option.some.inj hoo
        have e6 : al.tmps[6]?.getD undef = .slice (some ⟨ab, ao, none⟩) (n + 1) ca := by rw [← Rg.eval_getD, ha]; exact (Rg.puts_eval_ne _ _ _ (by rfl)).trans rfl
        clear ha hdep hslot
        refine Rg.wpOp_of rfl rfl ?_
        go_simp
        exact hKf _ _ (rfl) (Turn.refl _ _) (fun _ _ _ _ _ _ => ⟨trivial, trivial⟩)
      · intro oo hoo us wl al ha hB hN hdep hslot K hKf
        obtain rfl := Option.some.inj hoo
        have e6 : al.tmps[6]?.getD undef = .slice (some ⟨ab, ao, none⟩) (n + 1) ca := by rw [← Rg.eval_getD, ha]; exact (Rg.puts_eval_ne _ _ _ (by rfl)).trans rfl
        clear ha hdep hslot
        refine Rg.wpOp_of rfl rfl ?_
        go_simp
        exact hKf _ _ (rfl) (Turn.refl _ _) (fun _ _ _ _ _ _ => ⟨trivial, trivial⟩)
      · intro oo hoo us wl al ha hB hN hdep hslot K hKf
        obtain rfl := Option.some.inj hoo
        have d3 : (Rk2 (bp + 3) A vm (.slice (some ⟨pb, po, none⟩) np cp) (.slice (some ⟨ab, ao, none⟩) (n + 1) ca) (bp + 1) ab ao pb po n o k p1 p2 (lnsN l k)) 3 (us 3) wl := hdep ⟨3, .data⟩ (by simp) rfl
        have e19 : al.tmps[19]?.getD undef = us 3 := by rw [← Rg.eval_getD, ha]; exact Rg.puts_eval _ _ _ (by rfl) (by simp) (by simp)
        clear ha hdep hslot
        have f3 : us 3 = .slice (some ⟨ab, ao, none⟩) (n + 1) ca := d3
        clear d3
        refine Rg.wpOp_of rfl rfl ?_
        go_simp
        exact hKf _ _ (rfl) (Turn.refl _ _) (fun _ _ _ _ _ _ => ⟨trivial, trivial⟩)
      · intro oo hoo us wl al ha hB hN hdep hslot K hKf
        obtain rfl := Option.some.inj hoo
        have d4 : (Rk2 (bp + 3) A vm (.slice (some ⟨pb, po, none⟩) np cp) (.slice (some ⟨ab, ao, none⟩) (n + 1) ca) (bp + 1) ab ao pb po n o k p1 p2 (lnsN l k)) 4 (us 4) wl := hdep ⟨4, .data⟩ (by simp) rfl
        have e20 : al.tmps[20]?.getD undef = us 4 := by rw [← Rg.eval_getD, ha]; exact Rg.puts_eval _ _ _ (by rfl) (by simp) (by simp)
        clear ha hdep hslot
        have f4 : us 4 = .int .i64 (n + 1 : Nat) := d4
        clear d4
        refine Rg.wpOp_of rfl rfl ?_
        go_simp
        exact hKf _ _ (congrArg (Value.int .i64) (by rw [IntKind.wrap_i64]; omega)) (Turn.refl _ _) (fun _ _ _ _ _ _ => ⟨trivial, trivial⟩)
      · intro oo hoo us wl al ha hB hN hdep hslot K hKf
        obtain rfl := Option.some.inj hoo
        have d2 : (Rk2 (bp + 3) A vm (.slice (some ⟨pb, po, none⟩) np cp) (.slice (some ⟨ab, ao, none⟩) (n + 1) ca) (bp + 1) ab ao pb po n o k p1 p2 (lnsN l k)) 2 (us 2) wl := hdep ⟨2, .data⟩ (by simp) rfl
        have e18 : al.tmps[18]?.getD undef = us 2 := by rw [← Rg.eval_getD, ha]; exact Rg.puts_eval _ _ _ (by rfl) (by simp) (by simp)
        have d5 : (Rk2 (bp + 3) A vm (.slice (some ⟨pb, po, none⟩) np cp) (.slice (some ⟨ab, ao, none⟩) (n + 1) ca) (bp + 1) ab ao pb po n o k p1 p2 (lnsN l k)) 5 (us 5) wl := hdep ⟨5, .data⟩ (by simp) rfl
        have e21 : al.tmps[21]?.getD undef = us 5 := by rw [← Rg.eval_getD, ha]; exact Rg.puts_eval _ _ _ (by rfl) (by simp) (by simp)
        clear ha hdep hslot
        have f2 : us 2 = .slice (some ⟨ab, ao, none⟩) (n + 1) ca := d2
        clear d2
        have f5 : us 5 = .int .i64 (n : Nat) := d5
        clear d5
        have i3 : (n : Int) < (n : Int) + 1 := by omega
        refine Rg.wpOp_of rfl rfl ?_
        go_simp
        exact hKf _ _ (rfl) (Turn.refl _ _) (fun _ _ _ _ _ _ => ⟨trivial, trivial⟩)
      · intro oo hoo us wl al ha hB hN hdep hslot K hKf
        obtain rfl := Option.some.inj hoo
        have d6 : (Rk2 (bp + 3) A vm (.slice (some ⟨pb, po, none⟩) np cp) (.slice (some ⟨ab, ao, none⟩) (n + 1) ca) (bp + 1) ab ao pb po n o k p1 p2 (lnsN l k)) 6 (us 6) wl := hdep ⟨6, .data⟩ (by simp) rfl
        have e22 : al.tmps[22]?.getD undef = us 6 := by rw [← Rg.eval_getD, ha]; exact Rg.puts_eval _ _ _ (by rfl) (by simp) (by simp)
        clear ha hdep hslot
        have f6 : us 6 = .pointer (some ⟨ab, ao + n, none⟩) := d6
        clear d6
        obtain ⟨q1, q2, q3, q4, q5⟩ := HCA.out wl (hN.1 (by decide))
        refine Rg.wpOp_of rfl rfl ?_
        go_simp
        exact hKf _ _ (rfl) (Turn.refl _ _) (fun _ _ _ _ _ _ => ⟨trivial, trivial⟩)
      · intro oo hoo us wl al ha hB hN hdep hslot K hKf
        obtain rfl := Option.some.inj hoo
        have d1 : (Rk2 (bp + 3) A vm (.slice (some ⟨pb, po, none⟩) np cp) (.slice (some ⟨ab, ao, none⟩) (n + 1) ca) (bp + 1) ab ao pb po n o k p1 p2 (lnsN l k)) 1 (us 1) wl := hdep ⟨1, .data⟩ (by simp) rfl
        have e17 : al.tmps[17]?.getD undef = us 1 := by rw [← Rg.eval_getD, ha]; exact Rg.puts_eval _ _ _ (by rfl) (by simp) (by simp)
        have d7 : (Rk2 (bp + 3) A vm (.slice (some ⟨pb, po, none⟩) np cp) (.slice (some ⟨ab, ao, none⟩) (n + 1) ca) (bp + 1) ab ao pb po n o k p1 p2 (lnsN l k)) 7 (us 7) wl := hdep ⟨7, .data⟩ (by simp) rfl
        have e23 : al.tmps[23]?.getD undef = us 7 := by rw [← Rg.eval_getD, ha]; exact Rg.puts_eval _ _ _ (by rfl) (by simp) (by simp)
        clear ha hdep hslot
        have f1 : us 1 = .slice (some ⟨pb, po, none⟩) np cp := d1
        clear d1
        have f7 : us 7 = .int .i64 (o : Nat) := d7
        clear d7
        refine Rg.wpOp_of rfl rfl ?_
        go_simp
        exact hKf _ _ (rfl) (Turn.refl _ _) (fun _ _ _ _ _ _ => ⟨trivial, trivial⟩)
      · intro oo hoo us wl al ha hB hN hdep hslot K hKf
        obtain rfl := Option.some.inj hoo
        have d8 : (Rk2 (bp + 3) A vm (.slice (some ⟨pb, po, none⟩) np cp) (.slice (some ⟨ab, ao, none⟩) (n + 1) ca) (bp + 1) ab ao pb po n o k p1 p2 (lnsN l k)) 8 (us 8) wl := hdep ⟨8, .data⟩ (by simp) rfl
        have e24 : al.tmps[24]?.getD undef = us 8 := by rw [← Rg.eval_getD, ha]; exact Rg.puts_eval _ _ _ (by rfl) (by simp) (by simp)
        clear ha hdep hslot
        have f8 : us 8 = .pointer (some ⟨pb, po + o, none⟩) := d8
        clear d8
        obtain ⟨q1, q2, q3, q4, q5⟩ := HCA.out wl (hN.1 (by decide))
        refine Rg.wpOp_of rfl rfl ?_
        go_simp
        exact hKf _ _ (rfl) (Turn.refl _ _) (fun _ _ _ _ _ _ => ⟨trivial, trivial⟩)
      · intro oo hoo us wl al ha hB hN hdep hslot K hKf
        obtain rfl := Option.some.inj hoo
        have e3 : al.tmps[3]?.getD undef = .pointer (some ⟨bp, 0, none⟩) := by rw [← Rg.eval_getD, ha]; exact (Rg.puts_eval_ne _ _ _ (by rfl)).trans rfl
        clear ha hdep hslot
        obtain ⟨q1, q2, q3, q4, q5⟩ := HCA.out wl (hN.1 (by decide))
        refine Rg.wpOp_of rfl rfl ?_
        go_simp
        exact hKf _ _ (rfl) (Turn.refl _ _) (fun _ _ _ _ _ _ => ⟨trivial, trivial⟩)
      · intro oo hoo us wl al ha hB hN hdep hslot K hKf
        obtain rfl := Option.some.inj hoo
        have e5 : al.tmps[5]?.getD undef = .int .i64 (k : Nat) := by rw [← Rg.eval_getD, ha]; exact (Rg.puts_eval_ne _ _ _ (by rfl)).trans rfl
        clear ha hdep hslot
        refine Rg.wpOp_of rfl rfl ?_
        go_simp
        exact hKf _ _ (rfl) (Turn.refl _ _) (fun _ _ _ _ _ _ => ⟨trivial, trivial⟩)
      · intro oo hoo us wl al ha hB hN hdep hslot K hKf
        obtain rfl := Option.some.inj hoo
        have d10 : (Rk2 (bp + 3) A vm (.slice (some ⟨pb, po, none⟩) np cp) (.slice (some ⟨ab, ao, none⟩) (n + 1) ca) (bp + 1) ab ao pb po n o k p1 p2 (lnsN l k)) 10 (us 10) wl := hdep ⟨10, .data⟩ (by simp) rfl
        have e26 : al.tmps[26]?.getD undef = us 10 := by rw [← Rg.eval_getD, ha]; exact Rg.puts_eval _ _ _ (by rfl) (by simp) (by simp)
        have d11 : (Rk2 (bp + 3) A vm (.slice (some ⟨pb, po, none⟩) np cp) (.slice (some ⟨ab, ao, none⟩) (n + 1) ca) (bp + 1) ab ao pb po n o k p1 p2 (lnsN l k)) 11 (us 11) wl := hdep ⟨11, .data⟩ (by simp) rfl
        have e27 : al.tmps[27]?.getD undef = us 11 := by rw [← Rg.eval_getD, ha]; exact Rg.puts_eval _ _ _ (by rfl) (by simp) (by simp)
        clear ha hdep hslot
        have f10 : us 10 = .slice (some ⟨pb, po, none⟩) np cp := d10
        clear d10
        have f11 : us 11 = .int .i64 (k : Nat) := d11
        clear d11
        refine Rg.wpOp_of rfl rfl ?_
        go_simp
        exact hKf _ _ (rfl) (Turn.refl _ _) (fun _ _ _ _ _ _ => ⟨trivial, trivial⟩)
      · intro oo hoo us wl al ha hB hN hdep hslot K hKf
        obtain rfl := Option.some.inj hoo
        have d12 : (Rk2 (bp + 3) A vm (.slice (some ⟨pb, po, none⟩) np cp) (.slice (some ⟨ab, ao, none⟩) (n + 1) ca) (bp + 1) ab ao pb po n o k p1 p2 (lnsN l k)) 12 (us 12) wl := hdep ⟨12, .data⟩ (by simp) rfl
        have e28 : al.tmps[28]?.getD undef = us 12 := by rw [← Rg.eval_getD, ha]; exact Rg.puts_eval _ _ _ (by rfl) (by simp) (by simp)
        clear ha hdep hslot
        have f12 : us 12 = .pointer (some ⟨pb, po + k, none⟩) := d12
        clear d12
        obtain ⟨q1, q2, q3, q4, q5⟩ := HCA.out wl (hN.1 (by decide))
        refine Rg.wpOp_of rfl rfl ?_
        go_simp
        exact hKf _ _ (rfl) (Turn.refl _ _) (fun _ _ _ _ _ _ => ⟨trivial, trivial⟩)
      · intro oo hoo us wl al ha hB hN hdep hslot K hKf
        obtain rfl := Option.some.inj hoo
        have d9 : (Rk2 (bp + 3) A vm (.slice (some ⟨pb, po, none⟩) np cp) (.slice (some ⟨ab, ao, none⟩) (n + 1) ca) (bp + 1) ab ao pb po n o k p1 p2 (lnsN l k)) 9 (us 9) wl := hdep ⟨9, .data⟩ (by simp) rfl
        have e25 : al.tmps[25]?.getD undef = us 9 := by rw [← Rg.eval_getD, ha]; exact Rg.puts_eval _ _ _ (by rfl) (by simp) (by simp)
        have d13 : (Rk2 (bp + 3) A vm (.slice (some ⟨pb, po, none⟩) np cp) (.slice (some ⟨ab, ao, none⟩) (n + 1) ca) (bp + 1) ab ao pb po n o k p1 p2 (lnsN l k)) 13 (us 13) wl := hdep ⟨13, .data⟩ (by simp) rfl
        have e29 : al.tmps[29]?.getD undef = us 13 := by rw [← Rg.eval_getD, ha]; exact Rg.puts_eval _ _ _ (by rfl) (by simp) (by simp)
        clear ha hdep hslot
        have f9 : us 9 = .complex .f64 (fo p1.1) (fo p1.2) := d9
        clear d9
        have f13 : us 13 = .complex .f64 (fo p2.1) (fo p2.2) := d13
        clear d13
        refine Rg.wpOp_of rfl rfl ?_
        go_simp
        exact hKf _ _ (rfl) (Turn.refl _ _) (fun _ _ _ _ _ _ => ⟨trivial, trivial⟩)
      · intro oo hoo us wl al ha hB hN hdep hslot K hKf
        obtain rfl := Option.some.inj hoo
        have d14 : (Rk2 (bp + 3) A vm (.slice (some ⟨pb, po, none⟩) np cp) (.slice (some ⟨ab, ao, none⟩) (n + 1) ca) (bp + 1) ab ao pb po n o k p1 p2 (lnsN l k)) 14 (us 14) wl := hdep ⟨14, .data⟩ (by simp) rfl
        have e30 : al.tmps[30]?.getD undef = us 14 := by rw [← Rg.eval_getD, ha]; exact Rg.puts_eval _ _ _ (by rfl) (by simp) (by simp)
        clear ha hdep hslot
        have f14 : us 14 = .agg #[.complex .f64 (fo p1.1) (fo p1.2), .complex .f64 (fo p2.1) (fo p2.2)] := d14
        clear d14
        have hszA : A.heap.size ≤ wl.heap.size := hB.size
        refine Rg.wpOp_of rfl rfl ?_
        go_simp
        exact hKf _ _ (New2.new hszA) (Turn.of_below (below1 wl _)) (fun _ _ _ _ _ _ => ⟨trivial, trivial⟩)
      · intro oo hoo us wl al ha hB hN hdep hslot K hKf
        obtain rfl := Option.some.inj hoo
        have d0 : (Rk2 (bp + 3) A vm (.slice (some ⟨pb, po, none⟩) np cp) (.slice (some ⟨ab, ao, none⟩) (n + 1) ca) (bp + 1) ab ao pb po n o k p1 p2 (lnsN l k)) 0 (us 0) wl := hdep ⟨0, .data⟩ (by simp) rfl
        have e16 : al.tmps[16]?.getD undef = us 0 := by rw [← Rg.eval_getD, ha]; exact Rg.puts_eval _ _ _ (by rfl) (by simp) (by simp)
        have d15 : (Rk2 (bp + 3) A vm (.slice (some ⟨pb, po, none⟩) np cp) (.slice (some ⟨ab, ao, none⟩) (n + 1) ca) (bp + 1) ab ao pb po n o k p1 p2 (lnsN l k)) 15 (us 15) wl := hdep ⟨15, .data⟩ (by simp) rfl
        have e31 : al.tmps[31]?.getD undef = us 15 := by rw [← Rg.eval_getD, ha]; exact Rg.puts_eval _ _ _ (by rfl) (by simp) (by simp)
        clear ha hdep hslot
        have f0 : us 0 = vm := d0
        clear d0
        have hszA : A.heap.size ≤ wl.heap.size := hB.size
        obtain ⟨v', w', hrun, hown, hg, hf⟩ := (show OwL (bp + 3) wl vm (lnsN l k) from Ap.own_below HP.out.own (hN.1 (by decide))).push (Nat.le_trans HSep.out.hq hszA) (show New2 A (us 15) (cx p1) (cx p2) wl from d15).rd HLEN.out
        refine Rg.wpOp_of rfl rfl ?_
        exact Rq.append_run _ _ _ _ rfl _ _ (by rw [Rg.eval_getD]; exact e16.trans f0) (by rw [Rg.eval_getD]; exact e31) _ w' hrun (hKf _ _ (GrL.grow hown hf hszA) (Turn.of_grownBy hg fun t h => .inl ⟨rfl, h⟩) (fun _ _ _ _ _ _ => ⟨trivial, trivial⟩))
      · intro oo hoo us wl al ha hB hN hdep hslot K hKf
        obtain rfl := Option.some.inj hoo
        have d16 : (Rk2 (bp + 3) A vm (.slice (some ⟨pb, po, none⟩) np cp) (.slice (some ⟨ab, ao, none⟩) (n + 1) ca) (bp + 1) ab ao pb po n o k p1 p2 (lnsN l k)) 16 (us 16) wl := hdep ⟨16, .data⟩ (by simp) rfl
        have e32 : al.tmps[32]?.getD undef = us 16 := by rw [← Rg.eval_getD, ha]; exact Rg.puts_eval _ _ _ (by rfl) (by simp) (by simp)
        have e4 : al.tmps[4]?.getD undef = .pointer (some ⟨bp + 1, 0, none⟩) := by rw [← Rg.eval_getD, ha]; exact (Rg.puts_eval_ne _ _ _ (by rfl)).trans rfl
        clear ha hdep hslot
        obtain ⟨hc, hf⟩ : wl.cell? ⟨bp + 1, 0, none⟩ = some vm ∧ wl.frozen? ⟨bp + 1, 0, none⟩ = false := hN.2 rfl
        have hg6 : GrL (bp + 3) A vm (us 16) (lnsN l k ++ [(p1, p2)]) wl := d16
        obtain ⟨u, hu⟩ : ∃ u, us 16 = u := ⟨_, rfl⟩
        rw [hu] at e32 hg6
        obtain ⟨ub, un, uc, rfl⟩ : ∃ ub un uc, u = .slice ub un uc := by
          obtain ⟨_, ub, uc, e, -⟩ := hg6.1.lns
          exact ⟨ub, _, uc, e⟩
        have hts : Turn (Mk2 vm (bp + 1) 17) wl (wl.setCell ⟨bp + 1, 0, none⟩ (.slice ub un uc)) := Turn.setCell (.inr ⟨rfl, rfl⟩)
        have hnb : ∀ g, (Value.slice ub un uc).ownBlock = some g → ¬ Mk2 vm (bp + 1) 17 g := fun g hg hm => by
          have h1 := hg6.1.ge g hg
          rcases hm with ⟨h, _⟩ | ⟨_, h⟩
          · cases h
          · omega
        refine Rg.wpOp_of rfl rfl ?_
        go_simp
        exact hKf undef _ (⟨_, World.cell?_setCell_same' _ _ _ (by rw [hc]; rfl), by rw [World.frozen?_setCell]; exact hf, hg6.1.turn hts hnb, hg6.2⟩) (hts) (fun _ _ _ _ _ _ => ⟨trivial, trivial⟩)
      · intro us wz hBz hRz hPz
        obtain ⟨vq, hcq, hfq, hgr⟩ : ∃ v', wz.cell? ⟨bp + 1, 0, none⟩ = some v' ∧ wz.frozen? ⟨bp + 1, 0, none⟩ = false ∧ GrL (bp + 3) A vm v' (lnsN l k ++ [(p1, p2)]) wz := hRz 17
        have ht6 : Turn (fun t => vm.ownBlock = some t ∨ t = bp + 1) A wz := hBz
        have hnk : ∀ t, t < bp + 3 → t ≠ bp + 1 → ¬ (vm.ownBlock = some t ∨ t = bp + 1) := fun t h1 h2 h => by
          rcases h with h | h
          · have := HSep.out.hm t h; omega
          · exact h2 h
        have hsA := HP.out.size
        refine ⟨⟨ht6.size, fun t h => ?_⟩, vq, ?_⟩
        · rcases h with h | h
          · refine ht6.block t (HT3.out t h).2 fun hm => ?_
            rcases hm with hm | hm
            · exact HP.out.apart t hm h
            · have := HT3.out t h; omega
          · exact ht6.block t (by omega) (hnk t (by omega) (by omega))
        · refine ⟨ht6.cell HP.out.cp (hnk _ (by show bp < _; omega) (by show bp ≠ _; omega)), hcq, hfq, by rw [HLN.out]; exact hgr.1, fun g hg ht => ?_, HP.out.bel.trans (ht6.below (by omega) fun t h => ?_), Nat.le_trans HP.out.size ht6.size⟩
          · rcases hgr.2 g hg with h | h
            · exact HP.out.apart g h ht
            · have := HT3.out g ht; omega
          · rcases h with h | h
            · have := HSep.out.hm t h; omega
            · omega
  case done =>
    rintro T W ⟨vm, hp⟩ hTD hT hD
    have hcm := hp.cm
    have hn4 : vm.ownBlock ≠ some wl.heap.size := fun h => hp.apart _ h hTD
    obtain ⟨vb, vn, vc, rfl⟩ : ∃ b n c, vm = .slice b n c := by
      obtain ⟨_, b, c, e, -⟩ := hp.own.lns
      exact ⟨b, _, c, e⟩
    have hown : OwL (bp + 3) (W.putObj wl.heap.size (.deferred none)) (.slice vb vn vc) (lnsN l (rounds l)) := hp.own.turn (M := fun t => t = wl.heap.size) (putObj_turn rfl) (fun g hg e => hn4 (by rw [hg, e]))
    have hsA := hp.size
    have hb0 := HB1.out.trans (hp.bel.mono hzb)
    have hbel : Below w.heap.size w (W.putObj wl.heap.size (.deferred none)) := hb0.trans ((putObj_turn (T := fun t => t = wl.heap.size) rfl).below (by omega) (fun t h => by omega))
    have HO := Lib.hid hown
    have HB := Lib.hid hbel
    have HD := Lib.hid hD
    clear hown hbel hb0 hp hn4 hT hTD hD
    go_wp2_with fail
    refine leaves_mark HD.out (results_tmp (t := 2) rfl _ _ _) ⟨_, rfl, ?_, HB.out⟩
    exact HO.out.lns
  case stop =>
    rintro T c k W _ h _ _ _
    exact h.elim
end Go.Proofs.Ytlipkhmidgogdaa.Pl

namespace Go.Proofs.Ytlipkhmidgogdaa.Pl
open Go Go.RowKit Go.Proofs.Ytlipkhmidgogdaa.Rw Go.Proofs.Ytlipkhmidgogdaa.So Go.Proofs.Ytlipkhmidgogdaa.Ro
set_option maxRecDepth 20000

/-- Points in a row of the call's own. -/
def GotC (w wr : World) (v : Value) (P : List (Nat × Nat)) : Prop := OwC w.heap.size wr v P ∧ Below w.heap.size w wr
theorem GotC.start (w : World) : GotC w w (.slice none 0 0) [] := ⟨⟨rfl, .inl ⟨rfl, rfl⟩⟩, Below.refl _ _⟩
theorem GotC.below {w wr w' : World} {v : Value} {P : List (Nat × Nat)} (h : GotC w wr v P) (hb : Below wr.heap.size wr w') : GotC w w' v P := ⟨Ap.own_below h.1 hb, h.2.trans (hb.mono h.2.size)⟩
theorem GotC.slice {w wr : World} {v : Value} {P : List (Nat × Nat)} (h : GotC w wr v P) : ∃ a c, v = .slice a P.length c := by
  obtain ⟨_, a, c, e, -⟩ := h.1.cxs
  exact ⟨a, c, e⟩
theorem GotC.one {w wr : World} {v : Value} {P : List (Nat × Nat)} (p : Nat × Nat) (h : GotC w wr v P) (hl : P.length ≤ 2000000) :
    ∃ v' w', (Builtin.append_ #[25, 25] 25 #[v, .slice (some ⟨wr.heap.size, 0, none⟩) 1 1]).run Try.prog (wr.alloc (.cells #[.complex .f64 (fo p.1) (fo p.2)] 27)) = .ok v' w' ∧ GotC w w' v' (P ++ [p]) := by
  obtain ⟨i0, hi, hz, hs1, hb8⟩ := info_parts infoC
  obtain ⟨v', w', h1, h2, _, h4, _⟩ := Ap.run_append_one (P := Try.prog) (ty := 25) Try.underlying25 hi hz hs1 hb8 (by rfl) (by omega) h.1 h.2.size #[.complex .f64 (fo p.1) (fo p.2)] rfl
    (by intro u hu; simp at hu; subst hu; rfl) (by unfold maxLen; omega) (by omega)
  refine ⟨v', w', h1, ?_, h.2.trans h4⟩
  unfold OwC
  rw [List.map_append, show (P ++ [p]).length = P.length + 1 by simp]
  exact h2
theorem one_of {l : List Nd} {z : Nat} (hz : Rw.size l = z) (hp : 0 < l.length) : one l = decide (z = l.length) := by
  unfold one
  rw [decide_eq_true hp, hz]
  rfl

set_option maxHeartbeats 1000000 in
theorem pointsR_no (a : Option Addr) (cap : Nat) (l : List Nd) (w : World) (hv : Nds w (.slice a l.length cap) l) (hl : l.length ≤ 1000000) (h1 : one l = false) :
    Calls Try.prog 12 #[.slice a l.length cap] w fun e w' => e = .returned (.slice none 0 0) ∧ w = w' := by
  have HN := Lib.hid hv
  by_cases hp : 0 < l.length
  · obtain ⟨z, hzz⟩ : ∃ z, Rw.size l = z := ⟨_, rfl⟩
    have HZ := Lib.hid hzz
    have hzl : ¬ z = l.length := by
      rw [one_of hzz hp] at h1
      exact of_decide_eq_false h1
    have gl : ((l.length : Int) == 0) = false := by rw [beq_eq_false_iff_ne]; omega
    have g1 : ((z : Int) != (l.length : Int)) = true := by rw [bne_iff_ne]; omega
    clear hv hzz h1
    go_enter Try.func12, Try.ntmps12
    go_wp2_with fail
    refine (sizeR_any _ l _ HN.out hl).mono ?_
    rw [HZ.out]
    rintro e w' ⟨rfl, rfl⟩
    go_wp2_with fail
    go_ret
    exact ⟨rfl, rfl⟩
  · have h0 : l.length = 0 := by omega
    rw [h0]
    clear hv h1
    go_enter Try.func12, Try.ntmps12
    go_wp2_with fail
    go_ret
    exact ⟨rfl, rfl⟩
set_option maxHeartbeats 2000000 in
theorem pointsR_yes (a : Option Addr) (cap : Nat) (l : List Nd) (w : World) (hv : Nds w (.slice a l.length cap) l) (hl : l.length ≤ 1000000) (h1 : one l = true) :
    Calls Try.prog 12 #[.slice a l.length cap] w fun e w' => ∃ y, e = .returned y ∧ Cxs w' y (ptsN l l.length) ∧ Below w.heap.size w w' := by
  have HN := Lib.hid hv
  have H1 := Lib.hid h1
  have hp : 0 < l.length := (one_tre.1 h1).pos
  obtain ⟨z, hzz⟩ : ∃ z, Rw.size l = z := ⟨_, rfl⟩
  have hzl : z = l.length := by
    rw [one_of hzz hp] at h1
    exact of_decide_eq_true h1
  have HZ : Hid (Rw.size l = l.length) := Lib.hid (hzz.trans hzl)
  have gl : ((l.length : Int) == 0) = false := by rw [beq_eq_false_iff_ne]; omega
  have g1 : ((l.length : Int) != (l.length : Int)) = false := by rw [bne_eq_false_iff_eq]
  obtain ⟨m, hm⟩ : ∃ m, l.length = m := ⟨_, rfl⟩
  have HM := Lib.hid hm
  rw [hm] at gl g1 hl hp ⊢
  clear hv hzz h1 hzl hm
  go_enter Try.func12, Try.ntmps12
  go_wp2_with fail
  refine (sizeR_any _ l _ (by rw [← HM.out]; exact HN.out) (by rw [HM.out]; exact hl)).mono ?_
  rw [HZ.out, HM.out]
  rintro e w' ⟨rfl, rfl⟩
  go_wp2_with fail
  go_loopw [3, 4] (fun o kv wr => ∃ (k : Nat) (b : Option Addr) (c : Nat), k ≤ m ∧ kv = .int .i64 k ∧ o = .slice b k c ∧ Hid (GotC w wr (.slice b k c) (ptsN l k))) (fun _ kv _ => m - (intOf kv).toNat)
  case atStart => exact ⟨0, none, 0, Nat.zero_le _, rfl, rfl, Lib.hid (GotC.start w)⟩
  case round =>
    obtain ⟨k, b, c, hk, rfl, rfl, HG⟩ := hrel
    by_cases hlt : k < m
    · have HC := Lib.hid (pointR_any (.slice a m cap) l k wr (by rw [← HM.out]; exact HN.out.below HG.out.2) (by rw [HM.out]; exact hl) H1.out (by rw [HM.out]; exact hlt))
      have HS := Lib.hid (ptsN_succ l k)
      have HLk := Lib.hid (ptsN_len l k)
      obtain ⟨p, hpp⟩ : ∃ p, pt l k = p := ⟨_, rfl⟩
      rw [hpp] at HC HS
      clear hpp
      go_wp2_with fail
      refine HC.out.mono ?_
      rintro e w1 ⟨rfl, hb1⟩
      have HG1 := HG.out.below hb1
      obtain ⟨v', w3, hrun, hgot⟩ := HG1.one p (by rw [HLk.out]; omega)
      rw [← HS.out] at hgot
      obtain ⟨b', c', rfl⟩ := hgot.slice
      rw [ptsN_len] at hrun hgot
      have R := Lib.hid hrun
      have HG' := Lib.hid hgot
      unfold cx
      obtain ⟨f1, hf1⟩ : ∃ f, fo p.1 = f := ⟨_, rfl⟩
      obtain ⟨f2, hf2⟩ : ∃ f, fo p.2 = f := ⟨_, rfl⟩
      rw [hf1, hf2] at R ⊢
      clear hrun hgot HG1 hb1 hf1 hf2
      go_wp2_with (at_builtin; refine Ap.wpList_append_run (by rfl) (.tmp 21) (.tmp 25) _ _ rfl _ _ rfl rfl _ w3 R.out ?_)
      go_roundw
      case rel => exact ⟨k + 1, b', c', by omega, by go_num, rfl, HG'⟩
      case measure => simp [intOf]; omega
    · have HZ : Hid (ptsN l m = ptsN l k) := by
        show _ = _
        rw [show m = k by omega]
      go_wp2_with fail
      go_ret
      exact ⟨_, rfl, by rw [HZ.out]; exact HG.out.1.cxs, HG.out.2⟩
theorem pointsR_any (v : Value) (l : List Nd) (w : World) (hv : Nds w v l) (hl : l.length ≤ 1000000) :
    Calls Try.prog 12 #[v] w fun e w' => ∃ y, e = .returned y ∧ Cxs w' y (pts l) ∧ Below w.heap.size w w' := by
  obtain ⟨_, a, cap, rfl, -⟩ := id hv
  cases h1 : one l with
  | false =>
    refine (pointsR_no a cap l w hv hl h1).mono ?_
    rintro e w' ⟨rfl, rfl⟩
    refine ⟨_, rfl, ?_, Below.refl _ _⟩
    have e0 : pts l = [] := by unfold pts rounds ptsN; rw [h1]; rfl
    rw [e0]
    exact (GotC.start w).1.cxs
  | true =>
    refine (pointsR_yes a cap l w hv hl h1).mono ?_
    rintro e w' ⟨y, rfl, hy, hb⟩
    refine ⟨_, rfl, ?_, hb⟩
    have e0 : pts l = ptsN l l.length := by unfold pts rounds; rw [h1]; rfl
    rw [e0]
    exact hy

set_option maxHeartbeats 2000000 in
theorem atR_any (v : Value) (l : List Nd) (x y : Int) (w : World) (hv : Nds w v l) (hl : l.length ≤ 1000000) (hx : x.natAbs < 2 ^ 53) (hy : y.natAbs < 2 ^ 53) :
    Calls Try.prog 18 #[v, .complex .f64 (fo x) (fo y)] w fun e w' => e = .returned (atV (find x y (pts l))) ∧ Below w.heap.size w w' := by
  have HN := Lib.hid hv
  obtain ⟨_, a, cap, rfl, -⟩ := hv
  have hpl := Nat.le_trans (pts_len l) hl
  have hs := pts_small (l := l) (by omega)
  obtain ⟨P, hP⟩ : ∃ P, pts l = P := ⟨_, rfl⟩
  have HP := Lib.hid hP
  rw [hP] at hpl hs ⊢
  clear hP
  have HE : Hid (∀ k (h : k < P.length) (w : World), (binOp .eql 27 (.complex .f64 (fo P[k].1) (fo P[k].2)) (.complex .f64 (fo x) (fo y))).run Try.prog w = .ok (.bool (hit x y P[k])) w) := Lib.hid fun k h w => by
    obtain ⟨h1, h2⟩ := hs _ (List.getElem_mem h)
    exact eq_run' hx hy h1 h2 w
  clear hs hx hy
  obtain ⟨fx, hfx⟩ : ∃ f, fo x = f := ⟨_, rfl⟩
  obtain ⟨fy, hfy⟩ : ∃ f, fo y = f := ⟨_, rfl⟩
  rw [hfx, hfy] at HE ⊢
  clear hfx hfy
  go_enter Try.func18, Try.ntmps18
  go_wp2_with fail
  refine (pointsR_any _ l _ HN.out hl).mono ?_
  rw [HP.out]
  rintro e w1 ⟨vp, rfl, hvp, hb1⟩
  have HB1 := Lib.hid hb1
  clear hb1
  rcases hvp.form with ⟨rfl, b, c, rfl⟩ | ⟨b, off, c, rfl, hat⟩
  · clear hvp
    go_wp2_with fail
    refine Go.wp_loop_rounds 1 ?_
    rw [rounds_succ]
    go_wp2_with fail
    go_ret2
    exact ⟨rfl, HB1.out⟩
  · have HA := Lib.hid hat
    clear hat hvp
    go_wp2_with fail
    go_loopw [7] (fun iv wr => w1 = wr ∧ ∃ k : Nat, k ≤ P.length ∧ iv = .int .i64 k ∧ Hid (∀ j, (hj : j < P.length) → j < k → hit x y P[j] = false)) (fun iv _ => P.length - (intOf iv).toNat)
    case atStart => exact ⟨rfl, 0, Nat.zero_le _, rfl, Lib.hid fun j _ hj => absurd hj (Nat.not_lt_zero j)⟩
    case round =>
      obtain ⟨rfl, k, hk, rfl, HNo⟩ := hrel
      by_cases hlt : k < P.length
      · have c1 := HA.out k hlt
        have hq := HE.out k hlt
        have HY := Lib.hid (fun h => find_some (x := x) (y := y) hlt h fun j hj => HNo.out j (by omega) hj)
        have HO : Hid (hit x y P[k] = false → ∀ j, (hj : j < P.length) → j < k + 1 → hit x y P[j] = false) := Lib.hid fun h j hj hjk => by
          by_cases e : j = k
          · subst e; exact h
          · exact HNo.out j hj (by omega)
        obtain ⟨p, hp⟩ : ∃ p, P[k] = p := ⟨_, rfl⟩
        rw [hp] at c1 hq HY HO
        obtain ⟨f1, hf1⟩ : ∃ f, fo p.1 = f := ⟨_, rfl⟩
        obtain ⟨f2, hf2⟩ : ∃ f, fo p.2 = f := ⟨_, rfl⟩
        rw [hf1, hf2] at c1 hq
        clear hp hf1 hf2
        cases hh : hit x y p with
        | true =>
          have HF := Lib.hid (HY.out hh)
          rw [hh] at hq
          clear hh
          go_wp2_with fail
          go_ret2
          rw [HF.out]
          exact ⟨rfl, HB1.out⟩
        | false =>
          have HF := Lib.hid (HO.out hh)
          rw [hh] at hq
          clear hh
          go_wp2_with fail
          go_roundw
          case rel => exact ⟨trivial, k + 1, by omega, by go_num, HF⟩
          case measure => simp [intOf]; omega
      · have HF : Hid (find x y P = none) := Lib.hid (find_none fun j hj => HNo.out j hj (by omega))
        go_wp2_with fail
        go_ret2
        rw [HF.out]
        exact ⟨rfl, HB1.out⟩

set_option maxHeartbeats 1000000 in
theorem boxR_any (v : Value) (l : List Nd) (w : World) (hv : Nds w v l) (hl : l.length ≤ 1000000) :
    Calls Try.prog 14 #[v] w fun e w' => e = .returned (cx (bxs l)) ∧ Below w.heap.size w w' := by
  have HN := Lib.hid hv
  obtain ⟨_, a, cap, rfl, -⟩ := id hv
  have hz0 : cx (0, 0) = .complex .f64 0 0 := by
    show Value.complex .f64 (fo 0) (fo 0) = _
    rw [fo_zero]
  by_cases hp : 0 < l.length
  · obtain ⟨z, hzz⟩ : ∃ z, Rw.size l = z := ⟨_, rfl⟩
    have HZ := Lib.hid hzz
    have ho := one_of hzz hp
    have gl : ((l.length : Int) == 0) = false := by rw [beq_eq_false_iff_ne]; omega
    by_cases hzl : z = l.length
    · have g1 : ((z : Int) != (l.length : Int)) = false := by rw [bne_eq_false_iff_eq]; omega
      have e0 : bxs l = (xl l l.length, Rw.depth l) := by unfold bxs; rw [ho, decide_eq_true hzl]; rfl
      obtain ⟨x, hx⟩ : ∃ x, xl l l.length = x := ⟨_, rfl⟩
      obtain ⟨d, hd⟩ : ∃ d, Rw.depth l = d := ⟨_, rfl⟩
      have HX := Lib.hid hx
      have HD := Lib.hid hd
      rw [e0, hx, hd]
      clear hv hzz ho hzl e0 hx hd hz0
      go_enter Try.func14, Try.ntmps14
      go_wp2_with fail
      refine (sizeR_any _ l _ HN.out hl).mono ?_
      rw [HZ.out]
      rintro e w' ⟨rfl, rfl⟩
      go_wp2_with fail
      refine (xR_any _ l l.length _ HN.out hl (Nat.le_refl _)).mono ?_
      rw [HX.out]
      rintro e w' ⟨rfl, rfl⟩
      go_wp2_with fail
      refine (depthR_any _ l _ HN.out hl).mono ?_
      rw [HD.out]
      rintro e w' ⟨rfl, rfl⟩
      go_wp2_with fail
      go_ret
      exact ⟨rfl, Below.refl _ _⟩
    · have g1 : ((z : Int) != (l.length : Int)) = true := by rw [bne_iff_ne]; omega
      have e0 : bxs l = (0, 0) := by unfold bxs; rw [ho, decide_eq_false hzl]; rfl
      rw [e0, hz0]
      clear hv hzz ho hzl e0 hz0
      go_enter Try.func14, Try.ntmps14
      go_wp2_with fail
      refine (sizeR_any _ l _ HN.out hl).mono ?_
      rw [HZ.out]
      rintro e w' ⟨rfl, rfl⟩
      go_wp2_with fail
      go_ret
      exact ⟨rfl, Below.refl _ _⟩
  · have h0 : l.length = 0 := by omega
    have e0 : bxs l = (0, 0) := by
      unfold bxs one
      rw [decide_eq_false hp, Bool.false_and]
      rfl
    rw [e0, hz0, h0]
    clear hv e0 hz0
    go_enter Try.func14, Try.ntmps14
    go_wp2_with fail
    go_ret
    exact ⟨rfl, Below.refl _ _⟩
end Go.Proofs.Ytlipkhmidgogdaa.Pl
