/- The program's Points. -/
import Derived.Test.YtlipkhmidgogdaaQ07

namespace Go.Proofs.Ytlipkhmidgogdaa.Pl
open Go Go.RowKit Go.Proofs.Ytlipkhmidgogdaa.Rw Go.Proofs.Ytlipkhmidgogdaa.So Go.Proofs.Ytlipkhmidgogdaa.Ro
set_option maxRecDepth 20000
attribute [local go_sem] Oper.semAt_some

/-- Between two rounds of Points: z is the heap's size at the start. -/
structure Pst (w : World) (v : Value) (l : List Nd) (T : Nat → Prop) (k : Nat) (vp : Value) (W : World) : Prop where
  cl : W.cell? ⟨w.heap.size, 0, none⟩ = some v
  cp : W.cell? ⟨w.heap.size + 1, 0, none⟩ = some vp
  fp : W.frozen? ⟨w.heap.size + 1, 0, none⟩ = false
  cx : W.cell? ⟨w.heap.size + 1 + 1, 0, none⟩ = some (.int .i64 (xl l k : Int))
  fx : W.frozen? ⟨w.heap.size + 1 + 1, 0, none⟩ = false
  own : OwC (w.heap.size + 4) W vp (ptsN l k)
  apart : ∀ g, vp.ownBlock = some g → ¬ T g
  bel : Below w.heap.size w W
  size : w.heap.size + 4 ≤ W.heap.size
theorem Pst.turn {w : World} {v : Value} {l : List Nd} {T : Nat → Prop} {k : Nat} {vp : Value} {A B : World} (h : Pst w v l T k vp A) (hT : ∀ t, T t → w.heap.size + 4 ≤ t ∧ t < A.heap.size) (ht : Turn T A B) : Pst w v l T k vp B := by
  have n0 : ∀ t, t < w.heap.size + 4 → ¬ T t := fun t h1 h2 => by have := hT t h2; omega
  exact ⟨ht.cell h.cl (n0 _ (by show w.heap.size < _; omega)), ht.cell h.cp (n0 _ (by show w.heap.size + 1 < _; omega)), (turn_frozen ht h.cp (n0 _ (by show w.heap.size + 1 < _; omega))).trans h.fp, ht.cell h.cx (n0 _ (by show w.heap.size + 1 + 1 < _; omega)), (turn_frozen ht h.cx (n0 _ (by show w.heap.size + 1 + 1 < _; omega))).trans h.fx, h.own.turn ht h.apart, h.apart,
    h.bel.trans (ht.below h.bel.size fun t h' => by have := hT t h'; omega), Nat.le_trans h.size ht.size⟩
theorem Pst.more {w : World} {v : Value} {l : List Nd} {T : Nat → Prop} {k : Nat} {vp : Value} {A B : World} (h : Pst w v l T k vp A) (hT : ∀ t, T t → w.heap.size + 4 ≤ t ∧ t < A.heap.size) (ht : Turn T A B) : Pst w v l (more T A B) k vp B := by
  have := h.turn hT ht
  refine ⟨this.cl, this.cp, this.fp, this.cx, this.fx, this.own, fun g hg hm => ?_, this.bel, this.size⟩
  rcases hm with hm | hm
  · exact h.apart g hg hm
  · have := (h.own.ge g hg).2
    omega

set_option maxHeartbeats 400000 in
theorem pointsP_any (v : Value) (l : List Nd) (w : World) (hv : Nds w v l) (hl : l.length ≤ 4398046511104) :
    Calls Try.prog 11 #[v] w fun e w' => ∃ y, e = .returned y ∧ Cxs w' y (pts l) ∧ Below w.heap.size w w' := by
  have HN := Lib.hid hv
  obtain ⟨_, a, cap, rfl, -⟩ := hv
  refine calls_of_marks Try.func11 rfl ?_
  simp only [Try.ntmps11, List.size_toArray, List.length_cons, List.length_nil, Nat.reduceAdd, Nat.reduceSub, Array.replicate_succ, Array.replicate_zero, List.push_toArray, List.append_toArray, List.nil_append, List.cons_append]
  go_wp2_with fail
  refine (nodes_any a l.length cap _).mono ?_
  rintro e w' ⟨rfl, rfl⟩
  go_wp2_with fail
  obtain ⟨wl, hwl⟩ : ∃ wl, ((((w.alloc (.cells #[.slice a l.length cap] 22)).alloc (.cells #[.slice none 0 0] 25)).alloc (.cells #[.int .i64 0] 3)).alloc (.cells #[.slice a l.length cap] 22)) = wl := ⟨_, rfl⟩
  have hsz : wl.heap.size = w.heap.size + 4 := by rw [← hwl]; simp
  have hbl : Below w.heap.size w wl := by
    rw [← hwl]
    exact (((below1 w _).alloc (by simp) _).alloc (by simp; omega) _).alloc (by simp; omega) _
  have b0 := cell_new_l w (.slice a l.length cap) 22
  have b1 := cell_new_l (w.alloc (.cells #[.slice a l.length cap] 22)) (.slice none 0 0) 25
  have b2 := cell_new_l ((w.alloc (.cells #[.slice a l.length cap] 22)).alloc (.cells #[.slice none 0 0] 25)) (.int .i64 0) 3
  have b3 := cell_new_l (((w.alloc (.cells #[.slice a l.length cap] 22)).alloc (.cells #[.slice none 0 0] 25)).alloc (.cells #[.int .i64 0] 3)) (.slice a l.length cap) 22
  simp only [World.size_alloc] at b1 b2 b3
  have hc0 := (cell_al (.cells #[.slice a l.length cap] 22) (cell_al (.cells #[.int .i64 0] 3) (cell_al (.cells #[.slice none 0 0] 25) b0))).1
  have hc1 := cell_al (.cells #[.slice a l.length cap] 22) (cell_al (.cells #[.int .i64 0] 3) b1)
  have hc2 := cell_al (.cells #[.slice a l.length cap] 22) b2
  have hc3 := b3.1
  rw [hwl] at hc0 hc1 hc2 hc3
  clear b0 b1 b2 b3
  rw [hwl]
  clear hwl
  refine wp_range (gf := 38) (lb := #[.pointer (some ⟨w.heap.size + 1 + 1 + 1, 0, none⟩)]) rfl (enters_of Try.func38 (by kernel_rfl) rfl)
    (iter_any (w.heap.size + 1 + 1 + 1) _ l w wl HN.out hl hbl hc3) (by omega) (Below.refl _ _) Told.size Told.stay
    (fun T k W => ∃ vp, Pst w (.slice a l.length cap) l T k vp W) (fun _ _ _ _ => False)
    (fun T k A B ⟨vp, h⟩ hT ht => ⟨vp, h.more (by rw [← hsz]; exact hT) ht⟩) (fun T k A B ⟨vp, h⟩ hT ht _ => ⟨vp, h.turn (by rw [← hsz]; exact hT) ht⟩) (fun _ _ _ _ _ h _ _ _ => h)
    (fun W hb _ => ⟨.slice none 0 0, by rw [hb.cell (Ap.cell_lt hc0)]; exact hc0, by rw [hb.cell (Ap.cell_lt hc1.1)]; exact hc1.1, (World.frozen?_of_block (hb.block _ (Ap.cell_lt hc1.1))).trans hc1.2, by rw [hb.cell (Ap.cell_lt hc2.1)]; exact hc2.1, (World.frozen?_of_block (hb.block _ (Ap.cell_lt hc2.1))).trans hc2.2,
      ⟨rfl, .inl ⟨rfl, rfl⟩⟩, fun g hg => (by cases hg), hbl.trans (hb.mono hbl.size), by have := hb.size; omega⟩)
    (fun args => { tmps := #[.slice a l.length cap, .pointer (some ⟨w.heap.size, 0, none⟩), .slice none 0 0, .pointer (some ⟨w.heap.size + 1, 0, none⟩), .pointer (some ⟨w.heap.size + 1 + 1, 0, none⟩), args.getD 0 undef, args.getD 1 undef, .slice a l.length cap, .func (.func 38) #[] #[.pointer (some ⟨w.heap.size + 1 + 1 + 1, 0, none⟩)], args.getD 0 undef, args.getD 1 undef, undef, undef, undef, undef, undef, undef, undef, undef, undef, undef, undef, undef, undef, undef, undef], defers := [] }) ?assign ?body ?done ?stop
  case assign =>
    rintro l0 k args A K ⟨va, rfl, hva⟩ hK
    gi_wp2
    exact hK
  case body =>
    rintro l0 T k args A ⟨vp, hp⟩ hT hk ⟨va, rfl, hva⟩
    have hlt := rounds_lt hk
    obtain ⟨n, hn⟩ : ∃ n, (ov l k).length = n := ⟨_, rfl⟩
    obtain ⟨aa, ca, rfl⟩ : ∃ aa ca, va = .slice aa n ca := by
      obtain ⟨_, aa, ca, rfl, -⟩ := hva
      exact ⟨aa, ca, by rw [hn]⟩
    obtain ⟨x, hx⟩ : ∃ x, xl l k = x := ⟨_, rfl⟩
    have hT4 : ∀ t, T t → w.heap.size + 4 ≤ t ∧ t < A.heap.size := by rw [← hsz]; exact hT
    have HSep : Hid (SepG (w.heap.size + 4) A vp (w.heap.size + 1) (w.heap.size + 1 + 1)) := Lib.hid ⟨hp.own.ge, by omega, by omega, by omega, hp.size⟩
    have HP := Lib.hid hp
    have HT4 := Lib.hid hT4
    have hcx := hp.cx
    rw [hx] at hcx
    have HCX := Lib.hid hcx
    have HLEN : Hid ((ptsN l k).length ≤ 4398046511104) := Lib.hid (by rw [ptsN_len]; omega)
    refine wpIn_block (wpIn_seq ?_)
    refine Rq.wpIn_region_steps (by kernel_rfl) (by kernel_rfl) (fun _ _ h => h) [(0, some 11), (1, some 12), (2, some 13), (3, some 14), (4, some 15), (5, some 16), (6, some 17), (7, none)] (by rfl) (by kernel_rfl) (by kernel_rfl) tabG (by kernel_rfl) (by kernel_rfl) (Mg vp (w.heap.size + 1)) (Bg A vp (w.heap.size + 1) (w.heap.size + 1 + 1) x) (Rpg (w.heap.size + 4) A vp (.slice aa n ca) (w.heap.size + 1) x n (ptsN l k)) (Npg (w.heap.size + 4) vp (w.heap.size + 1) (ptsN l k)) (fun _ _ _ _ => True) (Bg.turn HSep.out) (fun i j v w w' h1 h2 h3 _ h4 h5 => Rpg.turn HSep.out i j v w w' h1 h2 h3 h4 h5) (fun i j w w' h1 h2 _ h4 h5 => Npg.turn HSep.out i j w w' h1 h2 h4 h5) (⟨by simpa using HCX.out, Turn.of_below (Below.refl _ _).drew⟩) (fun i v w hi => ?_) (fun i hi => ?_) ⟨⟨⟨⟨⟨⟨⟨⟨True.intro, ?_⟩, ?_⟩, ?_⟩, ?_⟩, ?_⟩, ?_⟩, ?_⟩, ?_⟩ ?_
    · unfold Rpg
      split
      case h_9 => trivial
      all_goals exact absurd hi (by decide)
    · unfold Npg
      split
      case h_1 => simpa using HP.out.cp
      case h_2 => exact HP.out.own.turn (M := fun _ => False) (Turn.of_below (Below.refl _ _).drew) fun _ _ h => h
      case h_3 => exact ⟨by simpa using HP.out.cp, by simpa using HP.out.fp⟩
      all_goals trivial
    · intro o ho us wl al ha hB hN hdep hslot K hKf
      obtain rfl := Option.some.inj ho
      have e3 : al.tmps[3]?.getD undef = .pointer (some ⟨w.heap.size + 1, 0, none⟩) := by rw [← Rg.eval_getD, ha]; exact (Rg.puts_eval_ne _ _ _ (by rfl)).trans rfl
      clear ha hdep hslot
      have hc : wl.cell? ⟨w.heap.size + 1, 0, none⟩ = some vp := hN
      refine Rg.wpOp_of rfl rfl ?_
      go_simp
      exact hKf _ _ (rfl) (Turn.refl _ _) (fun _ _ _ _ _ _ => ⟨trivial, trivial⟩)
    · intro o ho us wl al ha hB hN hdep hslot K hKf
      obtain rfl := Option.some.inj ho
      have e4 : al.tmps[4]?.getD undef = .pointer (some ⟨w.heap.size + 1 + 1, 0, none⟩) := by rw [← Rg.eval_getD, ha]; exact (Rg.puts_eval_ne _ _ _ (by rfl)).trans rfl
      clear ha hdep hslot
      have hc := hB.1
      refine Rg.wpOp_of rfl rfl ?_
      go_simp
      exact hKf _ _ (rfl) (Turn.refl _ _) (fun _ _ _ _ _ _ => ⟨trivial, trivial⟩)
    · intro o ho us wl al ha hB hN hdep hslot K hKf
      obtain rfl := Option.some.inj ho
      have e6 : al.tmps[6]?.getD undef = .slice aa n ca := by rw [← Rg.eval_getD, ha]; exact (Rg.puts_eval_ne _ _ _ (by rfl)).trans rfl
      clear ha hdep hslot
      refine Rg.wpOp_of rfl rfl ?_
      go_simp
      exact hKf _ _ (rfl) (Turn.refl _ _) (fun _ _ _ _ _ _ => ⟨trivial, trivial⟩)
    · intro o ho us wl al ha hB hN hdep hslot K hKf
      obtain rfl := Option.some.inj ho
      have d2 : (Rpg (w.heap.size + 4) A vp (.slice aa n ca) (w.heap.size + 1) x n (ptsN l k)) 2 (us 2) wl := hdep ⟨2, .data⟩ (by simp) rfl
      have e13 : al.tmps[13]?.getD undef = us 2 := by rw [← Rg.eval_getD, ha]; exact Rg.puts_eval _ _ _ (by rfl) (by simp) (by simp)
      clear ha hdep hslot
      have f2 : us 2 = .slice aa n ca := d2
      clear d2
      refine Rg.wpOp_of rfl rfl ?_
      go_simp
      exact hKf _ _ (rfl) (Turn.refl _ _) (fun _ _ _ _ _ _ => ⟨trivial, trivial⟩)
    · intro o ho us wl al ha hB hN hdep hslot K hKf
      obtain rfl := Option.some.inj ho
      have d1 : (Rpg (w.heap.size + 4) A vp (.slice aa n ca) (w.heap.size + 1) x n (ptsN l k)) 1 (us 1) wl := hdep ⟨1, .data⟩ (by simp) rfl
      have e12 : al.tmps[12]?.getD undef = us 1 := by rw [← Rg.eval_getD, ha]; exact Rg.puts_eval _ _ _ (by rfl) (by simp) (by simp)
      have d3 : (Rpg (w.heap.size + 4) A vp (.slice aa n ca) (w.heap.size + 1) x n (ptsN l k)) 3 (us 3) wl := hdep ⟨3, .data⟩ (by simp) rfl
      have e14 : al.tmps[14]?.getD undef = us 3 := by rw [← Rg.eval_getD, ha]; exact Rg.puts_eval _ _ _ (by rfl) (by simp) (by simp)
      clear ha hdep hslot
      have f1 : us 1 = .int .i64 (x : Int) := d1
      clear d1
      have f3 : us 3 = .int .i64 (n : Int) := d3
      clear d3
      refine Rg.wpOp_of rfl rfl ?_
      go_simp
      refine (pointP_any _ _ _).mono ?_
      rintro e w' ⟨rfl, rfl⟩
      exact hKf _ _ rfl (Turn.refl _ _) (fun _ _ _ _ _ _ => ⟨trivial, trivial⟩)
    · intro o ho us wl al ha hB hN hdep hslot K hKf
      obtain rfl := Option.some.inj ho
      have d4 : (Rpg (w.heap.size + 4) A vp (.slice aa n ca) (w.heap.size + 1) x n (ptsN l k)) 4 (us 4) wl := hdep ⟨4, .data⟩ (by simp) rfl
      have e15 : al.tmps[15]?.getD undef = us 4 := by rw [← Rg.eval_getD, ha]; exact Rg.puts_eval _ _ _ (by rfl) (by simp) (by simp)
      clear ha hdep hslot
      have f4 : us 4 = .complex .f64 (fo x) (fo n) := d4
      clear d4
      have hsz6 : A.heap.size ≤ wl.heap.size := hB.2.size
      refine Rg.wpOp_of rfl rfl ?_
      go_simp
      exact hKf _ _ (New1.new hsz6) (Turn.of_below (below1 wl _)) (fun _ _ _ _ _ _ => ⟨trivial, trivial⟩)
    · intro o ho us wl al ha hB hN hdep hslot K hKf
      obtain rfl := Option.some.inj ho
      have d0 : (Rpg (w.heap.size + 4) A vp (.slice aa n ca) (w.heap.size + 1) x n (ptsN l k)) 0 (us 0) wl := hdep ⟨0, .data⟩ (by simp) rfl
      have e11 : al.tmps[11]?.getD undef = us 0 := by rw [← Rg.eval_getD, ha]; exact Rg.puts_eval _ _ _ (by rfl) (by simp) (by simp)
      have d5 : (Rpg (w.heap.size + 4) A vp (.slice aa n ca) (w.heap.size + 1) x n (ptsN l k)) 5 (us 5) wl := hdep ⟨5, .data⟩ (by simp) rfl
      have e16 : al.tmps[16]?.getD undef = us 5 := by rw [← Rg.eval_getD, ha]; exact Rg.puts_eval _ _ _ (by rfl) (by simp) (by simp)
      clear ha hdep hslot
      have f0 : us 0 = vp := d0
      clear d0
      have hsz6 : A.heap.size ≤ wl.heap.size := hB.2.size
      obtain ⟨v', w', hrun, hown, hg, hf⟩ := (show OwC (w.heap.size + 4) wl vp (ptsN l k) from hN).push (Nat.le_trans HSep.out.hq hsz6) (show New1 A (us 5) (cx (x, n)) wl from d5).rd HLEN.out
      refine Rg.wpOp_of rfl rfl ?_
      exact Rq.append_run _ _ _ _ rfl _ _ (by rw [Rg.eval_getD]; exact e11.trans f0) (by rw [Rg.eval_getD]; exact e16) _ w' hrun (hKf _ _ (GrC.grow hown hf hsz6) (Turn.of_grownBy hg fun t h => .inl ⟨rfl, h⟩) (fun _ _ _ _ _ _ => ⟨trivial, trivial⟩))
    · intro o ho us wl al ha hB hN hdep hslot K hKf
      obtain rfl := Option.some.inj ho
      have d6 : (Rpg (w.heap.size + 4) A vp (.slice aa n ca) (w.heap.size + 1) x n (ptsN l k)) 6 (us 6) wl := hdep ⟨6, .data⟩ (by simp) rfl
      have e17 : al.tmps[17]?.getD undef = us 6 := by rw [← Rg.eval_getD, ha]; exact Rg.puts_eval _ _ _ (by rfl) (by simp) (by simp)
      have e3 : al.tmps[3]?.getD undef = .pointer (some ⟨w.heap.size + 1, 0, none⟩) := by rw [← Rg.eval_getD, ha]; exact (Rg.puts_eval_ne _ _ _ (by rfl)).trans rfl
      clear ha hdep hslot
      obtain ⟨hc, hf⟩ : wl.cell? ⟨w.heap.size + 1, 0, none⟩ = some vp ∧ wl.frozen? ⟨w.heap.size + 1, 0, none⟩ = false := hN
      have hg6 : GrC (w.heap.size + 4) A vp (us 6) (ptsN l k ++ [(x, n)]) wl := d6
      obtain ⟨u, hu⟩ : ∃ u, us 6 = u := ⟨_, rfl⟩
      rw [hu] at e17 hg6
      obtain ⟨ub, un, uc, rfl⟩ : ∃ ub un uc, u = .slice ub un uc := by
        obtain ⟨_, ub, uc, e, -⟩ := hg6.1.cxs
        exact ⟨ub, _, uc, e⟩
      have hts : Turn (Mg vp (w.heap.size + 1) 7) wl (wl.setCell ⟨w.heap.size + 1, 0, none⟩ (.slice ub un uc)) := Turn.setCell (.inr ⟨rfl, rfl⟩)
      have hnb : ∀ g, (Value.slice ub un uc).ownBlock = some g → ¬ Mg vp (w.heap.size + 1) 7 g := fun g hg hm => by
        have h1 := hg6.1.ge g hg
        rcases hm with ⟨h, _⟩ | ⟨_, h⟩
        · cases h
        · omega
      refine Rg.wpOp_of rfl rfl ?_
      go_simp
      exact hKf undef _ (⟨_, World.cell?_setCell_same' _ _ _ (by rw [hc]; rfl), by rw [World.frozen?_setCell]; exact hf, hg6.1.turn hts hnb, hg6.2⟩) (hts) (fun _ _ _ _ _ _ => ⟨trivial, trivial⟩)
    · intro us wz hBz hRz hPz
      obtain ⟨vq, hcq, hfq, hgr⟩ : ∃ v', wz.cell? ⟨w.heap.size + 1, 0, none⟩ = some v' ∧ wz.frozen? ⟨w.heap.size + 1, 0, none⟩ = false ∧ GrC (w.heap.size + 4) A vp v' (ptsN l k ++ [(x, n)]) wz := hRz 7
      have ht6 : Turn (fun t => vp.ownBlock = some t ∨ t = w.heap.size + 1) A wz := hBz.2
      have hpt : pt l k = (x, n) := by unfold pt; rw [hx, hn]
      have hTq : ∀ t, T t → ¬ (vp.ownBlock = some t ∨ t = w.heap.size + 1) := fun t ht h => by
        rcases h with h | h
        · exact hp.apart t h ht
        · have := hT4 t ht; omega
      have hnk : ∀ t, t < w.heap.size + 4 → t ≠ w.heap.size + 1 → ¬ (vp.ownBlock = some t ∨ t = w.heap.size + 1) := fun t h1 h2 h => by
        rcases h with h | h
        · have := hp.own.ge t h; omega
        · exact h2 h
      have hP2 : Pst w (.slice a l.length cap) l T k vq wz → True := fun _ => trivial
      have HC0 : Hid (wz.cell? ⟨w.heap.size, 0, none⟩ = some (.slice a l.length cap)) := Lib.hid (ht6.cell hp.cl (hnk _ (by show w.heap.size < _; omega) (by show w.heap.size ≠ _; omega)))
      have HC2 : Hid (wz.cell? ⟨w.heap.size + 1 + 1, 0, none⟩ = some (.int .i64 (x : Int)) ∧ wz.frozen? ⟨w.heap.size + 1 + 1, 0, none⟩ = false) := Lib.hid
        ⟨ht6.cell hcx (hnk _ (by show w.heap.size + 1 + 1 < _; omega) (by show w.heap.size + 1 + 1 ≠ _; omega)), (turn_frozen ht6 hcx (hnk _ (by show w.heap.size + 1 + 1 < _; omega) (by show w.heap.size + 1 + 1 ≠ _; omega))).trans hp.fx⟩
      have HC1 : Hid (wz.cell? ⟨w.heap.size + 1, 0, none⟩ = some vq ∧ wz.frozen? ⟨w.heap.size + 1, 0, none⟩ = false) := Lib.hid ⟨hcq, hfq⟩
      have hbz : Below w.heap.size w wz := hp.bel.trans (ht6.below hp.bel.size fun t h => by
        rcases h with h | h
        · have := hp.own.ge t h; omega
        · omega)
      have HBZ := Lib.hid hbz
      have HKZ : Hid (Keep (fun t => T t ∨ t < w.heap.size) A wz) := Lib.hid ⟨ht6.size, fun t h => by
        rcases h with h | h
        · exact ht6.block t (hT4 t h).2 (hTq t h)
        · exact ht6.block t (by have := hp.size; omega) (hnk t (by omega) (by omega))⟩
      have HGZ := Lib.hid hgr
      have HQT : Hid (∀ g, vq.ownBlock = some g → ¬ T g) := Lib.hid fun g hg ht => by
        rcases hgr.2 g hg with h | h
        · exact hp.apart g h ht
        · have := hT4 g ht; omega
      have HAZ : Hid (w.heap.size + 4 ≤ wz.heap.size) := Lib.hid (Nat.le_trans hp.size ht6.size)
      simp only [Rg.puts, Act.put, List.setIfInBounds_toArray, List.set_cons_zero, List.set_cons_succ]
      show Code.wpIn _ _ _ (Code.region 7 _ true) _ _ _
      obtain ⟨b, off, rfl, hat⟩ : ∃ b off, a = some ⟨b, off, none⟩ ∧ At w b off l := by
        rcases HN.out.form with ⟨rfl, _⟩ | ⟨b, off, c, e, _, h⟩
        · exact absurd hlt (Nat.not_lt_zero k)
        · cases e; exact ⟨b, off, rfl, h⟩
      obtain ⟨e1, e2, e3⟩ := hat k hlt
      have hxl := xl_lf hlt
      have hks := ptsN_succ l k
      rw [hpt] at hks
      obtain ⟨y, hy⟩ : ∃ y, l[k] = y := ⟨_, rfl⟩
      rw [hy] at e1 e2 e3 hxl
      rw [hx] at hxl
      have HCY : Hid (∀ wx, Turn (fun t => t = w.heap.size + 1 + 1) wz wx → wx.cell? ⟨b, off + k * 3, none⟩ = some (.int .i64 y.k) ∧ wx.cell? ⟨b, off + k * 3 + 1, none⟩ = some (.string y.n) ∧ wx.cell? ⟨b, off + k * 3 + 2, none⟩ = some (.int .i64 y.s)) := Lib.hid fun wx ht => by
        have hlb : b < w.heap.size := Ap.cell_lt e1
        have hbx := hbz.trans (ht.below hbz.size fun t h => by omega)
        exact ⟨by rw [hbx.cell hlb]; exact e1, by rw [hbx.cell hlb]; exact e2, by rw [hbx.cell hlb]; exact e3⟩
      have hxb : x + lf y ≤ 4398046511104 := by
        rw [← hxl]
        exact Nat.le_trans (Nat.le_trans List.countP_le_length (by rw [List.length_take]; exact Nat.min_le_right _ _)) hl
      have HXL := Lib.hid hxl
      have HKS := Lib.hid hks
      have hkb : k ≤ 4398046511104 := by omega
      clear e1 e2 e3 hxl hks hat hy hcq hfq hgr ht6 hP2 hTq hnk hbz hpt
      refine Rq.wpIn_region_steps (by kernel_rfl) (by kernel_rfl) (fun _ _ h => h) [(0, some 18), (1, some 19), (2, some 20), (3, some 21), (4, some 22), (5, some 23), (6, some 24), (7, none)] (by rfl) (by kernel_rfl) (by kernel_rfl) tabL (by kernel_rfl) (by kernel_rfl) (Ml (w.heap.size + 1 + 1)) (Turn (fun t => t = (w.heap.size + 1 + 1)) wz) (Rl (.slice (some ⟨b, off, none⟩) l.length cap) b (off + k * 3) (w.heap.size + 1 + 1) x k y) (Nl (w.heap.size + 1 + 1) x) (fun _ _ _ _ => True) (Bl.turn) (fun i j v w w' h1 h2 h3 _ h4 h5 => Rl.turn i j v w w' h1 h2 h3 h4 h5) (fun i j w w' h1 h2 _ h4 h5 => Nl.turn i j w w' h1 h2 h4 h5) (Turn.of_below (Below.refl _ _).drew) (fun i v w hi => ?_) (fun i hi => ?_) ⟨⟨⟨⟨⟨⟨⟨⟨True.intro, ?_⟩, ?_⟩, ?_⟩, ?_⟩, ?_⟩, ?_⟩, ?_⟩, ?_⟩ ?_
      · unfold Rl
        split
        case h_9 => trivial
        all_goals exact absurd hi (by decide)
      · unfold Nl
        split
        case h_1 => simpa using HC2.out.1
        case h_2 => exact ⟨by simpa using HC2.out.1, by simpa using HC2.out.2⟩
        all_goals trivial
      · intro o ho us wl al ha hB hN hdep hslot K hKf
        obtain rfl := Option.some.inj ho
        have e4 : al.tmps[4]?.getD undef = .pointer (some ⟨w.heap.size + 1 + 1, 0, none⟩) := by rw [← Rg.eval_getD, ha]; exact (Rg.puts_eval_ne _ _ _ (by rfl)).trans rfl
        clear ha hdep hslot
        have hc : wl.cell? ⟨w.heap.size + 1 + 1, 0, none⟩ = some (.int .i64 (x : Int)) := hN
        refine Rg.wpOp_of rfl rfl ?_
        go_simp
        exact hKf _ _ (rfl) (Turn.refl _ _) (fun _ _ _ _ _ _ => ⟨trivial, trivial⟩)
      · intro o ho us wl al ha hB hN hdep hslot K hKf
        obtain rfl := Option.some.inj ho
        have e1 : al.tmps[1]?.getD undef = .pointer (some ⟨w.heap.size, 0, none⟩) := by rw [← Rg.eval_getD, ha]; exact (Rg.puts_eval_ne _ _ _ (by rfl)).trans rfl
        clear ha hdep hslot
        have hc := hB.cell HC0.out (by show w.heap.size ≠ _; omega)
        refine Rg.wpOp_of rfl rfl ?_
        go_simp
        exact hKf _ _ (rfl) (Turn.refl _ _) (fun _ _ _ _ _ _ => ⟨trivial, trivial⟩)
      · intro o ho us wl al ha hB hN hdep hslot K hKf
        obtain rfl := Option.some.inj ho
        have e5 : al.tmps[5]?.getD undef = .int .i64 (k : Int) := by rw [← Rg.eval_getD, ha]; exact (Rg.puts_eval_ne _ _ _ (by rfl)).trans rfl
        clear ha hdep hslot
        refine Rg.wpOp_of rfl rfl ?_
        go_simp
        exact hKf _ _ (rfl) (Turn.refl _ _) (fun _ _ _ _ _ _ => ⟨trivial, trivial⟩)
      · intro o ho us wl al ha hB hN hdep hslot K hKf
        obtain rfl := Option.some.inj ho
        have d1 : (Rl (.slice (some ⟨b, off, none⟩) l.length cap) b (off + k * 3) (w.heap.size + 1 + 1) x k y) 1 (us 1) wl := hdep ⟨1, .data⟩ (by simp) rfl
        have e19 : al.tmps[19]?.getD undef = us 1 := by rw [← Rg.eval_getD, ha]; exact Rg.puts_eval _ _ _ (by rfl) (by simp) (by simp)
        have d2 : (Rl (.slice (some ⟨b, off, none⟩) l.length cap) b (off + k * 3) (w.heap.size + 1 + 1) x k y) 2 (us 2) wl := hdep ⟨2, .data⟩ (by simp) rfl
        have e20 : al.tmps[20]?.getD undef = us 2 := by rw [← Rg.eval_getD, ha]; exact Rg.puts_eval _ _ _ (by rfl) (by simp) (by simp)
        clear ha hdep hslot
        have f1 : us 1 = .slice (some ⟨b, off, none⟩) l.length cap := d1
        clear d1
        have f2 : us 2 = .int .i64 (k : Int) := d2
        clear d2
        have hkn : (k : Int) < (l.length : Int) := by omega
        refine Rg.wpOp_of rfl rfl ?_
        go_simp
        exact hKf _ _ (rfl) (Turn.refl _ _) (fun _ _ _ _ _ _ => ⟨trivial, trivial⟩)
      · intro o ho us wl al ha hB hN hdep hslot K hKf
        obtain rfl := Option.some.inj ho
        have d3 : (Rl (.slice (some ⟨b, off, none⟩) l.length cap) b (off + k * 3) (w.heap.size + 1 + 1) x k y) 3 (us 3) wl := hdep ⟨3, .data⟩ (by simp) rfl
        have e21 : al.tmps[21]?.getD undef = us 3 := by rw [← Rg.eval_getD, ha]; exact Rg.puts_eval _ _ _ (by rfl) (by simp) (by simp)
        clear ha hdep hslot
        have f3 : us 3 = .pointer (some ⟨b, off + k * 3, none⟩) := d3
        clear d3
        obtain ⟨q1, q2, q3⟩ := HCY.out wl hB
        refine Rg.wpOp_of rfl rfl ?_
        go_simp
        exact hKf _ _ (rfl) (Turn.refl _ _) (fun _ _ _ _ _ _ => ⟨trivial, trivial⟩)
      · intro o ho us wl al ha hB hN hdep hslot K hKf
        obtain rfl := Option.some.inj ho
        have d4 : (Rl (.slice (some ⟨b, off, none⟩) l.length cap) b (off + k * 3) (w.heap.size + 1 + 1) x k y) 4 (us 4) wl := hdep ⟨4, .data⟩ (by simp) rfl
        have e22 : al.tmps[22]?.getD undef = us 4 := by rw [← Rg.eval_getD, ha]; exact Rg.puts_eval _ _ _ (by rfl) (by simp) (by simp)
        clear ha hdep hslot
        have f4 : us 4 = .agg #[.int .i64 y.k, .string y.n, .int .i64 y.s] := d4
        clear d4
        refine Rg.wpOp_of rfl rfl ?_
        go_simp
        refine (leafP_any _ _).mono ?_
        rintro e w' ⟨rfl, hb⟩
        exact hKf _ _ rfl (Turn.of_below hb) (fun _ _ _ _ _ _ => ⟨trivial, trivial⟩)
      · intro o ho us wl al ha hB hN hdep hslot K hKf
        obtain rfl := Option.some.inj ho
        have d0 : (Rl (.slice (some ⟨b, off, none⟩) l.length cap) b (off + k * 3) (w.heap.size + 1 + 1) x k y) 0 (us 0) wl := hdep ⟨0, .data⟩ (by simp) rfl
        have e18 : al.tmps[18]?.getD undef = us 0 := by rw [← Rg.eval_getD, ha]; exact Rg.puts_eval _ _ _ (by rfl) (by simp) (by simp)
        have d5 : (Rl (.slice (some ⟨b, off, none⟩) l.length cap) b (off + k * 3) (w.heap.size + 1 + 1) x k y) 5 (us 5) wl := hdep ⟨5, .data⟩ (by simp) rfl
        have e23 : al.tmps[23]?.getD undef = us 5 := by rw [← Rg.eval_getD, ha]; exact Rg.puts_eval _ _ _ (by rfl) (by simp) (by simp)
        clear ha hdep hslot
        have f0 : us 0 = .int .i64 (x : Int) := d0
        clear d0
        have f5 : us 5 = .int .i64 (lf y : Nat) := d5
        clear d5
        refine Rg.wpOp_of rfl rfl ?_
        go_simp
        exact hKf _ _ (congrArg (Value.int .i64) (by rw [IntKind.wrap_i64]; omega)) (Turn.refl _ _) (fun _ _ _ _ _ _ => ⟨trivial, trivial⟩)
      · intro o ho us wl al ha hB hN hdep hslot K hKf
        obtain rfl := Option.some.inj ho
        have d6 : (Rl (.slice (some ⟨b, off, none⟩) l.length cap) b (off + k * 3) (w.heap.size + 1 + 1) x k y) 6 (us 6) wl := hdep ⟨6, .data⟩ (by simp) rfl
        have e24 : al.tmps[24]?.getD undef = us 6 := by rw [← Rg.eval_getD, ha]; exact Rg.puts_eval _ _ _ (by rfl) (by simp) (by simp)
        have e4 : al.tmps[4]?.getD undef = .pointer (some ⟨w.heap.size + 1 + 1, 0, none⟩) := by rw [← Rg.eval_getD, ha]; exact (Rg.puts_eval_ne _ _ _ (by rfl)).trans rfl
        clear ha hdep hslot
        have f6 : us 6 = .int .i64 ((x + lf y : Nat) : Int) := d6
        clear d6
        obtain ⟨hc, hf⟩ : wl.cell? ⟨w.heap.size + 1 + 1, 0, none⟩ = some (.int .i64 (x : Int)) ∧ wl.frozen? ⟨w.heap.size + 1 + 1, 0, none⟩ = false := hN
        refine Rg.wpOp_of rfl rfl ?_
        go_simp
        exact hKf undef _ (⟨World.cell?_setCell_same' _ _ _ (by rw [hc]; rfl), by rw [World.frozen?_setCell]; exact hf⟩) (Turn.setCell ⟨rfl, rfl⟩) (fun _ _ _ _ _ _ => ⟨trivial, trivial⟩)
      · intro us2 wz2 hBz2 hRz2 hPz2
        obtain ⟨hx7, hf7⟩ : wz2.cell? ⟨w.heap.size + 1 + 1, 0, none⟩ = some (.int .i64 ((x + lf y : Nat) : Int)) ∧ wz2.frozen? ⟨w.heap.size + 1 + 1, 0, none⟩ = false := hRz2 7
        have ht7 : Turn (fun t => t = w.heap.size + 1 + 1) wz wz2 := hBz2
        have hka := HKZ.out.size
        refine ⟨HKZ.out.trans ⟨ht7.size, fun t h => ht7.block t ?_ ?_⟩, vq, ?_⟩
        · rcases h with h | h
          · have := HT4.out t h; omega
          · have := HAZ.out; omega
        · rcases h with h | h
          · have := HT4.out t h; omega
          · omega
        · refine ⟨ht7.cell HC0.out (by show w.heap.size ≠ _; omega), ht7.cell HC1.out.1 (by show w.heap.size + 1 ≠ _; omega), (turn_frozen ht7 HC1.out.1 (by show w.heap.size + 1 ≠ _; omega)).trans HC1.out.2, by rw [HXL.out]; exact hx7, hf7, ?_, HQT.out, HBZ.out.trans (ht7.below HBZ.out.size fun t h => by omega), Nat.le_trans HAZ.out ht7.size⟩
          rw [HKS.out]
          exact HGZ.out.1.turn ht7 fun g hg h => by have := HGZ.out.1.ge g hg; omega
  case done =>
    rintro T W ⟨vp, hp⟩ hTD hT hD
    have hcp := hp.cp
    have hn4 : vp.ownBlock ≠ some wl.heap.size := fun h => hp.apart _ h hTD
    have hform : ∃ b c, vp = .slice b (ptsN l (rounds l)).length c := by
      obtain ⟨_, b, c, e, -⟩ := hp.own.cxs
      exact ⟨b, c, e⟩
    obtain ⟨vb, vc, rfl⟩ := hform
    have hown : OwC (w.heap.size + 4) (W.putObj wl.heap.size (.deferred none)) (.slice vb (ptsN l (rounds l)).length vc) (ptsN l (rounds l)) := hp.own.turn (M := fun t => t = wl.heap.size) (putObj_turn rfl) (fun g hg e => hn4 (by rw [hg, e]))
    have hbel : Below w.heap.size w (W.putObj wl.heap.size (.deferred none)) := hp.bel.trans ((putObj_turn (T := fun t => t = wl.heap.size) rfl).below hp.bel.size (fun t h => by omega))
    have HO := Lib.hid hown
    have HB := Lib.hid hbel
    have HD := Lib.hid hD
    clear hown hbel hp hn4 hT hTD hD
    go_wp2_with fail
    refine leaves_mark HD.out (results_tmp (t := 2) rfl _ _ _) ⟨_, rfl, ?_, HB.out⟩
    exact HO.out.cxs
  case stop =>
    rintro T c k W _ h _ _ _
    exact h.elim
end Go.Proofs.Ytlipkhmidgogdaa.Pl
