/- The program's Box. The document's X, Over and Point of layer 9. The program's At: slices.Index over points. -/
import Derived.Test.YtlipkhmidgogdaaQ07
import Derived.Test.YtlipkhmidgogdaaQ08
import Derived.Test.YtlipkhmidgogdaaQ06
import Derived.Test.YtlipkhmidgogdaaQ04
import Derived.Test.YtlipkhmidgogdaaQ09

namespace Go.Proofs.Ytlipkhmidgogdaa.Pl
open Go Go.RowKit Go.Proofs.Ytlipkhmidgogdaa.Rw Go.Proofs.Ytlipkhmidgogdaa.So Go.Proofs.Ytlipkhmidgogdaa.Ro
set_option maxRecDepth 20000
attribute [local go_sem] Oper.semAt_some

/-- The box of a tree. -/
def bxs (l : List Nd) : Nat × Nat := if one l = true then (xl l l.length, Rw.depth l) else (0, 0)
/-- Between two rounds of Box: the row in block bl, the leaves in block bx. -/
structure Bst (w : World) (v : Value) (l : List Nd) (bl bx q : Nat) (k : Nat) (W : World) : Prop where
  cl : W.cell? ⟨bl, 0, none⟩ = some v
  cx : W.cell? ⟨bx, 0, none⟩ = some (.int .i64 (xl l k : Int))
  fx : W.frozen? ⟨bx, 0, none⟩ = false
  bel : Below w.heap.size w W
  size : q ≤ W.heap.size
theorem Bst.turn {w : World} {v : Value} {l : List Nd} {T : Nat → Prop} {bl bx q k : Nat} {A B : World} (h : Bst w v l bl bx q k A) (hl : bl < q) (hx : bx < q) (hw : w.heap.size ≤ q) (hT : ∀ t, T t → q ≤ t ∧ t < A.heap.size) (ht : Turn T A B) : Bst w v l bl bx q k B := by
  have n0 : ∀ t, t < q → ¬ T t := fun t h1 h2 => by have := hT t h2; omega
  exact ⟨ht.cell h.cl (n0 _ hl), ht.cell h.cx (n0 _ hx), (turn_frozen ht h.cx (n0 _ hx)).trans h.fx, h.bel.trans (ht.below h.bel.size fun t h' => by have := hT t h'; omega), Nat.le_trans h.size ht.size⟩

/-- The last region: what each operation yields. -/
def Rb (v : Value) (x d : Nat) (i : Nat) (u : Value) (_ : World) : Prop := match i with
  | 0 => u = .int .i64 (x : Int)
  | 1 => u = v
  | 2 => u = .int .i64 (d : Int)
  | 3 => u = .complex .f64 (fo x) (fo d)
  | 4 => u = .complex .f64 (fo x) (fo d)
  | _ => True
def tabB : List (List Nat) := [[], [], [1], [0, 1, 2], [0, 1, 2, 3]]

set_option maxHeartbeats 400000 in
theorem boxP_any (v : Value) (l : List Nd) (w : World) (hv : Nds w v l) (hl : l.length ≤ 4398046511104) :
    Calls Try.prog 13 #[v] w fun e w' => e = .returned (cx (bxs l)) ∧ Below w.heap.size w w' := by
  have HN := Lib.hid hv
  obtain ⟨_, a, cap, rfl, -⟩ := hv
  obtain ⟨z, hz⟩ : ∃ z, w.heap.size = z := ⟨_, rfl⟩
  have b0 := cell_new_l w (.slice a l.length cap) 22
  have hbl0 := below1 w (.cells #[.slice a l.length cap] 22)
  refine calls_of_marks Try.func13 rfl ?_
  simp only [Try.ntmps13, List.size_toArray, List.length_cons, List.length_nil, Nat.reduceAdd, Nat.reduceSub, Array.replicate_succ, Array.replicate_zero, List.push_toArray, List.append_toArray, List.nil_append, List.cons_append]
  cases h1 : one l with
  | false =>
    have H1 := Lib.hid h1
    have HB0 := Lib.hid hbl0
    have e0 : bxs l = (0, 0) := by unfold bxs; rw [h1]; rfl
    rw [e0]
    clear h1 hbl0 b0 e0
    go_wp2_with fail
    refine (isTreeP_any _ l _ (HN.out.below HB0.out) hl).mono ?_
    rw [H1.out]
    rintro e w' ⟨rfl, hb⟩
    have HB := Lib.hid (HB0.out.trans (hb.mono HB0.out.size))
    clear hb
    go_wp2_with fail
    refine ⟨_, results_tmp (t := 2) rfl _ _ _, ?_, HB.out⟩
    show Ending.returned (.complex .f64 0 0) = .returned (.complex .f64 (fo 0) (fo 0))
    rw [fo_zero]
  | true =>
    have H1 := Lib.hid h1
    have HB0 := Lib.hid hbl0
    have HTr := Lib.hid (one_tre.1 h1)
    have hrd : rounds l = l.length := by unfold rounds; rw [h1]; rfl
    have e0 : bxs l = (xl l l.length, Rw.depth l) := by unfold bxs; rw [h1]; rfl
    obtain ⟨xe, hxe⟩ : ∃ xe, xl l l.length = xe := ⟨_, rfl⟩
    obtain ⟨de, hde⟩ : ∃ de, Rw.depth l = de := ⟨_, rfl⟩
    rw [e0, hxe, hde]
    have HXE := Lib.hid hxe
    have HDE := Lib.hid hde
    clear h1 hbl0 e0 hxe hde
    go_wp2_with fail
    refine (isTreeP_any _ l _ (HN.out.below HB0.out) hl).mono ?_
    rw [H1.out]
    rintro e w1 ⟨rfl, hb⟩
    obtain ⟨bx, hbx⟩ : ∃ bx, w1.heap.size = bx := ⟨_, rfl⟩
    have hb1 : Below w.heap.size w w1 := HB0.out.trans (hb.mono HB0.out.size)
    have hzb : z < bx := by have := hb.size; rw [World.size_alloc] at this; omega
    have hcl : w1.cell? ⟨z, 0, none⟩ = some (.slice a l.length cap) := by
      rw [← hz, hb.cell (Ap.cell_lt b0.1)]
      exact b0.1
    have b1 := cell_new_l w1 (.int .i64 0) 3
    have b2 := cell_new_l (w1.alloc (.cells #[.int .i64 0] 3)) (.slice a l.length cap) 22
    rw [World.size_alloc] at b2
    rw [hbx] at b1 b2
    have c1 := cell_al (.cells #[.slice a l.length cap] 22) b1
    have hbz := (below1 w1 (.cells #[.int .i64 0] 3)).alloc (by simp) (.cells #[.slice a l.length cap] 22)
    have hc0 : ((w1.alloc (.cells #[.int .i64 0] 3)).alloc (.cells #[.slice a l.length cap] 22)).cell? ⟨z, 0, none⟩ = some (.slice a l.length cap) := by rw [hbz.cell (Ap.cell_lt hcl)]; exact hcl
    have hbl : Below w.heap.size w ((w1.alloc (.cells #[.int .i64 0] 3)).alloc (.cells #[.slice a l.length cap] 22)) := hb1.trans (hbz.mono hb1.size)
    have hsz : ((w1.alloc (.cells #[.int .i64 0] 3)).alloc (.cells #[.slice a l.length cap] 22)).heap.size = bx + 2 := by simp [hbx]
    have HC := Lib.hid hc0
    have HC1 := Lib.hid c1
    have HC2 := Lib.hid b2.1
    have HBL := Lib.hid hbl
    have HSZ := Lib.hid hsz
    clear hbz b0 b1 b2 c1 hbl hsz hc0 hb hb1
    go_wp2_with fail
    refine (nodes_any a l.length cap _).mono ?_
    rintro e w' ⟨rfl, rfl⟩
    try rw [show (w1.alloc (.cells #[.int .i64 0] 3)).heap.size = bx + 1 by simp [hbx]]
    obtain ⟨wl, hwl⟩ : ∃ wl, ((w1.alloc (.cells #[.int .i64 0] 3)).alloc (.cells #[.slice a l.length cap] 22)) = wl := ⟨_, rfl⟩
    have hc0 := HC.out
    have hc1 := HC1.out
    have hc2 := HC2.out
    have hbl := HBL.out
    have hsz := HSZ.out
    rw [hwl] at hc0 hc1 hc2 hbl hsz ⊢
    clear hwl HC HC1 HC2 HBL HSZ hcl
    go_wp2_with fail
    refine wp_range (gf := 38) (lb := #[.pointer (some ⟨bx + 1, 0, none⟩)]) rfl (enters_of Try.func38 (by kernel_rfl) rfl)
      (iter_any (bx + 1) _ l w wl HN.out hl hbl hc2) (by omega) (Below.refl _ _) Told.size Told.stay
      (fun T k W => Bst w (.slice a l.length cap) l z bx (bx + 2) k W) (fun _ _ _ _ => False)
      (fun T k A B h hT ht => h.turn (by omega) (by omega) (by omega) (by rw [← hsz]; exact hT) ht) (fun T k A B h hT ht _ => h.turn (by omega) (by omega) (by omega) (by rw [← hsz]; exact hT) ht) (fun _ _ _ _ _ h _ _ _ => h)
      (fun W hb _ => ⟨by rw [hb.cell (Ap.cell_lt hc0)]; exact hc0, by rw [hb.cell (Ap.cell_lt hc1.1)]; exact hc1.1, (World.frozen?_of_block (hb.block _ (Ap.cell_lt hc1.1))).trans hc1.2, hbl.trans (hb.mono hbl.size), by have := hb.size; omega⟩)
      (fun args => { tmps := #[.slice a l.length cap, .pointer (some ⟨z, 0, none⟩), .complex .f64 0 0, .pointer (some ⟨bx, 0, none⟩), args.getD 0 undef, .slice a l.length cap, .bool true, .bool false, .slice a l.length cap, .func (.func 38) #[] #[.pointer (some ⟨bx + 1, 0, none⟩)], args.getD 0 undef, args.getD 1 undef, undef, undef, undef, undef, undef, undef, undef, undef, undef, undef, undef], defers := [] }) ?assign ?body ?done ?stop
    case assign =>
      rintro l0 k args A K ⟨va, rfl, hva⟩ hK
      gi_wp2
      exact hK
    case body =>
      rintro l0 T k args A hp hT hk ⟨va, rfl, hva⟩
      have hlt := rounds_lt hk
      obtain ⟨x, hx⟩ : ∃ x, xl l k = x := ⟨_, rfl⟩
      have hT4 : ∀ t, T t → bx + 2 ≤ t ∧ t < A.heap.size := by rw [← hsz]; exact hT
      obtain ⟨b, off, rfl, hat⟩ : ∃ b off, a = some ⟨b, off, none⟩ ∧ At w b off l := by
        rcases HN.out.form with ⟨rfl, _⟩ | ⟨b, off, c, e, _, h⟩
        · exact absurd hlt (Nat.not_lt_zero k)
        · cases e; exact ⟨b, off, rfl, h⟩
      obtain ⟨e1, e2, e3⟩ := hat k hlt
      have hxl := xl_lf hlt
      obtain ⟨y, hy⟩ : ∃ y, l[k] = y := ⟨_, rfl⟩
      rw [hy] at e1 e2 e3 hxl
      rw [hx] at hxl
      have hcx := hp.cx
      rw [hx] at hcx
      have HCX : Hid (A.cell? ⟨bx, 0, none⟩ = some (.int .i64 (x : Int)) ∧ A.frozen? ⟨bx, 0, none⟩ = false) := Lib.hid ⟨hcx, hp.fx⟩
      have HCY : Hid (∀ wx, Turn (fun t => t = bx) A wx → wx.cell? ⟨b, off + k * 3, none⟩ = some (.int .i64 y.k) ∧ wx.cell? ⟨b, off + k * 3 + 1, none⟩ = some (.string y.n) ∧ wx.cell? ⟨b, off + k * 3 + 2, none⟩ = some (.int .i64 y.s)) := Lib.hid fun wx ht => by
        have hlb : b < w.heap.size := Ap.cell_lt e1
        have hbx := hp.bel.trans (ht.below hp.bel.size fun t h => by omega)
        exact ⟨by rw [hbx.cell hlb]; exact e1, by rw [hbx.cell hlb]; exact e2, by rw [hbx.cell hlb]; exact e3⟩
      have hxb : x + lf y ≤ 4398046511104 := by
        rw [← hxl]
        exact Nat.le_trans (Nat.le_trans List.countP_le_length (by rw [List.length_take]; exact Nat.min_le_right _ _)) hl
      have HXL := Lib.hid hxl
      have HP := Lib.hid hp
      have HT4 := Lib.hid hT4
      clear e1 e2 e3 hxl hat hy hcx hp
      refine wpIn_block ?_
      refine Rq.wpIn_region_steps (by kernel_rfl) (by kernel_rfl) (fun _ _ h => h) [(0, some 12), (1, some 13), (2, some 14), (3, some 15), (4, some 16), (5, some 17), (6, some 18), (7, none)] (by rfl) (by kernel_rfl) (by kernel_rfl) tabL (by kernel_rfl) (by kernel_rfl) (Ml bx) (Turn (fun t => t = bx) A) (Rl (.slice (some ⟨b, off, none⟩) l.length cap) b (off + k * 3) bx x k y) (Nl bx x) (fun _ _ _ _ => True) (Bl.turn) (fun i j v w w' h1 h2 h3 _ h4 h5 => Rl.turn i j v w w' h1 h2 h3 h4 h5) (fun i j w w' h1 h2 _ h4 h5 => Nl.turn i j w w' h1 h2 h4 h5) (Turn.of_below (Below.refl _ _).drew) (fun i v w hi => ?_) (fun i hi => ?_) ⟨⟨⟨⟨⟨⟨⟨⟨True.intro, ?_⟩, ?_⟩, ?_⟩, ?_⟩, ?_⟩, ?_⟩, ?_⟩, ?_⟩ ?_
      · unfold Rl
        split
        case h_9 => trivial
        all_goals exact absurd hi (by decide)
      · unfold Nl
        split
        case h_1 => simpa using HCX.out.1
        case h_2 => exact ⟨by simpa using HCX.out.1, by simpa using HCX.out.2⟩
        all_goals trivial
      · intro o ho us wl al ha hB hN hdep hslot K hKf
        obtain rfl := Option.some.inj ho
        have e3 : al.tmps[3]?.getD undef = .pointer (some ⟨bx, 0, none⟩) := by rw [← Rg.eval_getD, ha]; exact (Rg.puts_eval_ne _ _ _ (by rfl)).trans rfl
        clear ha hdep hslot
        have hc : wl.cell? ⟨bx, 0, none⟩ = some (.int .i64 (x : Int)) := hN
        refine Rg.wpOp_of rfl rfl ?_
        go_simp
        exact hKf _ _ (rfl) (Turn.refl _ _) (fun _ _ _ _ _ _ => ⟨trivial, trivial⟩)
      · intro o ho us wl al ha hB hN hdep hslot K hKf
        obtain rfl := Option.some.inj ho
        have e1 : al.tmps[1]?.getD undef = .pointer (some ⟨z, 0, none⟩) := by rw [← Rg.eval_getD, ha]; exact (Rg.puts_eval_ne _ _ _ (by rfl)).trans rfl
        clear ha hdep hslot
        have hc := hB.cell HP.out.cl (by show z ≠ _; omega)
        refine Rg.wpOp_of rfl rfl ?_
        go_simp
        exact hKf _ _ (rfl) (Turn.refl _ _) (fun _ _ _ _ _ _ => ⟨trivial, trivial⟩)
      · intro o ho us wl al ha hB hN hdep hslot K hKf
        obtain rfl := Option.some.inj ho
        have e4 : al.tmps[4]?.getD undef = .int .i64 (k : Int) := by rw [← Rg.eval_getD, ha]; exact (Rg.puts_eval_ne _ _ _ (by rfl)).trans rfl
        clear ha hdep hslot
        refine Rg.wpOp_of rfl rfl ?_
        go_simp
        exact hKf _ _ (rfl) (Turn.refl _ _) (fun _ _ _ _ _ _ => ⟨trivial, trivial⟩)
      · intro o ho us wl al ha hB hN hdep hslot K hKf
        obtain rfl := Option.some.inj ho
        have d1 : (Rl (.slice (some ⟨b, off, none⟩) l.length cap) b (off + k * 3) bx x k y) 1 (us 1) wl := hdep ⟨1, .data⟩ (by simp) rfl
        have e13 : al.tmps[13]?.getD undef = us 1 := by rw [← Rg.eval_getD, ha]; exact Rg.puts_eval _ _ _ (by rfl) (by simp) (by simp)
        have d2 : (Rl (.slice (some ⟨b, off, none⟩) l.length cap) b (off + k * 3) bx x k y) 2 (us 2) wl := hdep ⟨2, .data⟩ (by simp) rfl
        have e14 : al.tmps[14]?.getD undef = us 2 := by rw [← Rg.eval_getD, ha]; exact Rg.puts_eval _ _ _ (by rfl) (by simp) (by simp)
        clear ha hdep hslot
        have f1 : us 1 = .slice (some ⟨b, off, none⟩) l.length cap := d1
        clear d1
        have f2 : us 2 = .int .i64 (k : Int) := d2
        clear d2
        have hkn : (k : Int) < (l.length : Int) := by omega
        refine Rg.wpOp_of rfl rfl ?_
        go_simp
        exact hKf _ _ (rfl) (Turn.refl _ _) (fun _ _ _ _ _ _ => ⟨trivial, trivial⟩)
      · intro o ho us wl al ha hB hN hdep hslot K hKf
        obtain rfl := Option.some.inj ho
        have d3 : (Rl (.slice (some ⟨b, off, none⟩) l.length cap) b (off + k * 3) bx x k y) 3 (us 3) wl := hdep ⟨3, .data⟩ (by simp) rfl
        have e15 : al.tmps[15]?.getD undef = us 3 := by rw [← Rg.eval_getD, ha]; exact Rg.puts_eval _ _ _ (by rfl) (by simp) (by simp)
        clear ha hdep hslot
        have f3 : us 3 = .pointer (some ⟨b, off + k * 3, none⟩) := d3
        clear d3
        obtain ⟨q1, q2, q3⟩ := HCY.out wl hB
        refine Rg.wpOp_of rfl rfl ?_
        go_simp
        exact hKf _ _ (rfl) (Turn.refl _ _) (fun _ _ _ _ _ _ => ⟨trivial, trivial⟩)
      · intro o ho us wl al ha hB hN hdep hslot K hKf
        obtain rfl := Option.some.inj ho
        have d4 : (Rl (.slice (some ⟨b, off, none⟩) l.length cap) b (off + k * 3) bx x k y) 4 (us 4) wl := hdep ⟨4, .data⟩ (by simp) rfl
        have e16 : al.tmps[16]?.getD undef = us 4 := by rw [← Rg.eval_getD, ha]; exact Rg.puts_eval _ _ _ (by rfl) (by simp) (by simp)
        clear ha hdep hslot
        have f4 : us 4 = .agg #[.int .i64 y.k, .string y.n, .int .i64 y.s] := d4
        clear d4
        refine Rg.wpOp_of rfl rfl ?_
        go_simp
        refine (leafP_any _ _).mono ?_
        rintro e w' ⟨rfl, hb⟩
        exact hKf _ _ rfl (Turn.of_below hb) (fun _ _ _ _ _ _ => ⟨trivial, trivial⟩)
      · intro o ho us wl al ha hB hN hdep hslot K hKf
        obtain rfl := Option.some.inj ho
        have d0 : (Rl (.slice (some ⟨b, off, none⟩) l.length cap) b (off + k * 3) bx x k y) 0 (us 0) wl := hdep ⟨0, .data⟩ (by simp) rfl
        have e12 : al.tmps[12]?.getD undef = us 0 := by rw [← Rg.eval_getD, ha]; exact Rg.puts_eval _ _ _ (by rfl) (by simp) (by simp)
        have d5 : (Rl (.slice (some ⟨b, off, none⟩) l.length cap) b (off + k * 3) bx x k y) 5 (us 5) wl := hdep ⟨5, .data⟩ (by simp) rfl
        have e17 : al.tmps[17]?.getD undef = us 5 := by rw [← Rg.eval_getD, ha]; exact Rg.puts_eval _ _ _ (by rfl) (by simp) (by simp)
        clear ha hdep hslot
        have f0 : us 0 = .int .i64 (x : Int) := d0
        clear d0
        have f5 : us 5 = .int .i64 (lf y : Nat) := d5
        clear d5
        refine Rg.wpOp_of rfl rfl ?_
        go_simp
        exact hKf _ _ (congrArg (Value.int .i64) (by rw [IntKind.wrap_i64]; omega)) (Turn.refl _ _) (fun _ _ _ _ _ _ => ⟨trivial, trivial⟩)
      · intro o ho us wl al ha hB hN hdep hslot K hKf
        obtain rfl := Option.some.inj ho
        have d6 : (Rl (.slice (some ⟨b, off, none⟩) l.length cap) b (off + k * 3) bx x k y) 6 (us 6) wl := hdep ⟨6, .data⟩ (by simp) rfl
        have e18 : al.tmps[18]?.getD undef = us 6 := by rw [← Rg.eval_getD, ha]; exact Rg.puts_eval _ _ _ (by rfl) (by simp) (by simp)
        have e3 : al.tmps[3]?.getD undef = .pointer (some ⟨bx, 0, none⟩) := by rw [← Rg.eval_getD, ha]; exact (Rg.puts_eval_ne _ _ _ (by rfl)).trans rfl
        clear ha hdep hslot
        have f6 : us 6 = .int .i64 ((x + lf y : Nat) : Int) := d6
        clear d6
        obtain ⟨hc, hf⟩ : wl.cell? ⟨bx, 0, none⟩ = some (.int .i64 (x : Int)) ∧ wl.frozen? ⟨bx, 0, none⟩ = false := hN
        refine Rg.wpOp_of rfl rfl ?_
        go_simp
        exact hKf undef _ (⟨World.cell?_setCell_same' _ _ _ (by rw [hc]; rfl), by rw [World.frozen?_setCell]; exact hf⟩) (Turn.setCell ⟨rfl, rfl⟩) (fun _ _ _ _ _ _ => ⟨trivial, trivial⟩)
      · intro us wz hBz hRz hPz
        obtain ⟨hx7, hf7⟩ : wz.cell? ⟨bx, 0, none⟩ = some (.int .i64 ((x + lf y : Nat) : Int)) ∧ wz.frozen? ⟨bx, 0, none⟩ = false := hRz 7
        have ht7 : Turn (fun t => t = bx) A wz := hBz
        have hsA := HP.out.size
        refine ⟨⟨ht7.size, fun t h => ht7.block t ?_ ?_⟩, ?_⟩
        · rcases h with h | h
          · exact (HT4.out t h).2
          · omega
        · rcases h with h | h
          · have := HT4.out t h; omega
          · omega
        · exact ⟨ht7.cell HP.out.cl (by show z ≠ _; omega), by rw [HXL.out]; exact hx7, hf7, HP.out.bel.trans (ht7.below HP.out.bel.size fun t h => by omega), Nat.le_trans HP.out.size ht7.size⟩
    case done =>
      rintro T W hp hTD hT hD
      rw [hrd] at hp
      have HP := Lib.hid hp
      have hpx := hp.cx
      rw [HXE.out] at hpx
      have HPX := Lib.hid hpx
      have HD := Lib.hid hD
      clear hpx hp hT hTD hD
      go_upto_region 7 with fail
      refine Rq.wp_region_steps (by kernel_rfl) [(0, some 19), (1, some 20), (2, some 21), (3, some 22), (4, some 2)] (by rfl) (by kernel_rfl) (by kernel_rfl) tabB (by kernel_rfl) (by kernel_rfl) (fun _ _ => False) (Below W.heap.size W) (Rb (.slice a l.length cap) xe de) (fun _ _ => True) (fun _ _ _ _ => True) (fun i w w' h ht => h.trans ((ht.below (Nat.le_refl _) fun _ h => h.elim).mono h.size)) (fun _ _ _ _ _ _ _ _ _ h _ => h) (fun _ _ _ _ _ _ _ _ _ => trivial) ((Below.refl _ _).drew) (fun i v w hi => ?_) (fun i hi => trivial) ⟨⟨⟨⟨⟨True.intro, ?_⟩, ?_⟩, ?_⟩, ?_⟩, ?_⟩ ?_
      · unfold Rb
        split
        case h_6 => trivial
        all_goals exact absurd hi (by decide)
      · intro o ho us wl al ha hB hN hdep hslot K hKf
        obtain rfl := Option.some.inj ho
        have e3 : al.tmps[3]?.getD undef = .pointer (some ⟨bx, 0, none⟩) := by rw [← Rg.eval_getD, ha]; exact (Rg.puts_eval_ne _ _ _ (by rfl)).trans rfl
        clear ha hdep hslot
        have hc : wl.cell? ⟨bx, 0, none⟩ = some (.int .i64 (xe : Int)) := by rw [hB.cell (Ap.cell_lt HPX.out)]; exact HPX.out
        refine Rg.wpOp_of rfl rfl ?_
        go_simp
        exact hKf _ _ (rfl) (Turn.refl _ _) (fun _ _ _ _ _ _ => ⟨trivial, trivial⟩)
      · intro o ho us wl al ha hB hN hdep hslot K hKf
        obtain rfl := Option.some.inj ho
        have e1 : al.tmps[1]?.getD undef = .pointer (some ⟨z, 0, none⟩) := by rw [← Rg.eval_getD, ha]; exact (Rg.puts_eval_ne _ _ _ (by rfl)).trans rfl
        clear ha hdep hslot
        have hc := (hB.cell (Ap.cell_lt HP.out.cl)).trans HP.out.cl
        refine Rg.wpOp_of rfl rfl ?_
        go_simp
        exact hKf _ _ (rfl) (Turn.refl _ _) (fun _ _ _ _ _ _ => ⟨trivial, trivial⟩)
      · intro o ho us wl al ha hB hN hdep hslot K hKf
        obtain rfl := Option.some.inj ho
        have d1 : (Rb (.slice a l.length cap) xe de) 1 (us 1) wl := hdep ⟨1, .data⟩ (by simp) rfl
        have e20 : al.tmps[20]?.getD undef = us 1 := by rw [← Rg.eval_getD, ha]; exact Rg.puts_eval _ _ _ (by rfl) (by simp) (by simp)
        clear ha hdep hslot
        have f1 : us 1 = .slice a l.length cap := d1
        clear d1
        refine Rg.wpOp_of rfl rfl ?_
        go_simp
        refine (Rx.depthP_big _ l _ (HN.out.below (HP.out.bel.trans (hB.mono HP.out.bel.size))) hl).mono ?_
        rw [HDE.out]
        rintro e w' ⟨rfl, hb⟩
        exact hKf _ _ rfl (Turn.of_below hb) (fun _ _ _ _ _ _ => ⟨trivial, trivial⟩)
      · intro o ho us wl al ha hB hN hdep hslot K hKf
        obtain rfl := Option.some.inj ho
        have d0 : (Rb (.slice a l.length cap) xe de) 0 (us 0) wl := hdep ⟨0, .data⟩ (by simp) rfl
        have e19 : al.tmps[19]?.getD undef = us 0 := by rw [← Rg.eval_getD, ha]; exact Rg.puts_eval _ _ _ (by rfl) (by simp) (by simp)
        have d2 : (Rb (.slice a l.length cap) xe de) 2 (us 2) wl := hdep ⟨2, .data⟩ (by simp) rfl
        have e21 : al.tmps[21]?.getD undef = us 2 := by rw [← Rg.eval_getD, ha]; exact Rg.puts_eval _ _ _ (by rfl) (by simp) (by simp)
        clear ha hdep hslot
        have f0 : us 0 = .int .i64 (xe : Int) := d0
        clear d0
        have f2 : us 2 = .int .i64 (de : Int) := d2
        clear d2
        refine Rg.wpOp_of rfl rfl ?_
        go_simp
        refine (pointP_any _ _ _).mono ?_
        rintro e w' ⟨rfl, rfl⟩
        exact hKf _ _ rfl (Turn.refl _ _) (fun _ _ _ _ _ _ => ⟨trivial, trivial⟩)
      · intro o ho us wl al ha hB hN hdep hslot K hKf
        obtain rfl := Option.some.inj ho
        have d3 : (Rb (.slice a l.length cap) xe de) 3 (us 3) wl := hdep ⟨3, .data⟩ (by simp) rfl
        have e22 : al.tmps[22]?.getD undef = us 3 := by rw [← Rg.eval_getD, ha]; exact Rg.puts_eval _ _ _ (by rfl) (by simp) (by simp)
        clear ha hdep hslot
        have f3 : us 3 = .complex .f64 (fo xe) (fo de) := d3
        clear d3
        refine Rg.wpOp_of rfl rfl ?_
        go_simp
        exact hKf _ _ (rfl) (Turn.refl _ _) (fun _ _ _ _ _ _ => ⟨trivial, trivial⟩)
      · intro us wz hBz hRz hPz
        have hu : us 4 = .complex .f64 (fo xe) (fo de) := hRz 4
        have hbW : Below W.heap.size W wz := hBz
        have HDW : Hid (wz.heap[wl.heap.size]? = some (.deferred (some []))) := Lib.hid ((hbW.block _ (Array.getElem?_eq_some_iff.1 HD.out).1).trans HD.out)
        have HBW : Hid (Below w.heap.size w (wz.putObj wl.heap.size (.deferred none))) := by
          have h1 := HP.out.bel.trans (hbW.mono HP.out.bel.size)
          exact Lib.hid (h1.trans ((putObj_turn (T := fun t => t = wl.heap.size) rfl).below h1.size fun t h => by omega))
        simp only [Rg.puts, Act.put, List.setIfInBounds_toArray, List.set_cons_zero, List.set_cons_succ]
        rw [hu]
        clear hRz hPz hBz hbW hu
        go_wp2_with fail
        exact leaves_mark HDW.out (results_tmp (t := 2) rfl _ _ _) ⟨rfl, HBW.out⟩
    case stop =>
      rintro T c k W _ h _ _ _
      exact h.elim
end Go.Proofs.Ytlipkhmidgogdaa.Pl

namespace Go.Proofs.Ytlipkhmidgogdaa.Pl
open Go Go.RowKit Go.Proofs.Ytlipkhmidgogdaa.Rw Go.Proofs.Ytlipkhmidgogdaa.So
set_option maxRecDepth 20000

set_option maxHeartbeats 1000000 in
theorem xR_zero (a : Option Addr) (n cap : Nat) (w : World) : Calls Try.prog 32 #[.slice a n cap, .int .i64 0] w fun e w' => e = .returned (.int .i64 0) ∧ w = w' := by
  go_enter Try.func32, Try.ntmps32
  go_wp2_with fail
  refine Go.wp_loop_rounds 1 ?_
  rw [rounds_succ]
  go_wp2_with fail
  go_ret
  exact ⟨rfl, rfl⟩
set_option maxHeartbeats 1000000 in
theorem xR_cells (b off cap : Nat) (l : List Nd) (k : Nat) (w : World) (hat : At w b off l) (hl : l.length ≤ 1000000) (hk : k ≤ l.length) :
    Calls Try.prog 32 #[.slice (some ⟨b, off, none⟩) l.length cap, .int .i64 (k : Nat)] w fun e w' => e = .returned (.int .i64 (xl l k : Nat)) ∧ w = w' := by
  have HA := Lib.hid hat
  clear hat
  go_enter Try.func32, Try.ntmps32
  go_wp2_with fail
  go_loopw [5, 6] (fun nv jv wr => w = wr ∧ ∃ j n : Nat, j ≤ k ∧ n ≤ j ∧ nv = .int .i64 n ∧ jv = .int .i64 j ∧ Hid (xl l j = n)) (fun _ jv _ => k - (intOf jv).toNat)
  case atStart => exact ⟨rfl, 0, 0, Nat.zero_le _, Nat.le_refl _, rfl, rfl, Lib.hid rfl⟩
  case round =>
    obtain ⟨rfl, j, n, hj, hn, rfl, rfl, HX⟩ := hrel
    by_cases hlt : j < k
    · have hjl : j < l.length := by omega
      obtain ⟨c1, c2, c3⟩ := HA.out j hjl
      have HS := Lib.hid (xl_succ hjl)
      obtain ⟨x, hx⟩ : ∃ x, l[j] = x := ⟨_, rfl⟩
      rw [hx] at c1 c2 c3 HS
      clear hx
      obtain ⟨a, ha⟩ : ∃ a, ar x.k = a := ⟨_, rfl⟩
      rw [ha] at HS
      have HAR := Lib.hid ha
      clear ha
      by_cases h0 : a = 0
      · have HS' : Hid (xl l (j + 1) = n + 1) := by
          show _ = _
          rw [HS.out, HX.out, if_pos h0]
        subst h0
        go_wp2_with fail
        refine (arR_any _ _).mono ?_
        rw [HAR.out]
        rintro e w' ⟨rfl, rfl⟩
        go_wp2_with fail
        go_roundw
        case rel => exact ⟨trivial, j + 1, n + 1, by omega, by omega, by go_num, by go_num, HS'⟩
        case measure => simp [intOf]; omega
      · have HS' : Hid (xl l (j + 1) = n) := by
          show _ = _
          rw [HS.out, HX.out, if_neg h0]
          rfl
        have g0 : (a == 0) = false := by rw [beq_eq_false_iff_ne]; exact h0
        clear h0
        go_wp2_with fail
        refine (arR_any _ _).mono ?_
        rw [HAR.out]
        rintro e w' ⟨rfl, rfl⟩
        go_wp2_with fail
        go_roundw
        case rel => exact ⟨trivial, j + 1, n, by omega, by omega, rfl, by go_num, HS'⟩
        case measure => simp [intOf]; omega
    · have HZ : Hid (xl l k = n) := by
        show _ = _
        rw [show k = j by omega]
        exact HX.out
      go_wp2_with fail
      go_ret
      rw [HZ.out]
      exact ⟨rfl, rfl⟩
theorem xR_any (v : Value) (l : List Nd) (k : Nat) (w : World) (hv : Nds w v l) (hl : l.length ≤ 1000000) (hk : k ≤ l.length) :
    Calls Try.prog 32 #[v, .int .i64 (k : Nat)] w fun e w' => e = .returned (.int .i64 (xl l k : Nat)) ∧ w = w' := by
  rcases hv.form with ⟨rfl, a, cap, rfl⟩ | ⟨b, off, cap, rfl, _, hat⟩
  · obtain rfl : k = 0 := by simpa using hk
    exact xR_zero a _ cap w
  · exact xR_cells b off cap l k w hat hl hk

/-- Those of the first j that are above node k. -/
def ovk (l : List Nd) (k j : Nat) : List Nat := (List.range j).filter fun i => decide (k < i + zz l i)
theorem ovk_yes {l : List Nd} {k j : Nat} (h : k < j + zz l j) : ovk l k (j + 1) = ovk l k j ++ [j] := by
  unfold ovk
  rw [List.range_succ, List.filter_append]
  congr 1
  simp [h]
theorem ovk_no {l : List Nd} {k j : Nat} (h : ¬ k < j + zz l j) : ovk l k (j + 1) = ovk l k j := by
  unfold ovk
  rw [List.range_succ, List.filter_append]
  simp
  omega
theorem ovI_in {l : List Nd} {k : Int} (h1 : one l = true) (h2 : 0 ≤ k) (h3 : k < l.length) : ovI l k = ovk l k.toNat k.toNat := by
  unfold ovI rounds
  rw [h1, if_pos rfl, if_pos ⟨h2, h3⟩]
  rfl
theorem ovI_one {l : List Nd} {k : Int} (h1 : one l = false) : ovI l k = [] := by
  unfold ovI rounds
  rw [h1, if_neg]
  simp
theorem ovI_out {l : List Nd} {k : Int} (h : k < 0 ∨ l.length ≤ k) : ovI l k = [] := by
  unfold ovI
  have := rounds_le l
  rw [if_neg]
  omega

set_option maxHeartbeats 1000000 in
theorem overR_empty (a : Option Addr) (cap : Nat) (k : Int) (w : World) : Calls Try.prog 20 #[.slice a 0 cap, .int .i64 k] w fun e w' => ∃ y, e = .returned y ∧ Rf.Plc w' y (ovI [] k) ∧ Below w.heap.size w w' := by
  have HE : Hid (ovI [] k = []) := Lib.hid (ovI_one rfl)
  rw [HE.out]
  go_enter Try.func20, Try.ntmps20
  go_wp2_with fail
  go_ret
  exact ⟨_, rfl, (Rf.GotI.start w).plc, Below.refl _ _⟩
set_option maxHeartbeats 4000000 in
theorem overR_cells (b off cap : Nat) (l : List Nd) (k : Int) (w : World) (hn : Nds w (.slice (some ⟨b, off, none⟩) l.length cap) l) (hat : At w b off l) (hcap : l.length ≤ cap) (hl : l.length ≤ 1000000) (hp : 0 < l.length) :
    Calls Try.prog 20 #[.slice (some ⟨b, off, none⟩) l.length cap, .int .i64 k] w fun e w' => ∃ y, e = .returned y ∧ Rf.Plc w' y (ovI l k) ∧ Below w.heap.size w w' := by
  have HN := Lib.hid hn
  have HA := Lib.hid hat
  have HAB : Hid (∀ wr, Below w.heap.size w wr → At wr b off l) := Lib.hid fun wr hb k hk => by
    obtain ⟨e1, e2, e3⟩ := hat k hk
    exact ⟨by rw [hb.cell (Ap.cell_lt e1)]; exact e1, by rw [hb.cell (Ap.cell_lt e2)]; exact e2, by rw [hb.cell (Ap.cell_lt e3)]; exact e3⟩
  have hz := size_le l
  obtain ⟨z, hzz⟩ : ∃ z, Rw.size l = z := ⟨_, rfl⟩
  have HZ := Lib.hid hzz
  rw [hzz] at hz
  have gl : ((l.length : Int) == 0) = false := by rw [beq_eq_false_iff_ne]; omega
  by_cases h1 : z = l.length
  · have HO : Hid (one l = true) := by
      show _ = true
      unfold one
      rw [decide_eq_true hp, hzz, decide_eq_true h1]
      rfl
    have g1 : ((z : Int) != (l.length : Int)) = false := by rw [bne_eq_false_iff_eq]; omega
    by_cases h2 : k < 0
    · have HE : Hid (ovI l k = []) := Lib.hid (ovI_out (.inl h2))
      rw [HE.out]
      have g2 : decide (k < 0) = true := decide_eq_true h2
      clear hn hat hzz h1
      go_enter Try.func20, Try.ntmps20
      go_wp2_with fail
      refine (sizeR_any _ l _ HN.out hl).mono ?_
      rw [HZ.out]
      rintro e w' ⟨rfl, rfl⟩
      go_wp2_with fail
      go_ret
      exact ⟨_, rfl, (Rf.GotI.start w).plc, Below.refl _ _⟩
    · by_cases h3 : (l.length : Int) ≤ k
      · have HE : Hid (ovI l k = []) := Lib.hid (ovI_out (.inr h3))
        rw [HE.out]
        clear hn hat hzz h1
        go_enter Try.func20, Try.ntmps20
        go_wp2_with fail
        refine (sizeR_any _ l _ HN.out hl).mono ?_
        rw [HZ.out]
        rintro e w' ⟨rfl, rfl⟩
        go_wp2_with fail
        go_ret
        exact ⟨_, rfl, (Rf.GotI.start w).plc, Below.refl _ _⟩
      · obtain ⟨k, rfl⟩ : ∃ k' : Nat, k = (k' : Int) := ⟨k.toNat, by omega⟩
        have hkl : k < l.length := by omega
        have HE : Hid (ovI l (k : Int) = ovk l k k) := by
          show _ = _
          rw [ovI_in HO.out (by omega) (by omega), Int.toNat_natCast]
        rw [HE.out]
        have gk1 : decide ((k : Int) < 0) = false := decide_eq_false (by omega)
        have gk2 : decide (l.length ≤ k) = false := decide_eq_false (by omega)
        clear hn hat hzz h1 h2 h3
        go_enter Try.func20, Try.ntmps20
        go_wp2_with fail
        refine (sizeR_any _ l _ HN.out hl).mono ?_
        rw [HZ.out]
        rintro e w' ⟨rfl, rfl⟩
        go_wp2_with fail
        go_loopw [5, 6] (fun o jv wr => ∃ (j : Nat) (a : Option Addr) (n c : Nat), j ≤ k ∧ n ≤ j ∧ jv = .int .i64 j ∧ o = .slice a n c ∧ Hid ((ovk l k j).length = n) ∧ Hid (Rf.GotI w wr (.slice a n c) (ovk l k j))) (fun _ jv _ => k - (intOf jv).toNat)
        case atStart => exact ⟨0, none, 0, 0, Nat.zero_le _, Nat.le_refl _, rfl, rfl, Lib.hid rfl, Lib.hid (Rf.GotI.start w)⟩
        case round =>
          obtain ⟨j, a, n, c, hj, hn, rfl, rfl, HL, HG⟩ := hrel
          by_cases hlt : j < k
          · have hD := Rf.drop_nds (HAB.out wr HG.out.2) hcap j (by omega)
            have HD := Lib.hid hD
            have hzj := size_le (l.drop j)
            rw [List.length_drop] at hzj
            obtain ⟨q, hq⟩ : ∃ q, Rw.size (l.drop j) = q := ⟨_, rfl⟩
            have HQ := Lib.hid hq
            rw [hq] at hzj
            have hqz : zz l j = q := hq
            have HY := Lib.hid (fun h => ovk_yes (l := l) (k := k) (j := j) h)
            have HX := Lib.hid (fun h => ovk_no (l := l) (k := k) (j := j) h)
            rw [hqz] at HY HX
            have i1 : (j : Int) ≤ (l.length : Int) := by omega
            have i2 : cap - j ≠ 0 := by omega
            have i3 : j < cap := by omega
            clear hq hqz hD
            obtain ⟨lj, hlj⟩ : ∃ lj, l.drop j = lj := ⟨_, rfl⟩
            have HLJ : Hid (lj.length ≤ 1000000) := Lib.hid (by rw [← hlj, List.length_drop]; omega)
            rw [hlj] at HD HQ
            clear hlj
            by_cases hgt : k < j + q
            · have HK := Lib.hid (HY.out hgt)
              obtain ⟨v', w3, hrun, hgot⟩ := HG.out.one j (by rw [HL.out]; omega)
              rw [← HK.out] at hgot
              obtain ⟨a', c', rfl⟩ := hgot.slice
              have HL' : Hid ((ovk l k (j + 1)).length = n + 1) := by
                show _ = _
                rw [HK.out, List.length_append, HL.out]
                rfl
              rw [HL'.out] at hrun hgot
              have R := Lib.hid hrun
              have HG' := Lib.hid hgot
              clear hrun hgot
              go_wp2_with fail
              refine (sizeR_any _ lj _ HD.out HLJ.out).mono ?_
              rw [HQ.out]
              rintro e w'' ⟨rfl, rfl⟩
              go_wp2_with (at_builtin; refine Ap.wpList_append_run (by rfl) (.tmp 40) (.tmp 42) _ _ rfl _ _ rfl rfl _ w3 R.out ?_)
              go_roundw
              case rel => exact ⟨j + 1, a', n + 1, c', by omega, by omega, by go_num, rfl, HL', HG'⟩
              case measure => simp [intOf]; omega
            · have HK := Lib.hid (HX.out hgt)
              rw [← HK.out] at HL HG
              go_wp2_with fail
              refine (sizeR_any _ lj _ HD.out HLJ.out).mono ?_
              rw [HQ.out]
              rintro e w'' ⟨rfl, rfl⟩
              go_wp2_with fail
              go_roundw
              case rel => exact ⟨j + 1, a, n, c, by omega, by omega, by go_num, rfl, HL, HG⟩
              case measure => simp [intOf]; omega
          · have HZ : Hid (ovk l k k = ovk l k j) := by
              show _ = _
              rw [show k = j by omega]
            go_wp2_with fail
            go_ret
            exact ⟨_, rfl, by rw [HZ.out]; exact HG.out.plc, HG.out.2⟩
  · have HO : Hid (one l = false) := by
      show _ = false
      unfold one
      rw [hzz, decide_eq_false h1, Bool.and_false]
    have HE : Hid (ovI l k = []) := Lib.hid (ovI_one HO.out)
    rw [HE.out]
    have g1 : ((z : Int) != (l.length : Int)) = true := by rw [bne_iff_ne]; omega
    clear hn hat hzz h1
    go_enter Try.func20, Try.ntmps20
    go_wp2_with fail
    refine (sizeR_any _ l _ HN.out hl).mono ?_
    rw [HZ.out]
    rintro e w' ⟨rfl, rfl⟩
    go_wp2_with fail
    go_ret
    exact ⟨_, rfl, (Rf.GotI.start w).plc, Below.refl _ _⟩
theorem overR_any (v : Value) (l : List Nd) (k : Int) (w : World) (hv : Nds w v l) (hl : l.length ≤ 1000000) :
    Calls Try.prog 20 #[v, .int .i64 k] w fun e w' => ∃ y, e = .returned y ∧ Rf.Plc w' y (ovI l k) ∧ Below w.heap.size w w' := by
  rcases hv.form with ⟨rfl, a, cap, rfl⟩ | ⟨b, off, cap, rfl, hcap, hat⟩
  · exact overR_empty a cap k w
  · by_cases hp : 0 < l.length
    · exact overR_cells b off cap l k w hv hat hcap hl hp
    · obtain rfl : l = [] := List.eq_nil_of_length_eq_zero (by omega)
      exact overR_empty _ cap k w

set_option maxHeartbeats 1000000 in
/-- Of a node of a tree. -/
theorem pointR_any (v : Value) (l : List Nd) (k : Nat) (w : World) (hv : Nds w v l) (hl : l.length ≤ 1000000) (h1 : one l = true) (hk : k < l.length) :
    Calls Try.prog 29 #[v, .int .i64 (k : Nat)] w fun e w' => e = .returned (cx (pt l k)) ∧ Below w.heap.size w w' := by
  have HN := Lib.hid hv
  have HE : Hid (ovI l (k : Int) = ov l k) := by
    show _ = _
    rw [ovI_in h1 (by omega) (by omega), Int.toNat_natCast]
    rfl
  obtain ⟨x, hx⟩ : ∃ x, xl l k = x := ⟨_, rfl⟩
  obtain ⟨n, hn⟩ : ∃ n, (ov l k).length = n := ⟨_, rfl⟩
  have HX := Lib.hid hx
  have HL := Lib.hid hn
  have hp : pt l k = (x, n) := by unfold pt; rw [hx, hn]
  rw [hp]
  clear hv hx hn hp
  go_enter Try.func29, Try.ntmps29
  go_wp2_with fail
  refine (xR_any v l k _ HN.out hl (by omega)).mono ?_
  rw [HX.out]
  rintro e w' ⟨rfl, rfl⟩
  go_wp2_with fail
  refine (overR_any v l k _ HN.out hl).mono ?_
  rw [HE.out]
  rintro e w2 ⟨y, rfl, hy, hb⟩
  have HB := Lib.hid hb
  obtain ⟨_, ya, yc, rfl, -⟩ := hy
  rw [HL.out]
  clear hb
  go_wp2_with fail
  go_ret
  exact ⟨rfl, HB.out⟩
end Go.Proofs.Ytlipkhmidgogdaa.Pl

namespace Go.Proofs.Ytlipkhmidgogdaa.Pl
open Go Go.RowKit Go.Proofs.Ytlipkhmidgogdaa.Rw Go.Proofs.Ytlipkhmidgogdaa.So
set_option maxRecDepth 20000

/-- Is that the point? -/
def hit (x y : Int) (p : Nat × Nat) : Bool := decide (x = p.1) && decide (y = p.2)
/-- The first place of a point. -/
def find (x y : Int) : List (Nat × Nat) → Option Nat
  | [] => none
  | p :: P => if hit x y p = true then some 0 else (find x y P).map (· + 1)
theorem find_some {x y : Int} : ∀ {P : List (Nat × Nat)} {k : Nat} (h : k < P.length), hit x y P[k] = true → (∀ j, (hj : j < k) → hit x y (P[j]'(by omega)) = false) → find x y P = some k
  | [], k, h, _, _ => absurd h (Nat.not_lt_zero k)
  | p :: P, 0, _, hh, _ => by unfold find; exact if_pos hh
  | p :: P, k + 1, h, hh, hn => by
    unfold find
    have h0 : hit x y p = false := hn 0 (by omega)
    rw [if_neg (by rw [h0]; simp), find_some (P := P) (k := k) (by simpa using h) hh fun j hj => hn (j + 1) (by omega)]
    rfl
theorem find_none {x y : Int} : ∀ {P : List (Nat × Nat)}, (∀ j, (hj : j < P.length) → hit x y P[j] = false) → find x y P = none
  | [], _ => rfl
  | p :: P, hn => by
    unfold find
    have h0 : hit x y p = false := hn 0 (by simp)
    rw [if_neg (by rw [h0]; simp), find_none fun j hj => hn (j + 1) (by simpa using hj)]
    rfl
theorem find_is {x y : Int} : ∀ {P : List (Nat × Nat)} {k : Nat}, find x y P = some k → ∃ h : k < P.length, hit x y P[k] = true
  | [], k, h => by cases h
  | p :: P, k, h => by
    unfold find at h
    split at h
    · rename_i hh
      cases h
      exact ⟨by simp, hh⟩
    · cases hf : find x y P with
      | none => rw [hf] at h; cases h
      | some j =>
        rw [hf] at h
        cases h
        obtain ⟨hj, hh⟩ := find_is hf
        exact ⟨by simpa using hj, hh⟩
/-- Points that are no great numbers. -/
def Small (P : List (Nat × Nat)) : Prop := ∀ p ∈ P, p.1 < 2 ^ 53 ∧ p.2 < 2 ^ 53
theorem pts_small {l : List Nd} (hl : l.length ≤ 4398046511104) : Small (pts l) := by
  intro p hp
  unfold pts ptsN at hp
  obtain ⟨k, hk, rfl⟩ := List.mem_map.1 hp
  have hk := rounds_lt (List.mem_range.1 hk)
  constructor
  · show xl l k < 2 ^ 53
    have : xl l k ≤ l.length := Nat.le_trans List.countP_le_length (by rw [List.length_take]; exact Nat.min_le_right _ _)
    omega
  · show (ov l k).length < 2 ^ 53
    have : (ov l k).length ≤ k := by unfold ov; exact Nat.le_trans (List.length_filter_le _ _) (by simp)
    omega
theorem eq_fo {a b : Int} (ha : a.natAbs < 2 ^ 53) (hb : b.natAbs < 2 ^ 53) : (FloatKind.f64.format.order (fo a) (fo b) == some .eq) = decide (a = b) := by
  have h : FloatKind.f64.format.order (fo a) (fo b) = some (compare a b) := Fl.order_fl ha hb
  rw [h]
  rcases Int.lt_trichotomy a b with h | h | h
  · rw [Int.compare_eq_lt.2 h, decide_eq_false (by omega)]; rfl
  · subst h; rw [decide_eq_true rfl]; simp
  · rw [Int.compare_eq_gt.2 h, decide_eq_false (by omega)]; rfl
theorem eq_run {t : TypeId} {P : Program} {x y : Int} {p : Nat × Nat} (hx : x.natAbs < 2 ^ 53) (hy : y.natAbs < 2 ^ 53) (h1 : p.1 < 2 ^ 53) (h2 : p.2 < 2 ^ 53) (w : World) :
    (binOp .eql t (.complex .f64 (fo x) (fo y)) (.complex .f64 (fo p.1) (fo p.2))).run P w = .ok (.bool (hit x y p)) w := by
  rw [run_eql_complex, eq_fo hx (by omega), eq_fo hy (by omega)]
  rfl
theorem eq_run' {t : TypeId} {P : Program} {x y : Int} {p : Nat × Nat} (hx : x.natAbs < 2 ^ 53) (hy : y.natAbs < 2 ^ 53) (h1 : p.1 < 2 ^ 53) (h2 : p.2 < 2 ^ 53) (w : World) :
    (binOp .eql t (.complex .f64 (fo p.1) (fo p.2)) (.complex .f64 (fo x) (fo y))).run P w = .ok (.bool (hit x y p)) w := by
  rw [run_eql_complex, eq_fo (by omega) hx, eq_fo (by omega) hy]
  have e1 : decide ((p.1 : Int) = x) = decide (x = p.1) := decide_eq_decide.2 ⟨fun h => h.symm, fun h => h.symm⟩
  have e2 : decide ((p.2 : Int) = y) = decide (y = p.2) := decide_eq_decide.2 ⟨fun h => h.symm, fun h => h.symm⟩
  rw [e1, e2]
  rfl
def AtC (w : World) (b off : Nat) (P : List (Nat × Nat)) : Prop := ∀ k, (h : k < P.length) → w.cell? ⟨b, off + k, none⟩ = some (.complex .f64 (fo P[k].1) (fo P[k].2))
theorem Cxs.form {w : World} {v : Value} {P : List (Nat × Nat)} (h : Cxs w v P) : (P = [] ∧ ∃ a cap, v = .slice a 0 cap) ∨ ∃ b off cap, v = .slice (some ⟨b, off, none⟩) P.length cap ∧ AtC w b off P := by
  obtain ⟨_, a, cap, rfl, hle, _, hcell⟩ := h
  by_cases h0 : 0 < P.length
  · obtain ⟨b, off, rfl, hj⟩ := hcell h0
    exact Or.inr ⟨b, off, cap, rfl, fun k hk => hj _ _ (by rw [List.getElem?_map, List.getElem?_eq_getElem hk]; rfl)⟩
  · have : P = [] := List.eq_nil_of_length_eq_zero (by omega)
    subst this
    exact Or.inl ⟨rfl, a, cap, rfl⟩
/-- What Index tells. -/
def ix (o : Option Nat) : Int := match o with | some k => k | none => -1

set_option maxHeartbeats 1000000 in
theorem indexC_empty (a : Option Addr) (cap : Nat) (x y : Int) (w : World) : Calls Try.prog 34 #[.slice a 0 cap, .complex .f64 (fo x) (fo y)] w fun e w' => e = .returned (.int .i64 (-1)) ∧ w = w' := by
  go_enter Try.func34, Try.ntmps34
  go_wp2_with fail
  refine Go.wp_loop_rounds 1 ?_
  rw [rounds_succ]
  go_wp2_with fail
  go_ret
  exact ⟨rfl, rfl⟩
set_option maxHeartbeats 2000000 in
theorem indexC_cells (b off cap : Nat) (P : List (Nat × Nat)) (x y : Int) (w : World) (hat : AtC w b off P) (hs : Small P) (hl : P.length ≤ 4398046511104) (hx : x.natAbs < 2 ^ 53) (hy : y.natAbs < 2 ^ 53) :
    Calls Try.prog 34 #[.slice (some ⟨b, off, none⟩) P.length cap, .complex .f64 (fo x) (fo y)] w fun e w' => e = .returned (.int .i64 (ix (find x y P))) ∧ w = w' := by
  have HA := Lib.hid hat
  have HE : Hid (∀ k (h : k < P.length) (w : World), (binOp .eql 27 (.complex .f64 (fo x) (fo y)) (.complex .f64 (fo P[k].1) (fo P[k].2))).run Try.prog w = .ok (.bool (hit x y P[k])) w) := Lib.hid fun k h w => by
    obtain ⟨h1, h2⟩ := hs _ (List.getElem_mem h)
    exact eq_run hx hy h1 h2 w
  clear hat hs hx hy
  obtain ⟨fx, hfx⟩ : ∃ f, fo x = f := ⟨_, rfl⟩
  obtain ⟨fy, hfy⟩ : ∃ f, fo y = f := ⟨_, rfl⟩
  rw [hfx, hfy] at HE ⊢
  clear hfx hfy
  go_enter Try.func34, Try.ntmps34
  go_wp2_with fail
  go_loopw [8] (fun iv wr => w = wr ∧ ∃ k : Nat, k ≤ P.length ∧ iv = .int .i64 k ∧ Hid (∀ j, (hj : j < P.length) → j < k → hit x y P[j] = false)) (fun iv _ => P.length - (intOf iv).toNat)
  case atStart => exact ⟨rfl, 0, Nat.zero_le _, rfl, Lib.hid fun j _ hj => absurd hj (Nat.not_lt_zero j)⟩
  case round =>
    obtain ⟨rfl, k, hk, rfl, HN⟩ := hrel
    by_cases hlt : k < P.length
    · have c1 := HA.out k hlt
      have hq := HE.out k hlt
      have HY := Lib.hid (fun h => find_some (x := x) (y := y) hlt h fun j hj => HN.out j (by omega) hj)
      have HO : Hid (hit x y P[k] = false → ∀ j, (hj : j < P.length) → j < k + 1 → hit x y P[j] = false) := Lib.hid fun h j hj hjk => by
        by_cases e : j = k
        · subst e; exact h
        · exact HN.out j hj (by omega)
      obtain ⟨p, hp⟩ : ∃ p, P[k] = p := ⟨_, rfl⟩
      rw [hp] at c1 hq HY HO
      obtain ⟨f1, hf1⟩ : ∃ f, fo p.1 = f := ⟨_, rfl⟩
      obtain ⟨f2, hf2⟩ : ∃ f, fo p.2 = f := ⟨_, rfl⟩
      rw [hf1, hf2] at c1 hq
      clear hp hf1 hf2
      cases hh : hit x y p with
      | true =>
        have HF := Lib.hid (HY.out hh)
        rw [hh] at hq
        clear hh
        go_wp2_with fail
        go_ret
        rw [HF.out]
        exact ⟨rfl, rfl⟩
      | false =>
        have HF := Lib.hid (HO.out hh)
        rw [hh] at hq
        clear hh
        go_wp2_with fail
        go_roundw
        case rel => exact ⟨trivial, k + 1, by omega, by go_num, HF⟩
        case measure => simp [intOf]; omega
    · have HF : Hid (find x y P = none) := Lib.hid (find_none fun j hj => HN.out j hj (by omega))
      go_wp2_with fail
      go_ret
      rw [HF.out]
      exact ⟨rfl, rfl⟩
theorem indexC_any (v : Value) (P : List (Nat × Nat)) (x y : Int) (w : World) (hv : Cxs w v P) (hs : Small P) (hl : P.length ≤ 4398046511104) (hx : x.natAbs < 2 ^ 53) (hy : y.natAbs < 2 ^ 53) :
    Calls Try.prog 34 #[v, .complex .f64 (fo x) (fo y)] w fun e w' => e = .returned (.int .i64 (ix (find x y P))) ∧ w = w' := by
  rcases hv.form with ⟨rfl, a, cap, rfl⟩ | ⟨b, off, cap, rfl, hat⟩
  · exact indexC_empty a cap x y w
  · exact indexC_cells b off cap P x y w hat hs hl hx hy
/-- What At tells. -/
def atV (o : Option Nat) : Value := match o with | some k => .tuple #[.int .i64 (k : Nat), .bool true] | none => .tuple #[.int .i64 0, .bool false]
theorem pts_len (l : List Nd) : (pts l).length ≤ l.length := by unfold pts; rw [ptsN_len]; exact rounds_le l
set_option maxHeartbeats 1000000 in
theorem atP_any (v : Value) (l : List Nd) (x y : Int) (w : World) (hv : Nds w v l) (hl : l.length ≤ 4398046511104) (hx : x.natAbs < 2 ^ 53) (hy : y.natAbs < 2 ^ 53) :
    Calls Try.prog 17 #[v, .complex .f64 (fo x) (fo y)] w fun e w' => e = .returned (atV (find x y (pts l))) ∧ Below w.heap.size w w' := by
  have HN := Lib.hid hv
  obtain ⟨_, a, cap, rfl, -⟩ := hv
  obtain ⟨o, ho⟩ : ∃ o, find x y (pts l) = o := ⟨_, rfl⟩
  have HO := Lib.hid ho
  have HB0 : Hid (∀ k, o = some k → k ≤ 4398046511104) := Lib.hid fun k hk => by
    obtain ⟨h, _⟩ := find_is (ho.trans hk)
    have := pts_len l
    omega
  rw [ho]
  clear ho
  go_enter Try.func17, Try.ntmps17
  go_wp2_with fail
  refine (pointsP_any _ l _ HN.out hl).mono ?_
  rintro e w1 ⟨vp, rfl, hvp, hb1⟩
  have HVP := Lib.hid hvp
  have HB1 := Lib.hid hb1
  obtain ⟨_, ap, cp, rfl, -⟩ := hvp
  clear hb1
  go_wp2_with fail
  refine (indexC_any _ (pts l) x y _ HVP.out (pts_small hl) (Nat.le_trans (pts_len l) hl) hx hy).mono ?_
  rw [HO.out]
  rintro e w2 ⟨rfl, rfl⟩
  cases o with
  | none =>
    unfold ix
    go_wp2_with fail
    go_ret2
    exact ⟨rfl, HB1.out⟩
  | some k =>
    have hkb := HB0.out k rfl
    unfold ix
    go_wp2_with fail
    go_ret2
    exact ⟨rfl, HB1.out⟩
end Go.Proofs.Ytlipkhmidgogdaa.Pl
