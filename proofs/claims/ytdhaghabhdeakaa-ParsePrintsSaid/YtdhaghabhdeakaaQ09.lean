/- What atom, pair and level are asked to answer; how long what they read is. -/
import Derived.Test.YtdhaghabhdeakaaQ07

namespace Go.Proofs.Ytdhaghabhdeakaa.Pa
open Go Go.RowKit Rw
set_option maxRecDepth 20000

theorem name_len (n : ByteArray) : (name n).length ≤ 3 := by
  unfold name
  repeat' split
  all_goals simp
/-- What is read is no longer than three nodes a token, and ends within the tokens. -/
theorem few (f : Nat) : (∀ (q : List Kn) p k g, p ≤ q.length → lv f q p k = some g → p ≤ g.next ∧ g.next ≤ q.length ∧ g.L.length ≤ 3 * (g.next - p)) ∧
    (∀ (q : List Kn) k g r, g.next ≤ q.length → mo f q k g = some r → g.next ≤ r.next ∧ r.next ≤ q.length ∧ r.L.length ≤ g.L.length + 3 * (r.next - g.next)) ∧
    (∀ (q : List Kn) p g, p ≤ q.length → pr f q p = some g → p ≤ g.next ∧ g.next ≤ q.length ∧ g.L.length ≤ 3 * (g.next - p)) ∧
    (∀ (q : List Kn) p g, p ≤ q.length → ato f q p = some g → p ≤ g.next ∧ g.next ≤ q.length ∧ g.L.length ≤ 3 * (g.next - p)) := by
  induction f with
  | zero => exact ⟨fun _ _ _ _ _ h => (by rw [lv] at h; cases h), fun _ _ _ _ _ h => (by rw [mo] at h; cases h), fun _ _ _ _ h => (by rw [pr] at h; cases h), fun _ _ _ _ h => (by rw [ato] at h; cases h)⟩
  | succ f ih =>
    obtain ⟨i1, i2, i3, i4⟩ := ih
    have hlt : ∀ (q : List Kn) i, kd q i ≠ 0 → i < q.length := fun q i h => by
      apply Nat.lt_of_not_le
      intro hle
      exact h (kd_out hle)
    refine ⟨fun q p k g hp h => ?_, fun q k g r hp h => ?_, fun q p g hp h => ?_, fun q p g hp h => ?_⟩
    · rw [lv_succ] at h
      split at h
      · exact i3 _ _ _ hp h
      · obtain ⟨x, hx, hm⟩ := Option.bind_eq_some_iff.1 h
        obtain ⟨a1, a2, a3⟩ := i1 _ _ _ _ hp hx
        obtain ⟨b1, b2, b3⟩ := i2 _ _ _ _ a2 hm
        omega
    · rw [mo_succ] at h
      split at h
      · rename_i hc
        have hl := hlt q g.next (by rw [hc.2]; exact sg_ne k)
        obtain ⟨x, hx, hm⟩ := Option.bind_eq_some_iff.1 h
        obtain ⟨a1, a2, a3⟩ := i1 _ _ _ x (by omega) hx
        obtain ⟨b1, b2, b3⟩ := i2 q k (two (sg k) g x) r a2 hm
        have e1 : (two (sg k) g x).next = x.next := rfl
        have e2 : (two (sg k) g x).L.length = g.L.length + x.L.length + 1 := by show (nOf _ :: (g.L ++ x.L)).length = _; simp
        rw [e1] at b1 b3
        rw [e2] at b3
        omega
      · obtain rfl := Option.some.inj h
        omega
    · rw [pr_succ] at h
      obtain ⟨x, hx, hm⟩ := Option.bind_eq_some_iff.1 h
      obtain ⟨a1, a2, a3⟩ := i4 _ _ _ hp hx
      split at hm
      · obtain rfl := Option.some.inj hm
        omega
      · rename_i hc
        simp only [not_or, Decidable.not_not] at hc
        have hl := hlt q x.next (by rw [hc.2]; decide)
        obtain ⟨y, hy, hz⟩ := Option.map_eq_some_iff.1 hm
        obtain ⟨b1, b2, b3⟩ := i4 _ _ y (by omega) hy
        subst hz
        have e2 : (two 10 x y).L.length = x.L.length + y.L.length + 1 := by show (nOf _ :: (x.L ++ y.L)).length = _; simp
        have e1 : (two 10 x y).next = y.next := rfl
        rw [e1, e2]
        omega
    · rw [ato_succ] at h
      split at h
      · rename_i hc
        have hl := hlt q p (by rw [hc]; decide)
        obtain rfl := Option.some.inj h
        have := name_len (nmAt q p)
        show p ≤ p + 1 ∧ p + 1 ≤ q.length ∧ (name (nmAt q p)).length ≤ 3 * (p + 1 - p)
        omega
      · split at h
        · obtain rfl := Option.some.inj h
          exact ⟨Nat.le_refl _, hp, Nat.zero_le _⟩
        · rename_i hc
          have hl : p < q.length := hlt q p (fun e => hc (by rw [e]; decide))
          obtain ⟨x, hx, hm⟩ := Option.bind_eq_some_iff.1 h
          obtain ⟨a1, a2, a3⟩ := i1 _ _ _ x (by omega) hx
          split at hm
          · obtain rfl := Option.some.inj hm
            omega
          · split at hm
            · obtain rfl := Option.some.inj hm
              exact ⟨by show p ≤ x.next; omega, a2, Nat.zero_le _⟩
            · rename_i he
              have hl2 := hlt q x.next (by rw [Decidable.not_not.1 he]; intro e; exact hc ⟨by omega, by omega⟩)
              obtain rfl := Option.some.inj hm
              show p ≤ x.next + 1 ∧ x.next + 1 ≤ q.length ∧ (if kd q p = 3 then nOf 9 :: x.L else x.L).length ≤ 3 * (x.next + 1 - p)
              split
              · rw [List.length_cons]
                omega
              · omega
/-- What was read, in memory of the call's own. -/
def GotPost (g : Got) (w : World) (e : Ending) (w' : World) : Prop := ∃ y, e = .returned (.agg #[y, .int .i64 (g.next : Int), .bool g.bad]) ∧ Ap.RdO (fun b => w.heap.size ≤ b) w' 3 y g.L.length (cls g.L) ∧ Below w.heap.size w w'
def LvC (f : Nat) (ts : List To.Tk) : Prop := ∀ (p k : Nat) (g : Got) (w : World) (v : Value), p ≤ ts.length → k ≤ 4 → lv f (tkn ts) p k = some g → To.Tks w v ts → Calls Try.prog 29 #[v, .int .i64 (p : Int), .int .i64 (k : Int)] w (GotPost g w)
def PrC (f : Nat) (ts : List To.Tk) : Prop := ∀ (p : Nat) (g : Got) (w : World) (v : Value), p ≤ ts.length → pr f (tkn ts) p = some g → To.Tks w v ts → Calls Try.prog 49 #[v, .int .i64 (p : Int)] w (GotPost g w)
def AtC (f : Nat) (ts : List To.Tk) : Prop := ∀ (p : Nat) (g : Got) (w : World) (v : Value), p ≤ ts.length → ato f (tkn ts) p = some g → To.Tks w v ts → Calls Try.prog 67 #[v, .int .i64 (p : Int)] w (GotPost g w)
theorem rdO_nil (w : World) (ok : Nat → Prop) : Ap.RdO ok w 3 (.slice none 0 0) ([] : List Nd).length (cls []) := ⟨rfl, none, 0, rfl, Nat.le_refl _, fun _ => ⟨rfl, rfl⟩, fun h => absurd h (Nat.lt_irrefl 0)⟩
/-- The block of a result, as it begins. -/
abbrev gz : Obj := .cells #[.slice none 0 0, .int .i64 0, .bool false] 49
theorem tkn_len (ts : List To.Tk) : (tkn ts).length = ts.length := by simp [tkn]

theorem heap_set (w : World) (g o : Nat) (v : Value) (k : Nat) (h : k ≠ g) : (w.setCell ⟨g, o, none⟩ v).heap[k]? = w.heap[k]? := by
  simp only [World.setCell, Array.getElem?_modify]
  rw [if_neg (fun e => h e.symm)]
theorem heap_set_self {w : World} {g : Nat} {c : Array Value} {t : TypeId} {fr : Nat × Nat} (o : Nat) (v : Value) (h : w.heap[g]? = some (.cells c t fr)) : (w.setCell ⟨g, o, none⟩ v).heap[g]? = some (.cells (c.setIfInBounds o v) t fr) := by
  simp only [World.setCell, Array.getElem?_modify, if_true, h]
  rfl
/-- A block of three cells. -/
def Bk (w : World) (b : Nat) (x y z : Value) : Prop := w.heap[b]? = some (.cells #[x, y, z] 49 (0, 0))
theorem Bk.new (w : World) : Bk (w.alloc gz) w.heap.size (.slice none 0 0) (.int .i64 0) (.bool false) := by
  show (w.heap.push _)[w.heap.size]? = some _
  simp
theorem Bk.mk (w : World) (x y z : Value) : Bk (w.alloc (.cells #[x, y, z] 49)) w.heap.size x y z := by
  show (w.heap.push _)[w.heap.size]? = some _
  simp
theorem Bk.lt {w : World} {b : Nat} {x y z : Value} (h : Bk w b x y z) : b < w.heap.size := Nat.lt_of_not_le fun hle => by
  unfold Bk at h
  rw [Array.getElem?_eq_none hle] at h
  cases h
theorem Bk.below {w w' : World} {b : Nat} {x y z : Value} (h : Bk w b x y z) (hb : Below w.heap.size w w') : Bk w' b x y z := (hb.block b h.lt).trans h
theorem Bk.cells {w : World} {b : Nat} {x y z : Value} (h : Bk w b x y z) : w.cell? ⟨b, 0, none⟩ = some x ∧ w.cell? ⟨b, 1, none⟩ = some y ∧ w.cell? ⟨b, 2, none⟩ = some z ∧ w.frozen? ⟨b, 0, none⟩ = false ∧ w.frozen? ⟨b, 1, none⟩ = false ∧ w.frozen? ⟨b, 2, none⟩ = false := by
  unfold Bk at h
  simp [World.cell?, World.frozen?, h]
abbrev put3 (w : World) (b : Nat) (x y z : Value) : World := ((w.setCell ⟨b, 0, none⟩ x).setCell ⟨b, 1, none⟩ y).setCell ⟨b, 2, none⟩ z
theorem Bk.put {w : World} {b : Nat} {x y z : Value} (h : Bk w b x y z) (x' y' z' : Value) : Bk (put3 w b x' y' z') b x' y' z' := heap_set_self 2 z' (heap_set_self 1 y' (heap_set_self 0 x' h))
theorem Bk.put1 {w : World} {b : Nat} {x y z : Value} (h : Bk w b x y z) (y' : Value) : Bk (w.setCell ⟨b, 1, none⟩ y') b x y' z := heap_set_self 1 y' h
theorem Bk.put0 {w : World} {b : Nat} {x y z : Value} (h : Bk w b x y z) (x' : Value) : Bk (w.setCell ⟨b, 0, none⟩ x') b x' y z := heap_set_self 0 x' h
theorem size_set (w : World) (g o : Nat) (v : Value) : (w.setCell ⟨g, o, none⟩ v).heap.size = w.heap.size := by simp [World.setCell]
theorem below_set {B : Nat} {w0 w : World} (h : Below B w0 w) (g o : Nat) (v : Value) (hg : B ≤ g) : Below B w0 (w.setCell ⟨g, o, none⟩ v) :=
  ⟨h.os, h.tape, h.output, by rw [size_set]; exact h.size, fun k hk => by rw [heap_set w g o v k (by omega)]; exact h.block k hk⟩
theorem below_put3 {B : Nat} {w0 w : World} (h : Below B w0 w) (b : Nat) (x y z : Value) (hg : B ≤ b) : Below B w0 (put3 w b x y z) := below_set (below_set (below_set h b 0 x hg) b 1 y hg) b 2 z hg
theorem rdO_set {w : World} {v x : Value} {n g o : Nat} {cs : List Value} {ok : Nat → Prop} (h : Ap.RdO ok w 3 v n cs) (hg : ∀ k, ok k → k ≠ g) : Ap.RdO ok (w.setCell ⟨g, o, none⟩ x) 3 v n cs := by
  obtain ⟨hl, a, cap, hv, hc, hn, hcell⟩ := h
  refine ⟨hl, a, cap, hv, hc, hn, fun h0 => ?_⟩
  obtain ⟨b, off, ha, ho, hlt, hj⟩ := hcell h0
  refine ⟨b, off, ha, ho, by rw [size_set]; exact hlt, fun j u hu => ?_⟩
  have := hj j u hu
  simp only [World.cell?, heap_set w g o x b (hg b ho)] at this ⊢
  exact this
theorem rdO_put3 {w : World} {v x y z : Value} {n b : Nat} {cs : List Value} {ok : Nat → Prop} (h : Ap.RdO ok w 3 v n cs) (hg : ∀ k, ok k → k ≠ b) : Ap.RdO ok (put3 w b x y z) 3 v n cs := rdO_set (rdO_set (rdO_set h hg) hg) hg
/-- A call that leaves by its result's block. -/
theorem ret_got {fn : Func} {p : Tmp} {R : Ending → World → Prop} {a : Act} {w : World} {b : Nat} {x y z : Value} (h : fn.results = #[.cell p 49]) (hp : a.tmps.getD p undef = .pointer (some ⟨b, 0, none⟩)) (hb : Bk w b x y z) (hd : a.defers = []) (hR : R (.returned (.agg #[x, y, z])) w) : bodyPost Try.prog fn R .ret a w :=
  bodyPost_ret (results_cell_row h a.tmps w b _ #[x, y, z] (0, 0) _ hp hb Try.underlying49 rfl (by kernel_rfl)) hd hR
set_option maxHeartbeats 1000000 in
theorem ato_walk {f : Nat} {ts : List To.Tk} (hts : ts.length ≤ 1000) (ih : LvC f ts) : AtC (f + 1) ts := by
  intro p g w v hp h hv
  have IH := Lib.hid ih
  have HV := Lib.hid hv
  rw [ato_succ] at h
  have hkind := Lib.hid (fun i w' hv' => kindT_any v ts i w' hv')
  have B0 := Lib.hid (below1 w gz)
  have HV0 := Lib.hid (HV.out.below B0.out)
  have K0 := Lib.hid (Bk.new w)
  obtain ⟨_, a, cap, rfl, -⟩ := hv
  clear ih
  by_cases h10 : kd (tkn ts) p = 10
  · have hlt : p < ts.length := by
      apply Nat.lt_of_not_le
      intro hle
      rw [kd_out (by rw [tkn_len]; exact hle)] at h10
      exact absurd h10 (by decide)
    rw [if_pos h10] at h
    obtain rfl := Option.some.inj h
    have HK := Lib.hid h10
    rw [(kd_at hlt).2]
    rcases HV0.out.form with ⟨rfl, _⟩ | ⟨b, off, cap', hsl, _, hat⟩
    · simp at hlt
    obtain ⟨-, -, c3⟩ := hat p hlt
    obtain ⟨n, hn⟩ : ∃ n, ts[p].n = n := ⟨_, rfl⟩
    rw [hn] at c3 ⊢
    cases hsl
    have NM := Lib.hid (name_any n)
    clear h h10 hat hn
    go_enter Try.func67, Try.ntmps67
    go_wp2_with fail
    refine (hkind.out p _ HV0.out).mono ?_
    rw [HK.out]
    rintro e w' ⟨rfl, rfl⟩
    go_wp2_with fail
    refine (NM.out _).mono ?_
    rintro e w1 ⟨y, rfl, hy, hb⟩
    have HY := Lib.hid hy
    have HB := Lib.hid hb
    clear hy hb
    have K1 := Lib.hid (K0.out.below HB.out)
    have HF := Lib.hid (rdO_put3 (b := w.heap.size) (x := y) (y := .int .i64 ((p : Int) + 1)) (z := .bool false) HY.out (fun k hk => Nat.ne_of_gt (Nat.lt_of_lt_of_le K0.out.lt hk)))
    obtain ⟨_, ya, yc, rfl, -⟩ := HY.out
    obtain ⟨d1, d2, d3, d4, d5, d6⟩ := K1.out.cells
    go_wp2_with fail
    refine ret_got rfl rfl (K1.out.put _ _ _) rfl ⟨_, rfl, HF.out.imp (fun b _ hb' => Nat.le_trans B0.out.size hb'), below_put3 (B0.out.trans (HB.out.mono B0.out.size)) _ _ _ _ (Nat.le_refl _)⟩
  · rw [if_neg h10] at h
    by_cases h13 : kd (tkn ts) p ≠ 1 ∧ kd (tkn ts) p ≠ 3
    · rw [if_pos h13] at h
      obtain rfl := Option.some.inj h
      obtain ⟨k, hk⟩ : ∃ k, kd (tkn ts) p = k := ⟨_, rfl⟩
      have HK := Lib.hid hk
      rw [hk] at h10 h13
      have b1 : (k == 10) = false := by rw [beq_eq_false_iff_ne]; exact h10
      have b2 : (k != 1) = true := by rw [bne_iff_ne]; exact h13.1
      have b3 : (k != 3) = true := by rw [bne_iff_ne]; exact h13.2
      clear h h10 h13 hk
      go_enter Try.func67, Try.ntmps67
      go_wp2_with fail
      refine (hkind.out p _ HV0.out).mono ?_
      rw [HK.out]
      rintro e w' ⟨rfl, rfl⟩
      obtain ⟨d1, d2, d3, d4, d5, d6⟩ := K0.out.cells
      go_wp2_with fail
      exact ret_got rfl rfl (Bk.mk w _ _ _) rfl ⟨_, rfl, rdO_nil _ _, below1 w _⟩
    · rw [if_neg h13] at h
      obtain ⟨k, hk⟩ : ∃ k, kd (tkn ts) p = k := ⟨_, rfl⟩
      have HK := Lib.hid hk
      have hlt : p < ts.length := by
        apply Nat.lt_of_not_le
        intro hle
        rw [kd_out (by rw [tkn_len]; exact hle)] at h13
        exact h13 ⟨by decide, by decide⟩
      rw [hk] at h h10 h13
      have hk13 : k = 1 ∨ k = 3 := by omega
      obtain ⟨x, hx, hm⟩ := Option.bind_eq_some_iff.1 h
      have IX := Lib.hid (fun w' v' hv' => IH.out (p + 1) 0 x w' v' (by omega) (by omega) hx hv')
      obtain ⟨q1, q2, q3⟩ := (few f).1 _ _ _ _ (by rw [tkn_len]; omega) hx
      rw [tkn_len] at q2
      have b1 : (k == 10) = false := by rw [beq_eq_false_iff_ne]; exact h10
      have HM := Lib.hid hm
      clear h h10 h13 hk hx hm
      rcases hk13 with rfl | rfl
      · go_enter Try.func67, Try.ntmps67
        go_wp2_with fail
        refine (hkind.out p _ HV0.out).mono ?_
        rw [HK.out]
        rintro e w' ⟨rfl, rfl⟩
        go_wp2_with fail
        refine (IX.out _ _ HV0.out).mono ?_
        rintro e w1 ⟨y, rfl, hy, hb⟩
        cases hxb : x.bad with
        | true =>
          have HB := Lib.hid hb
          have HY := Lib.hid hy
          have K1 := Lib.hid (K0.out.below hb)
          have HV1 := Lib.hid (HV0.out.below hb)
          obtain ⟨_, ya, yc, rfl, -⟩ := hy
          have B2 := Lib.hid (below1 w1 (.cells #[.slice ya x.L.length yc, .int .i64 (x.next : Int), .bool true] 49))
          have KG := Lib.hid (Bk.mk w1 (.slice ya x.L.length yc) (.int .i64 (x.next : Int)) (.bool true))
          have K2 := Lib.hid (K1.out.below B2.out)
          have HV2 := Lib.hid (HV1.out.below B2.out)
          have HY2 := Lib.hid (HY.out.below B2.out)
          have BB2 := Lib.hid (B0.out.trans ((hb.trans (B2.out.mono hb.size)).mono B0.out.size))
          have hne : w.heap.size ≠ w1.heap.size := by have := K1.out.lt; omega
          obtain ⟨d1, d2, d3, d4, d5, d6⟩ := K2.out.cells
          obtain ⟨f1, f2, f3, f4, f5, f6⟩ := KG.out.cells
          clear hb
          have hg : g = x := by have := HM.out; rw [hxb, if_pos rfl] at this; exact (Option.some.inj this).symm
          subst hg
          have HXB := Lib.hid hxb
          clear hxb
          go_wp2_with fail
          refine ret_got rfl rfl (K2.out.put _ _ _) rfl ⟨_, by rw [HXB.out], (rdO_put3 HY2.out (fun k hk => Nat.ne_of_gt (Nat.lt_of_lt_of_le K0.out.lt hk))).imp (fun b _ hb' => Nat.le_trans B0.out.size hb'), below_put3 BB2.out _ _ _ _ (Nat.le_refl _)⟩
        | false =>
          have HB := Lib.hid hb
          have HY := Lib.hid hy
          have K1 := Lib.hid (K0.out.below hb)
          have HV1 := Lib.hid (HV0.out.below hb)
          obtain ⟨_, ya, yc, rfl, -⟩ := hy
          have B2 := Lib.hid (below1 w1 (.cells #[.slice ya x.L.length yc, .int .i64 (x.next : Int), .bool false] 49))
          have KG := Lib.hid (Bk.mk w1 (.slice ya x.L.length yc) (.int .i64 (x.next : Int)) (.bool false))
          have K2 := Lib.hid (K1.out.below B2.out)
          have HV2 := Lib.hid (HV1.out.below B2.out)
          have HY2 := Lib.hid (HY.out.below B2.out)
          have BB2 := Lib.hid (B0.out.trans ((hb.trans (B2.out.mono hb.size)).mono B0.out.size))
          have hne : w.heap.size ≠ w1.heap.size := by have := K1.out.lt; omega
          obtain ⟨d1, d2, d3, d4, d5, d6⟩ := K2.out.cells
          obtain ⟨f1, f2, f3, f4, f5, f6⟩ := KG.out.cells
          clear hb
          have HM2 := Lib.hid (by have := HM.out; rw [hxb, if_neg (by decide)] at this; exact this)
          obtain ⟨kk, hkk⟩ : ∃ kk, kd (tkn ts) x.next = kk := ⟨_, rfl⟩
          rw [hkk] at HM2
          have HKK := Lib.hid hkk
          clear hxb hkk
          by_cases hcl : kk ≠ 1 + 1
          · have hg : g = ⟨[], x.next, true⟩ := by have := HM2.out; rw [if_pos hcl] at this; exact (Option.some.inj this).symm
            subst hg
            have gk : (kk != 2) = true := by rw [bne_iff_ne]; exact hcl
            clear hcl
            go_wp2_with fail
            refine (hkind.out x.next _ HV2.out).mono ?_
            rw [HKK.out]
            rintro e w' ⟨rfl, rfl⟩
            go_wp2_with fail
            exact ret_got rfl rfl (K2.out.put _ _ _) rfl ⟨_, rfl, rdO_nil _ _, below_put3 BB2.out _ _ _ _ (Nat.le_refl _)⟩
          · have hkk : kk = 2 := by have := Decidable.not_not.1 hcl; omega
            have hg : g = ⟨x.L, x.next + 1, false⟩ := by have := HM2.out; rw [if_neg hcl] at this; exact (Option.some.inj this).symm
            subst hg
            subst hkk
            clear hcl
            go_wp2_with fail
            have B3 := Lib.hid (below1 w1 (.cells #[.slice ya x.L.length yc, .int .i64 ((x.next : Int) + 1), .bool false] 49))
            have KG3 := Lib.hid (Bk.mk w1 (.slice ya x.L.length yc) (.int .i64 ((x.next : Int) + 1)) (.bool false))
            have K3 := Lib.hid (K1.out.below B3.out)
            have HY3 := Lib.hid (HY.out.below B3.out)
            have BB3 := Lib.hid (B0.out.trans ((HB.out.trans (B3.out.mono HB.out.size)).mono B0.out.size))
            refine (hkind.out x.next _ HV2.out).mono ?_
            rw [HKK.out]
            rintro e w' ⟨rfl, rfl⟩
            clear d1 d2 d3 d4 d5 d6
            obtain ⟨d1, d2, d3, d4, d5, d6⟩ := K3.out.cells
            go_wp2_with fail
            exact ret_got rfl rfl (K3.out.put _ _ _) rfl ⟨_, rfl, (rdO_put3 HY3.out (fun k hk => Nat.ne_of_gt (Nat.lt_of_lt_of_le K0.out.lt hk))).imp (fun b _ hb' => Nat.le_trans B0.out.size hb'), below_put3 BB3.out _ _ _ _ (Nat.le_refl _)⟩
      · go_enter Try.func67, Try.ntmps67
        go_wp2_with fail
        refine (hkind.out p _ HV0.out).mono ?_
        rw [HK.out]
        rintro e w' ⟨rfl, rfl⟩
        go_wp2_with fail
        refine (IX.out _ _ HV0.out).mono ?_
        rintro e w1 ⟨y, rfl, hy, hb⟩
        cases hxb : x.bad with
        | true =>
          have HB := Lib.hid hb
          have HY := Lib.hid hy
          have K1 := Lib.hid (K0.out.below hb)
          have HV1 := Lib.hid (HV0.out.below hb)
          obtain ⟨_, ya, yc, rfl, -⟩ := hy
          have B2 := Lib.hid (below1 w1 (.cells #[.slice ya x.L.length yc, .int .i64 (x.next : Int), .bool true] 49))
          have KG := Lib.hid (Bk.mk w1 (.slice ya x.L.length yc) (.int .i64 (x.next : Int)) (.bool true))
          have K2 := Lib.hid (K1.out.below B2.out)
          have HV2 := Lib.hid (HV1.out.below B2.out)
          have HY2 := Lib.hid (HY.out.below B2.out)
          have BB2 := Lib.hid (B0.out.trans ((hb.trans (B2.out.mono hb.size)).mono B0.out.size))
          have hne : w.heap.size ≠ w1.heap.size := by have := K1.out.lt; omega
          obtain ⟨d1, d2, d3, d4, d5, d6⟩ := K2.out.cells
          obtain ⟨f1, f2, f3, f4, f5, f6⟩ := KG.out.cells
          clear hb
          have hg : g = x := by have := HM.out; rw [hxb, if_pos rfl] at this; exact (Option.some.inj this).symm
          subst hg
          have HXB := Lib.hid hxb
          clear hxb
          go_wp2_with fail
          refine ret_got rfl rfl (K2.out.put _ _ _) rfl ⟨_, by rw [HXB.out], (rdO_put3 HY2.out (fun k hk => Nat.ne_of_gt (Nat.lt_of_lt_of_le K0.out.lt hk))).imp (fun b _ hb' => Nat.le_trans B0.out.size hb'), below_put3 BB2.out _ _ _ _ (Nat.le_refl _)⟩
        | false =>
          have HB := Lib.hid hb
          have HY := Lib.hid hy
          have K1 := Lib.hid (K0.out.below hb)
          have HV1 := Lib.hid (HV0.out.below hb)
          obtain ⟨_, ya, yc, rfl, -⟩ := hy
          have B2 := Lib.hid (below1 w1 (.cells #[.slice ya x.L.length yc, .int .i64 (x.next : Int), .bool false] 49))
          have KG := Lib.hid (Bk.mk w1 (.slice ya x.L.length yc) (.int .i64 (x.next : Int)) (.bool false))
          have K2 := Lib.hid (K1.out.below B2.out)
          have HV2 := Lib.hid (HV1.out.below B2.out)
          have HY2 := Lib.hid (HY.out.below B2.out)
          have BB2 := Lib.hid (B0.out.trans ((hb.trans (B2.out.mono hb.size)).mono B0.out.size))
          have hne : w.heap.size ≠ w1.heap.size := by have := K1.out.lt; omega
          obtain ⟨d1, d2, d3, d4, d5, d6⟩ := K2.out.cells
          obtain ⟨f1, f2, f3, f4, f5, f6⟩ := KG.out.cells
          clear hb
          have HM2 := Lib.hid (by have := HM.out; rw [hxb, if_neg (by decide)] at this; exact this)
          obtain ⟨kk, hkk⟩ : ∃ kk, kd (tkn ts) x.next = kk := ⟨_, rfl⟩
          rw [hkk] at HM2
          have HKK := Lib.hid hkk
          clear hxb hkk
          by_cases hcl : kk ≠ 3 + 1
          · have hg : g = ⟨[], x.next, true⟩ := by have := HM2.out; rw [if_pos hcl] at this; exact (Option.some.inj this).symm
            subst hg
            have gk : (kk != 4) = true := by rw [bne_iff_ne]; exact hcl
            clear hcl
            go_wp2_with fail
            refine (hkind.out x.next _ HV2.out).mono ?_
            rw [HKK.out]
            rintro e w' ⟨rfl, rfl⟩
            go_wp2_with fail
            exact ret_got rfl rfl (K2.out.put _ _ _) rfl ⟨_, rfl, rdO_nil _ _, below_put3 BB2.out _ _ _ _ (Nat.le_refl _)⟩
          · have hkk : kk = 4 := by have := Decidable.not_not.1 hcl; omega
            have hg : g = ⟨nOf 9 :: x.L, x.next + 1, false⟩ := by have := HM2.out; rw [if_neg hcl] at this; exact (Option.some.inj this).symm
            subst hg
            subst hkk
            clear hcl
            go_wp2_with fail
            have B3 := Lib.hid (below1 w1 (.cells #[.slice ya x.L.length yc, .int .i64 ((x.next : Int) + 1), .bool false] 49))
            have KG3 := Lib.hid (Bk.mk w1 (.slice ya x.L.length yc) (.int .i64 ((x.next : Int) + 1)) (.bool false))
            have K3 := Lib.hid (K1.out.below B3.out)
            have HY3 := Lib.hid (HY.out.below B3.out)
            have BB3 := Lib.hid (B0.out.trans ((HB.out.trans (B3.out.mono HB.out.size)).mono B0.out.size))
            refine (hkind.out x.next _ HV2.out).mono ?_
            rw [HKK.out]
            rintro e w' ⟨rfl, rfl⟩
            clear d1 d2 d3 d4 d5 d6
            obtain ⟨d1, d2, d3, d4, d5, d6⟩ := K3.out.cells
            go_wp2_with fail
            refine (oneR_any (nOf 9) _ x.L _ HY3.out.rd (by omega)).mono ?_
            rintro e w4 ⟨u, rfl, hu, hb4⟩
            have HU := Lib.hid ((Ap.RdO.fresh hu).imp (ok' := fun b => w1.heap.size + 1 ≤ b) fun b _ hb' => by simpa using hb')
            have KG4 := Lib.hid (KG3.out.below hb4)
            have K4 := Lib.hid (K3.out.below hb4)
            have BB4 := Lib.hid (BB3.out.trans (hb4.mono BB3.out.size))
            have hlt0 := K0.out.lt
            have hlt1 := K1.out.lt
            have K5 : Hid (Bk (w4.setCell ⟨w1.heap.size, 0, none⟩ u) w.heap.size _ _ _) := Lib.hid ((heap_set w4 w1.heap.size 0 u w.heap.size hne).trans K4.out)
            have HU5 := Lib.hid (rdO_set (g := w1.heap.size) (o := 0) (x := u) HU.out (fun k hk => by omega))
            have BB5 := Lib.hid (below_set BB4.out w1.heap.size 0 u (by omega))
            obtain ⟨_, ua, uc, rfl, -⟩ := HU.out
            clear d1 d2 d3 d4 d5 d6 f1 f2 f3 f4 f5 f6
            obtain ⟨d1, d2, d3, d4, d5, d6⟩ := K4.out.cells
            obtain ⟨f1, f2, f3, f4, f5, f6⟩ := KG4.out.cells
            clear hu hb4
            go_wp2_with fail
            exact ret_got rfl rfl (K5.out.put _ _ _) rfl ⟨_, rfl, (rdO_put3 HU5.out (fun k hk => by omega)).imp (fun b _ hb' => by omega), below_put3 BB5.out _ _ _ _ (Nat.le_refl _)⟩
end Go.Proofs.Ytdhaghabhdeakaa.Pa
