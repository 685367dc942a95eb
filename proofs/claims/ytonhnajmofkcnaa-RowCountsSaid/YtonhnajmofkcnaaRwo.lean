/- RowMakes from the contracts. -/
import Derived.Test.YtonhnajmofkcnaaRwn
import Derived.Test.YtonhnajmofkcnaaRg
namespace Go.Proofs.Ytonhnajmofkcnaa.Rw
open Go Go.RowKit
set_option maxRecDepth 20000

theorem kids_two {x : Nd} {l m : List Nd} (hk : ar x.k = 2) (hl : size l = l.length) (hm : size m = m.length) (h0 : l ≠ []) (h1 : m ≠ []) : kids (x :: (l ++ m)) = [l, m] := by
  have hT : ∀ l : List Nd, size l = l.length → l ≠ [] → ∃ d, T l = some (l.length, d) := by
    intro l hl h0
    cases ht : T l with
    | none =>
      have := size_pos.2 ht
      rw [hl] at this
      exact absurd (List.eq_nil_of_length_eq_zero this) h0
    | some y =>
      obtain ⟨c, d⟩ := y
      have hc : size l = c := by unfold size; rw [ht]
      exact ⟨d, by rw [← hc, hl]⟩
  obtain ⟨d1, t1⟩ := hT l hl h0
  obtain ⟨d2, t2⟩ := hT m hm h1
  have a1 := T_append m t1
  have s1 : S 1 (l ++ m) = some (l.length, max 0 d1) := by
    rw [show (1 : Nat) = 0 + 1 from rfl, S_succ, S_zero]
    simp only [List.drop_zero, a1, Nat.zero_add]
  have dm : (l ++ m).drop l.length = m := by simp
  have s2 : S 2 (l ++ m) = some (l.length + m.length, max (max 0 d1) d2) := by
    rw [show (2 : Nat) = 1 + 1 from rfl, S_succ, s1]
    simp only [dm, t2]
  have hz : size (x :: (l ++ m)) = l.length + m.length + 1 := by
    unfold size
    rw [T_cons, hk, if_neg (by decide), show (2 : Int).toNat = 2 from rfl, s2]
  unfold kids
  rw [if_neg (by omega)]
  simp only [hk]
  rw [show (2 : Int).toNat = 1 + 1 from rfl, kidsN, s1, show (1 : Nat) = 0 + 1 from rfl, kidsN, S_zero]
  have e1 : size (l ++ m) = l.length := by unfold size; rw [a1]
  simp only [Option.getD_some, List.drop_zero, dm, hm, e1, kidsN, List.nil_append, List.take_length]
  simp
theorem rws_new2 {w : World} {v u : Value} {l m : List Nd} (hv : Nds w v l) (hu : Nds w u m) (ty : TypeId) : Rws (w.alloc (.cells #[v, u] ty)) (.slice (some ⟨w.heap.size, 0, none⟩) 2 2) [l, m] := by
  refine ⟨[v, u], ⟨rfl, _, 2, rfl, Nat.le_refl _, fun h => (by cases h), fun _ => ⟨w.heap.size, 0, rfl, fun j y hy => ?_⟩⟩, hv.below (below1 _ _), hu.below (below1 _ _), trivial⟩
  rw [Nat.zero_add, World.cell?_alloc_new]
  simpa using hy
theorem rws_nil (w : World) : Rws w (.slice none 0 0) [] := ⟨[], ⟨rfl, none, 0, rfl, Nat.le_refl _, fun _ => ⟨rfl, rfl⟩, fun h => absurd h (Nat.lt_irrefl 0)⟩, trivial⟩
/-- A boxed node and two rows, below which all is as it was. -/
structure Km (w0 : World) (v u : Value) (x : Nd) (l m : List Nd) (w : World) : Prop where
  bel : Below w0.heap.size w0 w
  l : Nds w v l
  m : Nds w u m
  c0 : w.cell? ⟨w0.heap.size, 0, none⟩ = some (.int .i64 x.k)
  c1 : w.cell? ⟨w0.heap.size, 1, none⟩ = some (.string x.n)
  c2 : w.cell? ⟨w0.heap.size, 2, none⟩ = some (.int .i64 x.s)
theorem Km.below {w0 w w' : World} {v u : Value} {x : Nd} {l m : List Nd} (h : Km w0 v u x l m w) (hb : Below w.heap.size w w') : Km w0 v u x l m w' :=
  ⟨h.bel.trans (hb.mono h.bel.size), h.l.below hb, h.m.below hb, by rw [hb.cell (Ap.cell_lt h.c0)]; exact h.c0, by rw [hb.cell (Ap.cell_lt h.c1)]; exact h.c1, by rw [hb.cell (Ap.cell_lt h.c2)]; exact h.c2⟩
theorem Km.start {w : World} {v u : Value} {l m : List Nd} (x : Nd) (hv : Nds w v l) (hu : Nds w u m) : Km w v u x l m (w.alloc (nb x)) :=
  ⟨below1 _ _, hv.below (below1 _ _), hu.below (below1 _ _), by simp, by simp, by simp⟩
/-- What each operation of the region yields. -/
def RM (x : Nd) (l m : List Nd) (X va vb : Value) (k : Nat) (v : Value) (w' : World) : Prop := match k with
  | 0 => v = X
  | 1 => v = va
  | 2 => v = vb
  | 3 => Rws w' v [l, m]
  | 4 => Nds w' v (x :: (l ++ m))
  | 5 => v = X
  | 6 => v = va
  | 7 => v = vb
  | 8 => Nds w' v (x :: (l ++ m))
  | 9 => v = .bool true
  | 10 => v = .bool false
  | 11 => v = .bool false
  | 12 => v = X
  | 13 => Nds w' v [x]
  | 14 => v = X
  | 15 => Nds w' v [x]
  | 16 => v = .bool true
  | 17 => v = .bool false
  | 18 => v = .bool false
  | _ => True
theorem RM.below {x : Nd} {l m : List Nd} {X va vb : Value} {k : Nat} {v : Value} {w w' : World} (h : RM x l m X va vb k v w) (hb : Below w.heap.size w w') : RM x l m X va vb k v w' := by
  unfold RM at h ⊢
  split at h
  case h_4 => exact Rws.below h hb
  case h_5 => exact Nds.below h hb
  case h_9 => exact Nds.below h hb
  case h_14 => exact Nds.below h hb
  case h_16 => exact Nds.below h hb
  all_goals exact h
theorem GM.put {x : Nd} {l m : List Nd} {X va vb v : Value} {w0 w w' : World} {f : Nat → Bool} {us : Nat → Value} {i : Nat} (g : Rg.Kept (Km w0 va vb x l m) (RM x l m X va vb) f us w) (hb : Below w.heap.size w w') (hv : RM x l m X va vb i v w') :
    Rg.Kept (Km w0 va vb x l m) (RM x l m X va vb) (Rg.upd f i true) (Rg.upd us i v) w' :=
  Rg.Kept.put (Base := Km w0 va vb x l m) (R := RM x l m X va vb) (fun _ _ h hb => Km.below h hb) (fun _ _ _ _ h hb => RM.below h hb) g hb hv

set_option maxHeartbeats 8000000 in
theorem makes_law (C : Con) (x : Nd) (v u : Value) (l m : List Nd) (w : World) (hv : Nds w v l) (hu : Nds w u m) :
    Calls Try.prog 6 #[.agg #[.int .i64 x.k, .string x.n, .int .i64 x.s], v, u] w fun e w' => e = .returned (.bool true) ∧ Below w.heap.size w w' := by
  have I := Lib.hid (Km.start x hv hu)
  obtain ⟨_, a, cap, rfl, -⟩ := hv
  obtain ⟨_, a1, cap1, rfl, -⟩ := hu
  go_enter Try.func6, Try.ntmps6
  go_wp2_with fail
  refine (few_any _ l _ I.out.l).mono ?_
  rintro e w' ⟨rfl, rfl⟩
  by_cases h1 : l.length ≤ 250
  case neg =>
    rw [decide_eq_false h1]
    go_wp2_with fail
    refine (alive_any C _).mono ?_
    rintro e wn ⟨rfl, hb⟩
    go_wp2_with fail
    go_ret
    exact ⟨rfl, (I.out.below hb).bel⟩
  rw [decide_eq_true h1]
  go_wp2_with fail
  refine (few_any _ m _ I.out.m).mono ?_
  rintro e w' ⟨rfl, rfl⟩
  by_cases h2 : m.length ≤ 250
  case neg =>
    rw [decide_eq_false h2]
    go_wp2_with fail
    refine (alive_any C _).mono ?_
    rintro e wn ⟨rfl, hb⟩
    go_wp2_with fail
    go_ret
    exact ⟨rfl, (I.out.below hb).bel⟩
  rw [decide_eq_true h2]
  go_wp2_with fail
  refine Rg.wp_region_kept (by kernel_rfl) [(0, some 17), (1, some 18), (2, some 19), (3, some 20), (4, some 21), (5, some 22), (6, some 23), (7, some 24), (8, some 25), (9, some 26), (10, some 27), (11, some 28), (12, some 29), (13, some 30), (14, some 31), (15, some 32), (16, some 33), (17, some 34), (18, some 35)] (by rfl) (by kernel_rfl) (by kernel_rfl) (Km w (.slice a l.length cap) (.slice a1 m.length cap1) x l m) (RM x l m (ndV x) (.slice a l.length cap) (.slice a1 m.length cap1)) (I.out.below (Below.refl _ _).drew) ?_ ⟨⟨⟨⟨⟨⟨⟨⟨⟨⟨⟨⟨⟨⟨⟨⟨⟨⟨⟨True.intro, ?_⟩, ?_⟩, ?_⟩, ?_⟩, ?_⟩, ?_⟩, ?_⟩, ?_⟩, ?_⟩, ?_⟩, ?_⟩, ?_⟩, ?_⟩, ?_⟩, ?_⟩, ?_⟩, ?_⟩, ?_⟩, ?_⟩ ?_
  · intro k v w' hk
    unfold RM
    split
    case h_20 => trivial
    all_goals exact absurd hk (by decide)
  · intro o ho f us wl al ha g hf hdep K hKf
    obtain rfl := Option.some.inj ho
    have hB := g.1
    have hK : ∀ v w', RM x l m (ndV x) (.slice a l.length cap) (.slice a1 m.length cap1) 0 v w' → Below wl.heap.size wl w' → K (al.put (some 17) v) w' := fun v w' hv hb => hKf v w' (GM.put g hb hv)
    have e3 : al.tmps[3]?.getD undef = .pointer (some ⟨w.heap.size, 0, none⟩) := by rw [← Rg.eval_getD, ha]; exact (Rg.puts_eval_ne _ _ _ (by rfl)).trans rfl
    have c0 := hB.c0
    have c1 := hB.c1
    have c2 := hB.c2
    clear ha hdep g hf hKf
    refine Rg.wpOp_of rfl rfl ?_
    go_simp
    exact hK _ _ rfl (Below.refl _ _)
  · intro o ho f us wl al ha g hf hdep K hKf
    obtain rfl := Option.some.inj ho
    have hB := g.1
    have hK : ∀ v w', RM x l m (ndV x) (.slice a l.length cap) (.slice a1 m.length cap1) 1 v w' → Below wl.heap.size wl w' → K (al.put (some 18) v) w' := fun v w' hv hb => hKf v w' (GM.put g hb hv)
    have e1 : al.tmps[1]?.getD undef = .slice a l.length cap := by rw [← Rg.eval_getD, ha]; exact (Rg.puts_eval_ne _ _ _ (by rfl)).trans rfl
    clear ha hdep g hf hKf
    refine Rg.wpOp_of rfl rfl ?_
    go_simp
    exact hK _ _ rfl (Below.refl _ _)
  · intro o ho f us wl al ha g hf hdep K hKf
    obtain rfl := Option.some.inj ho
    have hB := g.1
    have hK : ∀ v w', RM x l m (ndV x) (.slice a l.length cap) (.slice a1 m.length cap1) 2 v w' → Below wl.heap.size wl w' → K (al.put (some 19) v) w' := fun v w' hv hb => hKf v w' (GM.put g hb hv)
    have e2 : al.tmps[2]?.getD undef = .slice a1 m.length cap1 := by rw [← Rg.eval_getD, ha]; exact (Rg.puts_eval_ne _ _ _ (by rfl)).trans rfl
    clear ha hdep g hf hKf
    refine Rg.wpOp_of rfl rfl ?_
    go_simp
    exact hK _ _ rfl (Below.refl _ _)
  · intro o ho f us wl al ha g hf hdep K hKf
    obtain rfl := Option.some.inj ho
    have hB := g.1
    have hK : ∀ v w', RM x l m (ndV x) (.slice a l.length cap) (.slice a1 m.length cap1) 3 v w' → Below wl.heap.size wl w' → K (al.put (some 20) v) w' := fun v w' hv hb => hKf v w' (GM.put g hb hv)
    have d1 : RM x l m (ndV x) (.slice a l.length cap) (.slice a1 m.length cap1) 1 (us 1) wl := g.2 1 (hdep ⟨1, .data⟩ (by simp) rfl)
    have d2 : RM x l m (ndV x) (.slice a l.length cap) (.slice a1 m.length cap1) 2 (us 2) wl := g.2 2 (hdep ⟨2, .data⟩ (by simp) rfl)
    have e18 : al.tmps[18]?.getD undef = us 1 := by rw [← Rg.eval_getD, ha]; exact Rg.puts_eval _ _ _ (by rfl) (by simp) (by simp)
    have e19 : al.tmps[19]?.getD undef = us 2 := by rw [← Rg.eval_getD, ha]; exact Rg.puts_eval _ _ _ (by rfl) (by simp) (by simp)
    have f1 : us 1 = .slice a l.length cap := d1
    have f2 : us 2 = .slice a1 m.length cap1 := d2
    have HB := Lib.hid hB
    clear ha hdep g hf hKf d1 d2 hB
    refine Rg.wpOp_of rfl rfl ?_
    go_simp
    exact hK _ _ (rws_new2 HB.out.l HB.out.m _) (below1 _ _)
  · intro o ho f us wl al ha g hf hdep K hKf
    obtain rfl := Option.some.inj ho
    have hB := g.1
    have hK : ∀ v w', RM x l m (ndV x) (.slice a l.length cap) (.slice a1 m.length cap1) 4 v w' → Below wl.heap.size wl w' → K (al.put (some 21) v) w' := fun v w' hv hb => hKf v w' (GM.put g hb hv)
    have d0 : RM x l m (ndV x) (.slice a l.length cap) (.slice a1 m.length cap1) 0 (us 0) wl := g.2 0 (hdep ⟨0, .data⟩ (by simp) rfl)
    have d3 : RM x l m (ndV x) (.slice a l.length cap) (.slice a1 m.length cap1) 3 (us 3) wl := g.2 3 (hdep ⟨3, .data⟩ (by simp) rfl)
    have e17 : al.tmps[17]?.getD undef = us 0 := by rw [← Rg.eval_getD, ha]; exact Rg.puts_eval _ _ _ (by rfl) (by simp) (by simp)
    have e20 : al.tmps[20]?.getD undef = us 3 := by rw [← Rg.eval_getD, ha]; exact Rg.puts_eval _ _ _ (by rfl) (by simp) (by simp)
    have f0 : us 0 = ndV x := d0
    unfold ndV at f0
    have D3 : Hid (Rws wl (us 3) [l, m]) := d3
    clear ha hdep g hf hKf d0 d3
    refine Rg.wpOp_of rfl rfl ?_
    go_simp
    refine (C.cMake x _ [l, m] _ D3.out (by simp) (by simp; omega)).mono ?_
    rintro e wn ⟨y, rfl, hy, hb⟩
    refine hK _ _ ?_ hb
    have := hy.rd
    simp only [List.flatten_cons, List.flatten_nil, List.append_nil] at this
    exact this
  · intro o ho f us wl al ha g hf hdep K hKf
    obtain rfl := Option.some.inj ho
    have hB := g.1
    have hK : ∀ v w', RM x l m (ndV x) (.slice a l.length cap) (.slice a1 m.length cap1) 5 v w' → Below wl.heap.size wl w' → K (al.put (some 22) v) w' := fun v w' hv hb => hKf v w' (GM.put g hb hv)
    have e3 : al.tmps[3]?.getD undef = .pointer (some ⟨w.heap.size, 0, none⟩) := by rw [← Rg.eval_getD, ha]; exact (Rg.puts_eval_ne _ _ _ (by rfl)).trans rfl
    have c0 := hB.c0
    have c1 := hB.c1
    have c2 := hB.c2
    clear ha hdep g hf hKf
    refine Rg.wpOp_of rfl rfl ?_
    go_simp
    exact hK _ _ rfl (Below.refl _ _)
  · intro o ho f us wl al ha g hf hdep K hKf
    obtain rfl := Option.some.inj ho
    have hB := g.1
    have hK : ∀ v w', RM x l m (ndV x) (.slice a l.length cap) (.slice a1 m.length cap1) 6 v w' → Below wl.heap.size wl w' → K (al.put (some 23) v) w' := fun v w' hv hb => hKf v w' (GM.put g hb hv)
    have e1 : al.tmps[1]?.getD undef = .slice a l.length cap := by rw [← Rg.eval_getD, ha]; exact (Rg.puts_eval_ne _ _ _ (by rfl)).trans rfl
    clear ha hdep g hf hKf
    refine Rg.wpOp_of rfl rfl ?_
    go_simp
    exact hK _ _ rfl (Below.refl _ _)
  · intro o ho f us wl al ha g hf hdep K hKf
    obtain rfl := Option.some.inj ho
    have hB := g.1
    have hK : ∀ v w', RM x l m (ndV x) (.slice a l.length cap) (.slice a1 m.length cap1) 7 v w' → Below wl.heap.size wl w' → K (al.put (some 24) v) w' := fun v w' hv hb => hKf v w' (GM.put g hb hv)
    have e2 : al.tmps[2]?.getD undef = .slice a1 m.length cap1 := by rw [← Rg.eval_getD, ha]; exact (Rg.puts_eval_ne _ _ _ (by rfl)).trans rfl
    clear ha hdep g hf hKf
    refine Rg.wpOp_of rfl rfl ?_
    go_simp
    exact hK _ _ rfl (Below.refl _ _)
  · intro o ho f us wl al ha g hf hdep K hKf
    obtain rfl := Option.some.inj ho
    have hB := g.1
    have hK : ∀ v w', RM x l m (ndV x) (.slice a l.length cap) (.slice a1 m.length cap1) 8 v w' → Below wl.heap.size wl w' → K (al.put (some 25) v) w' := fun v w' hv hb => hKf v w' (GM.put g hb hv)
    have d5 : RM x l m (ndV x) (.slice a l.length cap) (.slice a1 m.length cap1) 5 (us 5) wl := g.2 5 (hdep ⟨5, .data⟩ (by simp) rfl)
    have d6 : RM x l m (ndV x) (.slice a l.length cap) (.slice a1 m.length cap1) 6 (us 6) wl := g.2 6 (hdep ⟨6, .data⟩ (by simp) rfl)
    have d7 : RM x l m (ndV x) (.slice a l.length cap) (.slice a1 m.length cap1) 7 (us 7) wl := g.2 7 (hdep ⟨7, .data⟩ (by simp) rfl)
    have e22 : al.tmps[22]?.getD undef = us 5 := by rw [← Rg.eval_getD, ha]; exact Rg.puts_eval _ _ _ (by rfl) (by simp) (by simp)
    have e23 : al.tmps[23]?.getD undef = us 6 := by rw [← Rg.eval_getD, ha]; exact Rg.puts_eval _ _ _ (by rfl) (by simp) (by simp)
    have e24 : al.tmps[24]?.getD undef = us 7 := by rw [← Rg.eval_getD, ha]; exact Rg.puts_eval _ _ _ (by rfl) (by simp) (by simp)
    have f5 : us 5 = ndV x := d5
    unfold ndV at f5
    have f6 : us 6 = .slice a l.length cap := d6
    have f7 : us 7 = .slice a1 m.length cap1 := d7
    have HB := Lib.hid hB
    clear ha hdep g hf hKf d5 d6 d7 hB
    refine Rg.wpOp_of rfl rfl ?_
    go_simp
    refine (twoR_any x _ _ l m _ HB.out.l HB.out.m (by omega) (by omega)).mono ?_
    rintro e wn ⟨y, rfl, hy, hb⟩
    exact hK _ _ hy hb
  · intro o ho f us wl al ha g hf hdep K hKf
    obtain rfl := Option.some.inj ho
    have hB := g.1
    have hK : ∀ v w', RM x l m (ndV x) (.slice a l.length cap) (.slice a1 m.length cap1) 9 v w' → Below wl.heap.size wl w' → K (al.put (some 26) v) w' := fun v w' hv hb => hKf v w' (GM.put g hb hv)
    have d4 : RM x l m (ndV x) (.slice a l.length cap) (.slice a1 m.length cap1) 4 (us 4) wl := g.2 4 (hdep ⟨4, .data⟩ (by simp) rfl)
    have d8 : RM x l m (ndV x) (.slice a l.length cap) (.slice a1 m.length cap1) 8 (us 8) wl := g.2 8 (hdep ⟨8, .data⟩ (by simp) rfl)
    have e21 : al.tmps[21]?.getD undef = us 4 := by rw [← Rg.eval_getD, ha]; exact Rg.puts_eval _ _ _ (by rfl) (by simp) (by simp)
    have e25 : al.tmps[25]?.getD undef = us 8 := by rw [← Rg.eval_getD, ha]; exact Rg.puts_eval _ _ _ (by rfl) (by simp) (by simp)
    have DX : Hid (Nds wl (us 4) (x :: (l ++ m))) := d4
    have DY : Hid (Nds wl (us 8) (x :: (l ++ m))) := d8
    clear ha hdep g hf hKf d4 d8
    refine Rg.wpOp_of rfl rfl ?_
    go_simp
    refine (sameR_any _ _ (x :: (l ++ m)) (x :: (l ++ m)) _ DX.out DY.out (by simp; try omega)).mono ?_
    rw [sameN_self]
    rintro e wn ⟨rfl, hb⟩
    exact hK _ _ rfl hb
  · intro o ho f us wl al ha g hf hdep K hKf
    obtain rfl := Option.some.inj ho
    have hB := g.1
    have hK : ∀ v w', RM x l m (ndV x) (.slice a l.length cap) (.slice a1 m.length cap1) 10 v w' → Below wl.heap.size wl w' → K (al.put (some 27) v) w' := fun v w' hv hb => hKf v w' (GM.put g hb hv)
    have d9 : RM x l m (ndV x) (.slice a l.length cap) (.slice a1 m.length cap1) 9 (us 9) wl := g.2 9 (hdep ⟨9, .data⟩ (by simp) rfl)
    have e26 : al.tmps[26]?.getD undef = us 9 := by rw [← Rg.eval_getD, ha]; exact Rg.puts_eval _ _ _ (by rfl) (by simp) (by simp)
    have f9 : us 9 = .bool true := d9
    clear ha hdep g hf hKf d9
    refine Rg.wpOp_of rfl rfl ?_
    go_simp
    exact hK _ _ rfl (Below.refl _ _)
  · intro o ho f us wl al ha g hf hdep K hKf
    obtain rfl := Option.some.inj ho
    have hB := g.1
    have hK : ∀ v w', RM x l m (ndV x) (.slice a l.length cap) (.slice a1 m.length cap1) 11 v w' → Below wl.heap.size wl w' → K (al.put (some 28) v) w' := fun v w' hv hb => hKf v w' (GM.put g hb hv)
    have d10 : RM x l m (ndV x) (.slice a l.length cap) (.slice a1 m.length cap1) 10 (us 10) wl := g.2 10 (hdep ⟨10, .data⟩ (by simp) rfl)
    have e27 : al.tmps[27]?.getD undef = us 10 := by rw [← Rg.eval_getD, ha]; exact Rg.puts_eval _ _ _ (by rfl) (by simp) (by simp)
    have f10 : us 10 = .bool false := d10
    clear ha hdep g hf hKf d10
    refine Rg.wpOp_of rfl rfl ?_
    go_simp
    exact hK _ _ rfl (Below.refl _ _)
  · intro o ho f us wl al ha g hf hdep K hKf
    obtain rfl := Option.some.inj ho
    have hB := g.1
    have hK : ∀ v w', RM x l m (ndV x) (.slice a l.length cap) (.slice a1 m.length cap1) 12 v w' → Below wl.heap.size wl w' → K (al.put (some 29) v) w' := fun v w' hv hb => hKf v w' (GM.put g hb hv)
    have d11 : RM x l m (ndV x) (.slice a l.length cap) (.slice a1 m.length cap1) 11 (us 11) wl := g.2 11 (hdep ⟨11, .guard⟩ (by simp) rfl)
    have g11 : al.eval (.tmp 28) = .bool false := by rw [ha]; exact (Rg.puts_eval _ _ _ (by rfl) (by simp) (by simp)).trans d11
    have e3 : al.tmps[3]?.getD undef = .pointer (some ⟨w.heap.size, 0, none⟩) := by rw [← Rg.eval_getD, ha]; exact (Rg.puts_eval_ne _ _ _ (by rfl)).trans rfl
    have c0 := hB.c0
    have c1 := hB.c1
    have c2 := hB.c2
    clear ha hdep g hf hKf
    refine Rg.wpOp_of rfl (Rg.wanted_of rfl (Rg.yielded_of (d := 28) (by rfl) g11)) ?_
    go_simp
    exact hK _ _ rfl (Below.refl _ _)
  · intro o ho f us wl al ha g hf hdep K hKf
    obtain rfl := Option.some.inj ho
    have hB := g.1
    have hK : ∀ v w', RM x l m (ndV x) (.slice a l.length cap) (.slice a1 m.length cap1) 13 v w' → Below wl.heap.size wl w' → K (al.put (some 30) v) w' := fun v w' hv hb => hKf v w' (GM.put g hb hv)
    have d11 : RM x l m (ndV x) (.slice a l.length cap) (.slice a1 m.length cap1) 11 (us 11) wl := g.2 11 (hdep ⟨11, .guard⟩ (by simp) rfl)
    have g11 : al.eval (.tmp 28) = .bool false := by rw [ha]; exact (Rg.puts_eval _ _ _ (by rfl) (by simp) (by simp)).trans d11
    have d12 : RM x l m (ndV x) (.slice a l.length cap) (.slice a1 m.length cap1) 12 (us 12) wl := g.2 12 (hdep ⟨12, .data⟩ (by simp) rfl)
    have e29 : al.tmps[29]?.getD undef = us 12 := by rw [← Rg.eval_getD, ha]; exact Rg.puts_eval _ _ _ (by rfl) (by simp) (by simp)
    have f12 : us 12 = ndV x := d12
    unfold ndV at f12
    clear ha hdep g hf hKf d12
    refine Rg.wpOp_of rfl (Rg.wanted_of rfl (Rg.yielded_of (d := 28) (by rfl) g11)) ?_
    go_simp
    refine (C.cMake x _ [] _ (rws_nil _) (by simp) (by simp)).mono ?_
    rintro e wn ⟨y, rfl, hy, hb⟩
    exact hK _ _ hy.rd hb
  · intro o ho f us wl al ha g hf hdep K hKf
    obtain rfl := Option.some.inj ho
    have hB := g.1
    have hK : ∀ v w', RM x l m (ndV x) (.slice a l.length cap) (.slice a1 m.length cap1) 14 v w' → Below wl.heap.size wl w' → K (al.put (some 31) v) w' := fun v w' hv hb => hKf v w' (GM.put g hb hv)
    have d11 : RM x l m (ndV x) (.slice a l.length cap) (.slice a1 m.length cap1) 11 (us 11) wl := g.2 11 (hdep ⟨11, .guard⟩ (by simp) rfl)
    have g11 : al.eval (.tmp 28) = .bool false := by rw [ha]; exact (Rg.puts_eval _ _ _ (by rfl) (by simp) (by simp)).trans d11
    have e3 : al.tmps[3]?.getD undef = .pointer (some ⟨w.heap.size, 0, none⟩) := by rw [← Rg.eval_getD, ha]; exact (Rg.puts_eval_ne _ _ _ (by rfl)).trans rfl
    have c0 := hB.c0
    have c1 := hB.c1
    have c2 := hB.c2
    clear ha hdep g hf hKf
    refine Rg.wpOp_of rfl (Rg.wanted_of rfl (Rg.yielded_of (d := 28) (by rfl) g11)) ?_
    go_simp
    exact hK _ _ rfl (Below.refl _ _)
  · intro o ho f us wl al ha g hf hdep K hKf
    obtain rfl := Option.some.inj ho
    have hB := g.1
    have hK : ∀ v w', RM x l m (ndV x) (.slice a l.length cap) (.slice a1 m.length cap1) 15 v w' → Below wl.heap.size wl w' → K (al.put (some 32) v) w' := fun v w' hv hb => hKf v w' (GM.put g hb hv)
    have d11 : RM x l m (ndV x) (.slice a l.length cap) (.slice a1 m.length cap1) 11 (us 11) wl := g.2 11 (hdep ⟨11, .guard⟩ (by simp) rfl)
    have g11 : al.eval (.tmp 28) = .bool false := by rw [ha]; exact (Rg.puts_eval _ _ _ (by rfl) (by simp) (by simp)).trans d11
    have d14 : RM x l m (ndV x) (.slice a l.length cap) (.slice a1 m.length cap1) 14 (us 14) wl := g.2 14 (hdep ⟨14, .data⟩ (by simp) rfl)
    have e31 : al.tmps[31]?.getD undef = us 14 := by rw [← Rg.eval_getD, ha]; exact Rg.puts_eval _ _ _ (by rfl) (by simp) (by simp)
    have f14 : us 14 = ndV x := d14
    unfold ndV at f14
    clear ha hdep g hf hKf d14
    refine Rg.wpOp_of rfl (Rg.wanted_of rfl (Rg.yielded_of (d := 28) (by rfl) g11)) ?_
    go_simp
    exact hK _ _ (nds_new _ [x] _) (below1 _ _)
  · intro o ho f us wl al ha g hf hdep K hKf
    obtain rfl := Option.some.inj ho
    have hB := g.1
    have hK : ∀ v w', RM x l m (ndV x) (.slice a l.length cap) (.slice a1 m.length cap1) 16 v w' → Below wl.heap.size wl w' → K (al.put (some 33) v) w' := fun v w' hv hb => hKf v w' (GM.put g hb hv)
    have d11 : RM x l m (ndV x) (.slice a l.length cap) (.slice a1 m.length cap1) 11 (us 11) wl := g.2 11 (hdep ⟨11, .guard⟩ (by simp) rfl)
    have g11 : al.eval (.tmp 28) = .bool false := by rw [ha]; exact (Rg.puts_eval _ _ _ (by rfl) (by simp) (by simp)).trans d11
    have d13 : RM x l m (ndV x) (.slice a l.length cap) (.slice a1 m.length cap1) 13 (us 13) wl := g.2 13 (hdep ⟨13, .data⟩ (by simp) rfl)
    have d15 : RM x l m (ndV x) (.slice a l.length cap) (.slice a1 m.length cap1) 15 (us 15) wl := g.2 15 (hdep ⟨15, .data⟩ (by simp) rfl)
    have e30 : al.tmps[30]?.getD undef = us 13 := by rw [← Rg.eval_getD, ha]; exact Rg.puts_eval _ _ _ (by rfl) (by simp) (by simp)
    have e32 : al.tmps[32]?.getD undef = us 15 := by rw [← Rg.eval_getD, ha]; exact Rg.puts_eval _ _ _ (by rfl) (by simp) (by simp)
    have DX : Hid (Nds wl (us 13) [x]) := d13
    have DY : Hid (Nds wl (us 15) [x]) := d15
    clear ha hdep g hf hKf d13 d15
    refine Rg.wpOp_of rfl (Rg.wanted_of rfl (Rg.yielded_of (d := 28) (by rfl) g11)) ?_
    go_simp
    refine (sameR_any _ _ [x] [x] _ DX.out DY.out (by simp; try omega)).mono ?_
    rw [sameN_self]
    rintro e wn ⟨rfl, hb⟩
    exact hK _ _ rfl hb
  · intro o ho f us wl al ha g hf hdep K hKf
    obtain rfl := Option.some.inj ho
    have hB := g.1
    have hK : ∀ v w', RM x l m (ndV x) (.slice a l.length cap) (.slice a1 m.length cap1) 17 v w' → Below wl.heap.size wl w' → K (al.put (some 34) v) w' := fun v w' hv hb => hKf v w' (GM.put g hb hv)
    have d11 : RM x l m (ndV x) (.slice a l.length cap) (.slice a1 m.length cap1) 11 (us 11) wl := g.2 11 (hdep ⟨11, .guard⟩ (by simp) rfl)
    have g11 : al.eval (.tmp 28) = .bool false := by rw [ha]; exact (Rg.puts_eval _ _ _ (by rfl) (by simp) (by simp)).trans d11
    have d16 : RM x l m (ndV x) (.slice a l.length cap) (.slice a1 m.length cap1) 16 (us 16) wl := g.2 16 (hdep ⟨16, .data⟩ (by simp) rfl)
    have e33 : al.tmps[33]?.getD undef = us 16 := by rw [← Rg.eval_getD, ha]; exact Rg.puts_eval _ _ _ (by rfl) (by simp) (by simp)
    have f16 : us 16 = .bool true := d16
    clear ha hdep g hf hKf d16
    refine Rg.wpOp_of rfl (Rg.wanted_of rfl (Rg.yielded_of (d := 28) (by rfl) g11)) ?_
    go_simp
    exact hK _ _ rfl (Below.refl _ _)
  · intro o ho f us wl al ha g hf hdep K hKf
    obtain rfl := Option.some.inj ho
    have hB := g.1
    have hK : ∀ v w', RM x l m (ndV x) (.slice a l.length cap) (.slice a1 m.length cap1) 18 v w' → Below wl.heap.size wl w' → K (al.put (some 35) v) w' := fun v w' hv hb => hKf v w' (GM.put g hb hv)
    have d11 : RM x l m (ndV x) (.slice a l.length cap) (.slice a1 m.length cap1) 11 (us 11) wl := g.2 11 (hdep ⟨11, .data⟩ (by simp) rfl)
    have d17 : RM x l m (ndV x) (.slice a l.length cap) (.slice a1 m.length cap1) 17 (us 17) wl := g.2 17 (hdep ⟨17, .data⟩ (by simp) rfl)
    have e28 : al.tmps[28]?.getD undef = us 11 := by rw [← Rg.eval_getD, ha]; exact Rg.puts_eval _ _ _ (by rfl) (by simp) (by simp)
    have e34 : al.tmps[34]?.getD undef = us 17 := by rw [← Rg.eval_getD, ha]; exact Rg.puts_eval _ _ _ (by rfl) (by simp) (by simp)
    have f11 : us 11 = .bool false := d11
    have f17 : us 17 = .bool false := d17
    clear ha hdep g hf hKf d11 d17
    refine Rg.wpOp_of rfl rfl ?_
    go_simp
    exact hK _ _ rfl (Below.refl _ _)
  · intro us wz hB hR
    have f18 : us 18 = .bool false := hR 18
    have I2 := Lib.hid hB
    clear hB hR I
    simp only [Rg.puts, Act.put, List.setIfInBounds_toArray, List.set_cons_zero, List.set_cons_succ, f18]
    obtain ⟨A, hA⟩ : ∃ A, ar x.k = A := ⟨_, rfl⟩
    obtain ⟨s1, hs1⟩ : ∃ s, size l = s := ⟨_, rfl⟩
    obtain ⟨s2, hs2⟩ : ∃ s, size m = s := ⟨_, rfl⟩
    have HA := Lib.hid hA
    have HS1 := Lib.hid hs1
    have HS2 := Lib.hid hs2
    clear hA hs1 hs2
    have c0 := I2.out.c0
    go_wp2_with fail
    refine (arR_any _ _).mono ?_
    rw [HA.out]
    rintro e wn ⟨rfl, rfl⟩
    by_cases hk : A = 2
    case neg =>
      have g1 : (A != 2) = true := by rw [bne_iff_ne]; exact hk
      have g2 : (A == 2) = false := by rw [beq_eq_false_iff_ne]; exact hk
      go_wp2_with fail
      refine (alive_any C _).mono ?_
      rintro e wn ⟨rfl, hb⟩
      go_wp2_with fail
      go_ret
      exact ⟨rfl, (I2.out.below hb).bel⟩
    subst hk
    go_wp2_with fail
    refine (sizeR_any _ l _ I2.out.l (by omega)).mono ?_
    rw [HS1.out]
    rintro e wn ⟨rfl, rfl⟩
    by_cases hz1 : s1 = l.length
    case neg =>
      have ga1 : ((s1 : Int) != (l.length : Int)) = true := by rw [bne_iff_ne]; omega
      have ga2 : ((s1 : Int) == (l.length : Int)) = false := by rw [beq_eq_false_iff_ne]; omega
      go_wp2_with fail
      refine (alive_any C _).mono ?_
      rintro e wn ⟨rfl, hb⟩
      go_wp2_with fail
      go_ret
      exact ⟨rfl, (I2.out.below hb).bel⟩
    subst hz1
    go_wp2_with fail
    refine (sizeR_any _ m _ I2.out.m (by omega)).mono ?_
    rw [HS2.out]
    rintro e wn ⟨rfl, rfl⟩
    by_cases hz2 : s2 = m.length
    case neg =>
      have gb1 : ((s2 : Int) != (m.length : Int)) = true := by rw [bne_iff_ne]; omega
      have gb2 : ((s2 : Int) == (m.length : Int)) = false := by rw [beq_eq_false_iff_ne]; omega
      go_wp2_with fail
      refine (alive_any C _).mono ?_
      rintro e wn ⟨rfl, hb⟩
      go_wp2_with fail
      go_ret
      exact ⟨rfl, (I2.out.below hb).bel⟩
    subst hz2
    by_cases hn1 : l.length = 0
    case pos =>
      have gc : ((l.length : Int) == 0) = true := by rw [beq_iff_eq]; omega
      go_wp2_with fail
      refine (alive_any C _).mono ?_
      rintro e wn ⟨rfl, hb⟩
      go_wp2_with fail
      go_ret
      exact ⟨rfl, (I2.out.below hb).bel⟩
    have gc : ((l.length : Int) == 0) = false := by rw [beq_eq_false_iff_ne]; omega
    by_cases hn2 : m.length = 0
    case pos =>
      have gd : ((m.length : Int) == 0) = true := by rw [beq_iff_eq]; omega
      go_wp2_with fail
      refine (alive_any C _).mono ?_
      rintro e wn ⟨rfl, hb⟩
      go_wp2_with fail
      go_ret
      exact ⟨rfl, (I2.out.below hb).bel⟩
    have gd : ((m.length : Int) == 0) = false := by rw [beq_eq_false_iff_ne]; omega
    have HKT := Lib.hid (kids_two (x := x) HA.out HS1.out HS2.out (fun e => hn1 (by rw [e]; rfl)) (fun e => hn2 (by rw [e]; rfl)))
    have c1 := I2.out.c1
    have c2 := I2.out.c2
    have HW := Lib.hid (rws_new2 I2.out.l I2.out.m 27)
    have HB0 := Lib.hid (below1 wz (.cells #[.slice a l.length cap, .slice a1 m.length cap1] 27))
    go_wp2_with fail
    refine (C.cMake x _ [l, m] _ HW.out (by simp) (by simp; omega)).mono ?_
    rintro e wn ⟨y, rfl, hy0, hb⟩
    have hy := hy0.rd
    clear hy0
    replace I2 := Lib.hid ((I2.out.below HB0.out).below hb)
    simp only [List.flatten_cons, List.flatten_nil, List.append_nil] at hy
    have HY : Hid (Nds wn y (x :: (l ++ m))) := hy
    clear hb hy HW HB0 c0 c1 c2
    go_wp2_with fail
    refine (C.cKids _ (x :: (l ++ m)) _ HY.out (by simp; omega)).mono ?_
    rw [HKT.out]
    rintro e w1 ⟨y, cs, rfl, hy, ho, hb⟩
    replace I2 := Lib.hid (I2.out.below hb)
    obtain ⟨b, o, c, a0, a1', rfl, k0, k1, hn0, hn1'⟩ := two_rows hy.rd ho.rwc
    have K0 := Lib.hid k0
    have K1 := Lib.hid k1
    have N0 := Lib.hid hn0
    have N1 := Lib.hid hn1'
    clear hb hy ho k0 k1 cs hn0 hn1' HY
    go_wp2_with fail
    refine (alive_any C _).mono ?_
    rintro e w2 ⟨rfl, hb⟩
    replace I2 := Lib.hid (I2.out.below hb)
    replace N0 := Lib.hid (N0.out.below hb)
    replace N1 := Lib.hid (N1.out.below hb)
    have k0 : w2.cell? ⟨b, o, none⟩ = some a0 := by rw [hb.cell (Ap.cell_lt K0.out)]; exact K0.out
    have k1 : w2.cell? ⟨b, o + 1, none⟩ = some a1' := by rw [hb.cell (Ap.cell_lt K1.out)]; exact K1.out
    clear hb K0
    replace K1 := Lib.hid k1
    go_wp2_with fail
    refine (sameR_any _ _ l l _ N0.out I2.out.l (by omega)).mono ?_
    rw [sameN_self]
    rintro e w3 ⟨rfl, hb⟩
    replace I2 := Lib.hid (I2.out.below hb)
    replace N1 := Lib.hid (N1.out.below hb)
    clear k0 k1
    have k1 : w3.cell? ⟨b, o + 1, none⟩ = some a1' := by rw [hb.cell (Ap.cell_lt K1.out)]; exact K1.out
    clear hb
    go_wp2_with fail
    refine (sameR_any _ _ m m _ N1.out I2.out.m (by omega)).mono ?_
    rw [sameN_self]
    rintro e w4 ⟨rfl, hb⟩
    replace I2 := Lib.hid (I2.out.below hb)
    clear hb
    go_wp2_with fail
    go_ret
    exact ⟨rfl, I2.out.bel⟩
end Go.Proofs.Ytonhnajmofkcnaa.Rw
