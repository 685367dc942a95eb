/- The document's Strip of layer 8. -/
import Derived.Test.YtpkbpooiaddcaaaRfd
import Derived.Test.YtpkbpooiaddcaaaRwsa
import Derived.Test.YtpkbpooiaddcaaaRg
namespace Go.Proofs.Ytpkbpooiaddcaaa.Rf
open Go Go.RowKit Go.Proofs.Ytpkbpooiaddcaaa.Rw
set_option maxRecDepth 20000

theorem eq_nd (x y : Nd) (w : World) : (binOp .eql 39 (.agg #[.int .i64 x.k, .string x.n, .int .i64 x.s]) (.agg #[.int .i64 y.k, .string y.n, .int .i64 y.s])).run Try.prog w = .ok (.bool (decide (x = y))) w := by
  rw [run_eql_struct, show (10000 : Nat) = 9998 + 2 from rfl, eql_nd]
  rfl
theorem wp_append_run {P : Program} {w : World} {o : Oper} {a : Act} {K : Act → World → Prop} {Q : Exit → Act → World → Prop} (s x : Operand) (t tx : TypeId)
    (ho : o.op = .call { callee := .builtin .append, args := #[s, x], argTypes := #[t, tx] }) (vs vx : Value) (hs : a.eval s = vs) (hx : a.eval x = vx) (v' : Value) (w' : World) (hrun : (Builtin.append_ #[t, tx] o.type #[vs, vx]).run P w = .ok v' w')
    (h : K (a.put o.dst v') w') : o.wp P a w K Q := by
  unfold Oper.wp
  simp [execOp, ho, resolve, invoke, builtin, hs, hx, hrun, Result.andThen]
  exact h
/-- A node of its own, and a row behind it. -/
theorem cons_run {w : World} {g : Nat} {x : Nd} {y : Value} {r : List Nd} (hv : Nds w (.slice (some ⟨g, 0, none⟩) 1 1) [x]) (hy : Nds w y r) (hr : r.length ≤ 1000000) :
    ∃ v' w', (Builtin.append_ #[22, 22] 22 #[.slice (some ⟨g, 0, none⟩) 1 1, y]).run Try.prog w = .ok v' w' ∧ Nds w' v' (x :: r) ∧ Below w.heap.size w w' := by
  obtain ⟨i0, hi, hz, hs1, hb8⟩ := info_parts infoN
  obtain ⟨v', w', h1, h2, h3⟩ := Ap.run_append_full (P := Try.prog) (ty := 22) Try.underlying22 hi hz hs1 hb8 (by rfl) (by omega) hv hy cls_one (by unfold maxLen; omega) (by omega)
  refine ⟨v', w', h1, ?_, h3⟩
  rw [← cls_append] at h2
  have e : 1 + r.length = (x :: r).length := by rw [List.length_cons, Nat.add_comm]
  rw [e] at h2
  exact h2
/-- What a row without its first nodes is. -/
theorem drop_nds {w : World} {b off cap : Nat} {l : List Nd} (h : At w b off l) (hc : l.length ≤ cap) (d : Nat) (hd : d ≤ l.length) : Nds w (.slice (some ⟨b, off + d * 3, none⟩) (l.length - d) (cap - d)) (l.drop d) := by
  have := part_nds h d (l.length - d) (cap - d) (by omega) (by omega)
  rwa [List.take_of_length_le (by rw [List.length_drop]; exact Nat.le_refl _)] at this
theorem empty_nds (w : World) (b o c : Nat) : Nds w (.slice (some ⟨b, o, none⟩) 0 c) [] := ⟨rfl, _, c, rfl, Nat.zero_le _, fun h => (by cases h), fun h => absurd h (Nat.lt_irrefl 0)⟩

/-- What each operation of the last region yields. -/
def RS (b off L cap p : Nat) (x : Nd) (r r' : List Nd) (k : Nat) (v : Value) (w' : World) : Prop := match k with
  | 0 => v = .slice (some ⟨b, off, none⟩) L cap
  | 1 => v = .pointer (some ⟨b, p, none⟩)
  | 2 => v = .agg #[.int .i64 x.k, .string x.n, .int .i64 x.s]
  | 3 => ∃ g, v = .slice (some ⟨g, 0, none⟩) 1 1 ∧ Nds w' v [x]
  | 4 => v = .slice (some ⟨b, off, none⟩) L cap
  | 5 => Nds w' v r
  | 6 => Nds w' v r'
  | 7 => Nds w' v (x :: r')
  | 8 => Nds w' v (x :: r')
  | _ => True
theorem RS.below {b off L cap p : Nat} {x : Nd} {r r' : List Nd} {k : Nat} {v : Value} {w w' : World} (h : RS b off L cap p x r r' k v w) (hb : Below w.heap.size w w') : RS b off L cap p x r r' k v w' := by
  unfold RS at h ⊢
  split at h
  case h_4 =>
    obtain ⟨g, h1, h2⟩ := h
    exact ⟨g, h1, h2.below hb⟩
  case h_6 => exact Nds.below h hb
  case h_7 => exact Nds.below h hb
  case h_8 => exact Nds.below h hb
  case h_9 => exact Nds.below h hb
  all_goals exact h
def StripC (l : List Nd) : Prop := ∀ (v : Value) (w : World), Nds w v l → Calls Try.prog 18 #[v] w fun e w' => ∃ y, e = .returned y ∧ Nds w' y (strip l) ∧ Below w.heap.size w w'

set_option maxHeartbeats 1000000 in
theorem stripR_empty (a : Option Addr) (cap : Nat) (w : World) : Calls Try.prog 18 #[.slice a 0 cap] w fun e w' => ∃ y, e = .returned y ∧ Nds w' y [] ∧ Below w.heap.size w w' := by
  go_enter Try.func18, Try.ntmps18
  go_wp2_with fail
  go_ret
  exact ⟨_, rfl, (Got.start w).nds, Below.refl _ _⟩

theorem not_pat3 {l : List Nd} (h : 3 ≤ l.length) (hp : ¬ (l[0] = alt ∧ l[1].k = 1 ∧ l[2] = thr)) : strip l = l[0] :: strip (l.drop 1) := by
  match l, h with
  | a :: x :: c :: r, _ => exact strip_not hp
theorem is_pat3 {l : List Nd} (h : 3 ≤ l.length) (h0 : l[0] = alt) (h1 : l[1].k = 1) (h2 : l[2] = thr) : strip l = l[1] :: strip (l.drop 3) := by
  match l, h with
  | a :: x :: c :: r, _ =>
    obtain rfl : a = alt := h0
    obtain rfl : c = thr := h2
    exact strip_pat x h1 r
theorem short_pat {l : List Nd} (h0 : 0 < l.length) (h : l.length < 3) : strip l = l[0] :: strip (l.drop 1) := by
  match l, h0, h with
  | [a], _, _ => rfl
  | [a, x], _, _ => rfl

set_option maxHeartbeats 8000000 in
theorem stripR_short (b off cap : Nat) (l : List Nd) (w : World) (hl : l.length ≤ 1000000) (hc : l.length ≤ cap) (hat : At w b off l) (ih : ∀ l' : List Nd, l'.length < l.length → l'.length ≤ 1000000 → StripC l') (h0 : 0 < l.length) (h3 : l.length < 3) :
    Calls Try.prog 18 #[.slice (some ⟨b, off, none⟩) l.length cap] w fun e w' => ∃ y, e = .returned y ∧ Nds w' y (strip l) ∧ Below w.heap.size w w' := by
  have HA := Lib.hid hat
  obtain ⟨e1, e2, e3⟩ := HA.out 0 (by omega)
  have HC : Hid (∀ wx, Below w.heap.size w wx → wx.cell? ⟨b, off, none⟩ = some (.int .i64 l[0].k) ∧ wx.cell? ⟨b, off + 1, none⟩ = some (.string l[0].n) ∧ wx.cell? ⟨b, off + 2, none⟩ = some (.int .i64 l[0].s)) := Lib.hid fun wx hb => ⟨by rw [hb.cell (Ap.cell_lt (by simpa using e1))]; simpa using e1, by rw [hb.cell (Ap.cell_lt (by simpa using e2))]; simpa using e2, by rw [hb.cell (Ap.cell_lt (by simpa using e3))]; simpa using e3⟩
  have HIH : Hid (StripC (l.drop 1)) := Lib.hid (ih _ (by rw [List.length_drop]; omega) (by rw [List.length_drop]; omega))
  have HP := Lib.hid (fun wx (hb : Below w.heap.size w wx) => drop_nds (At.below HA.out hb) hc 1 (by omega))
  have HS := Lib.hid (short_pat h0 h3)
  have HLN : Hid ((strip (l.drop 1)).length ≤ 1000000) := Lib.hid (Nat.le_trans (strip_len _ _ (Nat.le_refl _)) (by rw [List.length_drop]; omega))
  obtain ⟨x, hx⟩ : ∃ x, l[0] = x := ⟨_, rfl⟩
  rw [hx] at HC HS
  clear e1 e2 e3 hx
  clear hat ih
  go_enter Try.func18, Try.ntmps18
  go_wp2_with fail
  refine Rg.wp_region_kept (by kernel_rfl) [(0, some 38), (1, some 39), (2, some 40), (3, some 41), (4, some 42), (5, some 43), (6, some 44), (7, some 45), (8, some 2)] (by rfl) (by kernel_rfl) (by kernel_rfl) (fun w' => Below w.heap.size w w') (RS b off l.length cap off x (l.drop 1) (strip (l.drop 1))) ((Below.refl _ _).drew) ?_ ⟨⟨⟨⟨⟨⟨⟨⟨⟨True.intro, ?_⟩, ?_⟩, ?_⟩, ?_⟩, ?_⟩, ?_⟩, ?_⟩, ?_⟩, ?_⟩ ?_
  · intro k v w' hk
    unfold RS
    split
    case h_10 => trivial
    all_goals exact absurd hk (by decide)
  · intro o ho f us wl al ha g hf hdep K hKf
    obtain rfl := Option.some.inj ho
    have hB := Lib.hid g.1
    have hK : ∀ v w', (RS b off l.length cap off x (l.drop 1) (strip (l.drop 1))) 0 v w' → Below wl.heap.size wl w' → K (al.put (some 38) v) w' := fun v w' hv hb => hKf v w' (Rg.Kept.put (Base := fun w' => Below w.heap.size w w') (R := RS b off l.length cap off x (l.drop 1) (strip (l.drop 1))) (fun _ _ h hb => h.trans (hb.mono h.size)) (fun _ _ _ _ h hb => RS.below h hb) g hb hv)
    have e0 : al.tmps[0]?.getD undef = .slice (some ⟨b, off, none⟩) l.length cap := by rw [← Rg.eval_getD, ha]; exact (Rg.puts_eval_ne _ _ _ (by rfl)).trans rfl
    clear ha hdep g hf hKf
    refine Rg.wpOp_of rfl rfl ?_
    go_simp
    exact hK _ _ rfl (Below.refl _ _)
  · intro o ho f us wl al ha g hf hdep K hKf
    obtain rfl := Option.some.inj ho
    have hB := Lib.hid g.1
    have hK : ∀ v w', (RS b off l.length cap off x (l.drop 1) (strip (l.drop 1))) 1 v w' → Below wl.heap.size wl w' → K (al.put (some 39) v) w' := fun v w' hv hb => hKf v w' (Rg.Kept.put (Base := fun w' => Below w.heap.size w w') (R := RS b off l.length cap off x (l.drop 1) (strip (l.drop 1))) (fun _ _ h hb => h.trans (hb.mono h.size)) (fun _ _ _ _ h hb => RS.below h hb) g hb hv)
    have d0 : (RS b off l.length cap off x (l.drop 1) (strip (l.drop 1))) 0 (us 0) wl := g.2 0 (hdep ⟨0, .data⟩ (by simp) rfl)
    have e38 : al.tmps[38]?.getD undef = us 0 := by rw [← Rg.eval_getD, ha]; exact Rg.puts_eval _ _ _ (by rfl) (by simp) (by simp)
    clear ha hdep g hf hKf
    have f0 : us 0 = .slice (some ⟨b, off, none⟩) l.length cap := d0
    clear d0
    have hjn : 0 < l.length := by omega
    have hji : (0 : Int) < (l.length : Int) := by omega
    refine Rg.wpOp_of rfl rfl ?_
    go_simp
    exact hK _ _ rfl (Below.refl _ _)
  · intro o ho f us wl al ha g hf hdep K hKf
    obtain rfl := Option.some.inj ho
    have hB := Lib.hid g.1
    have hK : ∀ v w', (RS b off l.length cap off x (l.drop 1) (strip (l.drop 1))) 2 v w' → Below wl.heap.size wl w' → K (al.put (some 40) v) w' := fun v w' hv hb => hKf v w' (Rg.Kept.put (Base := fun w' => Below w.heap.size w w') (R := RS b off l.length cap off x (l.drop 1) (strip (l.drop 1))) (fun _ _ h hb => h.trans (hb.mono h.size)) (fun _ _ _ _ h hb => RS.below h hb) g hb hv)
    have d1 : (RS b off l.length cap off x (l.drop 1) (strip (l.drop 1))) 1 (us 1) wl := g.2 1 (hdep ⟨1, .data⟩ (by simp) rfl)
    have e39 : al.tmps[39]?.getD undef = us 1 := by rw [← Rg.eval_getD, ha]; exact Rg.puts_eval _ _ _ (by rfl) (by simp) (by simp)
    clear ha hdep g hf hKf
    have f1 : us 1 = .pointer (some ⟨b, off, none⟩) := d1
    clear d1
    obtain ⟨q1, q2, q3⟩ := HC.out wl hB.out
    refine Rg.wpOp_of rfl rfl ?_
    go_simp
    exact hK _ _ rfl (Below.refl _ _)
  · intro o ho f us wl al ha g hf hdep K hKf
    obtain rfl := Option.some.inj ho
    have hB := Lib.hid g.1
    have hK : ∀ v w', (RS b off l.length cap off x (l.drop 1) (strip (l.drop 1))) 3 v w' → Below wl.heap.size wl w' → K (al.put (some 41) v) w' := fun v w' hv hb => hKf v w' (Rg.Kept.put (Base := fun w' => Below w.heap.size w w') (R := RS b off l.length cap off x (l.drop 1) (strip (l.drop 1))) (fun _ _ h hb => h.trans (hb.mono h.size)) (fun _ _ _ _ h hb => RS.below h hb) g hb hv)
    have d2 : (RS b off l.length cap off x (l.drop 1) (strip (l.drop 1))) 2 (us 2) wl := g.2 2 (hdep ⟨2, .data⟩ (by simp) rfl)
    have e40 : al.tmps[40]?.getD undef = us 2 := by rw [← Rg.eval_getD, ha]; exact Rg.puts_eval _ _ _ (by rfl) (by simp) (by simp)
    clear ha hdep g hf hKf
    have f2 : us 2 = .agg #[.int .i64 x.k, .string x.n, .int .i64 x.s] := d2
    clear d2
    refine Rg.wpOp_of rfl rfl ?_
    go_simp
    exact hK _ _ ⟨_, rfl, nds_new wl [x] _⟩ (below1 wl _)
  · intro o ho f us wl al ha g hf hdep K hKf
    obtain rfl := Option.some.inj ho
    have hB := Lib.hid g.1
    have hK : ∀ v w', (RS b off l.length cap off x (l.drop 1) (strip (l.drop 1))) 4 v w' → Below wl.heap.size wl w' → K (al.put (some 42) v) w' := fun v w' hv hb => hKf v w' (Rg.Kept.put (Base := fun w' => Below w.heap.size w w') (R := RS b off l.length cap off x (l.drop 1) (strip (l.drop 1))) (fun _ _ h hb => h.trans (hb.mono h.size)) (fun _ _ _ _ h hb => RS.below h hb) g hb hv)
    have e0 : al.tmps[0]?.getD undef = .slice (some ⟨b, off, none⟩) l.length cap := by rw [← Rg.eval_getD, ha]; exact (Rg.puts_eval_ne _ _ _ (by rfl)).trans rfl
    clear ha hdep g hf hKf
    refine Rg.wpOp_of rfl rfl ?_
    go_simp
    exact hK _ _ rfl (Below.refl _ _)
  · intro o ho f us wl al ha g hf hdep K hKf
    obtain rfl := Option.some.inj ho
    have hB := Lib.hid g.1
    have hK : ∀ v w', (RS b off l.length cap off x (l.drop 1) (strip (l.drop 1))) 5 v w' → Below wl.heap.size wl w' → K (al.put (some 43) v) w' := fun v w' hv hb => hKf v w' (Rg.Kept.put (Base := fun w' => Below w.heap.size w w') (R := RS b off l.length cap off x (l.drop 1) (strip (l.drop 1))) (fun _ _ h hb => h.trans (hb.mono h.size)) (fun _ _ _ _ h hb => RS.below h hb) g hb hv)
    have d4 : (RS b off l.length cap off x (l.drop 1) (strip (l.drop 1))) 4 (us 4) wl := g.2 4 (hdep ⟨4, .data⟩ (by simp) rfl)
    have e42 : al.tmps[42]?.getD undef = us 4 := by rw [← Rg.eval_getD, ha]; exact Rg.puts_eval _ _ _ (by rfl) (by simp) (by simp)
    clear ha hdep g hf hKf
    have f4 : us 4 = .slice (some ⟨b, off, none⟩) l.length cap := d4
    clear d4
    have hdd : (1 : Int) ≤ (l.length : Int) := by omega
    have hpp := HP.out wl hB.out
    by_cases hcd : cap = 1
    · have hld : l.length = 1 := by omega
      have hnil : l.drop 1 = [] := List.drop_eq_nil_of_le (by omega)
      rw [hnil] at hK
      refine Rg.wpOp_of rfl rfl ?_
      go_simp
      exact hK _ _ (empty_nds _ _ _ _) (Below.refl _ _)
    · refine Rg.wpOp_of rfl rfl ?_
      go_simp
      exact hK _ _ hpp (Below.refl _ _)
  · intro o ho f us wl al ha g hf hdep K hKf
    obtain rfl := Option.some.inj ho
    have hB := Lib.hid g.1
    have hK : ∀ v w', (RS b off l.length cap off x (l.drop 1) (strip (l.drop 1))) 6 v w' → Below wl.heap.size wl w' → K (al.put (some 44) v) w' := fun v w' hv hb => hKf v w' (Rg.Kept.put (Base := fun w' => Below w.heap.size w w') (R := RS b off l.length cap off x (l.drop 1) (strip (l.drop 1))) (fun _ _ h hb => h.trans (hb.mono h.size)) (fun _ _ _ _ h hb => RS.below h hb) g hb hv)
    have d5 : (RS b off l.length cap off x (l.drop 1) (strip (l.drop 1))) 5 (us 5) wl := g.2 5 (hdep ⟨5, .data⟩ (by simp) rfl)
    have e43 : al.tmps[43]?.getD undef = us 5 := by rw [← Rg.eval_getD, ha]; exact Rg.puts_eval _ _ _ (by rfl) (by simp) (by simp)
    clear ha hdep g hf hKf
    have d5' : Nds wl (us 5) (l.drop 1) := d5
    refine Rg.wpOp_of rfl rfl ?_
    go_simp
    refine (HIH.out _ _ d5').mono ?_
    rintro e w' ⟨y, rfl, hy, hb⟩
    exact hK _ _ hy hb
  · intro o ho f us wl al ha g hf hdep K hKf
    obtain rfl := Option.some.inj ho
    have hB := Lib.hid g.1
    have hK : ∀ v w', (RS b off l.length cap off x (l.drop 1) (strip (l.drop 1))) 7 v w' → Below wl.heap.size wl w' → K (al.put (some 45) v) w' := fun v w' hv hb => hKf v w' (Rg.Kept.put (Base := fun w' => Below w.heap.size w w') (R := RS b off l.length cap off x (l.drop 1) (strip (l.drop 1))) (fun _ _ h hb => h.trans (hb.mono h.size)) (fun _ _ _ _ h hb => RS.below h hb) g hb hv)
    have d3 : (RS b off l.length cap off x (l.drop 1) (strip (l.drop 1))) 3 (us 3) wl := g.2 3 (hdep ⟨3, .data⟩ (by simp) rfl)
    have e41 : al.tmps[41]?.getD undef = us 3 := by rw [← Rg.eval_getD, ha]; exact Rg.puts_eval _ _ _ (by rfl) (by simp) (by simp)
    have d6 : (RS b off l.length cap off x (l.drop 1) (strip (l.drop 1))) 6 (us 6) wl := g.2 6 (hdep ⟨6, .data⟩ (by simp) rfl)
    have e44 : al.tmps[44]?.getD undef = us 6 := by rw [← Rg.eval_getD, ha]; exact Rg.puts_eval _ _ _ (by rfl) (by simp) (by simp)
    clear ha hdep g hf hKf
    obtain ⟨g, f3, hn3⟩ : ∃ g, us 3 = .slice (some ⟨g, 0, none⟩) 1 1 ∧ Nds wl (us 3) [x] := d3
    have d6' : Nds wl (us 6) (strip (l.drop 1)) := d6
    rw [f3] at hn3
    obtain ⟨v', w', hrun, hnds, hbe⟩ := cons_run hn3 d6' (HLN.out)
    refine Rg.wpOp_of rfl rfl ?_
    exact wp_append_run _ _ _ _ rfl _ _ (by rw [Rg.eval_getD]; exact e41.trans f3) (by rw [Rg.eval_getD]; exact e44) _ w' hrun (hK _ _ hnds hbe)
  · intro o ho f us wl al ha g hf hdep K hKf
    obtain rfl := Option.some.inj ho
    have hB := Lib.hid g.1
    have hK : ∀ v w', (RS b off l.length cap off x (l.drop 1) (strip (l.drop 1))) 8 v w' → Below wl.heap.size wl w' → K (al.put (some 2) v) w' := fun v w' hv hb => hKf v w' (Rg.Kept.put (Base := fun w' => Below w.heap.size w w') (R := RS b off l.length cap off x (l.drop 1) (strip (l.drop 1))) (fun _ _ h hb => h.trans (hb.mono h.size)) (fun _ _ _ _ h hb => RS.below h hb) g hb hv)
    have d7 : (RS b off l.length cap off x (l.drop 1) (strip (l.drop 1))) 7 (us 7) wl := g.2 7 (hdep ⟨7, .data⟩ (by simp) rfl)
    have e45 : al.tmps[45]?.getD undef = us 7 := by rw [← Rg.eval_getD, ha]; exact Rg.puts_eval _ _ _ (by rfl) (by simp) (by simp)
    clear ha hdep g hf hKf
    have d7' : Nds wl (us 7) (x :: strip (l.drop 1)) := d7
    refine Rg.wpOp_of rfl rfl ?_
    go_simp
    exact hK _ _ d7' (Below.refl _ _)
  · intro us wz hB hR
    have hu : Nds wz (us 8) (x :: strip (l.drop 1)) := hR 8
    have HU := Lib.hid hu
    have HB2 := Lib.hid hB
    clear hB hR hu
    simp only [Rg.puts, Act.put, List.setIfInBounds_toArray, List.set_cons_zero, List.set_cons_succ]
    go_wp2_with fail
    go_ret
    exact ⟨_, rfl, by rw [HS.out]; exact HU.out, HB2.out⟩

set_option maxHeartbeats 8000000 in
theorem stripR_no0 (b off cap : Nat) (l : List Nd) (w : World) (hl : l.length ≤ 1000000) (hc : l.length ≤ cap) (hat : At w b off l) (ih : ∀ l' : List Nd, l'.length < l.length → l'.length ≤ 1000000 → StripC l') (h3 : 3 ≤ l.length) (h0 : ¬ l[0] = alt) :
    Calls Try.prog 18 #[.slice (some ⟨b, off, none⟩) l.length cap] w fun e w' => ∃ y, e = .returned y ∧ Nds w' y (strip l) ∧ Below w.heap.size w w' := by
  have HA := Lib.hid hat
  obtain ⟨e1, e2, e3⟩ := HA.out 0 (by omega)
  have HC : Hid (∀ wx, Below w.heap.size w wx → wx.cell? ⟨b, off, none⟩ = some (.int .i64 l[0].k) ∧ wx.cell? ⟨b, off + 1, none⟩ = some (.string l[0].n) ∧ wx.cell? ⟨b, off + 2, none⟩ = some (.int .i64 l[0].s)) := Lib.hid fun wx hb => ⟨by rw [hb.cell (Ap.cell_lt (by simpa using e1))]; simpa using e1, by rw [hb.cell (Ap.cell_lt (by simpa using e2))]; simpa using e2, by rw [hb.cell (Ap.cell_lt (by simpa using e3))]; simpa using e3⟩
  have HIH : Hid (StripC (l.drop 1)) := Lib.hid (ih _ (by rw [List.length_drop]; omega) (by rw [List.length_drop]; omega))
  have HP := Lib.hid (fun wx (hb : Below w.heap.size w wx) => drop_nds (At.below HA.out hb) hc 1 (by omega))
  have HS := Lib.hid (not_pat3 h3 fun h => h0 h.1)
  have HLN : Hid ((strip (l.drop 1)).length ≤ 1000000) := Lib.hid (Nat.le_trans (strip_len _ _ (Nat.le_refl _)) (by rw [List.length_drop]; omega))
  obtain ⟨x, hx⟩ : ∃ x, l[0] = x := ⟨_, rfl⟩
  rw [hx] at HC HS
  clear e1 e2 e3 hx
  have hq0 : ∀ w, (binOp .eql 39 (.agg #[.int .i64 l[0].k, .string l[0].n, .int .i64 l[0].s]) (.agg #[.int .i64 6, .string ⟨#[]⟩, .int .i64 0])).run Try.prog w = .ok (.bool (decide (l[0] = alt))) w := fun w => eq_nd l[0] alt w
  obtain ⟨c01, c02, c03⟩ := hat 0 (by omega)
  rw [Nat.zero_mul, Nat.add_zero] at c01 c02 c03
  rw [decide_eq_false h0] at hq0
  clear h0
  clear hat ih
  go_enter Try.func18, Try.ntmps18
  go_wp2_with fail
  refine Rg.wp_region_kept (by kernel_rfl) [(0, some 38), (1, some 39), (2, some 40), (3, some 41), (4, some 42), (5, some 43), (6, some 44), (7, some 45), (8, some 2)] (by rfl) (by kernel_rfl) (by kernel_rfl) (fun w' => Below w.heap.size w w') (RS b off l.length cap off x (l.drop 1) (strip (l.drop 1))) ((Below.refl _ _).drew) ?_ ⟨⟨⟨⟨⟨⟨⟨⟨⟨True.intro, ?_⟩, ?_⟩, ?_⟩, ?_⟩, ?_⟩, ?_⟩, ?_⟩, ?_⟩, ?_⟩ ?_
  · intro k v w' hk
    unfold RS
    split
    case h_10 => trivial
    all_goals exact absurd hk (by decide)
  · intro o ho f us wl al ha g hf hdep K hKf
    obtain rfl := Option.some.inj ho
    have hB := Lib.hid g.1
    have hK : ∀ v w', (RS b off l.length cap off x (l.drop 1) (strip (l.drop 1))) 0 v w' → Below wl.heap.size wl w' → K (al.put (some 38) v) w' := fun v w' hv hb => hKf v w' (Rg.Kept.put (Base := fun w' => Below w.heap.size w w') (R := RS b off l.length cap off x (l.drop 1) (strip (l.drop 1))) (fun _ _ h hb => h.trans (hb.mono h.size)) (fun _ _ _ _ h hb => RS.below h hb) g hb hv)
    have e0 : al.tmps[0]?.getD undef = .slice (some ⟨b, off, none⟩) l.length cap := by rw [← Rg.eval_getD, ha]; exact (Rg.puts_eval_ne _ _ _ (by rfl)).trans rfl
    clear ha hdep g hf hKf
    refine Rg.wpOp_of rfl rfl ?_
    go_simp
    exact hK _ _ rfl (Below.refl _ _)
  · intro o ho f us wl al ha g hf hdep K hKf
    obtain rfl := Option.some.inj ho
    have hB := Lib.hid g.1
    have hK : ∀ v w', (RS b off l.length cap off x (l.drop 1) (strip (l.drop 1))) 1 v w' → Below wl.heap.size wl w' → K (al.put (some 39) v) w' := fun v w' hv hb => hKf v w' (Rg.Kept.put (Base := fun w' => Below w.heap.size w w') (R := RS b off l.length cap off x (l.drop 1) (strip (l.drop 1))) (fun _ _ h hb => h.trans (hb.mono h.size)) (fun _ _ _ _ h hb => RS.below h hb) g hb hv)
    have d0 : (RS b off l.length cap off x (l.drop 1) (strip (l.drop 1))) 0 (us 0) wl := g.2 0 (hdep ⟨0, .data⟩ (by simp) rfl)
    have e38 : al.tmps[38]?.getD undef = us 0 := by rw [← Rg.eval_getD, ha]; exact Rg.puts_eval _ _ _ (by rfl) (by simp) (by simp)
    clear ha hdep g hf hKf
    have f0 : us 0 = .slice (some ⟨b, off, none⟩) l.length cap := d0
    clear d0
    have hjn : 0 < l.length := by omega
    have hji : (0 : Int) < (l.length : Int) := by omega
    refine Rg.wpOp_of rfl rfl ?_
    go_simp
    exact hK _ _ rfl (Below.refl _ _)
  · intro o ho f us wl al ha g hf hdep K hKf
    obtain rfl := Option.some.inj ho
    have hB := Lib.hid g.1
    have hK : ∀ v w', (RS b off l.length cap off x (l.drop 1) (strip (l.drop 1))) 2 v w' → Below wl.heap.size wl w' → K (al.put (some 40) v) w' := fun v w' hv hb => hKf v w' (Rg.Kept.put (Base := fun w' => Below w.heap.size w w') (R := RS b off l.length cap off x (l.drop 1) (strip (l.drop 1))) (fun _ _ h hb => h.trans (hb.mono h.size)) (fun _ _ _ _ h hb => RS.below h hb) g hb hv)
    have d1 : (RS b off l.length cap off x (l.drop 1) (strip (l.drop 1))) 1 (us 1) wl := g.2 1 (hdep ⟨1, .data⟩ (by simp) rfl)
    have e39 : al.tmps[39]?.getD undef = us 1 := by rw [← Rg.eval_getD, ha]; exact Rg.puts_eval _ _ _ (by rfl) (by simp) (by simp)
    clear ha hdep g hf hKf
    have f1 : us 1 = .pointer (some ⟨b, off, none⟩) := d1
    clear d1
    obtain ⟨q1, q2, q3⟩ := HC.out wl hB.out
    refine Rg.wpOp_of rfl rfl ?_
    go_simp
    exact hK _ _ rfl (Below.refl _ _)
  · intro o ho f us wl al ha g hf hdep K hKf
    obtain rfl := Option.some.inj ho
    have hB := Lib.hid g.1
    have hK : ∀ v w', (RS b off l.length cap off x (l.drop 1) (strip (l.drop 1))) 3 v w' → Below wl.heap.size wl w' → K (al.put (some 41) v) w' := fun v w' hv hb => hKf v w' (Rg.Kept.put (Base := fun w' => Below w.heap.size w w') (R := RS b off l.length cap off x (l.drop 1) (strip (l.drop 1))) (fun _ _ h hb => h.trans (hb.mono h.size)) (fun _ _ _ _ h hb => RS.below h hb) g hb hv)
    have d2 : (RS b off l.length cap off x (l.drop 1) (strip (l.drop 1))) 2 (us 2) wl := g.2 2 (hdep ⟨2, .data⟩ (by simp) rfl)
    have e40 : al.tmps[40]?.getD undef = us 2 := by rw [← Rg.eval_getD, ha]; exact Rg.puts_eval _ _ _ (by rfl) (by simp) (by simp)
    clear ha hdep g hf hKf
    have f2 : us 2 = .agg #[.int .i64 x.k, .string x.n, .int .i64 x.s] := d2
    clear d2
    refine Rg.wpOp_of rfl rfl ?_
    go_simp
    exact hK _ _ ⟨_, rfl, nds_new wl [x] _⟩ (below1 wl _)
  · intro o ho f us wl al ha g hf hdep K hKf
    obtain rfl := Option.some.inj ho
    have hB := Lib.hid g.1
    have hK : ∀ v w', (RS b off l.length cap off x (l.drop 1) (strip (l.drop 1))) 4 v w' → Below wl.heap.size wl w' → K (al.put (some 42) v) w' := fun v w' hv hb => hKf v w' (Rg.Kept.put (Base := fun w' => Below w.heap.size w w') (R := RS b off l.length cap off x (l.drop 1) (strip (l.drop 1))) (fun _ _ h hb => h.trans (hb.mono h.size)) (fun _ _ _ _ h hb => RS.below h hb) g hb hv)
    have e0 : al.tmps[0]?.getD undef = .slice (some ⟨b, off, none⟩) l.length cap := by rw [← Rg.eval_getD, ha]; exact (Rg.puts_eval_ne _ _ _ (by rfl)).trans rfl
    clear ha hdep g hf hKf
    refine Rg.wpOp_of rfl rfl ?_
    go_simp
    exact hK _ _ rfl (Below.refl _ _)
  · intro o ho f us wl al ha g hf hdep K hKf
    obtain rfl := Option.some.inj ho
    have hB := Lib.hid g.1
    have hK : ∀ v w', (RS b off l.length cap off x (l.drop 1) (strip (l.drop 1))) 5 v w' → Below wl.heap.size wl w' → K (al.put (some 43) v) w' := fun v w' hv hb => hKf v w' (Rg.Kept.put (Base := fun w' => Below w.heap.size w w') (R := RS b off l.length cap off x (l.drop 1) (strip (l.drop 1))) (fun _ _ h hb => h.trans (hb.mono h.size)) (fun _ _ _ _ h hb => RS.below h hb) g hb hv)
    have d4 : (RS b off l.length cap off x (l.drop 1) (strip (l.drop 1))) 4 (us 4) wl := g.2 4 (hdep ⟨4, .data⟩ (by simp) rfl)
    have e42 : al.tmps[42]?.getD undef = us 4 := by rw [← Rg.eval_getD, ha]; exact Rg.puts_eval _ _ _ (by rfl) (by simp) (by simp)
    clear ha hdep g hf hKf
    have f4 : us 4 = .slice (some ⟨b, off, none⟩) l.length cap := d4
    clear d4
    have hdd : (1 : Int) ≤ (l.length : Int) := by omega
    have hpp := HP.out wl hB.out
    by_cases hcd : cap = 1
    · have hld : l.length = 1 := by omega
      have hnil : l.drop 1 = [] := List.drop_eq_nil_of_le (by omega)
      rw [hnil] at hK
      refine Rg.wpOp_of rfl rfl ?_
      go_simp
      exact hK _ _ (empty_nds _ _ _ _) (Below.refl _ _)
    · refine Rg.wpOp_of rfl rfl ?_
      go_simp
      exact hK _ _ hpp (Below.refl _ _)
  · intro o ho f us wl al ha g hf hdep K hKf
    obtain rfl := Option.some.inj ho
    have hB := Lib.hid g.1
    have hK : ∀ v w', (RS b off l.length cap off x (l.drop 1) (strip (l.drop 1))) 6 v w' → Below wl.heap.size wl w' → K (al.put (some 44) v) w' := fun v w' hv hb => hKf v w' (Rg.Kept.put (Base := fun w' => Below w.heap.size w w') (R := RS b off l.length cap off x (l.drop 1) (strip (l.drop 1))) (fun _ _ h hb => h.trans (hb.mono h.size)) (fun _ _ _ _ h hb => RS.below h hb) g hb hv)
    have d5 : (RS b off l.length cap off x (l.drop 1) (strip (l.drop 1))) 5 (us 5) wl := g.2 5 (hdep ⟨5, .data⟩ (by simp) rfl)
    have e43 : al.tmps[43]?.getD undef = us 5 := by rw [← Rg.eval_getD, ha]; exact Rg.puts_eval _ _ _ (by rfl) (by simp) (by simp)
    clear ha hdep g hf hKf
    have d5' : Nds wl (us 5) (l.drop 1) := d5
    refine Rg.wpOp_of rfl rfl ?_
    go_simp
    refine (HIH.out _ _ d5').mono ?_
    rintro e w' ⟨y, rfl, hy, hb⟩
    exact hK _ _ hy hb
  · intro o ho f us wl al ha g hf hdep K hKf
    obtain rfl := Option.some.inj ho
    have hB := Lib.hid g.1
    have hK : ∀ v w', (RS b off l.length cap off x (l.drop 1) (strip (l.drop 1))) 7 v w' → Below wl.heap.size wl w' → K (al.put (some 45) v) w' := fun v w' hv hb => hKf v w' (Rg.Kept.put (Base := fun w' => Below w.heap.size w w') (R := RS b off l.length cap off x (l.drop 1) (strip (l.drop 1))) (fun _ _ h hb => h.trans (hb.mono h.size)) (fun _ _ _ _ h hb => RS.below h hb) g hb hv)
    have d3 : (RS b off l.length cap off x (l.drop 1) (strip (l.drop 1))) 3 (us 3) wl := g.2 3 (hdep ⟨3, .data⟩ (by simp) rfl)
    have e41 : al.tmps[41]?.getD undef = us 3 := by rw [← Rg.eval_getD, ha]; exact Rg.puts_eval _ _ _ (by rfl) (by simp) (by simp)
    have d6 : (RS b off l.length cap off x (l.drop 1) (strip (l.drop 1))) 6 (us 6) wl := g.2 6 (hdep ⟨6, .data⟩ (by simp) rfl)
    have e44 : al.tmps[44]?.getD undef = us 6 := by rw [← Rg.eval_getD, ha]; exact Rg.puts_eval _ _ _ (by rfl) (by simp) (by simp)
    clear ha hdep g hf hKf
    obtain ⟨g, f3, hn3⟩ : ∃ g, us 3 = .slice (some ⟨g, 0, none⟩) 1 1 ∧ Nds wl (us 3) [x] := d3
    have d6' : Nds wl (us 6) (strip (l.drop 1)) := d6
    rw [f3] at hn3
    obtain ⟨v', w', hrun, hnds, hbe⟩ := cons_run hn3 d6' (HLN.out)
    refine Rg.wpOp_of rfl rfl ?_
    exact wp_append_run _ _ _ _ rfl _ _ (by rw [Rg.eval_getD]; exact e41.trans f3) (by rw [Rg.eval_getD]; exact e44) _ w' hrun (hK _ _ hnds hbe)
  · intro o ho f us wl al ha g hf hdep K hKf
    obtain rfl := Option.some.inj ho
    have hB := Lib.hid g.1
    have hK : ∀ v w', (RS b off l.length cap off x (l.drop 1) (strip (l.drop 1))) 8 v w' → Below wl.heap.size wl w' → K (al.put (some 2) v) w' := fun v w' hv hb => hKf v w' (Rg.Kept.put (Base := fun w' => Below w.heap.size w w') (R := RS b off l.length cap off x (l.drop 1) (strip (l.drop 1))) (fun _ _ h hb => h.trans (hb.mono h.size)) (fun _ _ _ _ h hb => RS.below h hb) g hb hv)
    have d7 : (RS b off l.length cap off x (l.drop 1) (strip (l.drop 1))) 7 (us 7) wl := g.2 7 (hdep ⟨7, .data⟩ (by simp) rfl)
    have e45 : al.tmps[45]?.getD undef = us 7 := by rw [← Rg.eval_getD, ha]; exact Rg.puts_eval _ _ _ (by rfl) (by simp) (by simp)
    clear ha hdep g hf hKf
    have d7' : Nds wl (us 7) (x :: strip (l.drop 1)) := d7
    refine Rg.wpOp_of rfl rfl ?_
    go_simp
    exact hK _ _ d7' (Below.refl _ _)
  · intro us wz hB hR
    have hu : Nds wz (us 8) (x :: strip (l.drop 1)) := hR 8
    have HU := Lib.hid hu
    have HB2 := Lib.hid hB
    clear hB hR hu
    simp only [Rg.puts, Act.put, List.setIfInBounds_toArray, List.set_cons_zero, List.set_cons_succ]
    go_wp2_with fail
    go_ret
    exact ⟨_, rfl, by rw [HS.out]; exact HU.out, HB2.out⟩

set_option maxHeartbeats 8000000 in
theorem stripR_no1 (b off cap : Nat) (l : List Nd) (w : World) (hl : l.length ≤ 1000000) (hc : l.length ≤ cap) (hat : At w b off l) (ih : ∀ l' : List Nd, l'.length < l.length → l'.length ≤ 1000000 → StripC l') (h3 : 3 ≤ l.length) (h0 : l[0] = alt) (h1 : ¬ l[1].k = 1) :
    Calls Try.prog 18 #[.slice (some ⟨b, off, none⟩) l.length cap] w fun e w' => ∃ y, e = .returned y ∧ Nds w' y (strip l) ∧ Below w.heap.size w w' := by
  have HA := Lib.hid hat
  obtain ⟨e1, e2, e3⟩ := HA.out 0 (by omega)
  have HC : Hid (∀ wx, Below w.heap.size w wx → wx.cell? ⟨b, off, none⟩ = some (.int .i64 l[0].k) ∧ wx.cell? ⟨b, off + 1, none⟩ = some (.string l[0].n) ∧ wx.cell? ⟨b, off + 2, none⟩ = some (.int .i64 l[0].s)) := Lib.hid fun wx hb => ⟨by rw [hb.cell (Ap.cell_lt (by simpa using e1))]; simpa using e1, by rw [hb.cell (Ap.cell_lt (by simpa using e2))]; simpa using e2, by rw [hb.cell (Ap.cell_lt (by simpa using e3))]; simpa using e3⟩
  have HIH : Hid (StripC (l.drop 1)) := Lib.hid (ih _ (by rw [List.length_drop]; omega) (by rw [List.length_drop]; omega))
  have HP := Lib.hid (fun wx (hb : Below w.heap.size w wx) => drop_nds (At.below HA.out hb) hc 1 (by omega))
  have HS := Lib.hid (not_pat3 h3 fun h => h1 h.2.1)
  have HLN : Hid ((strip (l.drop 1)).length ≤ 1000000) := Lib.hid (Nat.le_trans (strip_len _ _ (Nat.le_refl _)) (by rw [List.length_drop]; omega))
  obtain ⟨x, hx⟩ : ∃ x, l[0] = x := ⟨_, rfl⟩
  rw [hx] at HC HS
  clear e1 e2 e3 hx
  have hq0 : ∀ w, (binOp .eql 39 (.agg #[.int .i64 l[0].k, .string l[0].n, .int .i64 l[0].s]) (.agg #[.int .i64 6, .string ⟨#[]⟩, .int .i64 0])).run Try.prog w = .ok (.bool (decide (l[0] = alt))) w := fun w => eq_nd l[0] alt w
  obtain ⟨c01, c02, c03⟩ := hat 0 (by omega)
  rw [Nat.zero_mul, Nat.add_zero] at c01 c02 c03
  obtain ⟨c11, -, -⟩ := hat 1 (by omega)
  rw [decide_eq_true h0] at hq0
  have g1 : (l[1].k == 1) = false := by rw [beq_eq_false_iff_ne]; exact h1
  clear h0 h1
  clear hat ih
  go_enter Try.func18, Try.ntmps18
  go_wp2_with fail
  refine Rg.wp_region_kept (by kernel_rfl) [(0, some 38), (1, some 39), (2, some 40), (3, some 41), (4, some 42), (5, some 43), (6, some 44), (7, some 45), (8, some 2)] (by rfl) (by kernel_rfl) (by kernel_rfl) (fun w' => Below w.heap.size w w') (RS b off l.length cap off x (l.drop 1) (strip (l.drop 1))) ((Below.refl _ _).drew) ?_ ⟨⟨⟨⟨⟨⟨⟨⟨⟨True.intro, ?_⟩, ?_⟩, ?_⟩, ?_⟩, ?_⟩, ?_⟩, ?_⟩, ?_⟩, ?_⟩ ?_
  · intro k v w' hk
    unfold RS
    split
    case h_10 => trivial
    all_goals exact absurd hk (by decide)
  · intro o ho f us wl al ha g hf hdep K hKf
    obtain rfl := Option.some.inj ho
    have hB := Lib.hid g.1
    have hK : ∀ v w', (RS b off l.length cap off x (l.drop 1) (strip (l.drop 1))) 0 v w' → Below wl.heap.size wl w' → K (al.put (some 38) v) w' := fun v w' hv hb => hKf v w' (Rg.Kept.put (Base := fun w' => Below w.heap.size w w') (R := RS b off l.length cap off x (l.drop 1) (strip (l.drop 1))) (fun _ _ h hb => h.trans (hb.mono h.size)) (fun _ _ _ _ h hb => RS.below h hb) g hb hv)
    have e0 : al.tmps[0]?.getD undef = .slice (some ⟨b, off, none⟩) l.length cap := by rw [← Rg.eval_getD, ha]; exact (Rg.puts_eval_ne _ _ _ (by rfl)).trans rfl
    clear ha hdep g hf hKf
    refine Rg.wpOp_of rfl rfl ?_
    go_simp
    exact hK _ _ rfl (Below.refl _ _)
  · intro o ho f us wl al ha g hf hdep K hKf
    obtain rfl := Option.some.inj ho
    have hB := Lib.hid g.1
    have hK : ∀ v w', (RS b off l.length cap off x (l.drop 1) (strip (l.drop 1))) 1 v w' → Below wl.heap.size wl w' → K (al.put (some 39) v) w' := fun v w' hv hb => hKf v w' (Rg.Kept.put (Base := fun w' => Below w.heap.size w w') (R := RS b off l.length cap off x (l.drop 1) (strip (l.drop 1))) (fun _ _ h hb => h.trans (hb.mono h.size)) (fun _ _ _ _ h hb => RS.below h hb) g hb hv)
    have d0 : (RS b off l.length cap off x (l.drop 1) (strip (l.drop 1))) 0 (us 0) wl := g.2 0 (hdep ⟨0, .data⟩ (by simp) rfl)
    have e38 : al.tmps[38]?.getD undef = us 0 := by rw [← Rg.eval_getD, ha]; exact Rg.puts_eval _ _ _ (by rfl) (by simp) (by simp)
    clear ha hdep g hf hKf
    have f0 : us 0 = .slice (some ⟨b, off, none⟩) l.length cap := d0
    clear d0
    have hjn : 0 < l.length := by omega
    have hji : (0 : Int) < (l.length : Int) := by omega
    refine Rg.wpOp_of rfl rfl ?_
    go_simp
    exact hK _ _ rfl (Below.refl _ _)
  · intro o ho f us wl al ha g hf hdep K hKf
    obtain rfl := Option.some.inj ho
    have hB := Lib.hid g.1
    have hK : ∀ v w', (RS b off l.length cap off x (l.drop 1) (strip (l.drop 1))) 2 v w' → Below wl.heap.size wl w' → K (al.put (some 40) v) w' := fun v w' hv hb => hKf v w' (Rg.Kept.put (Base := fun w' => Below w.heap.size w w') (R := RS b off l.length cap off x (l.drop 1) (strip (l.drop 1))) (fun _ _ h hb => h.trans (hb.mono h.size)) (fun _ _ _ _ h hb => RS.below h hb) g hb hv)
    have d1 : (RS b off l.length cap off x (l.drop 1) (strip (l.drop 1))) 1 (us 1) wl := g.2 1 (hdep ⟨1, .data⟩ (by simp) rfl)
    have e39 : al.tmps[39]?.getD undef = us 1 := by rw [← Rg.eval_getD, ha]; exact Rg.puts_eval _ _ _ (by rfl) (by simp) (by simp)
    clear ha hdep g hf hKf
    have f1 : us 1 = .pointer (some ⟨b, off, none⟩) := d1
    clear d1
    obtain ⟨q1, q2, q3⟩ := HC.out wl hB.out
    refine Rg.wpOp_of rfl rfl ?_
    go_simp
    exact hK _ _ rfl (Below.refl _ _)
  · intro o ho f us wl al ha g hf hdep K hKf
    obtain rfl := Option.some.inj ho
    have hB := Lib.hid g.1
    have hK : ∀ v w', (RS b off l.length cap off x (l.drop 1) (strip (l.drop 1))) 3 v w' → Below wl.heap.size wl w' → K (al.put (some 41) v) w' := fun v w' hv hb => hKf v w' (Rg.Kept.put (Base := fun w' => Below w.heap.size w w') (R := RS b off l.length cap off x (l.drop 1) (strip (l.drop 1))) (fun _ _ h hb => h.trans (hb.mono h.size)) (fun _ _ _ _ h hb => RS.below h hb) g hb hv)
    have d2 : (RS b off l.length cap off x (l.drop 1) (strip (l.drop 1))) 2 (us 2) wl := g.2 2 (hdep ⟨2, .data⟩ (by simp) rfl)
    have e40 : al.tmps[40]?.getD undef = us 2 := by rw [← Rg.eval_getD, ha]; exact Rg.puts_eval _ _ _ (by rfl) (by simp) (by simp)
    clear ha hdep g hf hKf
    have f2 : us 2 = .agg #[.int .i64 x.k, .string x.n, .int .i64 x.s] := d2
    clear d2
    refine Rg.wpOp_of rfl rfl ?_
    go_simp
    exact hK _ _ ⟨_, rfl, nds_new wl [x] _⟩ (below1 wl _)
  · intro o ho f us wl al ha g hf hdep K hKf
    obtain rfl := Option.some.inj ho
    have hB := Lib.hid g.1
    have hK : ∀ v w', (RS b off l.length cap off x (l.drop 1) (strip (l.drop 1))) 4 v w' → Below wl.heap.size wl w' → K (al.put (some 42) v) w' := fun v w' hv hb => hKf v w' (Rg.Kept.put (Base := fun w' => Below w.heap.size w w') (R := RS b off l.length cap off x (l.drop 1) (strip (l.drop 1))) (fun _ _ h hb => h.trans (hb.mono h.size)) (fun _ _ _ _ h hb => RS.below h hb) g hb hv)
    have e0 : al.tmps[0]?.getD undef = .slice (some ⟨b, off, none⟩) l.length cap := by rw [← Rg.eval_getD, ha]; exact (Rg.puts_eval_ne _ _ _ (by rfl)).trans rfl
    clear ha hdep g hf hKf
    refine Rg.wpOp_of rfl rfl ?_
    go_simp
    exact hK _ _ rfl (Below.refl _ _)
  · intro o ho f us wl al ha g hf hdep K hKf
    obtain rfl := Option.some.inj ho
    have hB := Lib.hid g.1
    have hK : ∀ v w', (RS b off l.length cap off x (l.drop 1) (strip (l.drop 1))) 5 v w' → Below wl.heap.size wl w' → K (al.put (some 43) v) w' := fun v w' hv hb => hKf v w' (Rg.Kept.put (Base := fun w' => Below w.heap.size w w') (R := RS b off l.length cap off x (l.drop 1) (strip (l.drop 1))) (fun _ _ h hb => h.trans (hb.mono h.size)) (fun _ _ _ _ h hb => RS.below h hb) g hb hv)
    have d4 : (RS b off l.length cap off x (l.drop 1) (strip (l.drop 1))) 4 (us 4) wl := g.2 4 (hdep ⟨4, .data⟩ (by simp) rfl)
    have e42 : al.tmps[42]?.getD undef = us 4 := by rw [← Rg.eval_getD, ha]; exact Rg.puts_eval _ _ _ (by rfl) (by simp) (by simp)
    clear ha hdep g hf hKf
    have f4 : us 4 = .slice (some ⟨b, off, none⟩) l.length cap := d4
    clear d4
    have hdd : (1 : Int) ≤ (l.length : Int) := by omega
    have hpp := HP.out wl hB.out
    by_cases hcd : cap = 1
    · have hld : l.length = 1 := by omega
      have hnil : l.drop 1 = [] := List.drop_eq_nil_of_le (by omega)
      rw [hnil] at hK
      refine Rg.wpOp_of rfl rfl ?_
      go_simp
      exact hK _ _ (empty_nds _ _ _ _) (Below.refl _ _)
    · refine Rg.wpOp_of rfl rfl ?_
      go_simp
      exact hK _ _ hpp (Below.refl _ _)
  · intro o ho f us wl al ha g hf hdep K hKf
    obtain rfl := Option.some.inj ho
    have hB := Lib.hid g.1
    have hK : ∀ v w', (RS b off l.length cap off x (l.drop 1) (strip (l.drop 1))) 6 v w' → Below wl.heap.size wl w' → K (al.put (some 44) v) w' := fun v w' hv hb => hKf v w' (Rg.Kept.put (Base := fun w' => Below w.heap.size w w') (R := RS b off l.length cap off x (l.drop 1) (strip (l.drop 1))) (fun _ _ h hb => h.trans (hb.mono h.size)) (fun _ _ _ _ h hb => RS.below h hb) g hb hv)
    have d5 : (RS b off l.length cap off x (l.drop 1) (strip (l.drop 1))) 5 (us 5) wl := g.2 5 (hdep ⟨5, .data⟩ (by simp) rfl)
    have e43 : al.tmps[43]?.getD undef = us 5 := by rw [← Rg.eval_getD, ha]; exact Rg.puts_eval _ _ _ (by rfl) (by simp) (by simp)
    clear ha hdep g hf hKf
    have d5' : Nds wl (us 5) (l.drop 1) := d5
    refine Rg.wpOp_of rfl rfl ?_
    go_simp
    refine (HIH.out _ _ d5').mono ?_
    rintro e w' ⟨y, rfl, hy, hb⟩
    exact hK _ _ hy hb
  · intro o ho f us wl al ha g hf hdep K hKf
    obtain rfl := Option.some.inj ho
    have hB := Lib.hid g.1
    have hK : ∀ v w', (RS b off l.length cap off x (l.drop 1) (strip (l.drop 1))) 7 v w' → Below wl.heap.size wl w' → K (al.put (some 45) v) w' := fun v w' hv hb => hKf v w' (Rg.Kept.put (Base := fun w' => Below w.heap.size w w') (R := RS b off l.length cap off x (l.drop 1) (strip (l.drop 1))) (fun _ _ h hb => h.trans (hb.mono h.size)) (fun _ _ _ _ h hb => RS.below h hb) g hb hv)
    have d3 : (RS b off l.length cap off x (l.drop 1) (strip (l.drop 1))) 3 (us 3) wl := g.2 3 (hdep ⟨3, .data⟩ (by simp) rfl)
    have e41 : al.tmps[41]?.getD undef = us 3 := by rw [← Rg.eval_getD, ha]; exact Rg.puts_eval _ _ _ (by rfl) (by simp) (by simp)
    have d6 : (RS b off l.length cap off x (l.drop 1) (strip (l.drop 1))) 6 (us 6) wl := g.2 6 (hdep ⟨6, .data⟩ (by simp) rfl)
    have e44 : al.tmps[44]?.getD undef = us 6 := by rw [← Rg.eval_getD, ha]; exact Rg.puts_eval _ _ _ (by rfl) (by simp) (by simp)
    clear ha hdep g hf hKf
    obtain ⟨g, f3, hn3⟩ : ∃ g, us 3 = .slice (some ⟨g, 0, none⟩) 1 1 ∧ Nds wl (us 3) [x] := d3
    have d6' : Nds wl (us 6) (strip (l.drop 1)) := d6
    rw [f3] at hn3
    obtain ⟨v', w', hrun, hnds, hbe⟩ := cons_run hn3 d6' (HLN.out)
    refine Rg.wpOp_of rfl rfl ?_
    exact wp_append_run _ _ _ _ rfl _ _ (by rw [Rg.eval_getD]; exact e41.trans f3) (by rw [Rg.eval_getD]; exact e44) _ w' hrun (hK _ _ hnds hbe)
  · intro o ho f us wl al ha g hf hdep K hKf
    obtain rfl := Option.some.inj ho
    have hB := Lib.hid g.1
    have hK : ∀ v w', (RS b off l.length cap off x (l.drop 1) (strip (l.drop 1))) 8 v w' → Below wl.heap.size wl w' → K (al.put (some 2) v) w' := fun v w' hv hb => hKf v w' (Rg.Kept.put (Base := fun w' => Below w.heap.size w w') (R := RS b off l.length cap off x (l.drop 1) (strip (l.drop 1))) (fun _ _ h hb => h.trans (hb.mono h.size)) (fun _ _ _ _ h hb => RS.below h hb) g hb hv)
    have d7 : (RS b off l.length cap off x (l.drop 1) (strip (l.drop 1))) 7 (us 7) wl := g.2 7 (hdep ⟨7, .data⟩ (by simp) rfl)
    have e45 : al.tmps[45]?.getD undef = us 7 := by rw [← Rg.eval_getD, ha]; exact Rg.puts_eval _ _ _ (by rfl) (by simp) (by simp)
    clear ha hdep g hf hKf
    have d7' : Nds wl (us 7) (x :: strip (l.drop 1)) := d7
    refine Rg.wpOp_of rfl rfl ?_
    go_simp
    exact hK _ _ d7' (Below.refl _ _)
  · intro us wz hB hR
    have hu : Nds wz (us 8) (x :: strip (l.drop 1)) := hR 8
    have HU := Lib.hid hu
    have HB2 := Lib.hid hB
    clear hB hR hu
    simp only [Rg.puts, Act.put, List.setIfInBounds_toArray, List.set_cons_zero, List.set_cons_succ]
    go_wp2_with fail
    go_ret
    exact ⟨_, rfl, by rw [HS.out]; exact HU.out, HB2.out⟩

set_option maxHeartbeats 8000000 in
theorem stripR_no2 (b off cap : Nat) (l : List Nd) (w : World) (hl : l.length ≤ 1000000) (hc : l.length ≤ cap) (hat : At w b off l) (ih : ∀ l' : List Nd, l'.length < l.length → l'.length ≤ 1000000 → StripC l') (h3 : 3 ≤ l.length) (h0 : l[0] = alt) (h1 : l[1].k = 1) (h2 : ¬ l[2] = thr) :
    Calls Try.prog 18 #[.slice (some ⟨b, off, none⟩) l.length cap] w fun e w' => ∃ y, e = .returned y ∧ Nds w' y (strip l) ∧ Below w.heap.size w w' := by
  have HA := Lib.hid hat
  obtain ⟨e1, e2, e3⟩ := HA.out 0 (by omega)
  have HC : Hid (∀ wx, Below w.heap.size w wx → wx.cell? ⟨b, off, none⟩ = some (.int .i64 l[0].k) ∧ wx.cell? ⟨b, off + 1, none⟩ = some (.string l[0].n) ∧ wx.cell? ⟨b, off + 2, none⟩ = some (.int .i64 l[0].s)) := Lib.hid fun wx hb => ⟨by rw [hb.cell (Ap.cell_lt (by simpa using e1))]; simpa using e1, by rw [hb.cell (Ap.cell_lt (by simpa using e2))]; simpa using e2, by rw [hb.cell (Ap.cell_lt (by simpa using e3))]; simpa using e3⟩
  have HIH : Hid (StripC (l.drop 1)) := Lib.hid (ih _ (by rw [List.length_drop]; omega) (by rw [List.length_drop]; omega))
  have HP := Lib.hid (fun wx (hb : Below w.heap.size w wx) => drop_nds (At.below HA.out hb) hc 1 (by omega))
  have HS := Lib.hid (not_pat3 h3 fun h => h2 h.2.2)
  have HLN : Hid ((strip (l.drop 1)).length ≤ 1000000) := Lib.hid (Nat.le_trans (strip_len _ _ (Nat.le_refl _)) (by rw [List.length_drop]; omega))
  obtain ⟨x, hx⟩ : ∃ x, l[0] = x := ⟨_, rfl⟩
  rw [hx] at HC HS
  clear e1 e2 e3 hx
  have hq0 : ∀ w, (binOp .eql 39 (.agg #[.int .i64 l[0].k, .string l[0].n, .int .i64 l[0].s]) (.agg #[.int .i64 6, .string ⟨#[]⟩, .int .i64 0])).run Try.prog w = .ok (.bool (decide (l[0] = alt))) w := fun w => eq_nd l[0] alt w
  obtain ⟨c01, c02, c03⟩ := hat 0 (by omega)
  rw [Nat.zero_mul, Nat.add_zero] at c01 c02 c03
  obtain ⟨c11, -, -⟩ := hat 1 (by omega)
  have hq2 : ∀ w, (binOp .eql 39 (.agg #[.int .i64 l[2].k, .string l[2].n, .int .i64 l[2].s]) (.agg #[.int .i64 3, .string ⟨#[]⟩, .int .i64 0])).run Try.prog w = .ok (.bool (decide (l[2] = thr))) w := fun w => eq_nd l[2] thr w
  obtain ⟨c21, c22, c23⟩ := hat 2 (by omega)
  rw [decide_eq_true h0] at hq0
  rw [decide_eq_false h2] at hq2
  rw [h1] at c11
  clear h0 h1 h2
  clear hat ih
  go_enter Try.func18, Try.ntmps18
  go_wp2_with fail
  refine Rg.wp_region_kept (by kernel_rfl) [(0, some 38), (1, some 39), (2, some 40), (3, some 41), (4, some 42), (5, some 43), (6, some 44), (7, some 45), (8, some 2)] (by rfl) (by kernel_rfl) (by kernel_rfl) (fun w' => Below w.heap.size w w') (RS b off l.length cap off x (l.drop 1) (strip (l.drop 1))) ((Below.refl _ _).drew) ?_ ⟨⟨⟨⟨⟨⟨⟨⟨⟨True.intro, ?_⟩, ?_⟩, ?_⟩, ?_⟩, ?_⟩, ?_⟩, ?_⟩, ?_⟩, ?_⟩ ?_
  · intro k v w' hk
    unfold RS
    split
    case h_10 => trivial
    all_goals exact absurd hk (by decide)
  · intro o ho f us wl al ha g hf hdep K hKf
    obtain rfl := Option.some.inj ho
    have hB := Lib.hid g.1
    have hK : ∀ v w', (RS b off l.length cap off x (l.drop 1) (strip (l.drop 1))) 0 v w' → Below wl.heap.size wl w' → K (al.put (some 38) v) w' := fun v w' hv hb => hKf v w' (Rg.Kept.put (Base := fun w' => Below w.heap.size w w') (R := RS b off l.length cap off x (l.drop 1) (strip (l.drop 1))) (fun _ _ h hb => h.trans (hb.mono h.size)) (fun _ _ _ _ h hb => RS.below h hb) g hb hv)
    have e0 : al.tmps[0]?.getD undef = .slice (some ⟨b, off, none⟩) l.length cap := by rw [← Rg.eval_getD, ha]; exact (Rg.puts_eval_ne _ _ _ (by rfl)).trans rfl
    clear ha hdep g hf hKf
    refine Rg.wpOp_of rfl rfl ?_
    go_simp
    exact hK _ _ rfl (Below.refl _ _)
  · intro o ho f us wl al ha g hf hdep K hKf
    obtain rfl := Option.some.inj ho
    have hB := Lib.hid g.1
    have hK : ∀ v w', (RS b off l.length cap off x (l.drop 1) (strip (l.drop 1))) 1 v w' → Below wl.heap.size wl w' → K (al.put (some 39) v) w' := fun v w' hv hb => hKf v w' (Rg.Kept.put (Base := fun w' => Below w.heap.size w w') (R := RS b off l.length cap off x (l.drop 1) (strip (l.drop 1))) (fun _ _ h hb => h.trans (hb.mono h.size)) (fun _ _ _ _ h hb => RS.below h hb) g hb hv)
    have d0 : (RS b off l.length cap off x (l.drop 1) (strip (l.drop 1))) 0 (us 0) wl := g.2 0 (hdep ⟨0, .data⟩ (by simp) rfl)
    have e38 : al.tmps[38]?.getD undef = us 0 := by rw [← Rg.eval_getD, ha]; exact Rg.puts_eval _ _ _ (by rfl) (by simp) (by simp)
    clear ha hdep g hf hKf
    have f0 : us 0 = .slice (some ⟨b, off, none⟩) l.length cap := d0
    clear d0
    have hjn : 0 < l.length := by omega
    have hji : (0 : Int) < (l.length : Int) := by omega
    refine Rg.wpOp_of rfl rfl ?_
    go_simp
    exact hK _ _ rfl (Below.refl _ _)
  · intro o ho f us wl al ha g hf hdep K hKf
    obtain rfl := Option.some.inj ho
    have hB := Lib.hid g.1
    have hK : ∀ v w', (RS b off l.length cap off x (l.drop 1) (strip (l.drop 1))) 2 v w' → Below wl.heap.size wl w' → K (al.put (some 40) v) w' := fun v w' hv hb => hKf v w' (Rg.Kept.put (Base := fun w' => Below w.heap.size w w') (R := RS b off l.length cap off x (l.drop 1) (strip (l.drop 1))) (fun _ _ h hb => h.trans (hb.mono h.size)) (fun _ _ _ _ h hb => RS.below h hb) g hb hv)
    have d1 : (RS b off l.length cap off x (l.drop 1) (strip (l.drop 1))) 1 (us 1) wl := g.2 1 (hdep ⟨1, .data⟩ (by simp) rfl)
    have e39 : al.tmps[39]?.getD undef = us 1 := by rw [← Rg.eval_getD, ha]; exact Rg.puts_eval _ _ _ (by rfl) (by simp) (by simp)
    clear ha hdep g hf hKf
    have f1 : us 1 = .pointer (some ⟨b, off, none⟩) := d1
    clear d1
    obtain ⟨q1, q2, q3⟩ := HC.out wl hB.out
    refine Rg.wpOp_of rfl rfl ?_
    go_simp
    exact hK _ _ rfl (Below.refl _ _)
  · intro o ho f us wl al ha g hf hdep K hKf
    obtain rfl := Option.some.inj ho
    have hB := Lib.hid g.1
    have hK : ∀ v w', (RS b off l.length cap off x (l.drop 1) (strip (l.drop 1))) 3 v w' → Below wl.heap.size wl w' → K (al.put (some 41) v) w' := fun v w' hv hb => hKf v w' (Rg.Kept.put (Base := fun w' => Below w.heap.size w w') (R := RS b off l.length cap off x (l.drop 1) (strip (l.drop 1))) (fun _ _ h hb => h.trans (hb.mono h.size)) (fun _ _ _ _ h hb => RS.below h hb) g hb hv)
    have d2 : (RS b off l.length cap off x (l.drop 1) (strip (l.drop 1))) 2 (us 2) wl := g.2 2 (hdep ⟨2, .data⟩ (by simp) rfl)
    have e40 : al.tmps[40]?.getD undef = us 2 := by rw [← Rg.eval_getD, ha]; exact Rg.puts_eval _ _ _ (by rfl) (by simp) (by simp)
    clear ha hdep g hf hKf
    have f2 : us 2 = .agg #[.int .i64 x.k, .string x.n, .int .i64 x.s] := d2
    clear d2
    refine Rg.wpOp_of rfl rfl ?_
    go_simp
    exact hK _ _ ⟨_, rfl, nds_new wl [x] _⟩ (below1 wl _)
  · intro o ho f us wl al ha g hf hdep K hKf
    obtain rfl := Option.some.inj ho
    have hB := Lib.hid g.1
    have hK : ∀ v w', (RS b off l.length cap off x (l.drop 1) (strip (l.drop 1))) 4 v w' → Below wl.heap.size wl w' → K (al.put (some 42) v) w' := fun v w' hv hb => hKf v w' (Rg.Kept.put (Base := fun w' => Below w.heap.size w w') (R := RS b off l.length cap off x (l.drop 1) (strip (l.drop 1))) (fun _ _ h hb => h.trans (hb.mono h.size)) (fun _ _ _ _ h hb => RS.below h hb) g hb hv)
    have e0 : al.tmps[0]?.getD undef = .slice (some ⟨b, off, none⟩) l.length cap := by rw [← Rg.eval_getD, ha]; exact (Rg.puts_eval_ne _ _ _ (by rfl)).trans rfl
    clear ha hdep g hf hKf
    refine Rg.wpOp_of rfl rfl ?_
    go_simp
    exact hK _ _ rfl (Below.refl _ _)
  · intro o ho f us wl al ha g hf hdep K hKf
    obtain rfl := Option.some.inj ho
    have hB := Lib.hid g.1
    have hK : ∀ v w', (RS b off l.length cap off x (l.drop 1) (strip (l.drop 1))) 5 v w' → Below wl.heap.size wl w' → K (al.put (some 43) v) w' := fun v w' hv hb => hKf v w' (Rg.Kept.put (Base := fun w' => Below w.heap.size w w') (R := RS b off l.length cap off x (l.drop 1) (strip (l.drop 1))) (fun _ _ h hb => h.trans (hb.mono h.size)) (fun _ _ _ _ h hb => RS.below h hb) g hb hv)
    have d4 : (RS b off l.length cap off x (l.drop 1) (strip (l.drop 1))) 4 (us 4) wl := g.2 4 (hdep ⟨4, .data⟩ (by simp) rfl)
    have e42 : al.tmps[42]?.getD undef = us 4 := by rw [← Rg.eval_getD, ha]; exact Rg.puts_eval _ _ _ (by rfl) (by simp) (by simp)
    clear ha hdep g hf hKf
    have f4 : us 4 = .slice (some ⟨b, off, none⟩) l.length cap := d4
    clear d4
    have hdd : (1 : Int) ≤ (l.length : Int) := by omega
    have hpp := HP.out wl hB.out
    by_cases hcd : cap = 1
    · have hld : l.length = 1 := by omega
      have hnil : l.drop 1 = [] := List.drop_eq_nil_of_le (by omega)
      rw [hnil] at hK
      refine Rg.wpOp_of rfl rfl ?_
      go_simp
      exact hK _ _ (empty_nds _ _ _ _) (Below.refl _ _)
    · refine Rg.wpOp_of rfl rfl ?_
      go_simp
      exact hK _ _ hpp (Below.refl _ _)
  · intro o ho f us wl al ha g hf hdep K hKf
    obtain rfl := Option.some.inj ho
    have hB := Lib.hid g.1
    have hK : ∀ v w', (RS b off l.length cap off x (l.drop 1) (strip (l.drop 1))) 6 v w' → Below wl.heap.size wl w' → K (al.put (some 44) v) w' := fun v w' hv hb => hKf v w' (Rg.Kept.put (Base := fun w' => Below w.heap.size w w') (R := RS b off l.length cap off x (l.drop 1) (strip (l.drop 1))) (fun _ _ h hb => h.trans (hb.mono h.size)) (fun _ _ _ _ h hb => RS.below h hb) g hb hv)
    have d5 : (RS b off l.length cap off x (l.drop 1) (strip (l.drop 1))) 5 (us 5) wl := g.2 5 (hdep ⟨5, .data⟩ (by simp) rfl)
    have e43 : al.tmps[43]?.getD undef = us 5 := by rw [← Rg.eval_getD, ha]; exact Rg.puts_eval _ _ _ (by rfl) (by simp) (by simp)
    clear ha hdep g hf hKf
    have d5' : Nds wl (us 5) (l.drop 1) := d5
    refine Rg.wpOp_of rfl rfl ?_
    go_simp
    refine (HIH.out _ _ d5').mono ?_
    rintro e w' ⟨y, rfl, hy, hb⟩
    exact hK _ _ hy hb
  · intro o ho f us wl al ha g hf hdep K hKf
    obtain rfl := Option.some.inj ho
    have hB := Lib.hid g.1
    have hK : ∀ v w', (RS b off l.length cap off x (l.drop 1) (strip (l.drop 1))) 7 v w' → Below wl.heap.size wl w' → K (al.put (some 45) v) w' := fun v w' hv hb => hKf v w' (Rg.Kept.put (Base := fun w' => Below w.heap.size w w') (R := RS b off l.length cap off x (l.drop 1) (strip (l.drop 1))) (fun _ _ h hb => h.trans (hb.mono h.size)) (fun _ _ _ _ h hb => RS.below h hb) g hb hv)
    have d3 : (RS b off l.length cap off x (l.drop 1) (strip (l.drop 1))) 3 (us 3) wl := g.2 3 (hdep ⟨3, .data⟩ (by simp) rfl)
    have e41 : al.tmps[41]?.getD undef = us 3 := by rw [← Rg.eval_getD, ha]; exact Rg.puts_eval _ _ _ (by rfl) (by simp) (by simp)
    have d6 : (RS b off l.length cap off x (l.drop 1) (strip (l.drop 1))) 6 (us 6) wl := g.2 6 (hdep ⟨6, .data⟩ (by simp) rfl)
    have e44 : al.tmps[44]?.getD undef = us 6 := by rw [← Rg.eval_getD, ha]; exact Rg.puts_eval _ _ _ (by rfl) (by simp) (by simp)
    clear ha hdep g hf hKf
    obtain ⟨g, f3, hn3⟩ : ∃ g, us 3 = .slice (some ⟨g, 0, none⟩) 1 1 ∧ Nds wl (us 3) [x] := d3
    have d6' : Nds wl (us 6) (strip (l.drop 1)) := d6
    rw [f3] at hn3
    obtain ⟨v', w', hrun, hnds, hbe⟩ := cons_run hn3 d6' (HLN.out)
    refine Rg.wpOp_of rfl rfl ?_
    exact wp_append_run _ _ _ _ rfl _ _ (by rw [Rg.eval_getD]; exact e41.trans f3) (by rw [Rg.eval_getD]; exact e44) _ w' hrun (hK _ _ hnds hbe)
  · intro o ho f us wl al ha g hf hdep K hKf
    obtain rfl := Option.some.inj ho
    have hB := Lib.hid g.1
    have hK : ∀ v w', (RS b off l.length cap off x (l.drop 1) (strip (l.drop 1))) 8 v w' → Below wl.heap.size wl w' → K (al.put (some 2) v) w' := fun v w' hv hb => hKf v w' (Rg.Kept.put (Base := fun w' => Below w.heap.size w w') (R := RS b off l.length cap off x (l.drop 1) (strip (l.drop 1))) (fun _ _ h hb => h.trans (hb.mono h.size)) (fun _ _ _ _ h hb => RS.below h hb) g hb hv)
    have d7 : (RS b off l.length cap off x (l.drop 1) (strip (l.drop 1))) 7 (us 7) wl := g.2 7 (hdep ⟨7, .data⟩ (by simp) rfl)
    have e45 : al.tmps[45]?.getD undef = us 7 := by rw [← Rg.eval_getD, ha]; exact Rg.puts_eval _ _ _ (by rfl) (by simp) (by simp)
    clear ha hdep g hf hKf
    have d7' : Nds wl (us 7) (x :: strip (l.drop 1)) := d7
    refine Rg.wpOp_of rfl rfl ?_
    go_simp
    exact hK _ _ d7' (Below.refl _ _)
  · intro us wz hB hR
    have hu : Nds wz (us 8) (x :: strip (l.drop 1)) := hR 8
    have HU := Lib.hid hu
    have HB2 := Lib.hid hB
    clear hB hR hu
    simp only [Rg.puts, Act.put, List.setIfInBounds_toArray, List.set_cons_zero, List.set_cons_succ]
    go_wp2_with fail
    go_ret
    exact ⟨_, rfl, by rw [HS.out]; exact HU.out, HB2.out⟩

set_option maxHeartbeats 8000000 in
theorem stripR_yes (b off cap : Nat) (l : List Nd) (w : World) (hl : l.length ≤ 1000000) (hc : l.length ≤ cap) (hat : At w b off l) (ih : ∀ l' : List Nd, l'.length < l.length → l'.length ≤ 1000000 → StripC l') (h3 : 3 ≤ l.length) (h0 : l[0] = alt) (h1 : l[1].k = 1) (h2 : l[2] = thr) :
    Calls Try.prog 18 #[.slice (some ⟨b, off, none⟩) l.length cap] w fun e w' => ∃ y, e = .returned y ∧ Nds w' y (strip l) ∧ Below w.heap.size w w' := by
  have HA := Lib.hid hat
  obtain ⟨e1, e2, e3⟩ := HA.out 1 (by omega)
  have HC : Hid (∀ wx, Below w.heap.size w wx → wx.cell? ⟨b, off + 3, none⟩ = some (.int .i64 l[1].k) ∧ wx.cell? ⟨b, off + 3 + 1, none⟩ = some (.string l[1].n) ∧ wx.cell? ⟨b, off + 3 + 2, none⟩ = some (.int .i64 l[1].s)) := Lib.hid fun wx hb => ⟨by rw [hb.cell (Ap.cell_lt (by simpa using e1))]; simpa using e1, by rw [hb.cell (Ap.cell_lt (by simpa using e2))]; simpa using e2, by rw [hb.cell (Ap.cell_lt (by simpa using e3))]; simpa using e3⟩
  have HIH : Hid (StripC (l.drop 3)) := Lib.hid (ih _ (by rw [List.length_drop]; omega) (by rw [List.length_drop]; omega))
  have HP := Lib.hid (fun wx (hb : Below w.heap.size w wx) => drop_nds (At.below HA.out hb) hc 3 (by omega))
  have HS := Lib.hid (is_pat3 h3 h0 h1 h2)
  have HLN : Hid ((strip (l.drop 3)).length ≤ 1000000) := Lib.hid (Nat.le_trans (strip_len _ _ (Nat.le_refl _)) (by rw [List.length_drop]; omega))
  obtain ⟨x, hx⟩ : ∃ x, l[1] = x := ⟨_, rfl⟩
  rw [hx] at HC HS
  clear e1 e2 e3 hx
  have hq0 : ∀ w, (binOp .eql 39 (.agg #[.int .i64 l[0].k, .string l[0].n, .int .i64 l[0].s]) (.agg #[.int .i64 6, .string ⟨#[]⟩, .int .i64 0])).run Try.prog w = .ok (.bool (decide (l[0] = alt))) w := fun w => eq_nd l[0] alt w
  obtain ⟨c01, c02, c03⟩ := hat 0 (by omega)
  rw [Nat.zero_mul, Nat.add_zero] at c01 c02 c03
  obtain ⟨c11, -, -⟩ := hat 1 (by omega)
  have hq2 : ∀ w, (binOp .eql 39 (.agg #[.int .i64 l[2].k, .string l[2].n, .int .i64 l[2].s]) (.agg #[.int .i64 3, .string ⟨#[]⟩, .int .i64 0])).run Try.prog w = .ok (.bool (decide (l[2] = thr))) w := fun w => eq_nd l[2] thr w
  obtain ⟨c21, c22, c23⟩ := hat 2 (by omega)
  rw [decide_eq_true h0] at hq0
  rw [decide_eq_true h2] at hq2
  rw [h1] at c11
  clear h0 h1 h2
  clear hat ih
  go_enter Try.func18, Try.ntmps18
  go_wp2_with fail
  refine Rg.wp_region_kept (by kernel_rfl) [(0, some 27), (1, some 28), (2, some 29), (3, some 30), (4, some 31), (5, some 32), (6, some 33), (7, some 34), (8, some 2)] (by rfl) (by kernel_rfl) (by kernel_rfl) (fun w' => Below w.heap.size w w') (RS b off l.length cap (off + 3) x (l.drop 3) (strip (l.drop 3))) ((Below.refl _ _).drew) ?_ ⟨⟨⟨⟨⟨⟨⟨⟨⟨True.intro, ?_⟩, ?_⟩, ?_⟩, ?_⟩, ?_⟩, ?_⟩, ?_⟩, ?_⟩, ?_⟩ ?_
  · intro k v w' hk
    unfold RS
    split
    case h_10 => trivial
    all_goals exact absurd hk (by decide)
  · intro o ho f us wl al ha g hf hdep K hKf
    obtain rfl := Option.some.inj ho
    have hB := Lib.hid g.1
    have hK : ∀ v w', (RS b off l.length cap (off + 3) x (l.drop 3) (strip (l.drop 3))) 0 v w' → Below wl.heap.size wl w' → K (al.put (some 27) v) w' := fun v w' hv hb => hKf v w' (Rg.Kept.put (Base := fun w' => Below w.heap.size w w') (R := RS b off l.length cap (off + 3) x (l.drop 3) (strip (l.drop 3))) (fun _ _ h hb => h.trans (hb.mono h.size)) (fun _ _ _ _ h hb => RS.below h hb) g hb hv)
    have e0 : al.tmps[0]?.getD undef = .slice (some ⟨b, off, none⟩) l.length cap := by rw [← Rg.eval_getD, ha]; exact (Rg.puts_eval_ne _ _ _ (by rfl)).trans rfl
    clear ha hdep g hf hKf
    refine Rg.wpOp_of rfl rfl ?_
    go_simp
    exact hK _ _ rfl (Below.refl _ _)
  · intro o ho f us wl al ha g hf hdep K hKf
    obtain rfl := Option.some.inj ho
    have hB := Lib.hid g.1
    have hK : ∀ v w', (RS b off l.length cap (off + 3) x (l.drop 3) (strip (l.drop 3))) 1 v w' → Below wl.heap.size wl w' → K (al.put (some 28) v) w' := fun v w' hv hb => hKf v w' (Rg.Kept.put (Base := fun w' => Below w.heap.size w w') (R := RS b off l.length cap (off + 3) x (l.drop 3) (strip (l.drop 3))) (fun _ _ h hb => h.trans (hb.mono h.size)) (fun _ _ _ _ h hb => RS.below h hb) g hb hv)
    have d0 : (RS b off l.length cap (off + 3) x (l.drop 3) (strip (l.drop 3))) 0 (us 0) wl := g.2 0 (hdep ⟨0, .data⟩ (by simp) rfl)
    have e27 : al.tmps[27]?.getD undef = us 0 := by rw [← Rg.eval_getD, ha]; exact Rg.puts_eval _ _ _ (by rfl) (by simp) (by simp)
    clear ha hdep g hf hKf
    have f0 : us 0 = .slice (some ⟨b, off, none⟩) l.length cap := d0
    clear d0
    have hjn : 1 < l.length := by omega
    have hji : (1 : Int) < (l.length : Int) := by omega
    refine Rg.wpOp_of rfl rfl ?_
    go_simp
    exact hK _ _ rfl (Below.refl _ _)
  · intro o ho f us wl al ha g hf hdep K hKf
    obtain rfl := Option.some.inj ho
    have hB := Lib.hid g.1
    have hK : ∀ v w', (RS b off l.length cap (off + 3) x (l.drop 3) (strip (l.drop 3))) 2 v w' → Below wl.heap.size wl w' → K (al.put (some 29) v) w' := fun v w' hv hb => hKf v w' (Rg.Kept.put (Base := fun w' => Below w.heap.size w w') (R := RS b off l.length cap (off + 3) x (l.drop 3) (strip (l.drop 3))) (fun _ _ h hb => h.trans (hb.mono h.size)) (fun _ _ _ _ h hb => RS.below h hb) g hb hv)
    have d1 : (RS b off l.length cap (off + 3) x (l.drop 3) (strip (l.drop 3))) 1 (us 1) wl := g.2 1 (hdep ⟨1, .data⟩ (by simp) rfl)
    have e28 : al.tmps[28]?.getD undef = us 1 := by rw [← Rg.eval_getD, ha]; exact Rg.puts_eval _ _ _ (by rfl) (by simp) (by simp)
    clear ha hdep g hf hKf
    have f1 : us 1 = .pointer (some ⟨b, (off + 3), none⟩) := d1
    clear d1
    obtain ⟨q1, q2, q3⟩ := HC.out wl hB.out
    refine Rg.wpOp_of rfl rfl ?_
    go_simp
    exact hK _ _ rfl (Below.refl _ _)
  · intro o ho f us wl al ha g hf hdep K hKf
    obtain rfl := Option.some.inj ho
    have hB := Lib.hid g.1
    have hK : ∀ v w', (RS b off l.length cap (off + 3) x (l.drop 3) (strip (l.drop 3))) 3 v w' → Below wl.heap.size wl w' → K (al.put (some 30) v) w' := fun v w' hv hb => hKf v w' (Rg.Kept.put (Base := fun w' => Below w.heap.size w w') (R := RS b off l.length cap (off + 3) x (l.drop 3) (strip (l.drop 3))) (fun _ _ h hb => h.trans (hb.mono h.size)) (fun _ _ _ _ h hb => RS.below h hb) g hb hv)
    have d2 : (RS b off l.length cap (off + 3) x (l.drop 3) (strip (l.drop 3))) 2 (us 2) wl := g.2 2 (hdep ⟨2, .data⟩ (by simp) rfl)
    have e29 : al.tmps[29]?.getD undef = us 2 := by rw [← Rg.eval_getD, ha]; exact Rg.puts_eval _ _ _ (by rfl) (by simp) (by simp)
    clear ha hdep g hf hKf
    have f2 : us 2 = .agg #[.int .i64 x.k, .string x.n, .int .i64 x.s] := d2
    clear d2
    refine Rg.wpOp_of rfl rfl ?_
    go_simp
    exact hK _ _ ⟨_, rfl, nds_new wl [x] _⟩ (below1 wl _)
  · intro o ho f us wl al ha g hf hdep K hKf
    obtain rfl := Option.some.inj ho
    have hB := Lib.hid g.1
    have hK : ∀ v w', (RS b off l.length cap (off + 3) x (l.drop 3) (strip (l.drop 3))) 4 v w' → Below wl.heap.size wl w' → K (al.put (some 31) v) w' := fun v w' hv hb => hKf v w' (Rg.Kept.put (Base := fun w' => Below w.heap.size w w') (R := RS b off l.length cap (off + 3) x (l.drop 3) (strip (l.drop 3))) (fun _ _ h hb => h.trans (hb.mono h.size)) (fun _ _ _ _ h hb => RS.below h hb) g hb hv)
    have e0 : al.tmps[0]?.getD undef = .slice (some ⟨b, off, none⟩) l.length cap := by rw [← Rg.eval_getD, ha]; exact (Rg.puts_eval_ne _ _ _ (by rfl)).trans rfl
    clear ha hdep g hf hKf
    refine Rg.wpOp_of rfl rfl ?_
    go_simp
    exact hK _ _ rfl (Below.refl _ _)
  · intro o ho f us wl al ha g hf hdep K hKf
    obtain rfl := Option.some.inj ho
    have hB := Lib.hid g.1
    have hK : ∀ v w', (RS b off l.length cap (off + 3) x (l.drop 3) (strip (l.drop 3))) 5 v w' → Below wl.heap.size wl w' → K (al.put (some 32) v) w' := fun v w' hv hb => hKf v w' (Rg.Kept.put (Base := fun w' => Below w.heap.size w w') (R := RS b off l.length cap (off + 3) x (l.drop 3) (strip (l.drop 3))) (fun _ _ h hb => h.trans (hb.mono h.size)) (fun _ _ _ _ h hb => RS.below h hb) g hb hv)
    have d4 : (RS b off l.length cap (off + 3) x (l.drop 3) (strip (l.drop 3))) 4 (us 4) wl := g.2 4 (hdep ⟨4, .data⟩ (by simp) rfl)
    have e31 : al.tmps[31]?.getD undef = us 4 := by rw [← Rg.eval_getD, ha]; exact Rg.puts_eval _ _ _ (by rfl) (by simp) (by simp)
    clear ha hdep g hf hKf
    have f4 : us 4 = .slice (some ⟨b, off, none⟩) l.length cap := d4
    clear d4
    have hdd : (3 : Int) ≤ (l.length : Int) := by omega
    have hpp := HP.out wl hB.out
    by_cases hcd : cap = 3
    · have hld : l.length = 3 := by omega
      have hnil : l.drop 3 = [] := List.drop_eq_nil_of_le (by omega)
      rw [hnil] at hK
      refine Rg.wpOp_of rfl rfl ?_
      go_simp
      exact hK _ _ (empty_nds _ _ _ _) (Below.refl _ _)
    · refine Rg.wpOp_of rfl rfl ?_
      go_simp
      exact hK _ _ hpp (Below.refl _ _)
  · intro o ho f us wl al ha g hf hdep K hKf
    obtain rfl := Option.some.inj ho
    have hB := Lib.hid g.1
    have hK : ∀ v w', (RS b off l.length cap (off + 3) x (l.drop 3) (strip (l.drop 3))) 6 v w' → Below wl.heap.size wl w' → K (al.put (some 33) v) w' := fun v w' hv hb => hKf v w' (Rg.Kept.put (Base := fun w' => Below w.heap.size w w') (R := RS b off l.length cap (off + 3) x (l.drop 3) (strip (l.drop 3))) (fun _ _ h hb => h.trans (hb.mono h.size)) (fun _ _ _ _ h hb => RS.below h hb) g hb hv)
    have d5 : (RS b off l.length cap (off + 3) x (l.drop 3) (strip (l.drop 3))) 5 (us 5) wl := g.2 5 (hdep ⟨5, .data⟩ (by simp) rfl)
    have e32 : al.tmps[32]?.getD undef = us 5 := by rw [← Rg.eval_getD, ha]; exact Rg.puts_eval _ _ _ (by rfl) (by simp) (by simp)
    clear ha hdep g hf hKf
    have d5' : Nds wl (us 5) (l.drop 3) := d5
    refine Rg.wpOp_of rfl rfl ?_
    go_simp
    refine (HIH.out _ _ d5').mono ?_
    rintro e w' ⟨y, rfl, hy, hb⟩
    exact hK _ _ hy hb
  · intro o ho f us wl al ha g hf hdep K hKf
    obtain rfl := Option.some.inj ho
    have hB := Lib.hid g.1
    have hK : ∀ v w', (RS b off l.length cap (off + 3) x (l.drop 3) (strip (l.drop 3))) 7 v w' → Below wl.heap.size wl w' → K (al.put (some 34) v) w' := fun v w' hv hb => hKf v w' (Rg.Kept.put (Base := fun w' => Below w.heap.size w w') (R := RS b off l.length cap (off + 3) x (l.drop 3) (strip (l.drop 3))) (fun _ _ h hb => h.trans (hb.mono h.size)) (fun _ _ _ _ h hb => RS.below h hb) g hb hv)
    have d3 : (RS b off l.length cap (off + 3) x (l.drop 3) (strip (l.drop 3))) 3 (us 3) wl := g.2 3 (hdep ⟨3, .data⟩ (by simp) rfl)
    have e30 : al.tmps[30]?.getD undef = us 3 := by rw [← Rg.eval_getD, ha]; exact Rg.puts_eval _ _ _ (by rfl) (by simp) (by simp)
    have d6 : (RS b off l.length cap (off + 3) x (l.drop 3) (strip (l.drop 3))) 6 (us 6) wl := g.2 6 (hdep ⟨6, .data⟩ (by simp) rfl)
    have e33 : al.tmps[33]?.getD undef = us 6 := by rw [← Rg.eval_getD, ha]; exact Rg.puts_eval _ _ _ (by rfl) (by simp) (by simp)
    clear ha hdep g hf hKf
    obtain ⟨g, f3, hn3⟩ : ∃ g, us 3 = .slice (some ⟨g, 0, none⟩) 1 1 ∧ Nds wl (us 3) [x] := d3
    have d6' : Nds wl (us 6) (strip (l.drop 3)) := d6
    rw [f3] at hn3
    obtain ⟨v', w', hrun, hnds, hbe⟩ := cons_run hn3 d6' (HLN.out)
    refine Rg.wpOp_of rfl rfl ?_
    exact wp_append_run _ _ _ _ rfl _ _ (by rw [Rg.eval_getD]; exact e30.trans f3) (by rw [Rg.eval_getD]; exact e33) _ w' hrun (hK _ _ hnds hbe)
  · intro o ho f us wl al ha g hf hdep K hKf
    obtain rfl := Option.some.inj ho
    have hB := Lib.hid g.1
    have hK : ∀ v w', (RS b off l.length cap (off + 3) x (l.drop 3) (strip (l.drop 3))) 8 v w' → Below wl.heap.size wl w' → K (al.put (some 2) v) w' := fun v w' hv hb => hKf v w' (Rg.Kept.put (Base := fun w' => Below w.heap.size w w') (R := RS b off l.length cap (off + 3) x (l.drop 3) (strip (l.drop 3))) (fun _ _ h hb => h.trans (hb.mono h.size)) (fun _ _ _ _ h hb => RS.below h hb) g hb hv)
    have d7 : (RS b off l.length cap (off + 3) x (l.drop 3) (strip (l.drop 3))) 7 (us 7) wl := g.2 7 (hdep ⟨7, .data⟩ (by simp) rfl)
    have e34 : al.tmps[34]?.getD undef = us 7 := by rw [← Rg.eval_getD, ha]; exact Rg.puts_eval _ _ _ (by rfl) (by simp) (by simp)
    clear ha hdep g hf hKf
    have d7' : Nds wl (us 7) (x :: strip (l.drop 3)) := d7
    refine Rg.wpOp_of rfl rfl ?_
    go_simp
    exact hK _ _ d7' (Below.refl _ _)
  · intro us wz hB hR
    have hu : Nds wz (us 8) (x :: strip (l.drop 3)) := hR 8
    have HU := Lib.hid hu
    have HB2 := Lib.hid hB
    clear hB hR hu
    simp only [Rg.puts, Act.put, List.setIfInBounds_toArray, List.set_cons_zero, List.set_cons_succ]
    go_wp2_with fail
    go_ret
    exact ⟨_, rfl, by rw [HS.out]; exact HU.out, HB2.out⟩

theorem stripR_all : ∀ (m : Nat) (l : List Nd), l.length ≤ m → l.length ≤ 1000000 → StripC l
  | 0, l, hm, _ => fun v w hv => by
    obtain rfl : l = [] := List.eq_nil_of_length_eq_zero (by omega)
    obtain ⟨_, a, cap, rfl, -⟩ := hv
    exact stripR_empty a cap w
  | m + 1, l, hm, hl => fun v w hv => by
    rcases hv.form with ⟨rfl, a, cap, rfl⟩ | ⟨b, off, cap, rfl, hc, hat⟩
    · exact stripR_empty a cap w
    · have ih : ∀ l' : List Nd, l'.length < l.length → l'.length ≤ 1000000 → StripC l' := fun l' h h' => stripR_all m l' (by omega) h'
      by_cases hz : 0 < l.length
      · by_cases h3 : 3 ≤ l.length
        · by_cases h0 : l[0] = alt
          · by_cases h1 : l[1].k = 1
            · by_cases h2 : l[2] = thr
              · exact stripR_yes b off cap l w hl hc hat ih h3 h0 h1 h2
              · exact stripR_no2 b off cap l w hl hc hat ih h3 h0 h1 h2
            · exact stripR_no1 b off cap l w hl hc hat ih h3 h0 h1
          · exact stripR_no0 b off cap l w hl hc hat ih h3 h0
        · exact stripR_short b off cap l w hl hc hat ih hz (by omega)
      · obtain rfl : l = [] := List.eq_nil_of_length_eq_zero (by omega)
        exact stripR_empty _ cap w
theorem stripR_any (v : Value) (l : List Nd) (w : World) (hv : Nds w v l) (hl : l.length ≤ 1000000) :
    Calls Try.prog 18 #[v] w fun e w' => ∃ y, e = .returned y ∧ Nds w' y (strip l) ∧ Below w.heap.size w w' := stripR_all _ l (Nat.le_refl _) hl v w hv
end Go.Proofs.Ytpkbpooiaddcaaa.Rf
