/- TokenPrints: the walk. -/
import Derived.Test.YthfcclheephokaaTk2
import Derived.Test.YthfcclheephokaaRg
namespace Go.Proofs.Ythfcclheephokaa.To
open Go Go.RowKit
set_option maxRecDepth 20000

def vk (t : Tk) : Value := .agg #[.int .i64 t.k, .int .i64 t.a, .string t.n]
/-- A token in a block, and in a row; below them all is as it was. -/
structure Pb (w0 : World) (b : Nat) (yc : Value) (ts : List Tk) (t : Tk) (w : World) : Prop where
  bel : Below w0.heap.size w0 w
  tok : Tks w yc ts
  blk : Blk w b t
theorem Pb.below {w0 w w' : World} {b : Nat} {yc : Value} {ts : List Tk} {t : Tk} (h : Pb w0 b yc ts t w) (hb : Below w.heap.size w w') : Pb w0 b yc ts t w' :=
  ⟨h.bel.trans (hb.mono h.bel.size), h.tok.below hb, h.blk.below hb⟩
theorem yielded_undef {ops : Array Oper} {a : Act} {j : Nat} {d : Tmp} (hj : (ops[j]?).bind (·.dst) = some d) (h : a.eval (.tmp d) = undef) : yielded ops a.tmps j = none := by
  unfold yielded
  rw [hj]
  rw [Rg.eval_getD] at h
  cases hx : a.tmps[d]? with
  | none => simp only [Option.bind_some, hx]
  | some v =>
    rw [hx] at h
    have : v = undef := h
    subst this
    simp only [Option.bind_some, hx]
    rfl
theorem unwanted_none {o : Oper} {y : Nat → Option Bool} {j : Nat} {b : Bool} (hg : o.guard = some (j, b)) (hy : y j = none) : Region.wanted o y = false := by
  unfold Region.wanted
  rw [hg]
  simp [hy]
/-- What each operation of the region yields. -/
def RSome (yc : Value) (t : Tk) (k : Nat) (v : Value) (w' : World) : Prop := match k with
  | 0 => v = .bool true
  | 1 => v = .bool true
  | 2 => v = .bool true
  | 3 => v = .bool false
  | 4 => v = .bool false
  | 5 => v = .int .i64 0
  | 6 => v = .bool true
  | 7 => v = .bool true
  | 8 => v = yc
  | 9 => Tks w' v [t]
  | 10 => v = vk t
  | 11 => Tks w' v [t]
  | 12 => v = .bool true
  | 13 => v = .bool true
  | 14 => v = .bool true
  | 15 => v = .bool true
  | 16 => v = .bool true
  | _ => True
theorem RSome.below {yc : Value} {t : Tk} {k : Nat} {v : Value} {w w' : World} (h : RSome yc t k v w) (hb : Below w.heap.size w w') : RSome yc t k v w' := by
  unfold RSome at h ⊢
  split at h
  case h_10 => exact Tks.below h hb
  case h_12 => exact Tks.below h hb
  all_goals exact h
theorem RSome.put {yc v : Value} {t : Tk} {w0 w w' : World} {b : Nat} {f : Nat → Bool} {us : Nat → Value} {i : Nat} (g : Rg.Kept (Pb w0 b yc [t] t) (RSome yc t) f us w) (hb : Below w.heap.size w w') (hv : RSome yc t i v w') :
    Rg.Kept (Pb w0 b yc [t] t) (RSome yc t) (Rg.upd f i true) (Rg.upd us i v) w' :=
  Rg.Kept.put (Base := Pb w0 b yc [t] t) (R := RSome yc t) (fun _ _ h hb => Pb.below h hb) (fun _ _ _ _ h hb => RSome.below h hb) g hb hv
def RNone (_yc : Value) (_t : Tk) (k : Nat) (v : Value) (_w' : World) : Prop := match k with
  | 0 => v = .bool true
  | 1 => v = .bool true
  | 2 => v = .bool false
  | 3 => v = .bool true
  | 4 => v = .bool true
  | 5 => v = undef
  | 6 => v = undef
  | 7 => v = undef
  | 8 => v = undef
  | 9 => v = undef
  | 10 => v = undef
  | 11 => v = undef
  | 12 => v = undef
  | 13 => v = undef
  | 14 => v = .bool true
  | 15 => v = .bool true
  | 16 => v = .bool true
  | _ => True
theorem RNone.below {yc : Value} {t : Tk} {k : Nat} {v : Value} {w w' : World} (h : RNone yc t k v w) (_hb : Below w.heap.size w w') : RNone yc t k v w' := by
  unfold RNone at h ⊢
  split at h
  all_goals exact h
theorem RNone.put {yc v : Value} {t : Tk} {w0 w w' : World} {b : Nat} {f : Nat → Bool} {us : Nat → Value} {i : Nat} (g : Rg.Kept (Pb w0 b yc [] t) (RNone yc t) f us w) (hb : Below w.heap.size w w') (hv : RNone yc t i v w') :
    Rg.Kept (Pb w0 b yc [] t) (RNone yc t) (Rg.upd f i true) (Rg.upd us i v) w' :=
  Rg.Kept.put (Base := Pb w0 b yc [] t) (R := RNone yc t) (fun _ _ h hb => Pb.below h hb) (fun _ _ _ _ h hb => RNone.below h hb) g hb hv
set_option maxHeartbeats 1000000 in
theorem prints_law (con : Con) (t : Tk) (w : World) (hs : t.n.size ≤ 140737488355328) : Calls Try.prog 4 #[.agg #[.int .i64 t.k, .int .i64 t.a, .string t.n]] w fun e w' => e = .returned (.bool true) ∧ Below w.heap.size w w' := by
  have CON := Lib.hid con
  have HS := Lib.hid hs
  have B1 := Lib.hid (below_any w (.cells #[.int .i64 t.k, .int .i64 t.a, .string t.n] 34))
  have K1 := Lib.hid (Blk.new w t 34)
  clear hs
  by_cases h : 100 < t.n.size
  · go_enter Try.func4, Try.ntmps4
    go_wp2_with fail
    refine (alive_any CON.out _).mono ?_
    rintro e w' ⟨rfl, hb⟩
    have HB := Lib.hid (B1.out.trans (hb.mono B1.out.size))
    clear hb
    go_wp2_with fail
    go_ret
    exact ⟨rfl, HB.out⟩
  · have PT := Lib.hid (fun w' => CON.out.cPrint t w' HS.out)
    have PR := Lib.hid (fun w' => printR_any t w' HS.out)
    cases hp : prt t with
    | none =>
      rw [hp] at PT PR
      have L1 := Lib.hid (fun w' => CON.out.cLex ⟨#[]⟩ w' (by decide))
      rw [show lexR ⟨#[]⟩ = .ok [] from by decide +kernel] at L1
      go_enter Try.func4, Try.ntmps4
      go_wp2_with fail
      refine (PT.out _).mono ?_
      rintro e wa ⟨rfl, hba⟩
      have BA := Lib.hid (B1.out.trans (hba.mono B1.out.size))
      have KA := Lib.hid (K1.out.below hba)
      obtain ⟨c1, c2, c3, c4⟩ := KA.out
      clear hba
      go_wp2_with fail
      refine (PR.out _).mono ?_
      rintro e wb ⟨rfl, hbb⟩
      have BB := Lib.hid (BA.out.trans (hbb.mono BA.out.size))
      have KB := Lib.hid (KA.out.below hbb)
      clear hbb c1 c2 c3 c4
      go_wp2_with fail
      refine (L1.out _).mono ?_
      rintro e wc ⟨yc, rfl, htc, hbc⟩
      have BC := Lib.hid (BB.out.trans (hbc.mono BB.out.size))
      have KC := Lib.hid (KB.out.below hbc)
      have KS := Lib.hid (KC.out.set 0)
      have TS := Lib.hid (rd_set (o := 1) (x := .int .i64 0) htc (fun k hk => Nat.ne_of_gt (Nat.lt_of_lt_of_le (Ap.cell_lt KB.out.1) hk)))
      obtain ⟨c1, c2, c3, c4⟩ := KC.out
      have BS := Lib.hid (below_set BC.out w.heap.size 1 (.int .i64 0) (Nat.le_refl _))
      have PB : Hid (Pb w w.heap.size yc [] ⟨t.k, 0, t.n⟩ (wc.setCell ⟨w.heap.size, 1, none⟩ (.int .i64 0))) := Lib.hid ⟨BS.out, TS.out, KS.out⟩
      clear hbc htc
      go_wp2_with fail
      refine Rg.wp_region_kept (by kernel_rfl) [(0, some 40), (1, some 41), (2, some 42), (3, some 43), (4, some 44), (5, some 45), (6, some 46), (7, some 47), (8, some 48), (9, some 49), (10, some 50), (11, some 51), (12, some 52), (13, some 53), (14, some 54), (15, some 55), (16, some 2)] (by rfl) (by kernel_rfl) (by kernel_rfl) (Pb w w.heap.size yc [] ⟨t.k, 0, t.n⟩) (RNone yc ⟨t.k, 0, t.n⟩) (PB.out.below (Below.refl _ _).drew) ?_ ⟨⟨⟨⟨⟨⟨⟨⟨⟨⟨⟨⟨⟨⟨⟨⟨⟨True.intro, ?_⟩, ?_⟩, ?_⟩, ?_⟩, ?_⟩, ?_⟩, ?_⟩, ?_⟩, ?_⟩, ?_⟩, ?_⟩, ?_⟩, ?_⟩, ?_⟩, ?_⟩, ?_⟩, ?_⟩ ?_
      · intro k v w' hk
        unfold RNone
        split
        case h_18 => trivial
        all_goals exact absurd hk (by decide)
      · intro o ho f us wl al ha g hf hdep K hKf
        obtain rfl := Option.some.inj ho
        have hB := Lib.hid g.1
        have hK : ∀ v w', RNone yc ⟨t.k, 0, t.n⟩ 0 v w' → Below wl.heap.size wl w' → K (al.put (some 40) v) w' := fun v w' hv hb => hKf v w' (RNone.put g hb hv)
        clear ha hdep g hf hKf
        refine Rg.wpOp_of rfl rfl ?_
        go_simp
        refine (alive_any CON.out _).mono ?_
        rintro e wn ⟨rfl, hb⟩
        exact hK _ _ rfl hb
      · intro o ho f us wl al ha g hf hdep K hKf
        obtain rfl := Option.some.inj ho
        have hB := Lib.hid g.1
        have hK : ∀ v w', RNone yc ⟨t.k, 0, t.n⟩ 1 v w' → Below wl.heap.size wl w' → K (al.put (some 41) v) w' := fun v w' hv hb => hKf v w' (RNone.put g hb hv)
        have d0 : RNone yc ⟨t.k, 0, t.n⟩ 0 (us 0) wl := g.2 0 (hdep ⟨0, .data⟩ (by simp) rfl)
        have e40 : al.tmps[40]?.getD undef = us 0 := by rw [← Rg.eval_getD, ha]; exact Rg.puts_eval _ _ _ (by rfl) (by simp) (by simp)
        have f0 : us 0 = .bool true := d0
        clear ha hdep g hf hKf d0
        refine Rg.wpOp_of rfl rfl ?_
        go_simp
        exact hK _ _ rfl (Below.refl _ _)
      · intro o ho f us wl al ha g hf hdep K hKf
        obtain rfl := Option.some.inj ho
        have hB := Lib.hid g.1
        have hK : ∀ v w', RNone yc ⟨t.k, 0, t.n⟩ 2 v w' → Below wl.heap.size wl w' → K (al.put (some 42) v) w' := fun v w' hv hb => hKf v w' (RNone.put g hb hv)
        have d1 : RNone yc ⟨t.k, 0, t.n⟩ 1 (us 1) wl := g.2 1 (hdep ⟨1, .guard⟩ (by simp) rfl)
        have gg : al.eval (.tmp 41) = .bool true := by rw [ha]; exact (Rg.puts_eval _ _ _ (by rfl) (by simp) (by simp)).trans d1
        have e4 : al.tmps[4]?.getD undef = .bool false := by rw [← Rg.eval_getD, ha]; exact (Rg.puts_eval_ne _ _ _ (by rfl)).trans rfl
        clear ha hdep g hf hKf d1
        refine Rg.wpOp_of rfl (Rg.wanted_of rfl (Rg.yielded_of (d := 41) (by rfl) gg)) ?_
        go_simp
        exact hK _ _ rfl (Below.refl _ _)
      · intro o ho f us wl al ha g hf hdep K hKf
        obtain rfl := Option.some.inj ho
        have hB := Lib.hid g.1
        have hK : ∀ v w', RNone yc ⟨t.k, 0, t.n⟩ 3 v w' → Below wl.heap.size wl w' → K (al.put (some 43) v) w' := fun v w' hv hb => hKf v w' (RNone.put g hb hv)
        have d1 : RNone yc ⟨t.k, 0, t.n⟩ 1 (us 1) wl := g.2 1 (hdep ⟨1, .guard⟩ (by simp) rfl)
        have gg : al.eval (.tmp 41) = .bool true := by rw [ha]; exact (Rg.puts_eval _ _ _ (by rfl) (by simp) (by simp)).trans d1
        have d2 : RNone yc ⟨t.k, 0, t.n⟩ 2 (us 2) wl := g.2 2 (hdep ⟨2, .data⟩ (by simp) rfl)
        have e42 : al.tmps[42]?.getD undef = us 2 := by rw [← Rg.eval_getD, ha]; exact Rg.puts_eval _ _ _ (by rfl) (by simp) (by simp)
        have f2 : us 2 = .bool false := d2
        clear ha hdep g hf hKf d1 d2
        refine Rg.wpOp_of rfl (Rg.wanted_of rfl (Rg.yielded_of (d := 41) (by rfl) gg)) ?_
        go_simp
        exact hK _ _ rfl (Below.refl _ _)
      · intro o ho f us wl al ha g hf hdep K hKf
        obtain rfl := Option.some.inj ho
        have hB := Lib.hid g.1
        have hK : ∀ v w', RNone yc ⟨t.k, 0, t.n⟩ 4 v w' → Below wl.heap.size wl w' → K (al.put (some 44) v) w' := fun v w' hv hb => hKf v w' (RNone.put g hb hv)
        have d1 : RNone yc ⟨t.k, 0, t.n⟩ 1 (us 1) wl := g.2 1 (hdep ⟨1, .guard⟩ (by simp) rfl)
        have gg : al.eval (.tmp 41) = .bool true := by rw [ha]; exact (Rg.puts_eval _ _ _ (by rfl) (by simp) (by simp)).trans d1
        have d3 : RNone yc ⟨t.k, 0, t.n⟩ 3 (us 3) wl := g.2 3 (hdep ⟨3, .data⟩ (by simp) rfl)
        have e43 : al.tmps[43]?.getD undef = us 3 := by rw [← Rg.eval_getD, ha]; exact Rg.puts_eval _ _ _ (by rfl) (by simp) (by simp)
        have f3 : us 3 = .bool true := d3
        clear ha hdep g hf hKf d1 d3
        refine Rg.wpOp_of rfl (Rg.wanted_of rfl (Rg.yielded_of (d := 41) (by rfl) gg)) ?_
        go_simp
        exact hK _ _ rfl (Below.refl _ _)
      · intro o ho f us wl al ha g hf hdep K hKf
        obtain rfl := Option.some.inj ho
        have hB := Lib.hid g.1
        have hK : ∀ v w', RNone yc ⟨t.k, 0, t.n⟩ 5 v w' → Below wl.heap.size wl w' → K (al.put (some 45) v) w' := fun v w' hv hb => hKf v w' (RNone.put g hb hv)
        have d4 : RNone yc ⟨t.k, 0, t.n⟩ 4 (us 4) wl := g.2 4 (hdep ⟨4, .guard⟩ (by simp) rfl)
        have gg : al.eval (.tmp 44) = .bool true := by rw [ha]; exact (Rg.puts_eval _ _ _ (by rfl) (by simp) (by simp)).trans d4
        exact Rg.wpOp_off rfl (Rg.unwanted_of rfl (Rg.yielded_of (d := 44) (by rfl) gg)) (hK _ _ rfl (Below.refl _ _))
      · intro o ho f us wl al ha g hf hdep K hKf
        obtain rfl := Option.some.inj ho
        have hB := Lib.hid g.1
        have hK : ∀ v w', RNone yc ⟨t.k, 0, t.n⟩ 6 v w' → Below wl.heap.size wl w' → K (al.put (some 46) v) w' := fun v w' hv hb => hKf v w' (RNone.put g hb hv)
        have d4 : RNone yc ⟨t.k, 0, t.n⟩ 4 (us 4) wl := g.2 4 (hdep ⟨4, .guard⟩ (by simp) rfl)
        have gg : al.eval (.tmp 44) = .bool true := by rw [ha]; exact (Rg.puts_eval _ _ _ (by rfl) (by simp) (by simp)).trans d4
        exact Rg.wpOp_off rfl (Rg.unwanted_of rfl (Rg.yielded_of (d := 44) (by rfl) gg)) (hK _ _ rfl (Below.refl _ _))
      · intro o ho f us wl al ha g hf hdep K hKf
        obtain rfl := Option.some.inj ho
        have hB := Lib.hid g.1
        have hK : ∀ v w', RNone yc ⟨t.k, 0, t.n⟩ 7 v w' → Below wl.heap.size wl w' → K (al.put (some 47) v) w' := fun v w' hv hb => hKf v w' (RNone.put g hb hv)
        have d4 : RNone yc ⟨t.k, 0, t.n⟩ 4 (us 4) wl := g.2 4 (hdep ⟨4, .guard⟩ (by simp) rfl)
        have gg : al.eval (.tmp 44) = .bool true := by rw [ha]; exact (Rg.puts_eval _ _ _ (by rfl) (by simp) (by simp)).trans d4
        exact Rg.wpOp_off rfl (Rg.unwanted_of rfl (Rg.yielded_of (d := 44) (by rfl) gg)) (hK _ _ rfl (Below.refl _ _))
      · intro o ho f us wl al ha g hf hdep K hKf
        obtain rfl := Option.some.inj ho
        have hB := Lib.hid g.1
        have hK : ∀ v w', RNone yc ⟨t.k, 0, t.n⟩ 8 v w' → Below wl.heap.size wl w' → K (al.put (some 48) v) w' := fun v w' hv hb => hKf v w' (RNone.put g hb hv)
        have d7 : RNone yc ⟨t.k, 0, t.n⟩ 7 (us 7) wl := g.2 7 (hdep ⟨7, .guard⟩ (by simp) rfl)
        have gg : al.eval (.tmp 47) = undef := by rw [ha]; exact (Rg.puts_eval _ _ _ (by rfl) (by simp) (by simp)).trans d7
        exact Rg.wpOp_off rfl (unwanted_none rfl (yielded_undef (d := 47) (by rfl) gg)) (hK _ _ rfl (Below.refl _ _))
      · intro o ho f us wl al ha g hf hdep K hKf
        obtain rfl := Option.some.inj ho
        have hB := Lib.hid g.1
        have hK : ∀ v w', RNone yc ⟨t.k, 0, t.n⟩ 9 v w' → Below wl.heap.size wl w' → K (al.put (some 49) v) w' := fun v w' hv hb => hKf v w' (RNone.put g hb hv)
        have d7 : RNone yc ⟨t.k, 0, t.n⟩ 7 (us 7) wl := g.2 7 (hdep ⟨7, .guard⟩ (by simp) rfl)
        have gg : al.eval (.tmp 47) = undef := by rw [ha]; exact (Rg.puts_eval _ _ _ (by rfl) (by simp) (by simp)).trans d7
        exact Rg.wpOp_off rfl (unwanted_none rfl (yielded_undef (d := 47) (by rfl) gg)) (hK _ _ rfl (Below.refl _ _))
      · intro o ho f us wl al ha g hf hdep K hKf
        obtain rfl := Option.some.inj ho
        have hB := Lib.hid g.1
        have hK : ∀ v w', RNone yc ⟨t.k, 0, t.n⟩ 10 v w' → Below wl.heap.size wl w' → K (al.put (some 50) v) w' := fun v w' hv hb => hKf v w' (RNone.put g hb hv)
        have d7 : RNone yc ⟨t.k, 0, t.n⟩ 7 (us 7) wl := g.2 7 (hdep ⟨7, .guard⟩ (by simp) rfl)
        have gg : al.eval (.tmp 47) = undef := by rw [ha]; exact (Rg.puts_eval _ _ _ (by rfl) (by simp) (by simp)).trans d7
        exact Rg.wpOp_off rfl (unwanted_none rfl (yielded_undef (d := 47) (by rfl) gg)) (hK _ _ rfl (Below.refl _ _))
      · intro o ho f us wl al ha g hf hdep K hKf
        obtain rfl := Option.some.inj ho
        have hB := Lib.hid g.1
        have hK : ∀ v w', RNone yc ⟨t.k, 0, t.n⟩ 11 v w' → Below wl.heap.size wl w' → K (al.put (some 51) v) w' := fun v w' hv hb => hKf v w' (RNone.put g hb hv)
        have d7 : RNone yc ⟨t.k, 0, t.n⟩ 7 (us 7) wl := g.2 7 (hdep ⟨7, .guard⟩ (by simp) rfl)
        have gg : al.eval (.tmp 47) = undef := by rw [ha]; exact (Rg.puts_eval _ _ _ (by rfl) (by simp) (by simp)).trans d7
        exact Rg.wpOp_off rfl (unwanted_none rfl (yielded_undef (d := 47) (by rfl) gg)) (hK _ _ rfl (Below.refl _ _))
      · intro o ho f us wl al ha g hf hdep K hKf
        obtain rfl := Option.some.inj ho
        have hB := Lib.hid g.1
        have hK : ∀ v w', RNone yc ⟨t.k, 0, t.n⟩ 12 v w' → Below wl.heap.size wl w' → K (al.put (some 52) v) w' := fun v w' hv hb => hKf v w' (RNone.put g hb hv)
        have d7 : RNone yc ⟨t.k, 0, t.n⟩ 7 (us 7) wl := g.2 7 (hdep ⟨7, .guard⟩ (by simp) rfl)
        have gg : al.eval (.tmp 47) = undef := by rw [ha]; exact (Rg.puts_eval _ _ _ (by rfl) (by simp) (by simp)).trans d7
        exact Rg.wpOp_off rfl (unwanted_none rfl (yielded_undef (d := 47) (by rfl) gg)) (hK _ _ rfl (Below.refl _ _))
      · intro o ho f us wl al ha g hf hdep K hKf
        obtain rfl := Option.some.inj ho
        have hB := Lib.hid g.1
        have hK : ∀ v w', RNone yc ⟨t.k, 0, t.n⟩ 13 v w' → Below wl.heap.size wl w' → K (al.put (some 53) v) w' := fun v w' hv hb => hKf v w' (RNone.put g hb hv)
        have d4 : RNone yc ⟨t.k, 0, t.n⟩ 4 (us 4) wl := g.2 4 (hdep ⟨4, .guard⟩ (by simp) rfl)
        have gg : al.eval (.tmp 44) = .bool true := by rw [ha]; exact (Rg.puts_eval _ _ _ (by rfl) (by simp) (by simp)).trans d4
        exact Rg.wpOp_off rfl (Rg.unwanted_of rfl (Rg.yielded_of (d := 44) (by rfl) gg)) (hK _ _ rfl (Below.refl _ _))
      · intro o ho f us wl al ha g hf hdep K hKf
        obtain rfl := Option.some.inj ho
        have hB := Lib.hid g.1
        have hK : ∀ v w', RNone yc ⟨t.k, 0, t.n⟩ 14 v w' → Below wl.heap.size wl w' → K (al.put (some 54) v) w' := fun v w' hv hb => hKf v w' (RNone.put g hb hv)
        have d1 : RNone yc ⟨t.k, 0, t.n⟩ 1 (us 1) wl := g.2 1 (hdep ⟨1, .guard⟩ (by simp) rfl)
        have gg : al.eval (.tmp 41) = .bool true := by rw [ha]; exact (Rg.puts_eval _ _ _ (by rfl) (by simp) (by simp)).trans d1
        have d4 : RNone yc ⟨t.k, 0, t.n⟩ 4 (us 4) wl := g.2 4 (hdep ⟨4, .data⟩ (by simp) rfl)
        have e44 : al.tmps[44]?.getD undef = us 4 := by rw [← Rg.eval_getD, ha]; exact Rg.puts_eval _ _ _ (by rfl) (by simp) (by simp)
        have f4 : us 4 = .bool true := d4
        clear ha hdep g hf hKf d1 d4
        refine Rg.wpOp_of rfl (Rg.wanted_of rfl (Rg.yielded_of (d := 41) (by rfl) gg)) ?_
        go_simp
        exact hK _ _ rfl (Below.refl _ _)
      · intro o ho f us wl al ha g hf hdep K hKf
        obtain rfl := Option.some.inj ho
        have hB := Lib.hid g.1
        have hK : ∀ v w', RNone yc ⟨t.k, 0, t.n⟩ 15 v w' → Below wl.heap.size wl w' → K (al.put (some 55) v) w' := fun v w' hv hb => hKf v w' (RNone.put g hb hv)
        have d14 : RNone yc ⟨t.k, 0, t.n⟩ 14 (us 14) wl := g.2 14 (hdep ⟨14, .data⟩ (by simp) rfl)
        have e54 : al.tmps[54]?.getD undef = us 14 := by rw [← Rg.eval_getD, ha]; exact Rg.puts_eval _ _ _ (by rfl) (by simp) (by simp)
        have f14 : us 14 = .bool true := d14
        have d1 : RNone yc ⟨t.k, 0, t.n⟩ 1 (us 1) wl := g.2 1 (hdep ⟨1, .data⟩ (by simp) rfl)
        have e41 : al.tmps[41]?.getD undef = us 1 := by rw [← Rg.eval_getD, ha]; exact Rg.puts_eval _ _ _ (by rfl) (by simp) (by simp)
        have f1 : us 1 = .bool true := d1
        clear ha hdep g hf hKf d1 d14
        refine Rg.wpOp_of rfl rfl ?_
        go_simp
        exact hK _ _ rfl (Below.refl _ _)
      · intro o ho f us wl al ha g hf hdep K hKf
        obtain rfl := Option.some.inj ho
        have hB := Lib.hid g.1
        have hK : ∀ v w', RNone yc ⟨t.k, 0, t.n⟩ 16 v w' → Below wl.heap.size wl w' → K (al.put (some 2) v) w' := fun v w' hv hb => hKf v w' (RNone.put g hb hv)
        have d15 : RNone yc ⟨t.k, 0, t.n⟩ 15 (us 15) wl := g.2 15 (hdep ⟨15, .data⟩ (by simp) rfl)
        have e55 : al.tmps[55]?.getD undef = us 15 := by rw [← Rg.eval_getD, ha]; exact Rg.puts_eval _ _ _ (by rfl) (by simp) (by simp)
        have f15 : us 15 = .bool true := d15
        clear ha hdep g hf hKf d15
        refine Rg.wpOp_of rfl rfl ?_
        go_simp
        exact hK _ _ rfl (Below.refl _ _)
      · intro us wz hB hR
        have f16 : us 16 = .bool true := hR 16
        have I2 := Lib.hid hB.bel
        clear hB hR
        simp only [Rg.puts, Act.put, List.setIfInBounds_toArray, List.set_cons_zero, List.set_cons_succ, f16]
        go_wp2_with fail
        go_ret
        exact ⟨rfl, I2.out⟩
    | some u =>
      rw [hp] at PT PR
      have L1 := Lib.hid (fun w' => CON.out.cLex u w' (by have := (prt_read hp [] 0 trivial).2.2; omega))
      rw [lex_prt hp] at L1
      go_enter Try.func4, Try.ntmps4
      go_wp2_with fail
      refine (PT.out _).mono ?_
      rintro e wa ⟨rfl, hba⟩
      have BA := Lib.hid (B1.out.trans (hba.mono B1.out.size))
      have KA := Lib.hid (K1.out.below hba)
      obtain ⟨c1, c2, c3, c4⟩ := KA.out
      clear hba
      go_wp2_with fail
      refine (PR.out _).mono ?_
      rintro e wb ⟨rfl, hbb⟩
      have BB := Lib.hid (BA.out.trans (hbb.mono BA.out.size))
      have KB := Lib.hid (KA.out.below hbb)
      clear hbb c1 c2 c3 c4
      go_wp2_with fail
      refine (L1.out _).mono ?_
      rintro e wc ⟨yc, rfl, htc, hbc⟩
      have BC := Lib.hid (BB.out.trans (hbc.mono BB.out.size))
      have KC := Lib.hid (KB.out.below hbc)
      have KS := Lib.hid (KC.out.set 0)
      have TS := Lib.hid (rd_set (o := 1) (x := .int .i64 0) htc (fun k hk => Nat.ne_of_gt (Nat.lt_of_lt_of_le (Ap.cell_lt KB.out.1) hk)))
      obtain ⟨c1, c2, c3, c4⟩ := KC.out
      have BS := Lib.hid (below_set BC.out w.heap.size 1 (.int .i64 0) (Nat.le_refl _))
      clear hbc htc
      have PB : Hid (Pb w w.heap.size yc [⟨t.k, 0, t.n⟩] ⟨t.k, 0, t.n⟩ (wc.setCell ⟨w.heap.size, 1, none⟩ (.int .i64 0))) := Lib.hid ⟨BS.out, TS.out, KS.out⟩
      go_wp2_with fail
      refine Rg.wp_region_kept (by kernel_rfl) [(0, some 40), (1, some 41), (2, some 42), (3, some 43), (4, some 44), (5, some 45), (6, some 46), (7, some 47), (8, some 48), (9, some 49), (10, some 50), (11, some 51), (12, some 52), (13, some 53), (14, some 54), (15, some 55), (16, some 2)] (by rfl) (by kernel_rfl) (by kernel_rfl) (Pb w w.heap.size yc [⟨t.k, 0, t.n⟩] ⟨t.k, 0, t.n⟩) (RSome yc ⟨t.k, 0, t.n⟩) (PB.out.below (Below.refl _ _).drew) ?_ ⟨⟨⟨⟨⟨⟨⟨⟨⟨⟨⟨⟨⟨⟨⟨⟨⟨True.intro, ?_⟩, ?_⟩, ?_⟩, ?_⟩, ?_⟩, ?_⟩, ?_⟩, ?_⟩, ?_⟩, ?_⟩, ?_⟩, ?_⟩, ?_⟩, ?_⟩, ?_⟩, ?_⟩, ?_⟩ ?_
      · intro k v w' hk
        unfold RSome
        split
        case h_18 => trivial
        all_goals exact absurd hk (by decide)
      · intro o ho f us wl al ha g hf hdep K hKf
        obtain rfl := Option.some.inj ho
        have hB := Lib.hid g.1
        have hK : ∀ v w', RSome yc ⟨t.k, 0, t.n⟩ 0 v w' → Below wl.heap.size wl w' → K (al.put (some 40) v) w' := fun v w' hv hb => hKf v w' (RSome.put g hb hv)
        clear ha hdep g hf hKf
        refine Rg.wpOp_of rfl rfl ?_
        go_simp
        refine (alive_any CON.out _).mono ?_
        rintro e wn ⟨rfl, hb⟩
        exact hK _ _ rfl hb
      · intro o ho f us wl al ha g hf hdep K hKf
        obtain rfl := Option.some.inj ho
        have hB := Lib.hid g.1
        have hK : ∀ v w', RSome yc ⟨t.k, 0, t.n⟩ 1 v w' → Below wl.heap.size wl w' → K (al.put (some 41) v) w' := fun v w' hv hb => hKf v w' (RSome.put g hb hv)
        have d0 : RSome yc ⟨t.k, 0, t.n⟩ 0 (us 0) wl := g.2 0 (hdep ⟨0, .data⟩ (by simp) rfl)
        have e40 : al.tmps[40]?.getD undef = us 0 := by rw [← Rg.eval_getD, ha]; exact Rg.puts_eval _ _ _ (by rfl) (by simp) (by simp)
        have f0 : us 0 = .bool true := d0
        clear ha hdep g hf hKf d0
        refine Rg.wpOp_of rfl rfl ?_
        go_simp
        exact hK _ _ rfl (Below.refl _ _)
      · intro o ho f us wl al ha g hf hdep K hKf
        obtain rfl := Option.some.inj ho
        have hB := Lib.hid g.1
        have hK : ∀ v w', RSome yc ⟨t.k, 0, t.n⟩ 2 v w' → Below wl.heap.size wl w' → K (al.put (some 42) v) w' := fun v w' hv hb => hKf v w' (RSome.put g hb hv)
        have d1 : RSome yc ⟨t.k, 0, t.n⟩ 1 (us 1) wl := g.2 1 (hdep ⟨1, .guard⟩ (by simp) rfl)
        have gg : al.eval (.tmp 41) = .bool true := by rw [ha]; exact (Rg.puts_eval _ _ _ (by rfl) (by simp) (by simp)).trans d1
        have e4 : al.tmps[4]?.getD undef = .bool true := by rw [← Rg.eval_getD, ha]; exact (Rg.puts_eval_ne _ _ _ (by rfl)).trans rfl
        clear ha hdep g hf hKf d1
        refine Rg.wpOp_of rfl (Rg.wanted_of rfl (Rg.yielded_of (d := 41) (by rfl) gg)) ?_
        go_simp
        exact hK _ _ rfl (Below.refl _ _)
      · intro o ho f us wl al ha g hf hdep K hKf
        obtain rfl := Option.some.inj ho
        have hB := Lib.hid g.1
        have hK : ∀ v w', RSome yc ⟨t.k, 0, t.n⟩ 3 v w' → Below wl.heap.size wl w' → K (al.put (some 43) v) w' := fun v w' hv hb => hKf v w' (RSome.put g hb hv)
        have d1 : RSome yc ⟨t.k, 0, t.n⟩ 1 (us 1) wl := g.2 1 (hdep ⟨1, .guard⟩ (by simp) rfl)
        have gg : al.eval (.tmp 41) = .bool true := by rw [ha]; exact (Rg.puts_eval _ _ _ (by rfl) (by simp) (by simp)).trans d1
        have d2 : RSome yc ⟨t.k, 0, t.n⟩ 2 (us 2) wl := g.2 2 (hdep ⟨2, .data⟩ (by simp) rfl)
        have e42 : al.tmps[42]?.getD undef = us 2 := by rw [← Rg.eval_getD, ha]; exact Rg.puts_eval _ _ _ (by rfl) (by simp) (by simp)
        have f2 : us 2 = .bool true := d2
        clear ha hdep g hf hKf d1 d2
        refine Rg.wpOp_of rfl (Rg.wanted_of rfl (Rg.yielded_of (d := 41) (by rfl) gg)) ?_
        go_simp
        exact hK _ _ rfl (Below.refl _ _)
      · intro o ho f us wl al ha g hf hdep K hKf
        obtain rfl := Option.some.inj ho
        have hB := Lib.hid g.1
        have hK : ∀ v w', RSome yc ⟨t.k, 0, t.n⟩ 4 v w' → Below wl.heap.size wl w' → K (al.put (some 44) v) w' := fun v w' hv hb => hKf v w' (RSome.put g hb hv)
        have d1 : RSome yc ⟨t.k, 0, t.n⟩ 1 (us 1) wl := g.2 1 (hdep ⟨1, .guard⟩ (by simp) rfl)
        have gg : al.eval (.tmp 41) = .bool true := by rw [ha]; exact (Rg.puts_eval _ _ _ (by rfl) (by simp) (by simp)).trans d1
        have d3 : RSome yc ⟨t.k, 0, t.n⟩ 3 (us 3) wl := g.2 3 (hdep ⟨3, .data⟩ (by simp) rfl)
        have e43 : al.tmps[43]?.getD undef = us 3 := by rw [← Rg.eval_getD, ha]; exact Rg.puts_eval _ _ _ (by rfl) (by simp) (by simp)
        have f3 : us 3 = .bool false := d3
        clear ha hdep g hf hKf d1 d3
        refine Rg.wpOp_of rfl (Rg.wanted_of rfl (Rg.yielded_of (d := 41) (by rfl) gg)) ?_
        go_simp
        exact hK _ _ rfl (Below.refl _ _)
      · intro o ho f us wl al ha g hf hdep K hKf
        obtain rfl := Option.some.inj ho
        have hB := Lib.hid g.1
        have hK : ∀ v w', RSome yc ⟨t.k, 0, t.n⟩ 5 v w' → Below wl.heap.size wl w' → K (al.put (some 45) v) w' := fun v w' hv hb => hKf v w' (RSome.put g hb hv)
        have d4 : RSome yc ⟨t.k, 0, t.n⟩ 4 (us 4) wl := g.2 4 (hdep ⟨4, .guard⟩ (by simp) rfl)
        have gg : al.eval (.tmp 44) = .bool false := by rw [ha]; exact (Rg.puts_eval _ _ _ (by rfl) (by simp) (by simp)).trans d4
        have e9 : al.tmps[9]?.getD undef = .int .i64 0 := by rw [← Rg.eval_getD, ha]; exact (Rg.puts_eval_ne _ _ _ (by rfl)).trans rfl
        clear ha hdep g hf hKf d4
        refine Rg.wpOp_of rfl (Rg.wanted_of rfl (Rg.yielded_of (d := 44) (by rfl) gg)) ?_
        go_simp
        exact hK _ _ rfl (Below.refl _ _)
      · intro o ho f us wl al ha g hf hdep K hKf
        obtain rfl := Option.some.inj ho
        have hB := Lib.hid g.1
        have hK : ∀ v w', RSome yc ⟨t.k, 0, t.n⟩ 6 v w' → Below wl.heap.size wl w' → K (al.put (some 46) v) w' := fun v w' hv hb => hKf v w' (RSome.put g hb hv)
        have d4 : RSome yc ⟨t.k, 0, t.n⟩ 4 (us 4) wl := g.2 4 (hdep ⟨4, .guard⟩ (by simp) rfl)
        have gg : al.eval (.tmp 44) = .bool false := by rw [ha]; exact (Rg.puts_eval _ _ _ (by rfl) (by simp) (by simp)).trans d4
        have d5 : RSome yc ⟨t.k, 0, t.n⟩ 5 (us 5) wl := g.2 5 (hdep ⟨5, .data⟩ (by simp) rfl)
        have e45 : al.tmps[45]?.getD undef = us 5 := by rw [← Rg.eval_getD, ha]; exact Rg.puts_eval _ _ _ (by rfl) (by simp) (by simp)
        have f5 : us 5 = .int .i64 0 := d5
        clear ha hdep g hf hKf d4 d5
        refine Rg.wpOp_of rfl (Rg.wanted_of rfl (Rg.yielded_of (d := 44) (by rfl) gg)) ?_
        go_simp
        exact hK _ _ rfl (Below.refl _ _)
      · intro o ho f us wl al ha g hf hdep K hKf
        obtain rfl := Option.some.inj ho
        have hB := Lib.hid g.1
        have hK : ∀ v w', RSome yc ⟨t.k, 0, t.n⟩ 7 v w' → Below wl.heap.size wl w' → K (al.put (some 47) v) w' := fun v w' hv hb => hKf v w' (RSome.put g hb hv)
        have d4 : RSome yc ⟨t.k, 0, t.n⟩ 4 (us 4) wl := g.2 4 (hdep ⟨4, .guard⟩ (by simp) rfl)
        have gg : al.eval (.tmp 44) = .bool false := by rw [ha]; exact (Rg.puts_eval _ _ _ (by rfl) (by simp) (by simp)).trans d4
        have d6 : RSome yc ⟨t.k, 0, t.n⟩ 6 (us 6) wl := g.2 6 (hdep ⟨6, .data⟩ (by simp) rfl)
        have e46 : al.tmps[46]?.getD undef = us 6 := by rw [← Rg.eval_getD, ha]; exact Rg.puts_eval _ _ _ (by rfl) (by simp) (by simp)
        have f6 : us 6 = .bool true := d6
        clear ha hdep g hf hKf d4 d6
        refine Rg.wpOp_of rfl (Rg.wanted_of rfl (Rg.yielded_of (d := 44) (by rfl) gg)) ?_
        go_simp
        exact hK _ _ rfl (Below.refl _ _)
      · intro o ho f us wl al ha g hf hdep K hKf
        obtain rfl := Option.some.inj ho
        have hB := Lib.hid g.1
        have hK : ∀ v w', RSome yc ⟨t.k, 0, t.n⟩ 8 v w' → Below wl.heap.size wl w' → K (al.put (some 48) v) w' := fun v w' hv hb => hKf v w' (RSome.put g hb hv)
        have d7 : RSome yc ⟨t.k, 0, t.n⟩ 7 (us 7) wl := g.2 7 (hdep ⟨7, .guard⟩ (by simp) rfl)
        have gg : al.eval (.tmp 47) = .bool true := by rw [ha]; exact (Rg.puts_eval _ _ _ (by rfl) (by simp) (by simp)).trans d7
        have e7 : al.tmps[7]?.getD undef = yc := by rw [← Rg.eval_getD, ha]; exact (Rg.puts_eval_ne _ _ _ (by rfl)).trans rfl
        clear ha hdep g hf hKf d7
        refine Rg.wpOp_of rfl (Rg.wanted_of rfl (Rg.yielded_of (d := 47) (by rfl) gg)) ?_
        go_simp
        exact hK _ _ rfl (Below.refl _ _)
      · intro o ho f us wl al ha g hf hdep K hKf
        obtain rfl := Option.some.inj ho
        have hB := Lib.hid g.1
        have hK : ∀ v w', RSome yc ⟨t.k, 0, t.n⟩ 9 v w' → Below wl.heap.size wl w' → K (al.put (some 49) v) w' := fun v w' hv hb => hKf v w' (RSome.put g hb hv)
        have d7 : RSome yc ⟨t.k, 0, t.n⟩ 7 (us 7) wl := g.2 7 (hdep ⟨7, .guard⟩ (by simp) rfl)
        have gg : al.eval (.tmp 47) = .bool true := by rw [ha]; exact (Rg.puts_eval _ _ _ (by rfl) (by simp) (by simp)).trans d7
        have d8 : RSome yc ⟨t.k, 0, t.n⟩ 8 (us 8) wl := g.2 8 (hdep ⟨8, .data⟩ (by simp) rfl)
        have e48 : al.tmps[48]?.getD undef = us 8 := by rw [← Rg.eval_getD, ha]; exact Rg.puts_eval _ _ _ (by rfl) (by simp) (by simp)
        have f8 : us 8 = yc := d8
        clear ha hdep g hf hKf d7 d8
        refine Rg.wpOp_of rfl (Rg.wanted_of rfl (Rg.yielded_of (d := 47) (by rfl) gg)) ?_
        go_simp
        refine (olds_any yc [⟨t.k, 0, t.n⟩] _ hB.out.tok (by simp)).mono ?_
        rintro e wn ⟨y, rfl, hy, hb⟩
        exact hK _ _ hy hb
      · intro o ho f us wl al ha g hf hdep K hKf
        obtain rfl := Option.some.inj ho
        have hB := Lib.hid g.1
        have hK : ∀ v w', RSome yc ⟨t.k, 0, t.n⟩ 10 v w' → Below wl.heap.size wl w' → K (al.put (some 50) v) w' := fun v w' hv hb => hKf v w' (RSome.put g hb hv)
        have d7 : RSome yc ⟨t.k, 0, t.n⟩ 7 (us 7) wl := g.2 7 (hdep ⟨7, .guard⟩ (by simp) rfl)
        have gg : al.eval (.tmp 47) = .bool true := by rw [ha]; exact (Rg.puts_eval _ _ _ (by rfl) (by simp) (by simp)).trans d7
        have e1 : al.tmps[1]?.getD undef = .pointer (some ⟨w.heap.size, 0, none⟩) := by rw [← Rg.eval_getD, ha]; exact (Rg.puts_eval_ne _ _ _ (by rfl)).trans rfl
        obtain ⟨c0, c1, c2, _⟩ := hB.out.blk
        clear ha hdep g hf hKf d7
        refine Rg.wpOp_of rfl (Rg.wanted_of rfl (Rg.yielded_of (d := 47) (by rfl) gg)) ?_
        go_simp
        exact hK _ _ rfl (Below.refl _ _)
      · intro o ho f us wl al ha g hf hdep K hKf
        obtain rfl := Option.some.inj ho
        have hB := Lib.hid g.1
        have hK : ∀ v w', RSome yc ⟨t.k, 0, t.n⟩ 11 v w' → Below wl.heap.size wl w' → K (al.put (some 51) v) w' := fun v w' hv hb => hKf v w' (RSome.put g hb hv)
        have d7 : RSome yc ⟨t.k, 0, t.n⟩ 7 (us 7) wl := g.2 7 (hdep ⟨7, .guard⟩ (by simp) rfl)
        have gg : al.eval (.tmp 47) = .bool true := by rw [ha]; exact (Rg.puts_eval _ _ _ (by rfl) (by simp) (by simp)).trans d7
        have d10 : RSome yc ⟨t.k, 0, t.n⟩ 10 (us 10) wl := g.2 10 (hdep ⟨10, .data⟩ (by simp) rfl)
        have e50 : al.tmps[50]?.getD undef = us 10 := by rw [← Rg.eval_getD, ha]; exact Rg.puts_eval _ _ _ (by rfl) (by simp) (by simp)
        have f10 : us 10 = vk ⟨t.k, 0, t.n⟩ := d10
        unfold vk at f10
        clear ha hdep g hf hKf d7 d10
        refine Rg.wpOp_of rfl (Rg.wanted_of rfl (Rg.yielded_of (d := 47) (by rfl) gg)) ?_
        go_simp
        exact hK _ _ (tks_one wl ⟨t.k, 0, t.n⟩ 34) (below_any _ _)
      · intro o ho f us wl al ha g hf hdep K hKf
        obtain rfl := Option.some.inj ho
        have hB := Lib.hid g.1
        have hK : ∀ v w', RSome yc ⟨t.k, 0, t.n⟩ 12 v w' → Below wl.heap.size wl w' → K (al.put (some 52) v) w' := fun v w' hv hb => hKf v w' (RSome.put g hb hv)
        have d7 : RSome yc ⟨t.k, 0, t.n⟩ 7 (us 7) wl := g.2 7 (hdep ⟨7, .guard⟩ (by simp) rfl)
        have gg : al.eval (.tmp 47) = .bool true := by rw [ha]; exact (Rg.puts_eval _ _ _ (by rfl) (by simp) (by simp)).trans d7
        have d9 : RSome yc ⟨t.k, 0, t.n⟩ 9 (us 9) wl := g.2 9 (hdep ⟨9, .data⟩ (by simp) rfl)
        have e49 : al.tmps[49]?.getD undef = us 9 := by rw [← Rg.eval_getD, ha]; exact Rg.puts_eval _ _ _ (by rfl) (by simp) (by simp)
        have F9 : Hid (Tks wl (us 9) [⟨t.k, 0, t.n⟩]) := d9
        have d11 : RSome yc ⟨t.k, 0, t.n⟩ 11 (us 11) wl := g.2 11 (hdep ⟨11, .data⟩ (by simp) rfl)
        have e51 : al.tmps[51]?.getD undef = us 11 := by rw [← Rg.eval_getD, ha]; exact Rg.puts_eval _ _ _ (by rfl) (by simp) (by simp)
        have F11 : Hid (Tks wl (us 11) [⟨t.k, 0, t.n⟩]) := d11
        clear ha hdep g hf hKf d7 d9 d11
        refine Rg.wpOp_of rfl (Rg.wanted_of rfl (Rg.yielded_of (d := 47) (by rfl) gg)) ?_
        go_simp
        refine (sameR_any _ _ [⟨t.k, 0, t.n⟩] [⟨t.k, 0, t.n⟩] _ F9.out F11.out (by simp)).mono ?_
        rw [show sameN [⟨t.k, 0, t.n⟩] [⟨t.k, 0, t.n⟩] = true from decide_eq_true rfl]
        rintro e wn ⟨rfl, hb⟩
        exact hK _ _ rfl hb
      · intro o ho f us wl al ha g hf hdep K hKf
        obtain rfl := Option.some.inj ho
        have hB := Lib.hid g.1
        have hK : ∀ v w', RSome yc ⟨t.k, 0, t.n⟩ 13 v w' → Below wl.heap.size wl w' → K (al.put (some 53) v) w' := fun v w' hv hb => hKf v w' (RSome.put g hb hv)
        have d4 : RSome yc ⟨t.k, 0, t.n⟩ 4 (us 4) wl := g.2 4 (hdep ⟨4, .guard⟩ (by simp) rfl)
        have gg : al.eval (.tmp 44) = .bool false := by rw [ha]; exact (Rg.puts_eval _ _ _ (by rfl) (by simp) (by simp)).trans d4
        have d7 : RSome yc ⟨t.k, 0, t.n⟩ 7 (us 7) wl := g.2 7 (hdep ⟨7, .data⟩ (by simp) rfl)
        have e47 : al.tmps[47]?.getD undef = us 7 := by rw [← Rg.eval_getD, ha]; exact Rg.puts_eval _ _ _ (by rfl) (by simp) (by simp)
        have f7 : us 7 = .bool true := d7
        have d12 : RSome yc ⟨t.k, 0, t.n⟩ 12 (us 12) wl := g.2 12 (hdep ⟨12, .data⟩ (by simp) rfl)
        have e52 : al.tmps[52]?.getD undef = us 12 := by rw [← Rg.eval_getD, ha]; exact Rg.puts_eval _ _ _ (by rfl) (by simp) (by simp)
        have f12 : us 12 = .bool true := d12
        clear ha hdep g hf hKf d4 d7 d12
        refine Rg.wpOp_of rfl (Rg.wanted_of rfl (Rg.yielded_of (d := 44) (by rfl) gg)) ?_
        go_simp
        exact hK _ _ rfl (Below.refl _ _)
      · intro o ho f us wl al ha g hf hdep K hKf
        obtain rfl := Option.some.inj ho
        have hB := Lib.hid g.1
        have hK : ∀ v w', RSome yc ⟨t.k, 0, t.n⟩ 14 v w' → Below wl.heap.size wl w' → K (al.put (some 54) v) w' := fun v w' hv hb => hKf v w' (RSome.put g hb hv)
        have d1 : RSome yc ⟨t.k, 0, t.n⟩ 1 (us 1) wl := g.2 1 (hdep ⟨1, .guard⟩ (by simp) rfl)
        have gg : al.eval (.tmp 41) = .bool true := by rw [ha]; exact (Rg.puts_eval _ _ _ (by rfl) (by simp) (by simp)).trans d1
        have d4 : RSome yc ⟨t.k, 0, t.n⟩ 4 (us 4) wl := g.2 4 (hdep ⟨4, .data⟩ (by simp) rfl)
        have e44 : al.tmps[44]?.getD undef = us 4 := by rw [← Rg.eval_getD, ha]; exact Rg.puts_eval _ _ _ (by rfl) (by simp) (by simp)
        have f4 : us 4 = .bool false := d4
        have d13 : RSome yc ⟨t.k, 0, t.n⟩ 13 (us 13) wl := g.2 13 (hdep ⟨13, .data⟩ (by simp) rfl)
        have e53 : al.tmps[53]?.getD undef = us 13 := by rw [← Rg.eval_getD, ha]; exact Rg.puts_eval _ _ _ (by rfl) (by simp) (by simp)
        have f13 : us 13 = .bool true := d13
        clear ha hdep g hf hKf d1 d4 d13
        refine Rg.wpOp_of rfl (Rg.wanted_of rfl (Rg.yielded_of (d := 41) (by rfl) gg)) ?_
        go_simp
        exact hK _ _ rfl (Below.refl _ _)
      · intro o ho f us wl al ha g hf hdep K hKf
        obtain rfl := Option.some.inj ho
        have hB := Lib.hid g.1
        have hK : ∀ v w', RSome yc ⟨t.k, 0, t.n⟩ 15 v w' → Below wl.heap.size wl w' → K (al.put (some 55) v) w' := fun v w' hv hb => hKf v w' (RSome.put g hb hv)
        have d14 : RSome yc ⟨t.k, 0, t.n⟩ 14 (us 14) wl := g.2 14 (hdep ⟨14, .data⟩ (by simp) rfl)
        have e54 : al.tmps[54]?.getD undef = us 14 := by rw [← Rg.eval_getD, ha]; exact Rg.puts_eval _ _ _ (by rfl) (by simp) (by simp)
        have f14 : us 14 = .bool true := d14
        have d1 : RSome yc ⟨t.k, 0, t.n⟩ 1 (us 1) wl := g.2 1 (hdep ⟨1, .data⟩ (by simp) rfl)
        have e41 : al.tmps[41]?.getD undef = us 1 := by rw [← Rg.eval_getD, ha]; exact Rg.puts_eval _ _ _ (by rfl) (by simp) (by simp)
        have f1 : us 1 = .bool true := d1
        clear ha hdep g hf hKf d1 d14
        refine Rg.wpOp_of rfl rfl ?_
        go_simp
        exact hK _ _ rfl (Below.refl _ _)
      · intro o ho f us wl al ha g hf hdep K hKf
        obtain rfl := Option.some.inj ho
        have hB := Lib.hid g.1
        have hK : ∀ v w', RSome yc ⟨t.k, 0, t.n⟩ 16 v w' → Below wl.heap.size wl w' → K (al.put (some 2) v) w' := fun v w' hv hb => hKf v w' (RSome.put g hb hv)
        have d15 : RSome yc ⟨t.k, 0, t.n⟩ 15 (us 15) wl := g.2 15 (hdep ⟨15, .data⟩ (by simp) rfl)
        have e55 : al.tmps[55]?.getD undef = us 15 := by rw [← Rg.eval_getD, ha]; exact Rg.puts_eval _ _ _ (by rfl) (by simp) (by simp)
        have f15 : us 15 = .bool true := d15
        clear ha hdep g hf hKf d15
        refine Rg.wpOp_of rfl rfl ?_
        go_simp
        exact hK _ _ rfl (Below.refl _ _)
      · intro us wz hB hR
        have f16 : us 16 = .bool true := hR 16
        have I2 := Lib.hid hB.bel
        clear hB hR
        simp only [Rg.puts, Act.put, List.setIfInBounds_toArray, List.set_cons_zero, List.set_cons_succ, f16]
        go_wp2_with fail
        go_ret
        exact ⟨rfl, I2.out⟩
end Go.Proofs.Ythfcclheephokaa.To
