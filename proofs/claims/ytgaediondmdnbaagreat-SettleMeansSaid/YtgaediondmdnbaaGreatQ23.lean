/- The program's then, beside, handed, asBlock, plainOfTwo: the walks. What Settle tells of any row; what follows of that. The program's Ended at any row: the walk. The document's merge and Set of traces: where what they tell lies; the walks. The program's plainOfTwo, and its closures: the walks. -/
import Derived.Test.YtgaediondmdnbaaGreatQ22
import Derived.Shelf.Abstract
import Derived.Test.YtgaediondmdnbaaGreatQ06
import Derived.BigQuiet
import Derived.Test.YtgaediondmdnbaaGreatQ08

namespace Go.Proofs.YtgaediondmdnbaaGreat.Mn
open Go Go.RowKit Tr
set_option maxRecDepth 20000

/-- A trace in a box. -/
def BoxT (w : World) (b : Nat) (v : Value) (e : Int) : Prop := w.cell? ⟨b, 0, none⟩ = some v ∧ w.cell? ⟨b, 1, none⟩ = some (.int .i64 e)
theorem BoxT.below {w w' : World} {b : Nat} {v : Value} {e : Int} (h : BoxT w b v e) (hb : Below w.heap.size w w') : BoxT w' b v e :=
  ⟨by rw [hb.cell (p := ⟨b, 0, none⟩) (Ap.cell_lt h.1)]; exact h.1, by rw [hb.cell (p := ⟨b, 1, none⟩) (Ap.cell_lt h.2)]; exact h.2⟩
theorem map_flat {α β : Type} (f : α → β) (l : List α) : l.map f = l.flatMap fun t => [f t] := by
  induction l with
  | nil => rfl
  | cons x l ih => rw [List.map_cons, List.flatMap_cons, ih]; rfl
theorem box_new (w : World) (a b : Value) (t : TypeId) : (w.alloc (.cells #[a, b] t)).cell? ⟨w.heap.size, 0, none⟩ = some a ∧ (w.alloc (.cells #[a, b] t)).cell? ⟨w.heap.size, 1, none⟩ = some b := by simp

set_option maxHeartbeats 1000000 in
theorem then1_any (T : TCon) (ok : Nat → Prop) (bx : Nat) (a pv : Value) (t p : Tr) (w : World) (hb : BoxT w bx pv p.e) (hp : StrsO ok w pv p.a) (hs : StrsO ok w a t.a) (hlen : p.a.length + t.a.length ≤ 1000000) :
    Calls Tryz.prog 115 #[.agg #[a, .int .i64 t.e], .pointer (some ⟨bx, 0, none⟩)] w (OutT ok [thn p t] w) := by
  have HB := Lib.hid (fun o => bel1 w o)
  have C := Lib.hid (fun o => T.cThn pv a p t (w.alloc o) (so_strs (so_below hp (HB.out o))) (so_strs (so_below hs (HB.out o))) hlen)
  have hlt := Ap.cell_lt hb.1
  obtain ⟨c0, c1⟩ := hb
  obtain ⟨_, a1, k1, rfl, _⟩ := hp
  obtain ⟨_, a2, k2, rfl, _⟩ := hs
  go_enter Tryz.func115, Tryz.ntmps115
  go_wp2_with fail
  refine (C.out _).mono ?_
  rintro e w1 ⟨v, rfl, hm, hb1⟩
  have B1 := Lib.hid ((HB.out _).trans (hb1.mono (HB.out _).size))
  have HM := Lib.hid (so_imp hm.1 (ok' := fun b => ok b ∨ w.heap.size ≤ b) fun b _ h => .inr (Nat.le_trans (by simp) h))
  obtain ⟨⟨_, a3, k3, rfl, _⟩, _⟩ := hm
  go_wp2_with fail
  refine (only_any _ _ (thn p t) _ HM.out).mono ?_
  intro e w2 ho
  have HO := Lib.hid (ho.up B1.out fun b h => h)
  obtain ⟨a4, k4, rfl, _, _⟩ := ho
  go_wp2_with fail
  go_ret
  exact HO.out

set_option maxHeartbeats 1000000 in
theorem then_any (T : TCon) (ok : Nat → Prop) (pv y : Value) (p : Tr) (l : List Tr) (w : World) (hp : StrsO ok w pv p.a) (hl : TsO ok w y l) (hlen : l.length ≤ 1000000000000) (hrow : ∀ t ∈ l, p.a.length + t.a.length ≤ 1000000) :
    Calls Tryz.prog 78 #[.agg #[pv, .int .i64 p.e], y] w (OutT ok (l.map (thn p)) w) := by
  have eg : ∀ args w, (callFunc 115 args).run Tryz.prog w = .ok (.enter 115 args) w := enters_of Tryz.func115 (by kernel_rfl) rfl
  have hmap := map_flat (thn p) l
  have C := Lib.hid (fun ty => eachTT 115 #[.pointer (some ⟨w.heap.size, 0, none⟩)] eg ok y l (fun t => [thn p t]) (w.alloc (.cells #[pv, .int .i64 p.e] ty)) (hl.below (bel1 _ _))
    (fun wr hb t ht a ha => then1_any T _ w.heap.size a pv t p wr (BoxT.below (box_new _ _ _ _) hb) (so_below (so_below (so_imp hp fun b hlt h => ⟨h, by simp; omega⟩) (bel1 _ _)) hb) ha (hrow t ht)) hlen (by rw [← hmap, List.length_map]; exact hlen))
  rw [← hmap] at C
  generalize l.map (thn p) = L at C ⊢
  obtain ⟨_, a1, k1, rfl, _⟩ := hp
  obtain ⟨_, ⟨_, a2, k2, rfl, _⟩, _⟩ := hl
  clear hmap
  go_enter Tryz.func78, Tryz.ntmps78
  go_wp2_with fail
  refine (C.out _).mono ?_
  intro e w2 ho
  have HO := Lib.hid (ho.up (bel1 w _) fun b h => .inl h)
  obtain ⟨a4, k4, rfl, _, _⟩ := ho
  go_wp2_with fail
  go_ret
  exact HO.out

set_option maxHeartbeats 1000000 in
theorem beside1_any (T : TCon) (ok : Nat → Prop) (bx : Nat) (a pv : Value) (t p : Tr) (w : World) (hb : BoxT w bx pv p.e) (hp : StrsO ok w pv p.a) (hs : StrsO ok w a t.a) (hlen : p.a.length + t.a.length ≤ 9) :
    Calls Tryz.prog 117 #[.agg #[a, .int .i64 t.e], .pointer (some ⟨bx, 0, none⟩)] w (OutT ok (pr p t) w) := by
  have HB := Lib.hid (fun o => bel1 w o)
  have C := Lib.hid (fun o => T.cPar pv a p t (w.alloc o) (so_strs (so_below hp (HB.out o))) (so_strs (so_below hs (HB.out o))) hlen)
  have hlt := Ap.cell_lt hb.1
  obtain ⟨c0, c1⟩ := hb
  obtain ⟨_, a1, k1, rfl, _⟩ := hp
  obtain ⟨_, a2, k2, rfl, _⟩ := hs
  generalize pr p t = L at C ⊢
  go_enter Tryz.func117, Tryz.ntmps117
  go_wp2_with fail
  refine (C.out _).mono ?_
  intro e w2 ho
  have HO := Lib.hid (ho.up (ok := ok) (HB.out _) fun b h => h.elim)
  obtain ⟨a4, k4, rfl, _, _⟩ := ho
  go_wp2_with fail
  go_ret
  exact HO.out

set_option maxHeartbeats 1000000 in
theorem beside_any (T : TCon) (ok : Nat → Prop) (pv y : Value) (p : Tr) (l : List Tr) (w : World) (hp : StrsO ok w pv p.a) (hl : TsO ok w y l) (hlen : l.length ≤ 1000000000000) (hout : (l.flatMap (pr p)).length ≤ 1000000000000) (hrow : ∀ t ∈ l, p.a.length + t.a.length ≤ 9) :
    Calls Tryz.prog 83 #[.agg #[pv, .int .i64 p.e], y] w (OutT ok (l.flatMap (pr p)) w) := by
  have eg : ∀ args w, (callFunc 117 args).run Tryz.prog w = .ok (.enter 117 args) w := enters_of Tryz.func117 (by kernel_rfl) rfl
  have C := Lib.hid (fun ty => eachTT 117 #[.pointer (some ⟨w.heap.size, 0, none⟩)] eg ok y l (pr p) (w.alloc (.cells #[pv, .int .i64 p.e] ty)) (hl.below (bel1 _ _))
    (fun wr hb t ht a ha => beside1_any T _ w.heap.size a pv t p wr (BoxT.below (box_new _ _ _ _) hb) (so_below (so_below (so_imp hp fun b hlt h => ⟨h, by simp; omega⟩) (bel1 _ _)) hb) ha (hrow t ht)) hlen hout)
  generalize l.flatMap (pr p) = L at C ⊢
  obtain ⟨_, a1, k1, rfl, _⟩ := hp
  obtain ⟨_, ⟨_, a2, k2, rfl, _⟩, _⟩ := hl
  go_enter Tryz.func83, Tryz.ntmps83
  go_wp2_with fail
  refine (C.out _).mono ?_
  intro e w2 ho
  have HO := Lib.hid (ho.up (bel1 w _) fun b h => .inl h)
  obtain ⟨a4, k4, rfl, _, _⟩ := ho
  go_wp2_with fail
  go_ret
  exact HO.out

/-- What the program does with one of the first two of a Hand. -/
def hdl (p : Tr) (l : List Tr) : List Tr := if p.e = 2 then l.map (thn ⟨p.a, 1⟩) else [p]
set_option maxHeartbeats 1000000 in
theorem handed_any (T : TCon) (ok : Nat → Prop) (pv y : Value) (p : Tr) (l : List Tr) (w : World) (hp : StrsO ok w pv p.a) (hl : TsO ok w y l) (hlen : l.length ≤ 1000000000000) (hrow : ∀ t ∈ l, p.a.length + t.a.length ≤ 1000000) :
    Calls Tryz.prog 85 #[.agg #[pv, .int .i64 p.e], y] w (OutT ok (hdl p l) w) := by
  have HB := Lib.hid (fun o => bel1 w o)
  by_cases h2 : p.e = 2
  · have hL : hdl p l = l.map (thn ⟨p.a, 1⟩) := if_pos h2
    rw [hL, h2]
    have TH := Lib.hid (fun w1 (hb : Below w.heap.size w w1) => then_any T ok pv y ⟨p.a, 1⟩ l w1 (so_below hp hb) (hl.below hb) hlen hrow)
    generalize l.map (thn ⟨p.a, 1⟩) = L at TH ⊢
    obtain ⟨_, a1, k1, rfl, _⟩ := hp
    obtain ⟨_, ⟨_, a2, k2, rfl, _⟩, _⟩ := hl
    clear hL h2
    go_enter Tryz.func85, Tryz.ntmps85
    go_wp2_with fail
    refine (ticked_any _ _ _ _ _).mono ?_
    rintro e w1 ⟨rfl, hb1⟩
    have B1 := Lib.hid ((HB.out _).trans (hb1.mono (HB.out _).size))
    go_wp2_with fail
    refine (TH.out _ B1.out).mono ?_
    intro e w2 ho
    have HO := Lib.hid (ho.up B1.out fun b h => .inl h)
    obtain ⟨a4, k4, rfl, _, _⟩ := ho
    go_wp2_with fail
    go_ret
    exact HO.out
  · have hL : hdl p l = [p] := if_neg h2
    have hne : (p.e != 2) = true := by simp [h2]
    rw [hL]
    have ON := Lib.hid (fun w1 (hb : Below w.heap.size w w1) => only_any ok pv p w1 (so_below hp hb))
    obtain ⟨_, a1, k1, rfl, _⟩ := hp
    obtain ⟨_, ⟨_, a2, k2, rfl, _⟩, _⟩ := hl
    clear hL
    go_enter Tryz.func85, Tryz.ntmps85
    go_wp2_with fail
    refine (ON.out _ (HB.out _)).mono ?_
    intro e w2 ho
    have HO := Lib.hid (ho.up (HB.out _) fun b h => .inl h)
    obtain ⟨a4, k4, rfl, _, _⟩ := ho
    go_wp2_with fail
    go_ret
    exact HO.out

/-- A pair in a box. -/
def BoxP (w : World) (b : Nat) (v : Value) (e : Int) (v' : Value) (e' : Int) : Prop := w.cell? ⟨b, 0, none⟩ = some v ∧ w.cell? ⟨b, 1, none⟩ = some (.int .i64 e) ∧ w.cell? ⟨b, 2, none⟩ = some v' ∧ w.cell? ⟨b, 3, none⟩ = some (.int .i64 e')
theorem BoxP.below {w w' : World} {b : Nat} {v v' : Value} {e e' : Int} (h : BoxP w b v e v' e') (hb : Below w.heap.size w w') : BoxP w' b v e v' e' :=
  ⟨by rw [hb.cell (p := ⟨b, 0, none⟩) (Ap.cell_lt h.1)]; exact h.1, by rw [hb.cell (p := ⟨b, 1, none⟩) (Ap.cell_lt h.2.1)]; exact h.2.1, by rw [hb.cell (p := ⟨b, 2, none⟩) (Ap.cell_lt h.2.2.1)]; exact h.2.2.1, by rw [hb.cell (p := ⟨b, 3, none⟩) (Ap.cell_lt h.2.2.2)]; exact h.2.2.2⟩
theorem boxP_new (w : World) (a b c d : Value) (t : TypeId) : (w.alloc (.cells #[a, b, c, d] t)).cell? ⟨w.heap.size, 0, none⟩ = some a ∧ (w.alloc (.cells #[a, b, c, d] t)).cell? ⟨w.heap.size, 1, none⟩ = some b ∧ (w.alloc (.cells #[a, b, c, d] t)).cell? ⟨w.heap.size, 2, none⟩ = some c ∧ (w.alloc (.cells #[a, b, c, d] t)).cell? ⟨w.heap.size, 3, none⟩ = some d := by simp

set_option maxHeartbeats 2000000 in
theorem asBlock_any (T : TCon) (ok : Nat → Prop) (v1 v2 : Value) (x : Pr) (w : World) (h1 : StrsO ok w v1 x.p.a) (h2 : StrsO ok w v2 x.q.a) (hlen : x.p.a.length + x.q.a.length ≤ 1000000) :
    Calls Tryz.prog 44 #[.agg #[v1, .int .i64 x.p.e, v2, .int .i64 x.q.e]] w (OutT ok (blk1 x) w) := by
  have HB := Lib.hid (fun o => bel1 w o)
  by_cases e1 : x.p.e = 1
  · have hL : blk1 x = [x.p] := if_pos e1
    rw [hL]
    have ON := Lib.hid (fun w1 (hb : Below w.heap.size w w1) => only_any ok v1 x.p w1 (so_below h1 hb))
    rw [e1] at ON ⊢
    obtain ⟨_, a1, k1, rfl, _⟩ := h1
    obtain ⟨_, a2, k2, rfl, _⟩ := h2
    clear hL
    go_enter Tryz.func44, Tryz.ntmps44
    go_wp2_with fail
    refine (ON.out _ (HB.out _)).mono ?_
    intro e w2 ho
    have HO := Lib.hid (ho.up (HB.out _) fun b h => .inl h)
    obtain ⟨a4, k4, rfl, _, _⟩ := ho
    go_wp2_with fail
    go_ret
    exact HO.out
  · by_cases e2 : x.p.e = 2
    · have hL : blk1 x = [x.q].map (thn ⟨x.p.a, 1⟩) := by
        unfold blk1
        rw [if_neg e1, if_pos e2]
        rfl
      rw [hL, e2]
      have ON := Lib.hid (fun w1 (hb : Below w.heap.size w w1) => only_any ok v2 x.q w1 (so_below h2 hb))
      have TH := Lib.hid (fun y w1 ok' (hp : StrsO ok' w1 v1 x.p.a) (hl : TsO ok' w1 y [x.q]) => then_any T ok' v1 y ⟨x.p.a, 1⟩ [x.q] w1 hp hl (by simp) (fun t ht => by rw [List.mem_singleton] at ht; rw [ht]; exact hlen))
      have H1 := Lib.hid h1
      generalize [x.q].map (thn ⟨x.p.a, 1⟩) = L at TH ⊢
      obtain ⟨_, a1, k1, rfl, _⟩ := h1
      obtain ⟨_, a2, k2, rfl, _⟩ := h2
      clear hL e1 e2
      go_enter Tryz.func44, Tryz.ntmps44
      go_wp2_with fail
      go_region_held3 (fun w' => w'.cell? ⟨w.heap.size, 0, none⟩ = some (.slice a1 x.p.a.length k1) ∧ w'.cell? ⟨w.heap.size, 1, none⟩ = some (.int .i64 2) ∧ w'.cell? ⟨w.heap.size, 2, none⟩ = some (.slice a2 x.q.a.length k2) ∧ w'.cell? ⟨w.heap.size, 3, none⟩ = some (.int .i64 x.q.e)) (first | exact ⟨by simp [go_sem], by simp [go_sem], by simp [go_sem], by simp [go_sem]⟩ | exact kz | exact ky | exact kx | fail) (first
        | (go_at_call 79
           (with_reducible refine (ticked_any _ _ _ _ _).mono ?_)
           rintro e w1 ⟨rfl, hb1⟩
           have kz : BoxP w1 w.heap.size (.slice a1 x.p.a.length k1) 2 (.slice a2 x.q.a.length k2) x.q.e := BoxP.below ⟨by simp [go_sem], by simp [go_sem], by simp [go_sem], by simp [go_sem]⟩ hb1
           have B1 := Lib.hid (((HB.out _).drew).trans (hb1.mono (HB.out _).drew.size))
           clear hb1)
        | (go_at_call 40
           (with_reducible refine (ON.out _ B1.out).mono ?_)
           rintro e w2 ⟨a4, k4, rfl, ht2, hb2⟩
           have B2 := Lib.hid (B1.out.trans (hb2.mono B1.out.size))
           have T2 : Hid (TsO (fun b => ok b ∨ w.heap.size ≤ b) w2 (.slice a4 1 k4) [x.q]) := Lib.hid (ht2.imp (ok' := fun b => ok b ∨ w.heap.size ≤ b) fun b _ h => h.imp id fun h => Nat.le_trans B1.out.size h)
           have ky := BoxP.below kz hb2
           clear ht2 hb2)
        | (go_at_call 78
           (with_reducible refine (TH.out _ _ _ (so_below (so_imp H1.out fun _ _ h => .inl h) B2.out) T2.out).mono ?_)
           intro e w3 ho
           have HO := Lib.hid (ho.up (ok := ok) B2.out fun b h => h)
           obtain ⟨a5, k5, rfl, _, hb5⟩ := ho
           have kx := BoxP.below ky hb5
           clear hb5)
        | fail)
      go_wp2_with fail
      go_ret
      exact HO.out
    · have hL : blk1 x = [] := by
        unfold blk1
        rw [if_neg e1, if_neg e2]
      have g1 : (x.p.e == 1) = false := by simp [e1]
      have g2 : (x.p.e == 2) = false := by simp [e2]
      rw [hL]
      obtain ⟨_, a1, k1, rfl, _⟩ := h1
      obtain ⟨_, a2, k2, rfl, _⟩ := h2
      go_enter Tryz.func44, Tryz.ntmps44
      go_wp2_with fail
      go_ret
      exact ⟨none, 0, rfl, ts_nil _ _, HB.out _⟩
end Go.Proofs.YtgaediondmdnbaaGreat.Mn

namespace Go.Proofs.YtgaediondmdnbaaGreat.Se
open Go Go.RowKit Go.Proofs.YtgaediondmdnbaaGreat.Rw Go.Proofs.YtgaediondmdnbaaGreat.So
set_option maxRecDepth 20000

/-- A row is of one tree. -/
theorem flat_inj : ∀ t u : Tm, flat t = flat u → t = u := by
  intro t
  induction t with
  | act s =>
    intro u h
    have hk : kd u = 1 := by unfold kd; rw [← h]; rfl
    cases u <;> try (simp [kd, flat, hd, nOf] at hk; done)
    · have e := congrArg nml h
      exact congrArg Tm.act e
  | skip =>
    intro u h
    have hk : kd u = 2 := by unfold kd; rw [← h]; rfl
    cases u <;> try (simp [kd, flat, hd, nOf] at hk; done)
    · rfl
  | throw =>
    intro u h
    have hk : kd u = 3 := by unfold kd; rw [← h]; rfl
    cases u <;> try (simp [kd, flat, hd, nOf] at hk; done)
    · rfl
  | yield =>
    intro u h
    have hk : kd u = 4 := by unfold kd; rw [← h]; rfl
    cases u <;> try (simp [kd, flat, hd, nOf] at hk; done)
    · rfl
  | over s =>
    intro u h
    have hk : kd u = 11 := by unfold kd; rw [← h]; rfl
    cases u <;> try (simp [kd, flat, hd, nOf] at hk; done)
    · have e := congrArg sgl h
      exact congrArg Tm.over e
  | block a ia =>
    intro u h
    have hk : kd u = 9 := by unfold kd; rw [← h]; rfl
    cases u <;> try (simp [kd, flat, hd, nOf] at hk; done)
    · have e := congrArg kids h
      rw [kids_block, kids_block] at e
      injection e with e _
      rw [ia _ e]
  | fin s c ic =>
    intro u h
    have hk : kd u = 14 := by unfold kd; rw [← h]; rfl
    cases u <;> try (simp [kd, flat, hd, nOf] at hk; done)
    · have e := congrArg kids h
      have e2 : s = _ := congrArg sgl h
      rw [kids_fin, kids_fin] at e
      injection e with e _
      rw [ic _ e, e2]
      rfl
  | seq a b ia ib =>
    intro u h
    have hk : kd u = 5 := by unfold kd; rw [← h]; rfl
    cases u <;> try (simp [kd, flat, hd, nOf] at hk; done)
    · have e := congrArg kids h
      rw [kids_seq, kids_seq] at e
      injection e with e1 e
      injection e with e2 _
      rw [ia _ e1, ib _ e2]
  | alt a b ia ib =>
    intro u h
    have hk : kd u = 6 := by unfold kd; rw [← h]; rfl
    cases u <;> try (simp [kd, flat, hd, nOf] at hk; done)
    · have e := congrArg kids h
      rw [kids_alt, kids_alt] at e
      injection e with e1 e
      injection e with e2 _
      rw [ia _ e1, ib _ e2]
  | par a b ia ib =>
    intro u h
    have hk : kd u = 7 := by unfold kd; rw [← h]; rfl
    cases u <;> try (simp [kd, flat, hd, nOf] at hk; done)
    · have e := congrArg kids h
      rw [kids_par, kids_par] at e
      injection e with e1 e
      injection e with e2 _
      rw [ia _ e1, ib _ e2]
  | hand a b ia ib =>
    intro u h
    have hk : kd u = 8 := by unfold kd; rw [← h]; rfl
    cases u <;> try (simp [kd, flat, hd, nOf] at hk; done)
    · have e := congrArg kids h
      rw [kids_hand, kids_hand] at e
      injection e with e1 e
      injection e with e2 _
      rw [ia _ e1, ib _ e2]
  | pair a b ia ib =>
    intro u h
    have hk : kd u = 10 := by unfold kd; rw [← h]; rfl
    cases u <;> try (simp [kd, flat, hd, nOf] at hk; done)
    · have e := congrArg kids h
      rw [kids_pair, kids_pair] at e
      injection e with e1 e
      injection e with e2 _
      rw [ia _ e1, ib _ e2]
  | going a b ia ib =>
    intro u h
    have hk : kd u = 12 := by unfold kd; rw [← h]; rfl
    cases u <;> try (simp [kd, flat, hd, nOf] at hk; done)
    · have e := congrArg kids h
      rw [kids_going, kids_going] at e
      injection e with e1 e
      injection e with e2 _
      rw [ia _ e1, ib _ e2]
  | stack a b ia ib =>
    intro u h
    have hk : kd u = 13 := by unfold kd; rw [← h]; rfl
    cases u <;> try (simp [kd, flat, hd, nOf] at hk; done)
    · have e := congrArg kids h
      rw [kids_stack, kids_stack] at e
      injection e with e1 e
      injection e with e2 _
      rw [ia _ e1, ib _ e2]
/-- What comes of a row. -/
noncomputable def st (l : List Nd) : List Nd := if h : of l = 0 then [] else flat (S (goes_of h).choose)
theorem st_no {l : List Nd} (h : of l = 0) : st l = [] := dif_pos h
theorem st_go {t : Tm} (h : Goes t) : st (flat t) = flat (S t) := by
  have h0 := h.of
  unfold st
  rw [dif_neg h0]
  rw [flat_inj _ _ (goes_of h0).choose_spec.1]
theorem st_len (l : List Nd) : (st l).length ≤ l.length := by
  by_cases h : of l = 0
  · rw [st_no h]; exact Nat.zero_le _
  · obtain ⟨t, rfl, hg⟩ := goes_of h
    rw [st_go hg, flat_len, flat_len]
    exact S_sz t
/-- A row that comes of another one. -/
theorem st_some {l : List Nd} (h : st l ≠ []) : ∃ t, flat t = l ∧ Goes t ∧ st l = flat (S t) := by
  by_cases h0 : of l = 0
  · exact absurd (st_no h0) h
  · obtain ⟨t, rfl, hg⟩ := goes_of h0
    exact ⟨t, rfl, hg, st_go hg⟩
theorem settleP_any (v : Value) (l : List Nd) (w : World) (hv : Nds w v l) (hl : l.length ≤ 1000) (hm : Nms l) : Calls Tryz.prog 6 #[v] w (OutL (st l) w) := by
  by_cases h : of l = 0
  · rw [st_no h]; exact settleP_no v l w hv hl hm h
  · obtain ⟨t, rfl, hg⟩ := goes_of h
    rw [st_go hg]; exact settleP_go v t w hv hm hg
theorem nms_goes {t : Tm} (h : rg t = true) : Nms (flat t) := by
  intro x hx
  have hr : rgt x = true := (List.all_eq_true.1 h) x hx
  obtain ⟨k, n, s⟩ := x
  show n.size ≤ _
  by_cases h1 : k = 1
  · subst h1
    rw [rgt_act] at hr
    simp only [Bool.and_eq_true, decide_eq_true_eq] at hr
    omega
  · by_cases h2 : k = 11 ∨ k = 14
    · rw [rgt_sign n s h2] at hr
      simp only [Bool.and_eq_true, decide_eq_true_eq] at hr
      omega
    · have h0 : ¬ ar k < 0 := fun h0 => by unfold rgt at hr; rw [if_pos h0] at hr; cases hr
      rw [rgt_other n s h0 h1 h2] at hr
      simp only [Bool.and_eq_true, decide_eq_true_eq] at hr
      omega
theorem nms_st (l : List Nd) : Nms (st l) := by
  by_cases h : st l = []
  · rw [h]; intro x hx; cases hx
  · obtain ⟨t, _, hg, e⟩ := st_some h
    rw [e]
    exact nms_goes hg.S.1
theorem st_on {l : List Nd} (h : st l ≠ []) (p : Bool) : onB (st l) p = onB l p := by
  obtain ⟨t, rfl, hg, e⟩ := st_some h
  rw [e, on_flat hg.1 hg.2.1, on_flat hg.S.1 hg.S.2.1]
  have k := S_is t
  have n := is_not (t := t)
  have n' := is_not (t := S t)
  have hi := hg.2.2
  cases h3 : is t 3 <;> cases h4 : is t 4 <;> cases g3 : is (S t) 3 <;> cases g4 : is (S t) 4 <;> cases p <;> simp_all
theorem same_self (l : List Nd) : sameN l l = true := decide_eq_true rfl
end Go.Proofs.YtgaediondmdnbaaGreat.Se

namespace Go.Proofs.YtgaediondmdnbaaGreat.Se
open Go Go.RowKit Go.Proofs.YtgaediondmdnbaaGreat.Rw Go.Proofs.YtgaediondmdnbaaGreat.So
set_option maxRecDepth 20000

/-- What the document's Ended tells: the sign, and whether there is an Over alone. -/
def overB (l : List Nd) : Bool := match l with | [x] => x.k == 11 | _ => false
def overS (l : List Nd) : Int := match l with | [x] => if x.k == 11 then x.s else 0 | _ => 0
set_option maxHeartbeats 1000000 in
theorem endedP_not (v : Value) (l : List Nd) (w : World) (hv : Nds w v l) (hn : l.length ≠ 1) : Calls Tryz.prog 17 #[v] w fun e w' => e = .returned (.tuple #[.int .i64 0, .bool false]) ∧ Below w.heap.size w w' := by
  obtain ⟨_, a, c, rfl, -⟩ := hv
  obtain ⟨n, hl⟩ : ∃ n, l.length = n := ⟨_, rfl⟩
  rw [hl] at hn ⊢
  have h1 : ((n : Int) = 1) = False := by simp; omega
  clear hl
  go_enter Tryz.func17, Tryz.ntmps17
  go_wp2_with fail
  go_ret2
  exact ⟨rfl, Below.refl _ _⟩
set_option maxHeartbeats 1000000 in
theorem endedP_one (v : Value) (x : Nd) (w : World) (hv : Nds w v [x]) : Calls Tryz.prog 17 #[v] w fun e w' => e = .returned (.tuple #[.int .i64 (overS [x]), .bool (overB [x])]) ∧ Below w.heap.size w w' := by
  rcases hv.form with ⟨h0, _⟩ | ⟨b, o, c, rfl, hc, hat⟩
  · cases h0
  obtain ⟨e0, e1, e2⟩ := hat 0 (by simp)
  simp only [List.getElem_cons_zero, Nat.zero_mul, Nat.add_zero] at e0 e1 e2
  simp only [List.length_cons, List.length_nil, Nat.zero_add] at hc ⊢
  obtain ⟨xk, xn, xs⟩ := x
  simp only [overS, overB]
  by_cases h : xk = 11
  · subst h
    clear hat hv
    go_enter Tryz.func17, Tryz.ntmps17
    go_wp2_with fail
    go_ret2
    exact ⟨rfl, Below.refl _ _⟩
  · have h1 : (xk == 11) = false := by simpa using h
    rw [h1]
    clear hat hv
    go_enter Tryz.func17, Tryz.ntmps17
    go_wp2_with fail
    go_ret2
    exact ⟨rfl, Below.refl _ _⟩
theorem endedP_any (v : Value) (l : List Nd) (w : World) (hv : Nds w v l) : Calls Tryz.prog 17 #[v] w fun e w' => e = .returned (.tuple #[.int .i64 (overS l), .bool (overB l)]) ∧ Below w.heap.size w w' := by
  match l, hv with
  | [], hv => exact endedP_not v [] w hv (by simp)
  | [x], hv => exact endedP_one v x w hv
  | x :: y :: r, hv => exact endedP_not v (x :: y :: r) w hv (by simp)
theorem ended_act (s : ByteArray) (v : Value) (w : World) (hv : Nds w v [nAct s]) :
    Calls Tryz.prog 17 #[v] w fun e w' => e = .returned (.tuple #[.int .i64 0, .bool false]) ∧ Below w.heap.size w w' := endedP_any v [nAct s] w hv
theorem ended_over (v : Value) (w : World) (hv : Nds w v [nOver 2]) :
    Calls Tryz.prog 17 #[v] w fun e w' => e = .returned (.tuple #[.int .i64 2, .bool true]) ∧ Below w.heap.size w w' := endedP_any v [nOver 2] w hv
end Go.Proofs.YtgaediondmdnbaaGreat.Se

namespace Go.Proofs.YtgaediondmdnbaaGreat.Mn
open Go Go.RowKit Tr
set_option maxRecDepth 20000

theorem cmpR (v1 v2 : Value) (p q : Tr) (w : World) (h1 : Strs w v1 p.a) (h2 : Strs w v2 q.a) (hl : p.a.length ≤ 1000000) (hm : q.a.length ≤ 1000000) :
    Calls Tryz.prog 28 #[.agg #[v1, .int .i64 p.e], .agg #[v2, .int .i64 q.e]] w fun e w' => e = .returned (.int .i64 (cmp p q)) ∧ Below w.heap.size w w' := cmp_any v1 v2 p q w h1 h2 (by omega) (by omega)

end Go.Proofs.YtgaediondmdnbaaGreat.Mn

namespace Go.Proofs.YtgaediondmdnbaaGreat.Mn
open Go Go.RowKit Tr
set_option maxRecDepth 20000

theorem box1_new (w : World) (a : Value) (t : TypeId) : (w.alloc (.cells #[a] t)).cell? ⟨w.heap.size, 0, none⟩ = some a := by simp
theorem flat_one {α β : Type} (f : α → List β) {l : List α} {x : α} (h : x ∈ l) : (f x).length ≤ (l.flatMap f).length := by
  obtain ⟨s, t, rfl⟩ := List.append_of_mem h
  rw [List.flatMap_append, List.flatMap_cons, List.length_append, List.length_append]
  omega

set_option maxHeartbeats 1000000 in
theorem pot1_any (T : TCon) (ok : Nat → Prop) (bx : Nat) (a y : Value) (t : Tr) (l : List Tr) (w : World) (hb : w.cell? ⟨bx, 0, none⟩ = some y) (hs : StrsO ok w a t.a) (hl : TsO ok w y l) (hlen : l.length ≤ 1000000000000) (hrow : ∀ u ∈ l, t.a.length + u.a.length ≤ 1000000) :
    Calls Tryz.prog 81 #[.agg #[a, .int .i64 t.e], .pointer (some ⟨bx, 0, none⟩)] w (OutT ok (l.map (thn t)) w) := by
  have HB := Lib.hid (fun o => bel1 w o)
  have C := Lib.hid (fun w1 (hb : Below w.heap.size w w1) => then_any T ok a y t l w1 (so_below hs hb) (hl.below hb) hlen hrow)
  have hlt := Ap.cell_lt hb
  generalize l.map (thn t) = L at C ⊢
  obtain ⟨_, a1, k1, rfl, _⟩ := hs
  obtain ⟨_, ⟨_, a2, k2, rfl, _⟩, _⟩ := hl
  go_enter Tryz.func81, Tryz.ntmps81
  go_wp2_with fail
  refine (C.out _ (HB.out _)).mono ?_
  intro e w2 ho
  have HO := Lib.hid (ho.up (HB.out _) fun b h => .inl h)
  obtain ⟨a4, k4, rfl, _, _⟩ := ho
  go_wp2_with fail
  go_ret
  exact HO.out

set_option maxHeartbeats 2000000 in
theorem plain5_any (T : TCon) (x y : Value) (A B : List Tr) (w : World) (hx : TsO any w x A) (hy : TsO any w y B) (hA : A.length ≤ 1000000000000) (hB : B.length ≤ 1000000000000) (hrow : ∀ t ∈ A, ∀ u ∈ B, t.a.length + u.a.length ≤ 9)
    (hout : (A.flatMap fun t => B.map (thn t)).length ≤ 1000000000000) :
    Calls Tryz.prog 45 #[.int .i64 5, x, y] w (OutT any (A.flatMap fun t => B.map (thn t)) w) := by
  have eg : ∀ args w, (callFunc 81 args).run Tryz.prog w = .ok (.enter 81 args) w := enters_of Tryz.func81 (by kernel_rfl) rfl
  have hin : ∀ t ∈ A, (B.map (thn t)).length ≤ 1000000000000 := fun t ht => Nat.le_trans (flat_one (fun t => B.map (thn t)) ht) hout
  have C := Lib.hid (fun ty => eachTT 81 #[.pointer (some ⟨w.heap.size, 0, none⟩)] eg any x A (fun t => B.map (thn t)) (w.alloc (.cells #[y] ty)) (hx.below (bel1 _ _))
    (fun wr hb t ht a ha => by
      have hc : wr.cell? ⟨w.heap.size, 0, none⟩ = some y := by rw [hb.cell (p := ⟨w.heap.size, 0, none⟩) (by simp)]; exact box1_new _ _ _
      have hY := (((hy.imp (ok' := fun b => any b ∧ b < (w.alloc (.cells #[y] ty)).heap.size) fun b hlt h => ⟨h, by simp; omega⟩).below (bel1 w (.cells #[y] ty))).below hb)
      exact pot1_any T _ w.heap.size a y t B wr hc ha hY hB (fun u hu => by have := hrow t ht u hu; omega)) hA hout)
  generalize (A.flatMap fun t => B.map (thn t)) = L at C ⊢
  obtain ⟨_, ⟨_, a1, k1, rfl, _⟩, _⟩ := hx
  obtain ⟨_, ⟨_, a2, k2, rfl, _⟩, _⟩ := hy
  clear hin
  go_enter Tryz.func45, Tryz.ntmps45
  go_wp2_with fail
  refine (C.out _).mono ?_
  intro e w2 ho
  have HO := Lib.hid (ho.up (bel1 w _) fun b h => .inl h)
  obtain ⟨a4, k4, rfl, _, _⟩ := ho
  go_wp2_with fail
  go_ret
  exact HO.out

set_option maxHeartbeats 1000000 in
theorem pot2_any (T : TCon) (ok : Nat → Prop) (bx : Nat) (a y : Value) (t : Tr) (l : List Tr) (w : World) (hb : w.cell? ⟨bx, 0, none⟩ = some y) (hs : StrsO ok w a t.a) (hl : TsO ok w y l) (hlen : l.length ≤ 1000000000000) (hout : (l.flatMap (pr t)).length ≤ 1000000000000) (hrow : ∀ u ∈ l, t.a.length + u.a.length ≤ 9) :
    Calls Tryz.prog 82 #[.agg #[a, .int .i64 t.e], .pointer (some ⟨bx, 0, none⟩)] w (OutT ok (l.flatMap (pr t)) w) := by
  have HB := Lib.hid (fun o => bel1 w o)
  have C := Lib.hid (fun w1 (hb : Below w.heap.size w w1) => beside_any T ok a y t l w1 (so_below hs hb) (hl.below hb) hlen hout hrow)
  have hlt := Ap.cell_lt hb
  generalize l.flatMap (pr t) = L at C ⊢
  obtain ⟨_, a1, k1, rfl, _⟩ := hs
  obtain ⟨_, ⟨_, a2, k2, rfl, _⟩, _⟩ := hl
  go_enter Tryz.func82, Tryz.ntmps82
  go_wp2_with fail
  refine (C.out _ (HB.out _)).mono ?_
  intro e w2 ho
  have HO := Lib.hid (ho.up (HB.out _) fun b h => .inl h)
  obtain ⟨a4, k4, rfl, _, _⟩ := ho
  go_wp2_with fail
  go_ret
  exact HO.out

set_option maxHeartbeats 2000000 in
theorem plain7_any (T : TCon) (x y : Value) (A B : List Tr) (w : World) (hx : TsO any w x A) (hy : TsO any w y B) (hA : A.length ≤ 1000000000000) (hB : B.length ≤ 1000000000000) (hrow : ∀ t ∈ A, ∀ u ∈ B, t.a.length + u.a.length ≤ 9)
    (hout : (A.flatMap fun t => B.flatMap (pr t)).length ≤ 1000000000000) :
    Calls Tryz.prog 45 #[.int .i64 7, x, y] w (OutT any (A.flatMap fun t => B.flatMap (pr t)) w) := by
  have eg : ∀ args w, (callFunc 82 args).run Tryz.prog w = .ok (.enter 82 args) w := enters_of Tryz.func82 (by kernel_rfl) rfl
  have hin : ∀ t ∈ A, (B.flatMap (pr t)).length ≤ 1000000000000 := fun t ht => Nat.le_trans (flat_one (fun t => B.flatMap (pr t)) ht) hout
  have C := Lib.hid (fun ty => eachTT 82 #[.pointer (some ⟨w.heap.size, 0, none⟩)] eg any x A (fun t => B.flatMap (pr t)) (w.alloc (.cells #[y] ty)) (hx.below (bel1 _ _))
    (fun wr hb t ht a ha => by
      have hc : wr.cell? ⟨w.heap.size, 0, none⟩ = some y := by rw [hb.cell (p := ⟨w.heap.size, 0, none⟩) (by simp)]; exact box1_new _ _ _
      have hY := (((hy.imp (ok' := fun b => any b ∧ b < (w.alloc (.cells #[y] ty)).heap.size) fun b hlt h => ⟨h, by simp; omega⟩).below (bel1 w (.cells #[y] ty))).below hb)
      exact pot2_any T _ w.heap.size a y t B wr hc ha hY hB (hin t ht) (fun u hu => by have := hrow t ht u hu; omega)) hA hout)
  generalize (A.flatMap fun t => B.flatMap (pr t)) = L at C ⊢
  obtain ⟨_, ⟨_, a1, k1, rfl, _⟩, _⟩ := hx
  obtain ⟨_, ⟨_, a2, k2, rfl, _⟩, _⟩ := hy
  clear hin
  go_enter Tryz.func45, Tryz.ntmps45
  go_wp2_with fail
  refine (C.out _).mono ?_
  intro e w2 ho
  have HO := Lib.hid (ho.up (bel1 w _) fun b h => .inl h)
  obtain ⟨a4, k4, rfl, _, _⟩ := ho
  go_wp2_with fail
  go_ret
  exact HO.out

set_option maxHeartbeats 1000000 in
theorem pot3_any (T : TCon) (ok : Nat → Prop) (bx : Nat) (a y : Value) (t : Tr) (l : List Tr) (w : World) (hb : w.cell? ⟨bx, 0, none⟩ = some y) (hs : StrsO ok w a t.a) (hl : TsO ok w y l) (hlen : l.length ≤ 1000000000000) (hrow : ∀ u ∈ l, t.a.length + u.a.length ≤ 1000000) :
    Calls Tryz.prog 84 #[.agg #[a, .int .i64 t.e], .pointer (some ⟨bx, 0, none⟩)] w (OutT ok (hdl t l) w) := by
  have HB := Lib.hid (fun o => bel1 w o)
  have C := Lib.hid (fun w1 (hb : Below w.heap.size w w1) => handed_any T ok a y t l w1 (so_below hs hb) (hl.below hb) hlen hrow)
  have hlt := Ap.cell_lt hb
  generalize hdl t l = L at C ⊢
  obtain ⟨_, a1, k1, rfl, _⟩ := hs
  obtain ⟨_, ⟨_, a2, k2, rfl, _⟩, _⟩ := hl
  go_enter Tryz.func84, Tryz.ntmps84
  go_wp2_with fail
  refine (C.out _ (HB.out _)).mono ?_
  intro e w2 ho
  have HO := Lib.hid (ho.up (HB.out _) fun b h => .inl h)
  obtain ⟨a4, k4, rfl, _, _⟩ := ho
  go_wp2_with fail
  go_ret
  exact HO.out

set_option maxHeartbeats 2000000 in
theorem plain8_any (T : TCon) (x y : Value) (A B : List Tr) (w : World) (hx : TsO any w x A) (hy : TsO any w y B) (hA : A.length ≤ 1000000000000) (hB : B.length ≤ 1000000000000) (hrow : ∀ t ∈ A, ∀ u ∈ B, t.a.length + u.a.length ≤ 9)
    (hout : (A.flatMap fun t => hdl t B).length ≤ 1000000000000) :
    Calls Tryz.prog 45 #[.int .i64 8, x, y] w (OutT any (A.flatMap fun t => hdl t B) w) := by
  have eg : ∀ args w, (callFunc 84 args).run Tryz.prog w = .ok (.enter 84 args) w := enters_of Tryz.func84 (by kernel_rfl) rfl
  have hin : ∀ t ∈ A, (hdl t B).length ≤ 1000000000000 := fun t ht => Nat.le_trans (flat_one (fun t => hdl t B) ht) hout
  have C := Lib.hid (fun ty => eachTT 84 #[.pointer (some ⟨w.heap.size, 0, none⟩)] eg any x A (fun t => hdl t B) (w.alloc (.cells #[y] ty)) (hx.below (bel1 _ _))
    (fun wr hb t ht a ha => by
      have hc : wr.cell? ⟨w.heap.size, 0, none⟩ = some y := by rw [hb.cell (p := ⟨w.heap.size, 0, none⟩) (by simp)]; exact box1_new _ _ _
      have hY := (((hy.imp (ok' := fun b => any b ∧ b < (w.alloc (.cells #[y] ty)).heap.size) fun b hlt h => ⟨h, by simp; omega⟩).below (bel1 w (.cells #[y] ty))).below hb)
      exact pot3_any T _ w.heap.size a y t B wr hc ha hY hB (fun u hu => by have := hrow t ht u hu; omega)) hA hout)
  generalize (A.flatMap fun t => hdl t B) = L at C ⊢
  obtain ⟨_, ⟨_, a1, k1, rfl, _⟩, _⟩ := hx
  obtain ⟨_, ⟨_, a2, k2, rfl, _⟩, _⟩ := hy
  clear hin
  go_enter Tryz.func45, Tryz.ntmps45
  go_wp2_with fail
  refine (C.out _).mono ?_
  intro e w2 ho
  have HO := Lib.hid (ho.up (bel1 w _) fun b h => .inl h)
  obtain ⟨a4, k4, rfl, _, _⟩ := ho
  go_wp2_with fail
  go_ret
  exact HO.out

set_option maxHeartbeats 2000000 in
theorem plain6_any (T : TCon) (x y : Value) (A B : List Tr) (w : World) (hx : TsO any w x A) (hy : TsO any w y B) (hAB : A.length + B.length ≤ 1000000000000) (hrow : ∀ t ∈ A ++ B, t.a.length ≤ 1000000) :
    Calls Tryz.prog 45 #[.int .i64 6, x, y] w (OutT any (norm (A ++ B)) w) := by
  have C := Lib.hid (fun o => T.cOr x y A B (w.alloc o) (hx.below (bel1 _ _)).trs (hy.below (bel1 _ _)).trs hAB hrow)
  generalize norm (A ++ B) = L at C ⊢
  obtain ⟨_, ⟨_, a1, k1, rfl, _⟩, _⟩ := hx
  obtain ⟨_, ⟨_, a2, k2, rfl, _⟩, _⟩ := hy
  go_enter Tryz.func45, Tryz.ntmps45
  go_wp2_with fail
  refine (C.out _).mono ?_
  rintro e w2 ⟨v, rfl, ht, hb⟩
  have HT := Lib.hid ht
  have HB := Lib.hid ((bel1 w _).trans (hb.mono (bel1 w _).size))
  obtain ⟨_, ⟨_, a4, k4, rfl, _⟩, _⟩ := ht
  go_wp2_with fail
  go_ret
  exact ⟨_, _, rfl, (TsO.of HT.out).imp fun _ _ h => .inl h, HB.out⟩
/-- What the program makes of the traces of two. -/
def pot (k : Int) (A B : List Tr) : List Tr := if k = 5 then A.flatMap fun t => B.map (thn t) else if k = 7 then A.flatMap fun t => B.flatMap (pr t) else if k = 8 then A.flatMap fun t => hdl t B else norm (A ++ B)
theorem thn_hnd (p q : Tr) (h : p.e = 2) : thn ⟨p.a, 1⟩ q = hnd p q := by
  unfold thn hnd
  rw [if_pos rfl, if_pos h]
theorem hdl_le (t : Tr) (B : List Tr) (hB : B ≠ []) : (hdl t B).length ≤ B.length := by
  unfold hdl
  split
  · rw [List.length_map]; exact Nat.le_refl _
  · have : 0 < B.length := List.length_pos_iff.2 hB
    show 1 ≤ B.length
    omega
theorem flat_mono {α β : Type} (f g : α → List β) : ∀ l : List α, (∀ x ∈ l, (f x).length ≤ (g x).length) → (l.flatMap f).length ≤ (l.flatMap g).length
  | [], _ => by simp
  | x :: l, h => by
    rw [List.flatMap_cons, List.flatMap_cons, List.length_append, List.length_append]
    exact Nat.add_le_add (h x (by simp)) (flat_mono f g l fun y hy => h y (by simp [hy]))
theorem len_flat1 {α β : Type} (f : α → β) (l : List α) : (l.flatMap fun x => [f x]).length = l.length := by rw [← map_flat, List.length_map]
theorem pot_len {k : Int} (hk : k = 5 ∨ k = 6 ∨ k = 7 ∨ k = 8) (A B : List Tr) (hB : k = 8 → B ≠ []) : (pot k A B).length ≤ (two k A B).length := by
  rcases hk with rfl | rfl | rfl | rfl
  · refine flat_mono _ _ A fun t _ => ?_
    rw [map_flat]
    refine flat_mono _ _ B fun u _ => ?_
    rw [one5]
    exact Nat.le_refl _
  · refine Nat.le_trans (length_norm _) (Nat.le_refl _)
  · refine flat_mono _ _ A fun t _ => flat_mono _ _ B fun u _ => ?_
    rw [one7]
    exact Nat.le_refl _
  · refine flat_mono _ _ A fun t _ => Nat.le_trans (hdl_le t B (hB rfl)) ?_
    have e : (fun u => one 8 t u) = fun u => [hnd t u] := by funext u; exact one8 t u
    show B.length ≤ (B.flatMap fun u => one 8 t u).length
    rw [e, len_flat1]
    exact Nat.le_refl _
theorem pot_norm {k : Int} (hk : k = 5 ∨ k = 6 ∨ k = 7 ∨ k = 8) (A B : List Tr) (hB : k = 8 → B ≠ []) : norm (pot k A B) = norm (two k A B) := norm_congr fun t => by
  rcases hk with rfl | rfl | rfl | rfl
  · rw [mem5]
    show t ∈ (A.flatMap fun t => B.map (thn t)) ↔ _
    simp only [List.mem_flatMap, List.mem_map]
    constructor
    · rintro ⟨p, hp, q, hq, rfl⟩; exact ⟨p, hp, q, hq, rfl⟩
    · rintro ⟨p, hp, q, hq, rfl⟩; exact ⟨p, hp, q, hq, rfl⟩
  · rw [mem6]
    show t ∈ norm (A ++ B) ↔ _
    rw [mem_norm, List.mem_append]
  · rw [mem7]
    show t ∈ (A.flatMap fun t => B.flatMap (pr t)) ↔ _
    simp only [List.mem_flatMap]
  · rw [mem8]
    show t ∈ (A.flatMap fun t => hdl t B) ↔ _
    simp only [List.mem_flatMap]
    constructor
    · rintro ⟨p, hp, ht⟩
      unfold hdl at ht
      split at ht
      · rename_i h2
        obtain ⟨q, hq, rfl⟩ := List.mem_map.1 ht
        exact ⟨p, hp, q, hq, thn_hnd p q h2⟩
      · rename_i h2
        rw [List.mem_singleton] at ht
        obtain ⟨q, hq⟩ := List.exists_mem_of_ne_nil _ (hB rfl)
        exact ⟨p, hp, q, hq, by rw [ht]; unfold hnd; rw [if_neg h2]⟩
    · rintro ⟨p, hp, q, hq, rfl⟩
      refine ⟨p, hp, ?_⟩
      unfold hdl
      split
      · rename_i h2
        exact List.mem_map.2 ⟨q, hq, thn_hnd p q h2⟩
      · rename_i h2
        unfold hnd
        rw [if_neg h2]
        exact List.mem_singleton.2 rfl
theorem plainTwo_any (T : TCon) (k : Int) (hk : k = 5 ∨ k = 6 ∨ k = 7 ∨ k = 8) (x y : Value) (A B : List Tr) (w : World) (hx : TsO any w x A) (hy : TsO any w y B) (hAB : A.length + B.length ≤ 1000000000000) (hrow : ∀ t ∈ A, ∀ u ∈ B, t.a.length + u.a.length ≤ 9) (hr1 : ∀ t ∈ A ++ B, t.a.length ≤ 1000000)
    (hB : k = 8 → B ≠ []) (hout : (two k A B).length ≤ 1000000000000) : Calls Tryz.prog 45 #[.int .i64 k, x, y] w (OutT any (pot k A B) w) := by
  have hout' := Nat.le_trans (pot_len hk A B hB) hout
  rcases hk with rfl | rfl | rfl | rfl
  · exact plain5_any T x y A B w hx hy (by omega) (by omega) hrow hout'
  · exact plain6_any T x y A B w hx hy hAB hr1
  · exact plain7_any T x y A B w hx hy (by omega) (by omega) hrow hout'
  · exact plain8_any T x y A B w hx hy (by omega) (by omega) hrow hout'
end Go.Proofs.YtgaediondmdnbaaGreat.Mn
