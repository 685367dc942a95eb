/- Worlds that only grew; the program's order of pairs: the walks. The statements' own first look at package settle: the walk. The document's mixed and Par: where what they tell lies; the walks. The document's order of pairs: the walk; merging rows of pairs: plain steps. The program's with, going, stacked: the walks. The document's behind, Then: where what they tell lies; the walks. -/
import Derived.Test.YtgaediondmdnbaaGreatQ06
import Derived.Test.YtgaediondmdnbaaGreatQ23
import Derived.Test.YtgaediondmdnbaaGreatQ13
import Derived.Test.YtgaediondmdnbaaGreatQ12
import Derived.Test.YtgaediondmdnbaaGreatQ10

namespace Go.Proofs.YtgaediondmdnbaaGreat.Mn
open Go Go.RowKit Tr
set_option maxRecDepth 20000

/-- Drawn on, and grown. -/
def Gr (w w' : World) : Prop := ∃ n os, w' = Go.Sort.grow (w.drewN n) os
theorem drewN_grow (w : World) (os : Array Obj) (n : Nat) : (Go.Sort.grow w os).drewN n = Go.Sort.grow (w.drewN n) os := by
  induction n with
  | zero => rfl
  | succ n ih => show ((Go.Sort.grow w os).drewN n).drew = _; rw [ih]; rfl
theorem Gr.refl (w : World) : Gr w w := ⟨0, #[], by rw [Go.Sort.grow_empty]; rfl⟩
theorem Gr.trans {w w1 w2 : World} (h1 : Gr w w1) (h2 : Gr w1 w2) : Gr w w2 := by
  obtain ⟨n, os, rfl⟩ := h1
  obtain ⟨m, os', rfl⟩ := h2
  exact ⟨n + m, os ++ os', by rw [drewN_grow, Go.Sort.grow_grow, World.drewN_drewN]⟩
theorem Gr.alloc {w w1 : World} (h : Gr w w1) (o : Obj) : Gr w (w1.alloc o) := h.trans ⟨0, #[o], Go.Sort.alloc_eq_grow _ _⟩
theorem Gr.drew {w w1 : World} (h : Gr w w1) : Gr w w1.drew := h.trans ⟨1, #[], by rw [Go.Sort.grow_empty]; rfl⟩
theorem Gr.below {w w' : World} (h : Gr w w') : Below w.heap.size w w' := by
  obtain ⟨n, os, rfl⟩ := h
  exact below_grow w n os

set_option maxHeartbeats 1000000 in
theorem compareG (v1 v2 : Value) (p q : Tr) (w : World) (h1 : Strs w v1 p.a) (h2 : Strs w v2 q.a) (hl : p.a.length ≤ 1000000) (hm : q.a.length ≤ 1000000) :
    Calls Tryz.prog 121 #[.agg #[v1, .int .i64 p.e], .agg #[v2, .int .i64 q.e]] w fun e w' => e = .returned (.int .i64 (cmp p q)) ∧ ∃ n os, w' = Go.Sort.grow (w.drewN n) os := by
  have H1 := Lib.hid (fun x y => h1.below (((Below.refl _ _).alloc (Nat.le_refl _) x).alloc (by simp) y))
  have H2 := Lib.hid (fun x y => h2.below (((Below.refl _ _).alloc (Nat.le_refl _) x).alloc (by simp) y))
  obtain ⟨_, a1, c1, rfl, -⟩ := h1
  obtain ⟨_, a2, c2, rfl, -⟩ := h2
  go_enter Tryz.func121, Tryz.ntmps121
  go_wp2_with (go_at_call 74; refine (against_any _ _ p q _ (H1.out _ _) (H2.out _ _) (by omega) (by omega)).mono ?_; rintro e w' ⟨rfl, n, os, rfl⟩)
  go_ret
  exact ⟨rfl, (((Gr.refl w).alloc _).alloc _).trans ⟨n, os, rfl⟩⟩

theorem or_pcmp (x y : Pr) : (if cmp x.p y.p = 0 then cmp x.q y.q else cmp x.p y.p) = pcmp x y := rfl

/-- The two pairs in their boxes. -/
def Bx2 (w : World) (b : Nat) (v1 v1' v2 v2' : Value) (x y : Pr) : Prop := BoxP w b v1 x.p.e v1' x.q.e ∧ BoxP w (b + 1) v2 y.p.e v2' y.q.e
theorem Bx2.below {w w' : World} {b : Nat} {v1 v1' v2 v2' : Value} {x y : Pr} (h : Bx2 w b v1 v1' v2 v2' x y) (hb : Below w.heap.size w w') : Bx2 w' b v1 v1' v2 v2' x y := ⟨h.1.below hb, h.2.below hb⟩

set_option maxHeartbeats 2000000 in
theorem pagainst_any (v1 v1' v2 v2' : Value) (x y : Pr) (w : World) (h1 : Strs w v1 x.p.a) (h1' : Strs w v1' x.q.a) (h2 : Strs w v2 y.p.a) (h2' : Strs w v2' y.q.a)
    (l1 : x.p.a.length ≤ 1000000) (l1' : x.q.a.length ≤ 1000000) (l2 : y.p.a.length ≤ 1000000) (l2' : y.q.a.length ≤ 1000000) :
    Calls Tryz.prog 89 #[.agg #[v1, .int .i64 x.p.e, v1', .int .i64 x.q.e], .agg #[v2, .int .i64 y.p.e, v2', .int .i64 y.q.e]] w fun e w' => e = .returned (.int .i64 (pcmp x y)) ∧ Gr w w' := by
  obtain ⟨cp, hcp⟩ : ∃ c, cmp x.p y.p = c := ⟨_, rfl⟩
  obtain ⟨cq, hcq⟩ : ∃ c, cmp x.q y.q = c := ⟨_, rfl⟩
  have HO := Lib.hid (or_pcmp x y)
  rw [hcp, hcq] at HO
  have C1 := Lib.hid (fun w1 (hb : Gr w w1) => compareG v1 v2 x.p y.p w1 (h1.below hb.below) (h2.below hb.below) l1 l2)
  have C2 := Lib.hid (fun w1 (hb : Gr w w1) => compareG v1' v2' x.q y.q w1 (h1'.below hb.below) (h2'.below hb.below) l1' l2')
  rw [hcp] at C1
  rw [hcq] at C2
  have R3 : Hid (∀ b w, w.cell? ⟨b, 0, none⟩ = some (.int .i64 cp) → w.cell? ⟨b, 1, none⟩ = some (.int .i64 cq) → Calls Tryz.prog 112 #[.slice (some ⟨b, 0, none⟩) 2 2] w fun e w' => e = .returned (.int .i64 (pcmp x y)) ∧ w' = w) := Lib.hid (fun b w ha hb => by rw [← HO.out]; exact or2_any cp cq b w ha hb)
  obtain ⟨_, a1, c1, rfl, -⟩ := h1
  obtain ⟨_, a1', c1', rfl, -⟩ := h1'
  obtain ⟨_, a2, c2, rfl, -⟩ := h2
  obtain ⟨_, a2', c2', rfl, -⟩ := h2'
  generalize pcmp x y = c at *
  clear hcp hcq HO
  have G2 := Lib.hid (fun o p : Obj => (((Gr.refl w).alloc o).alloc p).drew)
  go_enter Tryz.func89, Tryz.ntmps89
  go_wp2_with fail
  go_region_held3 (fun w' => w'.cell? ⟨w.heap.size, 0, none⟩ = some (.slice a1 x.p.a.length c1) ∧ w'.cell? ⟨w.heap.size, 1, none⟩ = some (.int .i64 x.p.e) ∧ w'.cell? ⟨w.heap.size, 2, none⟩ = some (.slice a1' x.q.a.length c1') ∧ w'.cell? ⟨w.heap.size, 3, none⟩ = some (.int .i64 x.q.e) ∧ w'.cell? ⟨w.heap.size + 1, 0, none⟩ = some (.slice a2 y.p.a.length c2) ∧ w'.cell? ⟨w.heap.size + 1, 1, none⟩ = some (.int .i64 y.p.e) ∧ w'.cell? ⟨w.heap.size + 1, 2, none⟩ = some (.slice a2' y.q.a.length c2') ∧ w'.cell? ⟨w.heap.size + 1, 3, none⟩ = some (.int .i64 y.q.e)) (first | (simp [go_sem]; done) | exact kz | exact ky | exact ka _ | fail) (first
    | (go_at_call 121
       (with_reducible refine (C1.out _ (G2.out _ _)).mono ?_)
       rintro e w1 ⟨rfl, hb1⟩
       have kz : w1.cell? ⟨w.heap.size, 0, none⟩ = some (.slice a1 x.p.a.length c1) ∧ w1.cell? ⟨w.heap.size, 1, none⟩ = some (.int .i64 x.p.e) ∧ w1.cell? ⟨w.heap.size, 2, none⟩ = some (.slice a1' x.q.a.length c1') ∧ w1.cell? ⟨w.heap.size, 3, none⟩ = some (.int .i64 x.q.e) ∧ w1.cell? ⟨w.heap.size + 1, 0, none⟩ = some (.slice a2 y.p.a.length c2) ∧ w1.cell? ⟨w.heap.size + 1, 1, none⟩ = some (.int .i64 y.p.e) ∧ w1.cell? ⟨w.heap.size + 1, 2, none⟩ = some (.slice a2' y.q.a.length c2') ∧ w1.cell? ⟨w.heap.size + 1, 3, none⟩ = some (.int .i64 y.q.e) := by
         have k := Bx2.below (b := w.heap.size) (v1 := .slice a1 x.p.a.length c1) (v1' := .slice a1' x.q.a.length c1') (v2 := .slice a2 y.p.a.length c2) (v2' := .slice a2' y.q.a.length c2') (x := x) (y := y) ⟨⟨by simp [go_sem], by simp [go_sem], by simp [go_sem], by simp [go_sem]⟩, ⟨by simp [go_sem], by simp [go_sem], by simp [go_sem], by simp [go_sem]⟩⟩ (Gr.below hb1)
         exact ⟨k.1.1, k.1.2.1, k.1.2.2.1, k.1.2.2.2, k.2.1, k.2.2.1, k.2.2.2.1, k.2.2.2.2⟩
       have B1 := Lib.hid ((G2.out _ _).trans hb1)
       clear hb1)
    | (go_at_call 121
       (with_reducible refine (C2.out _ B1.out).mono ?_)
       rintro e w2 ⟨rfl, hb2⟩
       have ky : w2.cell? ⟨w.heap.size, 0, none⟩ = some (.slice a1 x.p.a.length c1) ∧ w2.cell? ⟨w.heap.size, 1, none⟩ = some (.int .i64 x.p.e) ∧ w2.cell? ⟨w.heap.size, 2, none⟩ = some (.slice a1' x.q.a.length c1') ∧ w2.cell? ⟨w.heap.size, 3, none⟩ = some (.int .i64 x.q.e) ∧ w2.cell? ⟨w.heap.size + 1, 0, none⟩ = some (.slice a2 y.p.a.length c2) ∧ w2.cell? ⟨w.heap.size + 1, 1, none⟩ = some (.int .i64 y.p.e) ∧ w2.cell? ⟨w.heap.size + 1, 2, none⟩ = some (.slice a2' y.q.a.length c2') ∧ w2.cell? ⟨w.heap.size + 1, 3, none⟩ = some (.int .i64 y.q.e) := by
         have k := Bx2.below (b := w.heap.size) (x := x) (y := y) ⟨⟨kz.1, kz.2.1, kz.2.2.1, kz.2.2.2.1⟩, ⟨kz.2.2.2.2.1, kz.2.2.2.2.2.1, kz.2.2.2.2.2.2.1, kz.2.2.2.2.2.2.2⟩⟩ (Gr.below hb2)
         exact ⟨k.1.1, k.1.2.1, k.1.2.2.1, k.1.2.2.2, k.2.1, k.2.2.1, k.2.2.2.1, k.2.2.2.2⟩
       have ka : ∀ o : Obj, (w2.alloc o).cell? ⟨w.heap.size, 0, none⟩ = some (.slice a1 x.p.a.length c1) ∧ (w2.alloc o).cell? ⟨w.heap.size, 1, none⟩ = some (.int .i64 x.p.e) ∧ (w2.alloc o).cell? ⟨w.heap.size, 2, none⟩ = some (.slice a1' x.q.a.length c1') ∧ (w2.alloc o).cell? ⟨w.heap.size, 3, none⟩ = some (.int .i64 x.q.e) ∧ (w2.alloc o).cell? ⟨w.heap.size + 1, 0, none⟩ = some (.slice a2 y.p.a.length c2) ∧ (w2.alloc o).cell? ⟨w.heap.size + 1, 1, none⟩ = some (.int .i64 y.p.e) ∧ (w2.alloc o).cell? ⟨w.heap.size + 1, 2, none⟩ = some (.slice a2' y.q.a.length c2') ∧ (w2.alloc o).cell? ⟨w.heap.size + 1, 3, none⟩ = some (.int .i64 y.q.e) := fun o => by
         have k := Bx2.below (b := w.heap.size) (x := x) (y := y) ⟨⟨ky.1, ky.2.1, ky.2.2.1, ky.2.2.2.1⟩, ⟨ky.2.2.2.2.1, ky.2.2.2.2.2.1, ky.2.2.2.2.2.2.1, ky.2.2.2.2.2.2.2⟩⟩ (bel1 w2 o)
         exact ⟨k.1.1, k.1.2.1, k.1.2.2.1, k.1.2.2.2, k.2.1, k.2.2.1, k.2.2.2.1, k.2.2.2.2⟩
       have B2 := Lib.hid (B1.out.trans hb2)
       clear hb2)
    | (go_at_call 112
       refine (R3.out _ _ (by simp [go_sem]) (by simp [go_sem])).mono ?_
       rintro e w' ⟨rfl, rfl⟩)
    | fail)
  go_wp2_with fail
  go_ret
  exact ⟨rfl, B2.out.alloc _⟩
end Go.Proofs.YtgaediondmdnbaaGreat.Mn

namespace Go.Proofs.YtgaediondmdnbaaGreat.Se
open Go Go.RowKit Go.Proofs.YtgaediondmdnbaaGreat.Rw Go.Proofs.YtgaediondmdnbaaGreat.So
set_option maxRecDepth 20000

/-- A row of nodes in a block that is new. -/
theorem nds_new (w : World) (l : List Nd) (ty : TypeId) : Nds (w.alloc (.cells (cls l).toArray ty)) (.slice (some ⟨w.heap.size, 0, none⟩) l.length l.length) l := by
  refine ⟨cls_len l, some ⟨w.heap.size, 0, none⟩, l.length, rfl, Nat.le_refl _, fun h => (by cases h), fun _ => ⟨w.heap.size, 0, rfl, fun j u hu => ?_⟩⟩
  rw [Nat.zero_add, World.cell?_alloc_new]
  simpa using hu
/-- A call that tells a row of so many nodes. -/
def OutN' (n : Nat) (l : List Nd) (w : World) (e : Ending) (w' : World) : Prop := ∃ a c, e = .returned (.slice a n c) ∧ Nds w' (.slice a n c) l ∧ Below w.heap.size w w'
theorem OutL.n {n : Nat} {l : List Nd} {w w' : World} {e : Ending} (hn : l.length = n) (h : OutL l w e w') : OutN' n l w e w' := by
  obtain ⟨y, rfl, hy, hb⟩ := h
  obtain ⟨_, a, c, rfl, -⟩ := id hy
  rw [hn] at hy ⊢
  exact ⟨a, c, rfl, hy, hb⟩
theorem nms_few {l : List Nd} (h : ∀ x ∈ l, x.n.size ≤ 8) : Nms l := fun x hx => Nat.le_trans (h x hx) (by decide)
theorem goL : Goes (.seq .skip (.act ⟨#[97]⟩)) := ⟨by decide +kernel, by decide, by decide⟩
theorem goM : Goes (.block (.seq (.fin 1 (.act ⟨#[98]⟩)) (.pair (.act ⟨#[99]⟩) (.act ⟨#[100]⟩)))) := ⟨by decide +kernel, by decide, by decide⟩
theorem goMs : Goes (.block (.stack (.pair (.act ⟨#[99]⟩) (.act ⟨#[100]⟩)) (.act ⟨#[98]⟩))) := ⟨by decide +kernel, by decide, by decide⟩
theorem goS : Goes (.skip : Tm) := ⟨by decide +kernel, by decide, by decide⟩
theorem al_L (w : World) : Calls Tryz.prog 6 #[.slice (some ⟨w.heap.size, 0, none⟩) 3 3] (w.alloc (.cells #[.int .i64 5, .string ⟨#[]⟩, .int .i64 0, .int .i64 2, .string ⟨#[]⟩, .int .i64 0, .int .i64 1, .string ⟨#[97]⟩, .int .i64 0] 42)) (OutN' 1 [nAct ⟨#[97]⟩] (w.alloc (.cells #[.int .i64 5, .string ⟨#[]⟩, .int .i64 0, .int .i64 2, .string ⟨#[]⟩, .int .i64 0, .int .i64 1, .string ⟨#[97]⟩, .int .i64 0] 42))) := (settleP_go _ (.seq .skip (.act ⟨#[97]⟩)) _ (nds_new w (flat (.seq .skip (.act ⟨#[97]⟩))) 42) (nms_few (by decide)) goL).mono fun _ _ h => h.n rfl
theorem al_M (w : World) : Calls Tryz.prog 6 #[.slice (some ⟨w.heap.size, 0, none⟩) 7 7] (w.alloc (.cells #[.int .i64 9, .string ⟨#[]⟩, .int .i64 0, .int .i64 5, .string ⟨#[]⟩, .int .i64 0, .int .i64 14, .string ⟨#[]⟩, .int .i64 1, .int .i64 1, .string ⟨#[98]⟩, .int .i64 0, .int .i64 10, .string ⟨#[]⟩, .int .i64 0, .int .i64 1, .string ⟨#[99]⟩, .int .i64 0, .int .i64 1, .string ⟨#[100]⟩, .int .i64 0] 42)) (OutN' 6 (flat (.block (.stack (.pair (.act ⟨#[99]⟩) (.act ⟨#[100]⟩)) (.act ⟨#[98]⟩)))) (w.alloc (.cells #[.int .i64 9, .string ⟨#[]⟩, .int .i64 0, .int .i64 5, .string ⟨#[]⟩, .int .i64 0, .int .i64 14, .string ⟨#[]⟩, .int .i64 1, .int .i64 1, .string ⟨#[98]⟩, .int .i64 0, .int .i64 10, .string ⟨#[]⟩, .int .i64 0, .int .i64 1, .string ⟨#[99]⟩, .int .i64 0, .int .i64 1, .string ⟨#[100]⟩, .int .i64 0] 42))) := (settleP_go _ (.block (.seq (.fin 1 (.act ⟨#[98]⟩)) (.pair (.act ⟨#[99]⟩) (.act ⟨#[100]⟩)))) _ (nds_new w (flat (.block (.seq (.fin 1 (.act ⟨#[98]⟩)) (.pair (.act ⟨#[99]⟩) (.act ⟨#[100]⟩))))) 42) (nms_few (by decide)) goM).mono fun _ _ h => h.n rfl
theorem al_T (w : World) : Calls Tryz.prog 18 #[.slice (some ⟨w.heap.size, 0, none⟩) 1 1] (w.alloc (.cells #[.int .i64 3, .string ⟨#[]⟩, .int .i64 0] 42)) (OutN' 1 [nOver 2] (w.alloc (.cells #[.int .i64 3, .string ⟨#[]⟩, .int .i64 0] 42))) := (beginP_go _ .throw _ (nds_new w (flat .throw) 42) (nms_few (by decide)) ⟨by decide +kernel, by decide, by decide⟩ (by decide +kernel)).mono fun _ _ h => h.n rfl
theorem al_A (w : World) : Calls Tryz.prog 6 #[.slice (some ⟨w.heap.size, 0, none⟩) 1 1] (w.alloc (.cells #[.int .i64 1, .string ⟨#[]⟩, .int .i64 0] 42)) (OutN' 0 [] (w.alloc (.cells #[.int .i64 1, .string ⟨#[]⟩, .int .i64 0] 42))) := (settleP_no _ [nOf 1] _ (nds_new w [nOf 1] 42) (by decide) (nms_few (by decide)) (by decide +kernel)).mono fun _ _ h => h.n rfl
theorem al_Sk (w : World) : Calls Tryz.prog 20 #[.slice (some ⟨w.heap.size, 0, none⟩) 1 1] (w.alloc (.cells #[.int .i64 2, .string ⟨#[]⟩, .int .i64 0] 42)) fun e w' => e = .returned (.bool false) ∧ Below (w.alloc (.cells #[.int .i64 2, .string ⟨#[]⟩, .int .i64 0] 42)).heap.size (w.alloc (.cells #[.int .i64 2, .string ⟨#[]⟩, .int .i64 0] 42)) w' :=
  (settledQ_some _ (flat .skip) (flat (S .skip)) _ (nds_new w (flat .skip) 42) (by decide) (by decide) (by decide) (settleP_go _ .skip _ (nds_new w (flat .skip) 42) (nms_few (by decide)) goS)).mono fun _ _ h => ⟨h.1.trans (ret_bool (by decide +kernel)), h.2⟩
theorem al_Ms (v : Value) (w : World) (h : Nds w v (flat (.block (.stack (.pair (.act ⟨#[99]⟩) (.act ⟨#[100]⟩)) (.act ⟨#[98]⟩))))) : Calls Tryz.prog 20 #[v] w fun e w' => e = .returned (.bool true) ∧ Below w.heap.size w w' :=
  (settledQ_some _ (flat (.block (.stack (.pair (.act ⟨#[99]⟩) (.act ⟨#[100]⟩)) (.act ⟨#[98]⟩)))) (flat (S (.block (.stack (.pair (.act ⟨#[99]⟩) (.act ⟨#[100]⟩)) (.act ⟨#[98]⟩))))) _ h (by decide) (by decide) (by decide) (settleP_go _ (.block (.stack (.pair (.act ⟨#[99]⟩) (.act ⟨#[100]⟩)) (.act ⟨#[98]⟩))) _ h (nms_few (by decide)) goMs)).mono fun _ _ h => ⟨h.1.trans (ret_bool (by decide +kernel)), h.2⟩
theorem al_Mb (v : Value) (w : World) (h : Nds w v (flat (.block (.stack (.pair (.act ⟨#[99]⟩) (.act ⟨#[100]⟩)) (.act ⟨#[98]⟩))))) : Calls Tryz.prog 18 #[v] w (OutN' 0 [] w) :=
  (beginP_no _ (flat (.block (.stack (.pair (.act ⟨#[99]⟩) (.act ⟨#[100]⟩)) (.act ⟨#[98]⟩)))) _ h (by decide) (nms_few (by decide)) (by decide +kernel)).mono fun _ _ h => h.n rfl
theorem al_sL (v : Value) (w : World) (h : Nds w v [nAct ⟨#[97]⟩]) : Calls Tryz.prog 19 #[v, .slice (some ⟨w.heap.size, 0, none⟩) 1 1] (w.alloc (.cells #[.int .i64 1, .string ⟨#[97]⟩, .int .i64 0] 42)) fun e w' => e = .returned (.bool true) ∧ Below (w.alloc (.cells #[.int .i64 1, .string ⟨#[97]⟩, .int .i64 0] 42)).heap.size (w.alloc (.cells #[.int .i64 1, .string ⟨#[97]⟩, .int .i64 0] 42)) w' :=
  (sameR_any _ _ [nAct ⟨#[97]⟩] [nAct ⟨#[97]⟩] _ (h.below (below1 w _)) (nds_new w [nAct ⟨#[97]⟩] 42) (by decide)).mono fun _ _ h => ⟨h.1.trans (ret_bool (by decide +kernel)), h.2⟩
theorem al_sM (v : Value) (w : World) (h : Nds w v (flat (.block (.stack (.pair (.act ⟨#[99]⟩) (.act ⟨#[100]⟩)) (.act ⟨#[98]⟩))))) : Calls Tryz.prog 19 #[v, .slice (some ⟨w.heap.size, 0, none⟩) 6 6] (w.alloc (.cells #[.int .i64 9, .string ⟨#[]⟩, .int .i64 0, .int .i64 13, .string ⟨#[]⟩, .int .i64 0, .int .i64 10, .string ⟨#[]⟩, .int .i64 0, .int .i64 1, .string ⟨#[99]⟩, .int .i64 0, .int .i64 1, .string ⟨#[100]⟩, .int .i64 0, .int .i64 1, .string ⟨#[98]⟩, .int .i64 0] 42)) fun e w' => e = .returned (.bool true) ∧ Below (w.alloc (.cells #[.int .i64 9, .string ⟨#[]⟩, .int .i64 0, .int .i64 13, .string ⟨#[]⟩, .int .i64 0, .int .i64 10, .string ⟨#[]⟩, .int .i64 0, .int .i64 1, .string ⟨#[99]⟩, .int .i64 0, .int .i64 1, .string ⟨#[100]⟩, .int .i64 0, .int .i64 1, .string ⟨#[98]⟩, .int .i64 0] 42)).heap.size (w.alloc (.cells #[.int .i64 9, .string ⟨#[]⟩, .int .i64 0, .int .i64 13, .string ⟨#[]⟩, .int .i64 0, .int .i64 10, .string ⟨#[]⟩, .int .i64 0, .int .i64 1, .string ⟨#[99]⟩, .int .i64 0, .int .i64 1, .string ⟨#[100]⟩, .int .i64 0, .int .i64 1, .string ⟨#[98]⟩, .int .i64 0] 42)) w' :=
  (sameR_any _ _ (flat (.block (.stack (.pair (.act ⟨#[99]⟩) (.act ⟨#[100]⟩)) (.act ⟨#[98]⟩)))) (flat (.block (.stack (.pair (.act ⟨#[99]⟩) (.act ⟨#[100]⟩)) (.act ⟨#[98]⟩)))) _ (h.below (below1 w _)) (nds_new w (flat (.block (.stack (.pair (.act ⟨#[99]⟩) (.act ⟨#[100]⟩)) (.act ⟨#[98]⟩)))) 42) (by decide)).mono fun _ _ h => ⟨h.1.trans (ret_bool (by decide +kernel)), h.2⟩
set_option maxHeartbeats 4000000 in
theorem alive_any (w : World) : Calls Tryz.prog 5 #[] w fun e w' => e = .returned (.bool true) ∧ Below w.heap.size w w' := by
  obtain ⟨w0, rfl⟩ : ∃ w0, w0 = w := ⟨_, rfl⟩
  have D := Lib.hid (Below.refl w0.heap.size w0)
  go_enter Tryz.func5, Tryz.ntmps5
  go_wp2_with fail
  refine (act_any ⟨#[97]⟩ w0).mono ?_
  rintro e w1 ⟨rfl, hb⟩
  replace D := Lib.hid (D.out.trans (hb.mono D.out.size))
  clear hb
  go_wp2_with fail
  have da := below1 w1 (.cells #[.int .i64 5, .string ⟨#[]⟩, .int .i64 0, .int .i64 2, .string ⟨#[]⟩, .int .i64 0, .int .i64 1, .string ⟨#[97]⟩, .int .i64 0] 42)
  refine (al_L w1).mono ?_
  rintro e w2 ⟨aL, cL, rfl, hn, hb⟩
  replace hb := da.trans (hb.mono da.size)
  replace D := Lib.hid (D.out.trans (hb.mono D.out.size))
  have L := Lib.hid hn
  clear hb hn da
  go_wp2_with fail
  refine (act_any ⟨#[98]⟩ w2).mono ?_
  rintro e w3 ⟨rfl, hb⟩
  replace L := Lib.hid (L.out.below hb)
  replace D := Lib.hid (D.out.trans (hb.mono D.out.size))
  clear hb
  go_wp2_with fail
  refine (act_any ⟨#[99]⟩ w3).mono ?_
  rintro e w4 ⟨rfl, hb⟩
  replace L := Lib.hid (L.out.below hb)
  replace D := Lib.hid (D.out.trans (hb.mono D.out.size))
  clear hb
  go_wp2_with fail
  refine (act_any ⟨#[100]⟩ w4).mono ?_
  rintro e w5 ⟨rfl, hb⟩
  replace L := Lib.hid (L.out.below hb)
  replace D := Lib.hid (D.out.trans (hb.mono D.out.size))
  clear hb
  go_wp2_with fail
  have da := below1 w5 (.cells #[.int .i64 9, .string ⟨#[]⟩, .int .i64 0, .int .i64 5, .string ⟨#[]⟩, .int .i64 0, .int .i64 14, .string ⟨#[]⟩, .int .i64 1, .int .i64 1, .string ⟨#[98]⟩, .int .i64 0, .int .i64 10, .string ⟨#[]⟩, .int .i64 0, .int .i64 1, .string ⟨#[99]⟩, .int .i64 0, .int .i64 1, .string ⟨#[100]⟩, .int .i64 0] 42)
  refine (al_M w5).mono ?_
  rintro e w6 ⟨aM, cM, rfl, hn, hb⟩
  replace hb := da.trans (hb.mono da.size)
  replace L := Lib.hid (L.out.below hb)
  replace D := Lib.hid (D.out.trans (hb.mono D.out.size))
  have M := Lib.hid hn
  clear hb hn da
  go_wp2_with fail
  have da := below1 w6 (.cells #[.int .i64 3, .string ⟨#[]⟩, .int .i64 0] 42)
  refine (al_T w6).mono ?_
  rintro e w7 ⟨aT, cT, rfl, hn, hb⟩
  replace hb := da.trans (hb.mono da.size)
  replace L := Lib.hid (L.out.below hb)
  replace M := Lib.hid (M.out.below hb)
  replace D := Lib.hid (D.out.trans (hb.mono D.out.size))
  have T := Lib.hid hn
  clear hb hn da
  go_wp2_with fail
  refine (ended_over _ w7 T.out).mono ?_
  rintro e w8 ⟨rfl, hb⟩
  replace L := Lib.hid (L.out.below hb)
  replace M := Lib.hid (M.out.below hb)
  replace T := Lib.hid (T.out.below hb)
  replace D := Lib.hid (D.out.trans (hb.mono D.out.size))
  clear hb
  go_wp2_with fail
  refine (ended_act ⟨#[97]⟩ _ w8 L.out).mono ?_
  rintro e w9 ⟨rfl, hb⟩
  replace L := Lib.hid (L.out.below hb)
  replace M := Lib.hid (M.out.below hb)
  replace D := Lib.hid (D.out.trans (hb.mono D.out.size))
  clear hb
  go_wp2_with fail
  refine (act_any ⟨#[97]⟩ w9).mono ?_
  rintro e w10 ⟨rfl, hb⟩
  replace L := Lib.hid (L.out.below hb)
  replace M := Lib.hid (M.out.below hb)
  replace D := Lib.hid (D.out.trans (hb.mono D.out.size))
  clear hb
  go_wp2_with fail
  have da := below1 w10 (.cells #[.int .i64 1, .string ⟨#[97]⟩, .int .i64 0] 42)
  refine (al_sL _ w10 L.out).mono ?_
  rintro e w11 ⟨rfl, hb⟩
  replace hb := da.trans (hb.mono da.size)
  replace L := Lib.hid (L.out.below hb)
  replace M := Lib.hid (M.out.below hb)
  replace D := Lib.hid (D.out.trans (hb.mono D.out.size))
  clear hb da
  go_wp2_with fail
  refine (act_any ⟨#[99]⟩ w11).mono ?_
  rintro e w12 ⟨rfl, hb⟩
  replace L := Lib.hid (L.out.below hb)
  replace M := Lib.hid (M.out.below hb)
  replace D := Lib.hid (D.out.trans (hb.mono D.out.size))
  clear hb
  go_wp2_with fail
  refine (act_any ⟨#[100]⟩ w12).mono ?_
  rintro e w13 ⟨rfl, hb⟩
  replace L := Lib.hid (L.out.below hb)
  replace M := Lib.hid (M.out.below hb)
  replace D := Lib.hid (D.out.trans (hb.mono D.out.size))
  clear hb
  go_wp2_with fail
  refine (act_any ⟨#[98]⟩ w13).mono ?_
  rintro e w14 ⟨rfl, hb⟩
  replace L := Lib.hid (L.out.below hb)
  replace M := Lib.hid (M.out.below hb)
  replace D := Lib.hid (D.out.trans (hb.mono D.out.size))
  clear hb
  go_wp2_with fail
  have da := below1 w14 (.cells #[.int .i64 9, .string ⟨#[]⟩, .int .i64 0, .int .i64 13, .string ⟨#[]⟩, .int .i64 0, .int .i64 10, .string ⟨#[]⟩, .int .i64 0, .int .i64 1, .string ⟨#[99]⟩, .int .i64 0, .int .i64 1, .string ⟨#[100]⟩, .int .i64 0, .int .i64 1, .string ⟨#[98]⟩, .int .i64 0] 42)
  refine (al_sM _ w14 M.out).mono ?_
  rintro e w15 ⟨rfl, hb⟩
  replace hb := da.trans (hb.mono da.size)
  replace L := Lib.hid (L.out.below hb)
  replace M := Lib.hid (M.out.below hb)
  replace D := Lib.hid (D.out.trans (hb.mono D.out.size))
  clear hb da
  go_wp2_with fail
  refine (al_Ms _ w15 M.out).mono ?_
  rintro e w16 ⟨rfl, hb⟩
  replace L := Lib.hid (L.out.below hb)
  replace M := Lib.hid (M.out.below hb)
  replace D := Lib.hid (D.out.trans (hb.mono D.out.size))
  clear hb
  go_wp2_with fail
  refine (settledQ_none _ _ w16).mono ?_
  rintro e w17 ⟨rfl, rfl⟩
  go_wp2_with fail
  have da := below1 w16 (.cells #[.int .i64 2, .string ⟨#[]⟩, .int .i64 0] 42)
  refine (al_Sk w16).mono ?_
  rintro e w17 ⟨rfl, hb⟩
  replace hb := da.trans (hb.mono da.size)
  replace L := Lib.hid (L.out.below hb)
  replace M := Lib.hid (M.out.below hb)
  replace D := Lib.hid (D.out.trans (hb.mono D.out.size))
  clear hb da
  go_wp2_with fail
  have da := below1 w17 (.cells #[.int .i64 1, .string ⟨#[]⟩, .int .i64 0] 42)
  refine (al_A w17).mono ?_
  rintro e w18 ⟨aA, cA, rfl, hn, hb⟩
  replace hb := da.trans (hb.mono da.size)
  replace L := Lib.hid (L.out.below hb)
  replace M := Lib.hid (M.out.below hb)
  replace D := Lib.hid (D.out.trans (hb.mono D.out.size))
  have AA := Lib.hid hn
  clear hb hn da
  go_wp2_with fail
  refine (al_Mb _ w18 M.out).mono ?_
  rintro e w19 ⟨aB, cB, rfl, hn, hb⟩
  replace L := Lib.hid (L.out.below hb)
  replace M := Lib.hid (M.out.below hb)
  replace AA := Lib.hid (AA.out.below hb)
  replace D := Lib.hid (D.out.trans (hb.mono D.out.size))
  have BB := Lib.hid hn
  clear hb hn
  go_wp2_with fail
  go_ret
  exact ⟨rfl, D.out⟩
end Go.Proofs.YtgaediondmdnbaaGreat.Se

namespace Go.Proofs.YtgaediondmdnbaaGreat.Mn
open Go Go.RowKit Tr
set_option maxRecDepth 20000

end Go.Proofs.YtgaediondmdnbaaGreat.Mn

namespace Go.Proofs.YtgaediondmdnbaaGreat.Mn
open Go Go.RowKit Tr
set_option maxRecDepth 20000

theorem infoPR : (Tryz.prog.info? 59).map (fun i => (i.zero, i.size, i.bytes)) = some (some (.agg #[.slice none 0 0, .int .i64 0, .slice none 0 0, .int .i64 0]), 4, 64) := by kernel_rfl
theorem app1P {ok : Nat → Prop} {wk wr : World} {base : Nat} {v a b : Value} {o : List Pr} {x : Pr} {cs : List Value} (hown : wr.ownsRow base 59 4 v o.length cs) (hbase : base ≤ wr.heap.size) (ha : StrsO ok wk a x.p.a) (hb : StrsO ok wk b x.q.a) (hlen : o.length ≤ 2000000000000) :
    ∃ v' w', (Builtin.append_ #[38, 38] 38 #[v, .slice (some ⟨wr.heap.size, 0, none⟩) 1 1]).run Tryz.prog (wr.alloc (.cells #[a, .int .i64 x.p.e, b, .int .i64 x.q.e] 59)) = .ok v' w' ∧
      w'.ownsRow base 59 4 v' (o ++ [x]).length (cs ++ [a, .int .i64 x.p.e, b, .int .i64 x.q.e]) ∧ wr.grownBy w' v.ownBlock ∧ Below base wr w' ∧ Ap.Fresh wr v v' := by
  obtain ⟨i0, hi, hz, hs1, hb8⟩ := info_parts infoPR
  obtain ⟨v', w', h1, h2, h3, h4, h5⟩ := Ap.run_append_one (P := Tryz.prog) (ty := 38) Tryz.underlying38 hi hz hs1 hb8 (by rfl) (by omega) hown hbase #[a, .int .i64 x.p.e, b, .int .i64 x.q.e] rfl
    (fun u hu => by
      simp at hu
      rcases hu with rfl | rfl | rfl | rfl
      · exact strsO_one ha
      · rfl
      · exact strsO_one hb
      · rfl) (by unfold maxLen; omega) (by omega)
  exact ⟨v', w', h1, by simpa using h2, h3, h4, h5⟩
set_option maxHeartbeats 2000000 in
theorem pcmpR (v1 v1' v2 v2' : Value) (x y : Pr) (w : World) (h1 : Strs w v1 x.p.a) (h1' : Strs w v1' x.q.a) (h2 : Strs w v2 y.p.a) (h2' : Strs w v2' y.q.a)
    (l1 : x.p.a.length ≤ 1000000 ∧ x.q.a.length ≤ 1000000) (l2 : y.p.a.length ≤ 1000000 ∧ y.q.a.length ≤ 1000000) :
    Calls Tryz.prog 30 #[.agg #[v1, .int .i64 x.p.e, v1', .int .i64 x.q.e], .agg #[v2, .int .i64 y.p.e, v2', .int .i64 y.q.e]] w fun e w' => e = .returned (.int .i64 (pcmp x y)) ∧ Below w.heap.size w w' := by
  have HB := Lib.hid (fun o o' => bel2 w o o')
  have C1 := Lib.hid (fun w1 (hb : Below w.heap.size w w1) => cmpR v1 v2 x.p y.p w1 (h1.below hb) (h2.below hb) l1.1 l2.1)
  have C2 := Lib.hid (fun w1 (hb : Below w.heap.size w w1) => cmpR v1' v2' x.q y.q w1 (h1'.below hb) (h2'.below hb) l1.2 l2.2)
  obtain ⟨_, a1, c1, rfl, -⟩ := h1
  obtain ⟨_, a1', c1', rfl, -⟩ := h1'
  obtain ⟨_, a2, c2, rfl, -⟩ := h2
  obtain ⟨_, a2', c2', rfl, -⟩ := h2'
  have hp : pcmp x y = if cmp x.p y.p = 0 then cmp x.q y.q else cmp x.p y.p := rfl
  rw [hp]
  generalize cmp x.p y.p = z at C1 ⊢
  generalize cmp x.q y.q = z' at C2 ⊢
  clear hp
  by_cases hz : z = 0
  · subst hz
    rw [if_pos rfl]
    go_enter Tryz.func30, Tryz.ntmps30
    go_wp2_with fail
    refine (C1.out _ (HB.out _ _)).mono ?_
    rintro e w1 ⟨rfl, hb1⟩
    have k1 : BoxP w1 w.heap.size (.slice a1 x.p.a.length c1) x.p.e (.slice a1' x.q.a.length c1') x.q.e := BoxP.below ⟨by simp [go_sem], by simp [go_sem], by simp [go_sem], by simp [go_sem]⟩ hb1
    have k2 : BoxP w1 (w.heap.size + 1) (.slice a2 y.p.a.length c2) y.p.e (.slice a2' y.q.a.length c2') y.q.e := BoxP.below ⟨by simp [go_sem], by simp [go_sem], by simp [go_sem], by simp [go_sem]⟩ hb1
    obtain ⟨_, _, q2, q3⟩ := k1
    obtain ⟨_, _, r2, r3⟩ := k2
    have B1 := Lib.hid ((HB.out _ _).trans (hb1.mono (HB.out _ _).size))
    clear hb1
    go_wp2_with fail
    refine (C2.out _ B1.out).mono ?_
    rintro e w2 ⟨rfl, hb2⟩
    have B2 := Lib.hid (B1.out.trans (hb2.mono B1.out.size))
    clear hb2
    go_wp2_with fail
    go_ret
    exact ⟨rfl, B2.out⟩
  · rw [if_neg hz]
    have gz : (z == 0) = false := by simpa using hz
    go_enter Tryz.func30, Tryz.ntmps30
    go_wp2_with fail
    refine (C1.out _ (HB.out _ _)).mono ?_
    rintro e w1 ⟨rfl, hb1⟩
    have B1 := Lib.hid ((HB.out _ _).trans (hb1.mono (HB.out _ _).size))
    clear hb1
    go_wp2_with fail
    go_ret
    exact ⟨rfl, B1.out⟩

end Go.Proofs.YtgaediondmdnbaaGreat.Mn

namespace Go.Proofs.YtgaediondmdnbaaGreat.Mn
open Go Go.RowKit Tr
set_option maxRecDepth 20000

set_option maxHeartbeats 1000000 in
theorem with1_any (ok : Nat → Prop) (bx : Nat) (a pv : Value) (t p : Tr) (w : World) (hb : BoxT w bx pv p.e) (hp : StrsO ok w pv p.a) (hs : StrsO ok w a t.a) :
    Calls Tryz.prog 97 #[.agg #[a, .int .i64 t.e], .pointer (some ⟨bx, 0, none⟩)] w (OutP ok [⟨p, t⟩] w) := by
  have HP := Lib.hid hp
  have HS := Lib.hid hs
  have hlt := Ap.cell_lt hb.1
  obtain ⟨c0, c1⟩ := hb
  obtain ⟨_, a1, k1, rfl, _⟩ := hp
  obtain ⟨_, a2, k2, rfl, _⟩ := hs
  unfold OutP
  go_enter Tryz.func97, Tryz.ntmps97
  go_wp2_with fail
  go_ret
  refine ⟨_, _, rfl, ps_one (by simp [go_sem]) (by simp [go_sem]) (by simp [go_sem]) (by simp [go_sem]) (.inr (by omega)) (so_below (so_imp HP.out fun _ _ h => .inl h) (bel2 _ _ _)) (so_below (so_imp HS.out fun _ _ h => .inl h) (bel2 _ _ _)), bel2 _ _ _⟩

set_option maxHeartbeats 1000000 in
theorem with_any (ok : Nat → Prop) (pv y : Value) (p : Tr) (l : List Tr) (w : World) (hp : StrsO ok w pv p.a) (hl : TsO ok w y l) (hlen : l.length ≤ 1000000000000) :
    Calls Tryz.prog 50 #[.agg #[pv, .int .i64 p.e], y] w (OutP ok (l.map (Pr.mk p)) w) := by
  have eg : ∀ args w, (callFunc 97 args).run Tryz.prog w = .ok (.enter 97 args) w := enters_of Tryz.func97 (by kernel_rfl) rfl
  have hmap := map_flat (Pr.mk p) l
  have C := Lib.hid (fun ty => eachTP 97 #[.pointer (some ⟨w.heap.size, 0, none⟩)] eg ok y l (fun t => [⟨p, t⟩]) (w.alloc (.cells #[pv, .int .i64 p.e] ty)) (hl.below (bel1 _ _))
    (fun wr hb t ht a ha => with1_any _ w.heap.size a pv t p wr (BoxT.below (box_new _ _ _ _) hb) (so_below (so_below (so_imp hp fun b hlt h => ⟨h, by simp; omega⟩) (bel1 _ _)) hb) ha) hlen (by rw [← hmap, List.length_map]; exact hlen))
  rw [← hmap] at C
  generalize l.map (Pr.mk p) = L at C ⊢
  obtain ⟨_, a1, k1, rfl, _⟩ := hp
  obtain ⟨_, ⟨_, a2, k2, rfl, _⟩, _⟩ := hl
  clear hmap
  go_enter Tryz.func50, Tryz.ntmps50
  go_wp2_with fail
  refine (C.out _).mono ?_
  intro e w2 ho
  have HO := Lib.hid (ho.up (bel1 w _) fun b h => .inl h)
  obtain ⟨a4, k4, rfl, _, _⟩ := ho
  go_wp2_with fail
  go_ret
  exact HO.out

set_option maxHeartbeats 2000000 in
theorem going1_any (ok : Nat → Prop) (bx : Nat) (a y : Value) (t : Tr) (l : List Tr) (w : World) (hb : w.cell? ⟨bx, 0, none⟩ = some y) (hs : StrsO ok w a t.a) (hl : TsO ok w y l) (hlen : l.length ≤ 1000000000000) :
    Calls Tryz.prog 94 #[.agg #[a, .int .i64 t.e], .pointer (some ⟨bx, 0, none⟩)] w (OutP ok (going1 l t) w) := by
  have HB := Lib.hid (fun o => bel1 w o)
  have hlt := Ap.cell_lt hb
  by_cases h1 : t.e = 1
  · have hL : going1 l t = l.map (Pr.mk t) := if_pos h1
    rw [hL]
    have C := Lib.hid (fun w1 (hb : Below w.heap.size w w1) => with_any ok a y t l w1 (so_below hs hb) (hl.below hb) hlen)
    rw [h1] at C ⊢
    generalize l.map (Pr.mk t) = L at C ⊢
    obtain ⟨_, a1, k1, rfl, _⟩ := hs
    obtain ⟨_, ⟨_, a2, k2, rfl, _⟩, _⟩ := hl
    clear hL h1
    go_enter Tryz.func94, Tryz.ntmps94
    go_wp2_with fail
    refine (C.out _ (HB.out _)).mono ?_
    intro e w2 ho
    have HO := Lib.hid (ho.up (HB.out _) fun b h => .inl h)
    obtain ⟨a4, k4, rfl, _, _⟩ := ho
    go_wp2_with fail
    go_ret
    exact HO.out
  · have hL : going1 l t = [tick].map (Pr.mk t) := if_neg h1
    have hne : (t.e != 1) = true := by simp [h1]
    rw [hL]
    have C := Lib.hid (fun y' w1 ok' (hp : StrsO ok' w1 a t.a) (hl : TsO ok' w1 y' [tick]) => with_any ok' a y' t [tick] w1 hp hl (by simp))
    have HS := Lib.hid hs
    have ON : Hid (∀ w1, Calls Tryz.prog 40 #[.agg #[.slice none 0 0, .int .i64 1]] w1 (OutT none' [tick] w1)) := Lib.hid fun w1 => only_any none' _ tick w1 (so_nil _ _)
    generalize [tick].map (Pr.mk t) = L at C ⊢
    obtain ⟨_, a1, k1, rfl, _⟩ := hs
    obtain ⟨_, ⟨_, a2, k2, rfl, _⟩, _⟩ := hl
    clear hL
    go_enter Tryz.func94, Tryz.ntmps94
    go_wp2_with fail
    go_region_held3 (fun w' => w'.cell? ⟨w.heap.size, 0, none⟩ = some (.slice a1 t.a.length k1) ∧ w'.cell? ⟨w.heap.size, 1, none⟩ = some (.int .i64 t.e)) (first | exact ⟨by simp [go_sem], by simp [go_sem]⟩ | exact kz | exact ky | exact kx | fail) (first
      | (go_at_call 41
         (with_reducible refine (ended_any _ _).mono ?_)
         rintro e w1 ⟨rfl, hb1⟩
         have kz : BoxT w1 w.heap.size (.slice a1 t.a.length k1) t.e := BoxT.below ⟨by simp [go_sem], by simp [go_sem]⟩ hb1
         have B1 := Lib.hid (((HB.out _).drew).trans (hb1.mono (HB.out _).drew.size))
         clear hb1)
      | (go_at_call 40
         (with_reducible refine (ON.out _).mono ?_)
         rintro e w2 ⟨a4, k4, rfl, ht2, hb2⟩
         have B2 := Lib.hid (B1.out.trans (hb2.mono B1.out.size))
         have T2 : Hid (TsO (fun b => ok b ∨ w.heap.size ≤ b) w2 (.slice a4 1 k4) [tick]) := Lib.hid (ht2.imp (ok' := fun b => ok b ∨ w.heap.size ≤ b) fun b _ h => h.elim (fun h => h.elim) fun h => .inr (Nat.le_trans B1.out.size h))
         have ky := BoxT.below kz hb2
         clear ht2 hb2)
      | (go_at_call 50
         (with_reducible refine (C.out _ _ _ (so_below (so_imp HS.out fun _ _ h => .inl h) B2.out) T2.out).mono ?_)
         intro e w3 ho
         have HO := Lib.hid (ho.up (ok := ok) B2.out fun b h => h)
         obtain ⟨a5, k5, rfl, _, hb5⟩ := ho
         have kx := BoxT.below ky hb5
         clear hb5)
      | fail)
    go_wp2_with fail
    go_ret
    exact HO.out

set_option maxHeartbeats 2000000 in
theorem going_any (x y : Value) (A B : List Tr) (w : World) (hx : TsO any w x A) (hy : TsO any w y B) (hA : A.length ≤ 1000000000000) (hB : B.length ≤ 1000000000000) (hout : (going A B).length ≤ 1000000000000) :
    Calls Tryz.prog 48 #[x, y] w (OutP any (going A B) w) := by
  have eg : ∀ args w, (callFunc 94 args).run Tryz.prog w = .ok (.enter 94 args) w := enters_of Tryz.func94 (by kernel_rfl) rfl
  have C := Lib.hid (fun ty => eachTP 94 #[.pointer (some ⟨w.heap.size, 0, none⟩)] eg any x A (going1 B) (w.alloc (.cells #[y] ty)) (hx.below (bel1 _ _))
    (fun wr hb t ht a ha => by
      have hc : wr.cell? ⟨w.heap.size, 0, none⟩ = some y := by rw [hb.cell (p := ⟨w.heap.size, 0, none⟩) (by simp)]; exact box1_new _ _ _
      have hY := (((hy.imp (ok' := fun b => any b ∧ b < (w.alloc (.cells #[y] ty)).heap.size) fun b hlt h => ⟨h, by simp; omega⟩).below (bel1 w (.cells #[y] ty))).below hb)
      exact going1_any _ w.heap.size a y t B wr hc ha hY hB) hA hout)
  change Hid (∀ ty, Calls _ _ _ _ (OutP any (going A B) _)) at C
  generalize going A B = L at C ⊢
  obtain ⟨_, ⟨_, a1, k1, rfl, _⟩, _⟩ := hx
  obtain ⟨_, ⟨_, a2, k2, rfl, _⟩, _⟩ := hy
  go_enter Tryz.func48, Tryz.ntmps48
  go_wp2_with fail
  refine (C.out _).mono ?_
  intro e w2 ho
  have HO := Lib.hid (ho.up (bel1 w _) fun b h => .inl h)
  obtain ⟨a4, k4, rfl, _, _⟩ := ho
  go_wp2_with fail
  go_ret
  exact HO.out

set_option maxHeartbeats 2000000 in
theorem stacked1_any (T : TCon) (ok : Nat → Prop) (bx : Nat) (v1 v2 y : Value) (x : Pr) (l : List Tr) (w : World) (hb : w.cell? ⟨bx, 0, none⟩ = some y) (h1 : StrsO ok w v1 x.p.a) (h2 : StrsO ok w v2 x.q.a) (hl : TsO ok w y l) (hlen : l.length ≤ 1000000000000) (hrow : ∀ t ∈ l, x.q.a.length + t.a.length ≤ 1000000) :
    Calls Tryz.prog 96 #[.agg #[v1, .int .i64 x.p.e, v2, .int .i64 x.q.e], .pointer (some ⟨bx, 0, none⟩)] w (OutP ok (stack1 l x) w) := by
  have HB := Lib.hid (fun o => bel1 w o)
  have hlt := Ap.cell_lt hb
  have hL : stack1 l x = (l.map (thn x.q)).map (Pr.mk x.p) := by unfold stack1; rw [List.map_map]; rfl
  rw [hL]
  have TH := Lib.hid (fun w1 (hb : Below w.heap.size w w1) => then_any T ok v2 y x.q l w1 (so_below h2 hb) (hl.below hb) hlen hrow)
  have hml := Lib.hid (show (l.map (thn x.q)).length = l.length by simp)
  generalize l.map (thn x.q) = M at TH hml ⊢
  have C := Lib.hid (fun y' w1 ok' (hp : StrsO ok' w1 v1 x.p.a) (hl : TsO ok' w1 y' M) => with_any ok' v1 y' x.p M w1 hp hl (by have := hml.out; omega))
  have H1 := Lib.hid h1
  generalize M.map (Pr.mk x.p) = L at C ⊢
  have bx0 : Hid (∀ o : Obj, (w.alloc o).drew.cell? ⟨bx, 0, none⟩ = some y) := Lib.hid fun o => by rw [((bel1 w o).drew).cell (p := ⟨bx, 0, none⟩) hlt]; exact hb
  obtain ⟨_, a1, k1, rfl, _⟩ := h1
  obtain ⟨_, a2, k2, rfl, _⟩ := h2
  obtain ⟨_, ⟨_, a3, k3, rfl, _⟩, _⟩ := hl
  clear hL
  go_enter Tryz.func96, Tryz.ntmps96
  go_wp2_with fail
  go_region_held3 (fun w' => w'.cell? ⟨w.heap.size, 0, none⟩ = some (.slice a1 x.p.a.length k1) ∧ w'.cell? ⟨w.heap.size, 1, none⟩ = some (.int .i64 x.p.e) ∧ w'.cell? ⟨w.heap.size, 2, none⟩ = some (.slice a2 x.q.a.length k2) ∧ w'.cell? ⟨w.heap.size, 3, none⟩ = some (.int .i64 x.q.e) ∧ w'.cell? ⟨bx, 0, none⟩ = some (.slice a3 l.length k3)) (first | exact ⟨by simp [go_sem], by simp [go_sem], by simp [go_sem], by simp [go_sem], bx0.out _⟩ | exact ⟨kz.1, kz.2.1, kz.2.2.1, kz.2.2.2, bx1⟩ | exact ⟨ky.1, ky.2.1, ky.2.2.1, ky.2.2.2, bx2⟩ | fail) (first
    | (go_at_call 78
       (with_reducible refine (TH.out _ (HB.out _).drew).mono ?_)
       rintro e w1 ⟨a4, k4, rfl, ht1, hb1⟩
       have kz : BoxP w1 w.heap.size (.slice a1 x.p.a.length k1) x.p.e (.slice a2 x.q.a.length k2) x.q.e := BoxP.below ⟨by simp [go_sem], by simp [go_sem], by simp [go_sem], by simp [go_sem]⟩ hb1
       have B1 := Lib.hid (((HB.out _).drew).trans (hb1.mono (HB.out _).drew.size))
       have bx1 : w1.cell? ⟨bx, 0, none⟩ = some (.slice a3 l.length k3) := by rw [B1.out.cell (p := ⟨bx, 0, none⟩) hlt]; exact hb
       have T1 : Hid (TsO (fun b => ok b ∨ w.heap.size ≤ b) w1 (.slice a4 M.length k4) M) := Lib.hid (ht1.imp (ok' := fun b => ok b ∨ w.heap.size ≤ b) fun b _ h => h.imp id fun h => Nat.le_trans (HB.out _).drew.size h)
       clear ht1 hb1)
    | (go_at_call 50
       (with_reducible refine (C.out _ _ _ (so_below (so_imp H1.out fun _ _ h => .inl h) B1.out) T1.out).mono ?_)
       intro e w3 ho
       have HO := Lib.hid (ho.up (ok := ok) B1.out fun b h => h)
       obtain ⟨a5, k5, rfl, _, hb5⟩ := ho
       have ky := BoxP.below kz hb5
       have bx2 : w3.cell? ⟨bx, 0, none⟩ = some (.slice a3 l.length k3) := by rw [hb5.cell (p := ⟨bx, 0, none⟩) (Ap.cell_lt bx1)]; exact bx1
       clear hb5)
    | fail)
  go_wp2_with fail
  go_ret
  exact HO.out

set_option maxHeartbeats 2000000 in
theorem stacked_any (T : TCon) (x y : Value) (X : List Pr) (B : List Tr) (w : World) (hx : PsO any w x X) (hy : TsO any w y B) (hX : X.length ≤ 1000000000000) (hC : B.length ≤ 1000000000000) (hrow : ∀ x ∈ X, ∀ t ∈ B, x.q.a.length + t.a.length ≤ 1000000) (hout : (stack X B).length ≤ 1000000000000) :
    Calls Tryz.prog 49 #[x, y] w (OutP any (stack X B) w) := by
  have eg : ∀ args w, (callFunc 96 args).run Tryz.prog w = .ok (.enter 96 args) w := enters_of Tryz.func96 (by kernel_rfl) rfl
  have C := Lib.hid (fun ty => eachPP 96 #[.pointer (some ⟨w.heap.size, 0, none⟩)] eg any x X (stack1 B) (w.alloc (.cells #[y] ty)) (hx.below (bel1 _ _))
    (fun wr hb t ht a a' ha ha' => by
      have hc : wr.cell? ⟨w.heap.size, 0, none⟩ = some y := by rw [hb.cell (p := ⟨w.heap.size, 0, none⟩) (by simp)]; exact box1_new _ _ _
      have hY := (((hy.imp (ok' := fun b => any b ∧ b < (w.alloc (.cells #[y] ty)).heap.size) fun b hlt h => ⟨h, by simp; omega⟩).below (bel1 w (.cells #[y] ty))).below hb)
      exact stacked1_any T _ w.heap.size a a' y t B wr hc ha ha' hY hC (hrow t ht)) hX hout)
  change Hid (∀ ty, Calls _ _ _ _ (OutP any (stack X B) _)) at C
  generalize stack X B = L at C ⊢
  obtain ⟨_, ⟨_, a1, k1, rfl, _⟩, _⟩ := hx
  obtain ⟨_, ⟨_, a2, k2, rfl, _⟩, _⟩ := hy
  go_enter Tryz.func49, Tryz.ntmps49
  go_wp2_with fail
  refine (C.out _).mono ?_
  intro e w2 ho
  have HO := Lib.hid (ho.up (bel1 w _) fun b h => .inl h)
  obtain ⟨a4, k4, rfl, _, _⟩ := ho
  go_wp2_with fail
  go_ret
  exact HO.out
end Go.Proofs.YtgaediondmdnbaaGreat.Mn

namespace Go.Proofs.YtgaediondmdnbaaGreat.Mn
open Go Go.RowKit Tr
set_option maxRecDepth 20000

end Go.Proofs.YtgaediondmdnbaaGreat.Mn
