/- The program's order of traces: the method against, and Compare: the walks. -/
import Derived.Test.YtmhmfnjjdcdkcaaDoorTt1
import Derived.Sort.Grow
namespace Go.Proofs.YtmhmfnjjdcdkcaaDoor.Tr
open Go Go.RowKit
set_option maxRecDepth 20000

theorem below_grow (w : World) (n : Nat) (os : Array Obj) : Below w.heap.size w (Go.Sort.grow (w.drewN n) os) :=
  ⟨rfl, rfl, rfl, by simp [Go.Sort.grow, World.drewN], fun k hk => by
    show (w.heap ++ os)[k]? = w.heap[k]?
    rw [Array.getElem?_append_left hk]⟩
theorem grow2_eq (w : World) (x y : Obj) : (w.alloc x).alloc y = Go.Sort.grow w #[x, y] := by
  rw [Go.Sort.alloc_eq_grow, Go.Sort.alloc_eq_grow, Go.Sort.grow_grow]
  rfl
theorem grow3_eq (w : World) (x y z : Obj) : ((w.alloc x).alloc y).alloc z = Go.Sort.grow w #[x, y, z] := by
  rw [grow2_eq, Go.Sort.alloc_eq_grow, Go.Sort.grow_grow]
  rfl
theorem grow3_drew (w : World) (x y z : Obj) : (((w.alloc x).alloc y).alloc z).drew = Go.Sort.grow (w.drewN 1) #[x, y, z] := by
  rw [grow3_eq]
  rfl
theorem strs_alloc2 {w : World} {v : Value} {l : List ByteArray} (h : Strs w v l) (x y : Obj) : Strs (((w.alloc x).alloc y).drew) v l :=
  h.below (((Below.refl _ _).alloc (Nat.le_refl _) x).alloc (by simp) y).drew

set_option maxHeartbeats 2000000 in
theorem against_any (v1 v2 : Value) (p q : Tr) (w : World) (h1 : Strs w v1 p.a) (h2 : Strs w v2 q.a) (hl : p.a.length ≤ 1000000) (hm : q.a.length ≤ 1000000) :
    Calls Tryd.prog 35 #[.agg #[v1, .int .i64 p.e], .agg #[v2, .int .i64 q.e]] w fun e w' => e = .returned (.int .i64 (cmp p q)) ∧ ∃ n os, w' = Go.Sort.grow (w.drewN n) os := by
  have H1 := Lib.hid (strs_alloc2 h1)
  have H2 := Lib.hid (strs_alloc2 h2)
  obtain ⟨_, a1, c1, rfl, -⟩ := h1
  obtain ⟨_, a2, c2, rfl, -⟩ := h2
  have HC := Lib.hid (cmp_or p q)
  obtain ⟨x, hx⟩ : ∃ x, sg3 (row p.a q.a) = x := ⟨_, rfl⟩
  obtain ⟨y, hy⟩ : ∃ y, cmpI p.e q.e = y := ⟨_, rfl⟩
  have R1 : Hid (∀ w, Strs w (.slice a1 p.a.length c1) p.a → Strs w (.slice a2 q.a.length c2) q.a → Calls Tryd.prog 58 #[.slice a1 p.a.length c1, .slice a2 q.a.length c2] w fun e w' => e = .returned (.int .i64 x) ∧ w' = w) := Lib.hid (fun w ha hb => by rw [← hx]; exact rowc_any _ _ _ _ w ha hb hl hm)
  have R2 : Hid (∀ w, Calls Tryd.prog 59 #[.int .i64 p.e, .int .i64 q.e] w fun e w' => e = .returned (.int .i64 y) ∧ w' = w) := Lib.hid (fun w => by rw [← hy]; exact cmpI_any _ _ w)
  rw [hx, hy] at HC
  have R3 : Hid (∀ b w, w.cell? ⟨b, 0, none⟩ = some (.int .i64 x) → w.cell? ⟨b, 1, none⟩ = some (.int .i64 y) → Calls Tryd.prog 57 #[.slice (some ⟨b, 0, none⟩) 2 2] w fun e w' => e = .returned (.int .i64 (cmp p q)) ∧ w' = w) := Lib.hid (fun b w ha hb => by rw [← HC.out]; exact or2_any x y b w ha hb)
  clear hx hy HC
  go_enter Tryd.func35, Tryd.ntmps35
  go_wp2_with fail
  go_region_held3 (fun w' => w'.cell? ⟨w.heap.size, 0, none⟩ = some (.slice a1 p.a.length c1) ∧ w'.cell? ⟨w.heap.size, 1, none⟩ = some (.int .i64 p.e) ∧ w'.cell? ⟨w.heap.size + 1, 0, none⟩ = some (.slice a2 q.a.length c2) ∧ w'.cell? ⟨w.heap.size + 1, 1, none⟩ = some (.int .i64 q.e)) (first | (simp [go_sem]; done) | go_keep | fail) (first
    | (go_at_call 58
       refine (R1.out _ (H1.out _ _) (H2.out _ _)).mono ?_
       rintro e w' ⟨rfl, rfl⟩)
    | (go_at_call 59
       refine (R2.out _).mono ?_
       rintro e w' ⟨rfl, rfl⟩)
    | (go_at_call 57
       refine (R3.out _ _ (by simp [go_sem]) (by simp [go_sem])).mono ?_
       rintro e w' ⟨rfl, rfl⟩)
    | fail)
  go_wp2_with fail
  go_ret
  exact ⟨rfl, 1, _, grow3_drew _ _ _ _⟩

set_option maxHeartbeats 1000000 in
theorem compare_any (v1 v2 : Value) (p q : Tr) (w : World) (h1 : Strs w v1 p.a) (h2 : Strs w v2 q.a) (hl : p.a.length ≤ 1000000) (hm : q.a.length ≤ 1000000) :
    Calls Tryd.prog 14 #[.agg #[v1, .int .i64 p.e], .agg #[v2, .int .i64 q.e]] w fun e w' => e = .returned (.int .i64 (cmp p q)) ∧ Below w.heap.size w w' := by
  have H1 := Lib.hid (fun x y => h1.below (((Below.refl _ _).alloc (Nat.le_refl _) x).alloc (by simp) y))
  have H2 := Lib.hid (fun x y => h2.below (((Below.refl _ _).alloc (Nat.le_refl _) x).alloc (by simp) y))
  obtain ⟨_, a1, c1, rfl, -⟩ := h1
  obtain ⟨_, a2, c2, rfl, -⟩ := h2
  go_enter Tryd.func14, Tryd.ntmps14
  go_wp2_with (go_at_call 35; refine (against_any _ _ p q _ (H1.out _ _) (H2.out _ _) hl hm).mono ?_; rintro e w' ⟨rfl, n, os, rfl⟩)
  go_ret
  exact ⟨rfl, (((Below.refl _ _).alloc (Nat.le_refl _) _).alloc (by simp) _).trans ((below_grow _ n os).mono (by simp; omega))⟩
/-- The program's test whether two traces of a row are the same one. -/
def EqPost (p q : Tr) (w : World) (e : Ending) (w' : World) : Prop := e = .returned (.bool (cmp p q == 0)) ∧ Below w.heap.size w w'
set_option maxHeartbeats 1000000 in
theorem set1_any (v1 v2 : Value) (p q : Tr) (w : World) (h1 : Strs w v1 p.a) (h2 : Strs w v2 q.a) (hl : p.a.length ≤ 1000000) (hm : q.a.length ≤ 1000000) :
    Calls Tryd.prog 40 #[.agg #[v1, .int .i64 p.e], .agg #[v2, .int .i64 q.e]] w (EqPost p q w) := by
  have H1 := Lib.hid (fun x y => h1.below (((Below.refl _ _).alloc (Nat.le_refl _) x).alloc (by simp) y))
  have H2 := Lib.hid (fun x y => h2.below (((Below.refl _ _).alloc (Nat.le_refl _) x).alloc (by simp) y))
  obtain ⟨_, a1, c1, rfl, -⟩ := h1
  obtain ⟨_, a2, c2, rfl, -⟩ := h2
  have HB : Hid (∀ x y n os, Below w.heap.size w (Go.Sort.grow (((w.alloc x).alloc y).drewN n) os)) := Lib.hid fun x y n os => (((Below.refl _ _).alloc (Nat.le_refl _) _).alloc (by simp) _).trans ((below_grow _ n os).mono (by simp; omega))
  unfold EqPost
  cases hc : cmp p q == 0 with
  | true =>
    have hc' : cmp p q = 0 := by simpa using hc
    have A := Lib.hid (fun w ha hb => against_any (.slice a1 p.a.length c1) (.slice a2 q.a.length c2) p q w ha hb hl hm)
    rw [hc'] at A
    clear hc hc'
    go_enter Tryd.func40, Tryd.ntmps40
    go_wp2_with (go_at_call 35; refine (A.out _ (H1.out _ _) (H2.out _ _)).mono ?_; rintro e w' ⟨rfl, n, os, rfl⟩)
    go_ret
    exact ⟨rfl, HB.out _ _ n os⟩
  | false =>
    have hc' : cmp p q ≠ 0 := by simpa using hc
    have A := Lib.hid (fun w ha hb => against_any (.slice a1 p.a.length c1) (.slice a2 q.a.length c2) p q w ha hb hl hm)
    generalize cmp p q = c at A hc' ⊢
    clear hc
    go_enter Tryd.func40, Tryd.ntmps40
    go_wp2_with (go_at_call 35; refine (A.out _ (H1.out _ _) (H2.out _ _)).mono ?_; rintro e w' ⟨rfl, n, os, rfl⟩)
    go_ret
    exact ⟨by simp [hc'], HB.out _ _ n os⟩
end Go.Proofs.YtmhmfnjjdcdkcaaDoor.Tr
