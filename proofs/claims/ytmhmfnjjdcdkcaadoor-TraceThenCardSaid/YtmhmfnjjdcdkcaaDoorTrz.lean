/- The document's Then: the walk. -/
import Derived.Test.YtmhmfnjjdcdkcaaDoorTry
namespace Go.Proofs.YtmhmfnjjdcdkcaaDoor.Tr
open Go Go.RowKit
set_option maxRecDepth 20000

/-- One trace behind another. -/
def thn (p q : Tr) : Tr := if p.e = 1 then ⟨p.a ++ q.a, q.e⟩ else p

theorem below3 (w : World) (x y z : Obj) : Below w.heap.size w (((w.alloc x).alloc y).alloc z) :=
  (((Below.refl _ _).alloc (Nat.le_refl _) x).alloc (by simp) y).alloc (by simp; omega) z

set_option maxHeartbeats 1000000 in
theorem thn_no (a1 a2 : Option Addr) (n1 c1 n2 c2 : Nat) (p q : Tr) (w : World) (h : ¬ p.e = 1) :
    Calls Tryd.prog 26 #[.agg #[.slice a1 n1 c1, .int .i64 p.e], .agg #[.slice a2 n2 c2, .int .i64 q.e]] w fun e w' => e = .returned (.agg #[.slice a1 n1 c1, .int .i64 p.e]) ∧ Below w.heap.size w w' := by
  have hb : (p.e == 1) = false := by rw [beq_eq_false_iff_ne]; exact h
  have HB := Lib.hid (below3 w)
  go_enter Tryd.func26, Tryd.ntmps26
  go_wp2_with fail
  refine bodyPost_ret (v := .agg #[.slice a1 n1 c1, .int .i64 p.e]) (by simp [results, Tryd.results26, go_sem]) rfl ⟨rfl, ?_⟩
  exact HB.out _ _ _

set_option maxHeartbeats 1000000 in
theorem thn_yes (a1 a2 : Option Addr) (n1 c1 n2 c2 : Nat) (p q : Tr) (w : World) (h1 : Strs w (.slice a1 n1 c1) p.a) (h2 : Strs w (.slice a2 n2 c2) q.a) (hlen : p.a.length + q.a.length ≤ 2000000) (h : p.e = 1) :
    Calls Tryd.prog 26 #[.agg #[.slice a1 n1 c1, .int .i64 p.e], .agg #[.slice a2 n2 c2, .int .i64 q.e]] w fun e w' => ∃ v, e = .returned (.agg #[v, .int .i64 q.e]) ∧ w'.ownsRow w.heap.size 9 1 v (p.a ++ q.a).length ((p.a ++ q.a).map .string) ∧ Below w.heap.size w w' := by
  have H1 := Lib.hid h1
  have H2 := Lib.hid h2
  have hb : (p.e == 1) = true := by rw [beq_iff_eq]; exact h
  have HB := Lib.hid (below3 w)
  have H := Lib.hid h
  clear h1 h2 h
  go_enter Tryd.func26, Tryd.ntmps26
  go_wp2_with fail
  obtain ⟨w3, hw3⟩ : ∃ w3, (((w.alloc (Obj.cells #[.slice a1 n1 c1, Value.int IntKind.i64 p.e] 24)).alloc (Obj.cells #[.slice a2 n2 c2, Value.int IntKind.i64 q.e] 24)).alloc (Obj.cells #[Value.slice none 0 0, Value.int IntKind.i64 0] 24)) = w3 := ⟨_, rfl⟩
  have B3 : Hid (Below w.heap.size w w3) := by rw [← hw3]; exact HB.out _ _ _
  have e1 : w3.cell? ⟨w.heap.size, 0, none⟩ = some (.slice a1 n1 c1) := by rw [← hw3]; simp [go_sem]
  have e2 : w3.cell? ⟨w.heap.size + 1, 0, none⟩ = some (.slice a2 n2 c2) := by rw [← hw3]; simp [go_sem]
  have e3 : w3.cell? ⟨w.heap.size + 1, 1, none⟩ = some (.int .i64 q.e) := by rw [← hw3]; simp [go_sem]
  have e4 : w3.cell? ⟨w.heap.size + 1 + 1, 0, none⟩ = some (.slice none 0 0) := by rw [← hw3]; simp [go_sem]
  have e5 : w3.cell? ⟨w.heap.size + 1 + 1, 1, none⟩ = some (.int .i64 0) := by rw [← hw3]; simp [go_sem]
  have f4 : w3.frozen? ⟨w.heap.size + 1 + 1, 0, none⟩ = false := by rw [← hw3]; simp [go_sem]
  have f5 : w3.frozen? ⟨w.heap.size + 1 + 1, 1, none⟩ = false := by rw [← hw3]; simp [go_sem]
  rw [hw3]
  clear hw3 HB
  go_region_held3 (fun w' => w'.cell? ⟨w.heap.size, 0, none⟩ = some (.slice a1 n1 c1) ∧ w'.cell? ⟨w.heap.size + 1, 0, none⟩ = some (.slice a2 n2 c2) ∧ w'.cell? ⟨w.heap.size + 1, 1, none⟩ = some (.int .i64 q.e))
    (first | exact ⟨e1, e2, e3⟩ | exact ⟨d1, d2, d3⟩ | exact ⟨by simp [go_sem, d1], by simp [go_sem, d2], by simp [go_sem, d3]⟩) (first
    | (go_at_call 47
       refine (cat_any _ _ p.a q.a _ (H1.out.below B3.out.drew) (H2.out.below B3.out.drew) hlen).mono ?_
       rintro e w4 ⟨v4, rfl, hown4, hb4⟩
       have d1 : w4.cell? ⟨w.heap.size, 0, none⟩ = some (.slice a1 n1 c1) := by rw [hb4.cell (Ap.cell_lt e1)]; exact e1
       have d2 : w4.cell? ⟨w.heap.size + 1, 0, none⟩ = some (.slice a2 n2 c2) := by rw [hb4.cell (Ap.cell_lt e2)]; exact e2
       have d3 : w4.cell? ⟨w.heap.size + 1, 1, none⟩ = some (.int .i64 q.e) := by rw [hb4.cell (Ap.cell_lt e3)]; exact e3
       have d4 : w4.cell? ⟨w.heap.size + 1 + 1, 0, none⟩ = some (.slice none 0 0) := by rw [hb4.cell (Ap.cell_lt e4)]; exact e4
       have d5 : w4.cell? ⟨w.heap.size + 1 + 1, 1, none⟩ = some (.int .i64 0) := by rw [hb4.cell (Ap.cell_lt e5)]; exact e5
       have k4 : w4.frozen? ⟨w.heap.size + 1 + 1, 0, none⟩ = false := by rw [hb4.frozen (Ap.cell_lt e4)]; exact f4
       have k5 : w4.frozen? ⟨w.heap.size + 1 + 1, 1, none⟩ = false := by rw [hb4.frozen (Ap.cell_lt e5)]; exact f5
       have HO := Lib.hid hown4
       have HB4 := Lib.hid hb4
       obtain ⟨_, a4, c4, rfl, _⟩ := Ap.Rd.owned hown4
       clear hown4 hb4))
  go_wp2_with fail
  have hlt := Ap.cell_lt e4
  refine bodyPost_ret (v := .agg #[.slice a4 (p.a.length + q.a.length) c4, .int .i64 q.e]) (by simp [results, Tryd.results26, go_sem, d4, d5]) rfl ⟨_, rfl, ?_, ?_⟩
  · have h5 := ownsRow_setCell_below (ownsRow_setCell_below HO.out (a := ⟨w.heap.size + 1 + 1, 0, none⟩) hlt (.slice a4 (p.a.length + q.a.length) c4)) (a := ⟨w.heap.size + 1 + 1, 1, none⟩) hlt (.int .i64 q.e)
    rw [List.length_append] at h5 ⊢
    exact Ap.own_base h5 (Nat.le_trans (by show w.heap.size ≤ w3.heap.size; exact B3.out.size) (Nat.le_refl _))
  · exact ((B3.out.drew.trans (HB4.out.mono B3.out.size)).setCell (by show w.heap.size ≤ w.heap.size + 1 + 1; omega) _).setCell (by show w.heap.size ≤ w.heap.size + 1 + 1; omega) _

theorem Tr.ext {p q : Tr} (h1 : p.a = q.a) (h2 : p.e = q.e) : p = q := by cases p; cases q; simp_all
theorem thn_any (v1 v2 : Value) (p q : Tr) (w : World) (h1 : Strs w v1 p.a) (h2 : Strs w v2 q.a) (hlen : p.a.length + q.a.length ≤ 2000000) :
    Calls Tryd.prog 26 #[.agg #[v1, .int .i64 p.e], .agg #[v2, .int .i64 q.e]] w fun e w' => ∃ v, e = .returned (.agg #[v, .int .i64 (thn p q).e]) ∧ Strs w' v (thn p q).a ∧ Below w.heap.size w w' := by
  have h1' := h1
  have h2' := h2
  obtain ⟨_, a1, c1, rfl, _⟩ := h1'
  obtain ⟨_, a2, c2, rfl, _⟩ := h2'
  by_cases h : p.e = 1
  · refine (thn_yes a1 a2 _ c1 _ c2 p q w h1 h2 hlen h).mono ?_
    rintro e w' ⟨v, rfl, hown, hb⟩
    refine ⟨v, ?_, ?_, hb⟩
    · rw [thn, if_pos h]
    · rw [thn, if_pos h]; exact Ap.Rd.owned hown
  · refine (thn_no a1 a2 _ c1 _ c2 p q w h).mono ?_
    rintro e w' ⟨rfl, hb⟩
    refine ⟨.slice a1 p.a.length c1, ?_, ?_, hb⟩
    · rw [thn, if_neg h]
    · rw [thn, if_neg h]; exact h1.below hb
end Go.Proofs.YtmhmfnjjdcdkcaaDoor.Tr
