/- The statements' own first look at the program (some signs) answers true, and changes nothing that was there. -/
import Derived.Test.YtdefohiccifdfaaDoorSgy
namespace Go.Proofs.YtdefohiccifdfaaDoor.Sg
open Go Go.RowKit

theorem Tab.below {w w' : World} (h : Tab w) (hb : Below w.heap.size w w') : Tab w' := by
  obtain ⟨t, fr, hg⟩ := h
  refine ⟨t, fr, ?_⟩
  rw [hb.block _ ?_]
  · exact hg
  · exact Nat.lt_of_not_le fun hle => by
      rw [Array.getElem?_eq_none hle] at hg
      cases hg

/-- All of two that were given one by one. -/
theorem all_two (x y : Int) (t : TypeId) (w : World) :
    Calls Tryd.prog 18 #[.slice (some ⟨w.heap.size, 0, none⟩) 2 2] (w.alloc (.cells #[.int .i64 x, .int .i64 y] t)) fun e w' => e = .returned (.int .i64 (all 1 [x, y])) ∧ w.alloc (.cells #[.int .i64 x, .int .i64 y] t) = w' := by
  refine all_cells w.heap.size 0 2 [x, y] _ (by simp) ?_
  intro k hk
  have e := (MapKept.heap_alloc w (.cells #[.int .i64 x, .int .i64 y] t)).1
  simp only [World.cell?, e, Nat.zero_add]
  match k, hk with
  | 0, _ => rfl
  | 1, _ => rfl
/-- All of three that were given one by one. -/
theorem all_new3 (x y z : Int) (t : TypeId) (w : World) :
    Calls Tryd.prog 18 #[.slice (some ⟨w.heap.size, 0, none⟩) 3 3] (w.alloc (.cells #[.int .i64 x, .int .i64 y, .int .i64 z] t)) fun e w' => e = .returned (.int .i64 (all 1 [x, y, z])) ∧ w.alloc (.cells #[.int .i64 x, .int .i64 y, .int .i64 z] t) = w' := by
  refine all_cells w.heap.size 0 3 [x, y, z] _ (by simp) ?_
  intro k hk
  have e := (MapKept.heap_alloc w (.cells #[.int .i64 x, .int .i64 y, .int .i64 z] t)).1
  simp only [World.cell?, e, Nat.zero_add]
  match k, hk with
  | 0, _ => rfl
  | 1, _ => rfl
  | 2, _ => rfl

theorem all_new3b (x y z : Int) (t : TypeId) (b : Nat) (w : World) (hb : b = w.heap.size) :
    Calls Tryd.prog 18 #[.slice (some ⟨b, 0, none⟩) 3 3] (w.alloc (.cells #[.int .i64 x, .int .i64 y, .int .i64 z] t)) fun e w' => e = .returned (.int .i64 (all 1 [x, y, z])) ∧ w.alloc (.cells #[.int .i64 x, .int .i64 y, .int .i64 z] t) = w' := by
  subst hb
  exact all_new3 x y z t w

set_option maxHeartbeats 1000000 in
theorem alive_any (w : World) (h : Tab w) :
    Calls Tryd.prog 9 #[] w fun e w' => e = .returned (.bool true) ∧ Below w.heap.size w w' := by
  have q1 : ofI ⟨#[63]⟩ = 3 := rfl
  have q2 : ofB ⟨#[63]⟩ = true := rfl
  have q3 : ofI ⟨#[]⟩ = 0 := rfl
  have q4 : ofB ⟨#[]⟩ = false := rfl
  have q5 : isB 2 = true := rfl
  have q6 : isB 0 = false := rfl
  have q7 : both 3 2 = 2 := rfl
  have q8 : both 3 1 = 3 := rfl
  have q9 : txt 1 = ⟨#[111, 107]⟩ := rfl
  have r1 : all 1 [] = 1 := rfl
  have r2 : all 1 [3, 2] = 2 := rfl
  go_enter Tryd.func9, Tryd.ntmps9
  go_wp2_with (first
    | (go_at_call 10; refine (of_any _ _ h).mono ?_; rintro e w' ⟨rfl, rfl⟩)
    | (go_at_call 12; refine (is_any _ _).mono ?_; rintro e w' ⟨rfl, rfl⟩)
    | (go_at_call 16; refine (both_any _ _ _).mono ?_; rintro e w' ⟨rfl, rfl⟩)
    | (go_at_call 14; refine (text_any _ _ h).mono ?_; rintro e w' ⟨rfl, rfl⟩)
    | (go_at_call 18; (with_reducible refine (all_empty none 0 _).mono ?_); rintro e w' ⟨rfl, rfl⟩))
  refine (all_two _ _ _ _).mono ?_
  rintro e w' ⟨rfl, rfl⟩
  go_wp2_with fail
  go_ret
  exact ⟨rfl, (Below.refl _ _).alloc (Nat.le_refl _) _⟩
end Go.Proofs.YtdefohiccifdfaaDoor.Sg
