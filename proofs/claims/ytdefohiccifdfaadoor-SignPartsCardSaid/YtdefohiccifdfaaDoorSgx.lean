/- The sign of a text, and how all of a row end: walks of the loops. -/
import Derived.Test.YtdefohiccifdfaaDoorSgw
import Derived.LoopN
namespace Go.Proofs.YtdefohiccifdfaaDoor.Sg
open Go Go.RowKit

theorem str_ne {s : ByteArray} {l : List UInt8} (h : ¬ s = ⟨l.toArray⟩) : (l == s.toList) = false := by
  rw [beq_eq_false_iff_ne]
  intro e
  apply h
  have : s.data.toList = s.toList := (ByteArray.toList_eq s).symm
  rw [← this] at e
  cases s with
  | mk d => simp at e; subst e; rfl

set_option maxHeartbeats 1000000 in
theorem of_any (s : ByteArray) (w : World) (h : Tab w) :
    Calls Tryd.prog 10 #[.string s] w fun e w' => e = .returned (.tuple #[.int .i64 (ofI s), .bool (ofB s)]) ∧ w = w' := by
  obtain ⟨t, fr, hg⟩ := h
  have i0 : ∀ w, (Instr.index 36 (.agg cells) (.int .i64 0)).run Tryd.prog w = .ok (.string ⟨#[]⟩) w := fun _ => by kernel_rfl
  have i1 : ∀ w, (Instr.index 36 (.agg cells) (.int .i64 1)).run Tryd.prog w = .ok (.string ⟨#[111, 107]⟩) w := fun _ => by kernel_rfl
  have i2 : ∀ w, (Instr.index 36 (.agg cells) (.int .i64 2)).run Tryd.prog w = .ok (.string ⟨#[33]⟩) w := fun _ => by kernel_rfl
  have i3 : ∀ w, (Instr.index 36 (.agg cells) (.int .i64 3)).run Tryd.prog w = .ok (.string ⟨#[63]⟩) w := fun _ => by kernel_rfl
  have q0 : isB 0 = false := rfl
  have q1 : isB 1 = true := rfl
  have q2 : isB 2 = true := rfl
  have q3 : isB 3 = true := rfl
  by_cases h1 : s = ⟨#[111, 107]⟩
  · subst h1
    go_enter Tryd.func10, Tryd.ntmps10
    go_wp2_with (refine wpList_load_row rfl _ _ rfl 0 rfl t cells fr _ hg Tryd.underlying36 rfl (by kernel_rfl) ?_)
    refine wp_loop_rounds 5 ?_
    iterate 2
      rw [rounds_succ]
      go_wp2_with (go_at_call 12; refine (is_any _ _).mono ?_; rintro e w' ⟨rfl, rfl⟩)
    go_ret2
    exact ⟨rfl, rfl⟩
  have e1 := str_ne (l := [111, 107]) h1
  by_cases h2 : s = ⟨#[33]⟩
  · subst h2
    clear h1
    go_enter Tryd.func10, Tryd.ntmps10
    go_wp2_with (refine wpList_load_row rfl _ _ rfl 0 rfl t cells fr _ hg Tryd.underlying36 rfl (by kernel_rfl) ?_)
    refine wp_loop_rounds 5 ?_
    iterate 3
      rw [rounds_succ]
      go_wp2_with (go_at_call 12; refine (is_any _ _).mono ?_; rintro e w' ⟨rfl, rfl⟩)
    go_ret2
    exact ⟨rfl, rfl⟩
  have e2 := str_ne (l := [33]) h2
  by_cases h3 : s = ⟨#[63]⟩
  · subst h3
    clear h1 h2
    go_enter Tryd.func10, Tryd.ntmps10
    go_wp2_with (refine wpList_load_row rfl _ _ rfl 0 rfl t cells fr _ hg Tryd.underlying36 rfl (by kernel_rfl) ?_)
    refine wp_loop_rounds 5 ?_
    iterate 4
      rw [rounds_succ]
      go_wp2_with (go_at_call 12; refine (is_any _ _).mono ?_; rintro e w' ⟨rfl, rfl⟩)
    go_ret2
    exact ⟨rfl, rfl⟩
  have e3 := str_ne (l := [63]) h3
  have hI : ofI s = 0 := by unfold ofI; rw [if_neg h1, if_neg h2, if_neg h3]
  have hB : ofB s = false := by unfold ofB; rw [if_neg h1, if_neg h2, if_neg h3]
  rw [hI, hB]
  clear h1 h2 h3 hI hB
  go_enter Tryd.func10, Tryd.ntmps10
  go_wp2_with (refine wpList_load_row rfl _ _ rfl 0 rfl t cells fr _ hg Tryd.underlying36 rfl (by kernel_rfl) ?_)
  refine wp_loop_rounds 5 ?_
  iterate 5
    rw [rounds_succ]
    go_wp2_with (go_at_call 12; refine (is_any _ _).mono ?_; rintro e w' ⟨rfl, rfl⟩)
  go_ret2
  exact ⟨rfl, rfl⟩
end Go.Proofs.YtdefohiccifdfaaDoor.Sg
