/- How all of a row end, by the program and by the document's own answer, and the document's sign of a text: walks of the loops. -/
import Derived.Test.YtdefohiccifdfaaDoorSgx
namespace Go.Proofs.YtdefohiccifdfaaDoor.Sg
open Go Go.RowKit

/-- A slice value that holds these numbers: an empty one, or one whose cells are known. -/
def Row (w : World) (v : Value) (l : List Int) : Prop :=
  (l = [] ∧ ∃ a cap, v = .slice a 0 cap) ∨ ∃ b off cap, v = .slice (some ⟨b, off, none⟩) l.length cap ∧ ∀ k, (h : k < l.length) → w.cell? ⟨b, off + k, none⟩ = some (.int .i64 l[k])

theorem all_take (l : List Int) (k : Nat) (h : k < l.length) : all 1 (l.take (k + 1)) = both (all 1 (l.take k)) l[k] := by
  rw [List.take_succ_eq_append_getElem h, all_snoc]

set_option maxHeartbeats 1000000 in
theorem all_cells (b off cap : Nat) (l : List Int) (w : World) (hl : l.length ≤ 1000000)
    (hc : ∀ k, (h : k < l.length) → w.cell? ⟨b, off + k, none⟩ = some (.int .i64 l[k])) :
    Calls Tryd.prog 18 #[.slice (some ⟨b, off, none⟩) l.length cap] w fun e w' => e = .returned (.int .i64 (all 1 l)) ∧ w = w' := by
  have HC := Lib.hid hc
  clear hc
  go_enter Tryd.func18, Tryd.ntmps18
  go_wp2_with fail
  go_loop [3, 8] (fun e i => ∃ k : Nat, k ≤ l.length ∧ i = .int .i64 k ∧ e = .int .i64 (all 1 (l.take k))) (fun _ i => l.length - (intOf i).toNat)
  case atStart => exact ⟨0, Nat.zero_le _, rfl, rfl⟩
  case round =>
    obtain ⟨k, hk, rfl, rfl⟩ := hrel
    by_cases hlt : k < l.length
    · have hcell := HC.out k hlt
      have HT := Lib.hid (all_take l k hlt)
      go_wp2_with (go_at_call 16; refine (both_any _ _ _).mono ?_; rintro e w' ⟨rfl, rfl⟩)
      go_round
      case rel => exact ⟨k + 1, by omega, by go_num, by rw [HT.out]⟩
      case measure => simp [intOf]; omega
    · go_wp2_with fail
      go_ret
      exact ⟨ret_int (by rw [List.take_of_length_le (by omega)]), rfl⟩

set_option maxHeartbeats 400000 in
theorem all_empty (a : Option Addr) (cap : Nat) (w : World) :
    Calls Tryd.prog 18 #[.slice a 0 cap] w fun e w' => e = .returned (.int .i64 1) ∧ w = w' := by
  go_enter Tryd.func18, Tryd.ntmps18
  go_wp2_with fail
  refine Go.wp_loop_rounds 1 ?_
  rw [rounds_succ]
  go_wp2_with fail
  go_ret
  exact ⟨rfl, rfl⟩

theorem all_any (v : Value) (l : List Int) (w : World) (hl : l.length ≤ 1000000) (h : Row w v l) :
    Calls Tryd.prog 18 #[v] w fun e w' => e = .returned (.int .i64 (all 1 l)) ∧ w = w' := by
  rcases h with ⟨rfl, a, cap, rfl⟩ | ⟨b, off, cap, rfl, hc⟩
  · exact all_empty a cap w
  · exact all_cells b off cap l w hl hc

set_option maxHeartbeats 1000000 in
theorem allR_cells (b off cap : Nat) (l : List Int) (w : World) (hl : l.length ≤ 1000000)
    (hc : ∀ k, (h : k < l.length) → w.cell? ⟨b, off + k, none⟩ = some (.int .i64 l[k])) :
    Calls Tryd.prog 19 #[.slice (some ⟨b, off, none⟩) l.length cap] w fun e w' => e = .returned (.int .i64 (all 1 l)) ∧ w = w' := by
  have HC := Lib.hid hc
  clear hc
  go_enter Tryd.func19, Tryd.ntmps19
  go_wp2_with fail
  go_loop [3, 4] (fun e i => ∃ k : Nat, k ≤ l.length ∧ i = .int .i64 k ∧ e = .int .i64 (all 1 (l.take k))) (fun _ i => l.length - (intOf i).toNat)
  case atStart => exact ⟨0, Nat.zero_le _, rfl, rfl⟩
  case round =>
    obtain ⟨k, hk, rfl, rfl⟩ := hrel
    by_cases hlt : k < l.length
    · have hcell := HC.out k hlt
      have HT := Lib.hid (all_take l k hlt)
      go_wp2_with (go_at_call 17; refine (bothR_any _ _ _).mono ?_; rintro e w' ⟨rfl, rfl⟩)
      go_round
      case rel => exact ⟨k + 1, by omega, by go_num, by rw [HT.out]⟩
      case measure => simp [intOf]; omega
    · go_wp2_with fail
      go_ret
      exact ⟨ret_int (by rw [List.take_of_length_le (by omega)]), rfl⟩

set_option maxHeartbeats 400000 in
theorem allR_empty (a : Option Addr) (cap : Nat) (w : World) :
    Calls Tryd.prog 19 #[.slice a 0 cap] w fun e w' => e = .returned (.int .i64 1) ∧ w = w' := by
  go_enter Tryd.func19, Tryd.ntmps19
  go_wp2_with fail
  refine Go.wp_loop_rounds 1 ?_
  rw [rounds_succ]
  go_wp2_with fail
  go_ret
  exact ⟨rfl, rfl⟩

theorem allR_any (v : Value) (l : List Int) (w : World) (hl : l.length ≤ 1000000) (h : Row w v l) :
    Calls Tryd.prog 19 #[v] w fun e w' => e = .returned (.int .i64 (all 1 l)) ∧ w = w' := by
  rcases h with ⟨rfl, a, cap, rfl⟩ | ⟨b, off, cap, rfl, hc⟩
  · exact allR_empty a cap w
  · exact allR_cells b off cap l w hl hc

set_option maxHeartbeats 1000000 in
theorem ofR_any (s : ByteArray) (w : World) :
    Calls Tryd.prog 11 #[.string s] w fun e w' => e = .returned (.tuple #[.int .i64 (ofI s), .bool (ofB s)]) ∧ w = w' := by
  have q1 : txt 1 = ⟨#[111, 107]⟩ := rfl
  have q2 : txt 2 = ⟨#[33]⟩ := rfl
  have q3 : txt 3 = ⟨#[63]⟩ := rfl
  by_cases h1 : s = ⟨#[111, 107]⟩
  · subst h1
    go_enter Tryd.func11, Tryd.ntmps11
    go_wp2_with fail
    refine Go.wp_loop_rounds 5 ?_
    rw [rounds_succ]
    go_wp2_with (go_at_call 15; refine (textR_any _ _).mono ?_; rintro e w' ⟨rfl, rfl⟩)
    go_ret2
    exact ⟨rfl, rfl⟩
  have e1 := str_ne (l := [111, 107]) h1
  by_cases h2 : s = ⟨#[33]⟩
  · subst h2
    clear h1
    go_enter Tryd.func11, Tryd.ntmps11
    go_wp2_with fail
    refine Go.wp_loop_rounds 5 ?_
    iterate 2
      rw [rounds_succ]
      go_wp2_with (go_at_call 15; refine (textR_any _ _).mono ?_; rintro e w' ⟨rfl, rfl⟩)
    go_ret2
    exact ⟨rfl, rfl⟩
  have e2 := str_ne (l := [33]) h2
  by_cases h3 : s = ⟨#[63]⟩
  · subst h3
    clear h1 h2
    go_enter Tryd.func11, Tryd.ntmps11
    go_wp2_with fail
    refine Go.wp_loop_rounds 5 ?_
    iterate 3
      rw [rounds_succ]
      go_wp2_with (go_at_call 15; refine (textR_any _ _).mono ?_; rintro e w' ⟨rfl, rfl⟩)
    go_ret2
    exact ⟨rfl, rfl⟩
  have e3 := str_ne (l := [63]) h3
  have hI : ofI s = 0 := by unfold ofI; rw [if_neg h1, if_neg h2, if_neg h3]
  have hB : ofB s = false := by unfold ofB; rw [if_neg h1, if_neg h2, if_neg h3]
  rw [hI, hB]
  clear h1 h2 h3 hI hB
  go_enter Tryd.func11, Tryd.ntmps11
  go_wp2_with fail
  refine Go.wp_loop_rounds 5 ?_
  iterate 4
    rw [rounds_succ]
    go_wp2_with (go_at_call 15; refine (textR_any _ _).mono ?_; rintro e w' ⟨rfl, rfl⟩)
  go_ret2
  exact ⟨rfl, rfl⟩
end Go.Proofs.YtdefohiccifdfaaDoor.Sg
