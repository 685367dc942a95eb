/- The laws of signs, walked: SignIs, SignBoth, SignThree, SignAll and SignSame answer true and change nothing that was there. -/
import Derived.Test.YtdefohiccifdfaaDoorSgz
namespace Go.Proofs.YtdefohiccifdfaaDoor.Sg
open Go Go.RowKit

theorem Row.below {w w' : World} {v : Value} {l : List Int} (h : Row w v l) (hb : Below w.heap.size w w') : Row w' v l := by
  rcases h with h | ⟨b, off, cap, hv, hc⟩
  · exact Or.inl h
  · refine Or.inr ⟨b, off, cap, hv, fun k hk => ?_⟩
    have hk' := hc k hk
    rw [hb.cell ?_]
    · exact hk'
    · exact Nat.lt_of_not_le fun hle => by
        simp only [World.cell?] at hk'
        rw [Array.getElem?_eq_none hle] at hk'
        cases hk'

set_option maxHeartbeats 1000000 in
theorem signBoth_any (a b : Int) (w : World) (h : Tab w) :
    Calls Tryd.prog 4 #[.int .i64 a, .int .i64 b] w fun e w' => e = .returned (.bool true) ∧ Below w.heap.size w w' := by
  have hc : (both a b == both b a) = true := by rw [beq_iff_eq]; exact both_comm a b
  go_enter Tryd.func4, Tryd.ntmps4
  go_wp2_with fail
  refine (alive_any _ h).mono ?_
  rintro e w1 ⟨rfl, hb1⟩
  go_wp2_with (first
    | (go_at_call 16; refine (both_any _ _ _).mono ?_; rintro e w' ⟨rfl, rfl⟩)
    | (go_at_call 17; refine (bothR_any _ _ _).mono ?_; rintro e w' ⟨rfl, rfl⟩))
  go_ret
  exact ⟨rfl, hb1⟩

set_option maxHeartbeats 1000000 in
theorem signThree_any (a b c : Int) (w : World) (h : Tab w) :
    Calls Tryd.prog 5 #[.int .i64 a, .int .i64 b, .int .i64 c] w fun e w' => e = .returned (.bool true) ∧ Below w.heap.size w w' := by
  have hc : (both (both a b) c == both a (both b c)) = true := by rw [beq_iff_eq]; exact both_assoc a b c
  have ha : (all 1 [a, b, c] == all 1 [c, a, b]) = true := by rw [beq_iff_eq]; exact all_three a b c
  go_enter Tryd.func5, Tryd.ntmps5
  go_wp2_with fail
  refine (alive_any _ h).mono ?_
  rintro e w1 ⟨rfl, hb1⟩
  go_wp2_with (go_at_call 16; refine (both_any _ _ _).mono ?_; rintro e w' ⟨rfl, rfl⟩)
  refine (all_new3 _ _ _ _ _).mono ?_
  rintro e w2 ⟨rfl, rfl⟩
  go_wp2_with fail
  refine (all_new3b _ _ _ _ _ _ (by simp)).mono ?_
  rintro e w2 ⟨rfl, rfl⟩
  go_wp2_with fail
  go_ret
  exact ⟨rfl, (hb1.alloc hb1.size _).alloc (by have := hb1.size; simp; omega) _⟩

set_option maxHeartbeats 1000000 in
theorem signSame_any (s : Int) (w : World) (h : Tab w) :
    Calls Tryd.prog 7 #[.int .i64 s] w fun e w' => e = .returned (.bool true) ∧ Below w.heap.size w w' := by
  by_cases hs : isB s = true
  · have h1 : (both s s == s) = true := by rw [beq_iff_eq]; exact both_self hs
    have h2 : (both s 1 == s) = true := by rw [beq_iff_eq]; exact both_one hs
    have h3 : (both 2 s == 2) = true := by rw [beq_iff_eq]; exact bang_both hs
    go_enter Tryd.func7, Tryd.ntmps7
    go_wp2_with fail
    refine (alive_any _ h).mono ?_
    rintro e w1 ⟨rfl, hb1⟩
    go_wp2_with (first
      | (go_at_call 16; refine (both_any _ _ _).mono ?_; rintro e w' ⟨rfl, rfl⟩)
      | (go_at_call 12; refine (is_any _ _).mono ?_; rintro e w' ⟨rfl, rfl⟩))
    go_ret
    exact ⟨rfl, hb1⟩
  · have hs' : isB s = false := by simpa using hs
    have h1 : (both s s == 0) = true := by rw [beq_iff_eq]; exact both_zero hs'
    clear hs
    go_enter Tryd.func7, Tryd.ntmps7
    go_wp2_with fail
    refine (alive_any _ h).mono ?_
    rintro e w1 ⟨rfl, hb1⟩
    go_wp2_with (first
      | (go_at_call 16; refine (both_any _ _ _).mono ?_; rintro e w' ⟨rfl, rfl⟩)
      | (go_at_call 12; refine (is_any _ _).mono ?_; rintro e w' ⟨rfl, rfl⟩))
    go_ret
    exact ⟨rfl, hb1⟩

set_option maxHeartbeats 1000000 in
theorem signAll_row (a : Option Addr) (cap : Nat) (l : List Int) (w : World) (h : Tab w) (hr : Row w (.slice a l.length cap) l) (hl : l.length ≤ maxLen) :
    Calls Tryd.prog 6 #[.slice a l.length cap] w fun e w' => e = .returned (.bool true) ∧ Below w.heap.size w w' := by
  unfold maxLen at hl
  have HR := Lib.hid hr
  clear hr
  by_cases hlt : 1000 < l.length
  · go_enter Tryd.func6, Tryd.ntmps6
    go_wp2_with fail
    refine (alive_any _ h).mono ?_
    rintro e w1 ⟨rfl, hb1⟩
    go_wp2_with fail
    go_ret
    exact ⟨rfl, hb1⟩
  · go_enter Tryd.func6, Tryd.ntmps6
    go_wp2_with fail
    refine (alive_any _ h).mono ?_
    rintro e w1 ⟨rfl, hb1⟩
    go_wp2_with (first
      | (go_at_call 18; refine (all_any _ l _ (by omega) (HR.out.below hb1)).mono ?_; rintro e w' ⟨rfl, rfl⟩)
      | (go_at_call 19; refine (allR_any _ l _ (by omega) (HR.out.below hb1)).mono ?_; rintro e w' ⟨rfl, rfl⟩))
    go_ret
    exact ⟨rfl, hb1⟩

set_option maxHeartbeats 1000000 in
theorem signIs_any (s : Int) (t : ByteArray) (w : World) (h : Tab w) (ht : t.size ≤ maxLen) :
    Calls Tryd.prog 3 #[.int .i64 s, .string t] w fun e w' => e = .returned (.bool true) ∧ Below w.heap.size w w' := by
  unfold maxLen at ht
  by_cases hlt : 100 < t.size
  · go_enter Tryd.func3, Tryd.ntmps3
    go_wp2_with fail
    refine (alive_any _ h).mono ?_
    rintro e w1 ⟨rfl, hb1⟩
    go_wp2_with fail
    go_ret
    exact ⟨rfl, hb1⟩
  · by_cases hB : ofB t = true
    · have h5 := txt_of t hB
      go_enter Tryd.func3, Tryd.ntmps3
      go_wp2_with (first
        | (go_at_call 10; refine (of_any _ _ h).mono ?_; rintro e w' ⟨rfl, rfl⟩)
        | (go_at_call 11; refine (ofR_any _ _).mono ?_; rintro e w' ⟨rfl, rfl⟩))
      refine (alive_any _ h).mono ?_
      rintro e w1 ⟨rfl, hb1⟩
      have h1 := h.below hb1
      go_wp2_with (first
        | (go_at_call 12; refine (is_any _ _).mono ?_; rintro e w' ⟨rfl, rfl⟩)
        | (go_at_call 13; refine (isR_any _ _).mono ?_; rintro e w' ⟨rfl, rfl⟩)
        | (go_at_call 14; refine (text_any _ _ h1).mono ?_; rintro e w' ⟨rfl, rfl⟩)
        | (go_at_call 15; refine (textR_any _ _).mono ?_; rintro e w' ⟨rfl, rfl⟩))
      go_ret
      exact ⟨rfl, hb1⟩
    · have hB' : ofB t = false := by simpa using hB
      clear hB
      go_enter Tryd.func3, Tryd.ntmps3
      go_wp2_with (first
        | (go_at_call 10; refine (of_any _ _ h).mono ?_; rintro e w' ⟨rfl, rfl⟩)
        | (go_at_call 11; refine (ofR_any _ _).mono ?_; rintro e w' ⟨rfl, rfl⟩))
      refine (alive_any _ h).mono ?_
      rintro e w1 ⟨rfl, hb1⟩
      have h1 := h.below hb1
      go_wp2_with (first
        | (go_at_call 12; refine (is_any _ _).mono ?_; rintro e w' ⟨rfl, rfl⟩)
        | (go_at_call 13; refine (isR_any _ _).mono ?_; rintro e w' ⟨rfl, rfl⟩)
        | (go_at_call 14; refine (text_any _ _ h1).mono ?_; rintro e w' ⟨rfl, rfl⟩)
        | (go_at_call 15; refine (textR_any _ _).mono ?_; rintro e w' ⟨rfl, rfl⟩))
      go_ret
      exact ⟨rfl, hb1⟩
end Go.Proofs.YtdefohiccifdfaaDoor.Sg
