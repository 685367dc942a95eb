/- What each function of package sign, and of the document's own answers for it, returns: walks of the translated code. -/
import Derived.Test.YtmhmfnjjdcdkcaaDoorProg
import Derived.Test.YtmhmfnjjdcdkcaaDoorSgm
import Derived.WalkKit
import Derived.WalkSpells
import Derived.WalkLawsBesides
import Derived.Lib.Hide
namespace Go.Proofs.YtmhmfnjjdcdkcaaDoor.Sg
open Go Go.RowKit
set_option maxRecDepth 20000

/-- The texts of signs, as the package's array holds them. -/
def cells : Array Value := #[.string ⟨#[]⟩, .string ⟨#[111, 107]⟩, .string ⟨#[33]⟩, .string ⟨#[63]⟩]
/-- The package's array lies where the program laid it. -/
def Tab (w : World) : Prop := ∃ t fr, w.heap[0]? = some (.cells cells t fr)

theorem ret_int {k : IntKind} {a b : Int} (h : a = b) : Ending.returned (.int k a) = .returned (.int k b) := congrArg (fun z => Ending.returned (.int k z)) h
theorem ret_bool {a b : Bool} (h : a = b) : Ending.returned (.bool a) = .returned (.bool b) := by rw [h]
theorem ret_str {a b : ByteArray} (h : a = b) : Ending.returned (.string a) = .returned (.string b) := by rw [h]

set_option maxHeartbeats 400000 in
theorem is_any (s : Int) (w : World) :
    Calls Tryd.prog 69 #[.int .i64 s] w fun e w' => e = .returned (.bool (isB s)) ∧ w = w' := by
  rcases cases4 s with rfl | rfl | rfl | ⟨h1, h2, h3⟩
  · go_enter Tryd.func69, Tryd.ntmps69
    go_wp2
    go_ret
    exact ⟨rfl, rfl⟩
  · go_enter Tryd.func69, Tryd.ntmps69
    go_wp2
    go_ret
    exact ⟨rfl, rfl⟩
  · go_enter Tryd.func69, Tryd.ntmps69
    go_wp2
    go_ret
    exact ⟨rfl, rfl⟩
  · have b1 : (s == 1) = false := by simp [h1]
    have b2 : (s == 2) = false := by simp [h2]
    have b3 : (s == 3) = false := by simp [h3]
    go_enter Tryd.func69, Tryd.ntmps69
    go_wp2
    go_ret
    exact ⟨ret_bool (isB_no ⟨h1, h2, h3⟩).symm, rfl⟩

set_option maxHeartbeats 400000 in
theorem isR_any (s : Int) (w : World) :
    Calls Tryd.prog 71 #[.int .i64 s] w fun e w' => e = .returned (.bool (isB s)) ∧ w = w' := by
  rcases cases4 s with rfl | rfl | rfl | ⟨h1, h2, h3⟩
  · go_enter Tryd.func71, Tryd.ntmps71
    go_wp2
    go_ret
    exact ⟨rfl, rfl⟩
  · go_enter Tryd.func71, Tryd.ntmps71
    go_wp2
    go_ret
    exact ⟨rfl, rfl⟩
  · go_enter Tryd.func71, Tryd.ntmps71
    go_wp2
    go_ret
    exact ⟨rfl, rfl⟩
  · have b1 : (s == 1) = false := by simp [h1]
    have b2 : (s == 2) = false := by simp [h2]
    have b3 : (s == 3) = false := by simp [h3]
    go_enter Tryd.func71, Tryd.ntmps71
    go_wp2
    go_ret
    exact ⟨ret_bool (isB_no ⟨h1, h2, h3⟩).symm, rfl⟩

set_option maxHeartbeats 1000000 in
theorem both_any (a b : Int) (w : World) :
    Calls Tryd.prog 51 #[.int .i64 a, .int .i64 b] w fun e w' => e = .returned (.int .i64 (both a b)) ∧ w = w' := by
  by_cases hb : isB b = false
  · have hB := Lib.hid (both_no_r (a := a) hb)
    rcases cases4 a with rfl | rfl | rfl | ha
    all_goals (try have ha' := isB_no ha)
    all_goals go_enter Tryd.func51, Tryd.ntmps51
    all_goals go_wp2_with (go_at_call 69; refine (is_any _ _).mono ?_; rintro e w' ⟨rfl, rfl⟩)
    all_goals go_ret
    all_goals exact ⟨ret_int hB.out.symm, rfl⟩
  · rcases isB_yes (by simpa using hb) with rfl | rfl | rfl
    all_goals (rcases cases4 a with rfl | rfl | rfl | ha)
    all_goals (try have ha' := isB_no ha)
    all_goals clear hb
    all_goals go_enter Tryd.func51, Tryd.ntmps51
    all_goals go_wp2_with (go_at_call 69; refine (is_any _ _).mono ?_; rintro e w' ⟨rfl, rfl⟩)
    all_goals go_ret
    all_goals first | exact ⟨rfl, rfl⟩ | exact ⟨ret_int (both_no_l ha').symm, rfl⟩
set_option maxHeartbeats 1000000 in
theorem bothR_any (a b : Int) (w : World) :
    Calls Tryd.prog 53 #[.int .i64 a, .int .i64 b] w fun e w' => e = .returned (.int .i64 (both a b)) ∧ w = w' := by
  by_cases hb : isB b = false
  · have hB := Lib.hid (both_no_r (a := a) hb)
    rcases cases4 a with rfl | rfl | rfl | ha
    all_goals (try have ha' := isB_no ha)
    all_goals go_enter Tryd.func53, Tryd.ntmps53
    all_goals go_wp2_with (go_at_call 71; refine (isR_any _ _).mono ?_; rintro e w' ⟨rfl, rfl⟩)
    all_goals go_ret
    all_goals exact ⟨ret_int hB.out.symm, rfl⟩
  · rcases isB_yes (by simpa using hb) with rfl | rfl | rfl
    all_goals (rcases cases4 a with rfl | rfl | rfl | ha)
    all_goals (try have ha' := isB_no ha)
    all_goals clear hb
    all_goals go_enter Tryd.func53, Tryd.ntmps53
    all_goals go_wp2_with (go_at_call 71; refine (isR_any _ _).mono ?_; rintro e w' ⟨rfl, rfl⟩)
    all_goals go_ret
    all_goals first | exact ⟨rfl, rfl⟩ | exact ⟨ret_int (both_no_l ha').symm, rfl⟩

set_option maxHeartbeats 400000 in
theorem text_any (s : Int) (w : World) (h : Tab w) :
    Calls Tryd.prog 55 #[.int .i64 s] w fun e w' => e = .returned (.string (txt s)) ∧ w = w' := by
  obtain ⟨t, fr, hg⟩ := h
  have c1 : w.cell? ⟨0, 1, none⟩ = some (.string ⟨#[111, 107]⟩) := by simp [World.cell?, hg, cells]
  have c2 : w.cell? ⟨0, 2, none⟩ = some (.string ⟨#[33]⟩) := by simp [World.cell?, hg, cells]
  have c3 : w.cell? ⟨0, 3, none⟩ = some (.string ⟨#[63]⟩) := by simp [World.cell?, hg, cells]
  clear hg
  rcases cases4 s with rfl | rfl | rfl | hs
  all_goals (try have hs' := isB_no hs)
  all_goals go_enter Tryd.func55, Tryd.ntmps55
  all_goals go_wp2_with (go_at_call 69; refine (is_any _ _).mono ?_; rintro e w' ⟨rfl, rfl⟩)
  all_goals go_ret
  all_goals first | exact ⟨rfl, rfl⟩ | exact ⟨ret_str (by simp [txt, hs]), rfl⟩

set_option maxHeartbeats 400000 in
theorem textR_any (s : Int) (w : World) :
    Calls Tryd.prog 56 #[.int .i64 s] w fun e w' => e = .returned (.string (txt s)) ∧ w = w' := by
  rcases cases4 s with rfl | rfl | rfl | ⟨h1, h2, h3⟩
  · go_enter Tryd.func56, Tryd.ntmps56
    go_wp2
    go_ret
    exact ⟨rfl, rfl⟩
  · go_enter Tryd.func56, Tryd.ntmps56
    go_wp2
    go_ret
    exact ⟨rfl, rfl⟩
  · go_enter Tryd.func56, Tryd.ntmps56
    go_wp2
    go_ret
    exact ⟨rfl, rfl⟩
  · have b1 : (s == 1) = false := by simp [h1]
    have b2 : (s == 2) = false := by simp [h2]
    have b3 : (s == 3) = false := by simp [h3]
    go_enter Tryd.func56, Tryd.ntmps56
    go_wp2
    go_ret
    exact ⟨ret_str (by simp [txt, b1, b2, b3]), rfl⟩
end Go.Proofs.YtmhmfnjjdcdkcaaDoor.Sg
