/- The statements' Olds: tokens as the document has them. -/
import Derived.Test.YthfcclheephokaaTkc
namespace Go.Proofs.Ythfcclheephokaa.To
open Go Go.RowKit
set_option maxRecDepth 20000

/-- A block of one token. -/
abbrev tb (x : Tk) : Obj := .cells #[.int .i64 x.k, .int .i64 x.a, .string x.n] 34
/-- What the loop has made. -/
def Od (w wr : World) (v : Value) (l : List Tk) (k : Nat) : Prop := wr.ownsRow w.heap.size 34 3 v (l.take k).length (cls (l.take k)) ∧ Below w.heap.size w wr
theorem Od.start (w : World) (l : List Tk) : Od w w (.slice none 0 0) l 0 := ⟨⟨rfl, .inl ⟨rfl, rfl⟩⟩, Below.refl _ _⟩
theorem Od.next {w wr : World} {v : Value} {l : List Tk} {k : Nat} (h : Od w wr v l k) (hk : k < l.length) (hl : l.length ≤ 100000) :
    ∃ v' w', (Builtin.append_ #[27, 27] 27 #[v, .slice (some ⟨wr.heap.size, 0, none⟩) 1 1]).run Try.prog (wr.alloc (.cells #[.int .i64 l[k].k, .int .i64 l[k].a, .string l[k].n] 34)) = .ok v' w' ∧ Od w w' v' l (k + 1) := by
  obtain ⟨hown, hb⟩ := h
  obtain ⟨i0, hi, hz, hs1, hb8⟩ := info_parts infoT
  have hlen : (l.take k).length ≤ 100000 := by rw [List.length_take]; omega
  obtain ⟨v', w', h1, h2, h3, h4, h5⟩ := Ap.run_append_one (P := Try.prog) (ty := 27) Try.underlying27 hi hz hs1 hb8 (by rfl) (by omega) hown hb.size #[.int .i64 l[k].k, .int .i64 l[k].a, .string l[k].n] rfl
    (by intro u hu; simp at hu; rcases hu with rfl | rfl | rfl <;> rfl) (by unfold maxLen; omega) (by omega)
  refine ⟨v', w', h1, ?_, hb.trans h4⟩
  rw [List.take_succ_eq_append_getElem hk, cls_append, List.length_append]
  exact h2
theorem Od.done {w wr : World} {v : Value} {l : List Tk} {k : Nat} (h : Od w wr v l k) (hk : ¬ k < l.length) : Tks wr v l ∧ Below w.heap.size w wr := by
  obtain ⟨hown, hb⟩ := h
  rw [List.take_of_length_le (by omega)] at hown
  exact ⟨Ap.Rd.owned hown, hb⟩
theorem Od.below {w wr wr' : World} {v : Value} {l : List Tk} {k : Nat} (h : Od w wr v l k) (hb : Below wr.heap.size wr wr') : Od w wr' v l k := ⟨Ap.own_below h.1 hb, h.2.trans (hb.mono h.2.size)⟩
def OldsPost (l : List Tk) (w : World) (e : Ending) (w' : World) : Prop := ∃ y, e = .returned y ∧ Tks w' y l ∧ Below w.heap.size w w'

set_option maxHeartbeats 400000 in
theorem olds_empty (a : Option Addr) (cap : Nat) (w : World) : Calls Try.prog 13 #[.slice a 0 cap] w (OldsPost [] w) := by
  go_enter Try.func13, Try.ntmps13
  go_wp2_with fail
  refine Go.wp_loop_rounds 1 ?_
  rw [rounds_succ]
  go_wp2_with fail
  go_ret
  exact ⟨_, rfl, tks_nil _, Below.refl _ _⟩
set_option maxHeartbeats 400000 in
theorem olds_cells (b off cap : Nat) (l : List Tk) (w : World) (hat : At w b off l) (hl : l.length ≤ 100000) : Calls Try.prog 13 #[.slice (some ⟨b, off, none⟩) l.length cap] w (OldsPost l w) := by
  have HA := Lib.hid hat
  clear hat
  go_enter Try.func13, Try.ntmps13
  go_wp2_with fail
  go_loopw [3, 8] (fun ov iv wr => ∃ k : Nat, k ≤ l.length ∧ iv = .int .i64 k ∧ Hid (Od w wr ov l k)) (fun _ i _ => l.length - (intOf i).toNat)
  case atStart => exact ⟨0, Nat.zero_le _, rfl, Lib.hid (Od.start w l)⟩
  case round =>
    obtain ⟨k, hk, rfl, HD⟩ := hrel
    by_cases hlt : k < l.length
    · obtain ⟨c1, c2, c3⟩ := HA.out.below HD.out.2 k hlt
      have hb1 : Below wr.heap.size wr (wr.alloc (.cells #[.int .i64 l[k].k, .int .i64 l[k].a, .string l[k].n] 37)) := below_any wr _
      obtain ⟨v', w', hrun, hod⟩ := (HD.out.below hb1).next hlt hl
      rw [show (wr.alloc (.cells #[.int .i64 l[k].k, .int .i64 l[k].a, .string l[k].n] 37)).heap.size = wr.heap.size + 1 by simp] at hrun
      obtain ⟨x, hx⟩ : ∃ x, l[k] = x := ⟨_, rfl⟩
      rw [hx] at c1 c2 c3 hrun
      have R := Lib.hid hrun
      have HD' := Lib.hid hod
      clear hrun hod hb1 hx
      go_wp2_with (at_builtin; refine Ap.wpList_append_run (by rfl) (.tmp 12) (.tmp 14) _ _ rfl _ _ rfl rfl v' w' R.out ?_)
      go_roundw
      case rel => exact ⟨k + 1, by omega, by go_num, HD'⟩
      case measure => simp [intOf]; omega
    · have HZ := Lib.hid (HD.out.done hlt)
      go_wp2_with fail
      go_ret
      exact ⟨_, rfl, HZ.out.1, HZ.out.2⟩
theorem olds_any (v : Value) (l : List Tk) (w : World) (h : Tks w v l) (hl : l.length ≤ 100000) : Calls Try.prog 13 #[v] w (OldsPost l w) := by
  rcases h.form with ⟨rfl, a, cap, rfl⟩ | ⟨b, off, cap, rfl, _, hat⟩
  · exact olds_empty a cap w
  · exact olds_cells b off cap l w hat hl
end Go.Proofs.Ythfcclheephokaa.To
