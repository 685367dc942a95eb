/- The document's Whole over rows of nodes. -/
import Derived.Test.YtcgbbhnhpkkomaaRwr
namespace Go.Proofs.Ytcgbbhnhpkkomaa.Rw
open Go Go.RowKit
set_option maxRecDepth 20000

/-- Names of a length that memory has. -/
def Nms (l : List Nd) : Prop := ∀ x ∈ l, x.n.size ≤ 140737488355328
def whole (l : List Nd) : Bool := l.all rgt && (decide (1 ≤ l.length) && decide (l.length ≤ 200)) && decide (size l = l.length)
theorem all_take (l : List Nd) (k : Nat) (h : k < l.length) : (l.take (k + 1)).all rgt = ((l.take k).all rgt && rgt l[k]) := by
  rw [List.take_succ_eq_append_getElem h, List.all_append]
  simp
theorem all_no {l : List Nd} {k : Nat} (h : k < l.length) (hr : rgt l[k] = false) : l.all rgt = false := by
  rw [List.all_eq_false]
  exact ⟨l[k], List.getElem_mem h, by rw [hr]; decide⟩

set_option maxHeartbeats 1000000 in
theorem whole_empty (a : Option Addr) (cap : Nat) (w : World) :
    Calls Try.prog 27 #[.slice a 0 cap] w fun e w' => e = .returned (.bool false) ∧ Below w.heap.size w w' := by
  go_enter Try.func27, Try.ntmps27
  go_wp2_with fail
  refine Go.wp_loop_rounds 1 ?_
  rw [rounds_succ]
  go_wp2_with fail
  go_ret
  exact ⟨rfl, Below.refl _ _⟩
set_option maxHeartbeats 2000000 in
theorem whole_cells (b off cap : Nat) (l : List Nd) (w : World) (hn : Nds w (.slice (some ⟨b, off, none⟩) l.length cap) l) (hat : At w b off l) (hl : l.length ≤ 1000000) (hm : Nms l) :
    Calls Try.prog 27 #[.slice (some ⟨b, off, none⟩) l.length cap] w fun e w' => e = .returned (.bool (whole l)) ∧ Below w.heap.size w w' := by
  have HN := Lib.hid hn
  have HA := Lib.hid hat
  have HM := Lib.hid hm
  clear hn hat hm
  go_enter Try.func27, Try.ntmps27
  go_wp2_with fail
  go_loopw [3] (fun i wr => ∃ k : Nat, k ≤ l.length ∧ i = .int .i64 k ∧ Below w.heap.size w wr ∧ Hid ((l.take k).all rgt = true)) (fun i _ => l.length - (intOf i).toNat)
  case atStart => exact ⟨0, Nat.zero_le _, rfl, Below.refl _ _, Lib.hid rfl⟩
  case round =>
    obtain ⟨k, hk, rfl, hb, HK⟩ := hrel
    have HB := Lib.hid hb
    clear hb
    by_cases hlt : k < l.length
    · obtain ⟨e1, e2, e3⟩ := HA.out k hlt
      have c1 : wr.cell? ⟨b, off + k * 3, none⟩ = some (.int .i64 l[k].k) := by rw [HB.out.cell (Ap.cell_lt e1)]; exact e1
      have c2 : wr.cell? ⟨b, off + k * 3 + 1, none⟩ = some (.string l[k].n) := by rw [HB.out.cell (Ap.cell_lt e2)]; exact e2
      have c3 : wr.cell? ⟨b, off + k * 3 + 2, none⟩ = some (.int .i64 l[k].s) := by rw [HB.out.cell (Ap.cell_lt e3)]; exact e3
      have HT := Lib.hid (all_take l k hlt)
      have HX := Lib.hid (fun h => all_no (l := l) hlt h)
      have hxm : (l[k]).n.size ≤ 140737488355328 := HM.out _ (List.getElem_mem hlt)
      obtain ⟨x, hx⟩ : ∃ x, l[k] = x := ⟨_, rfl⟩
      rw [hx] at c1 c2 c3 HT HX hxm
      clear hx e1 e2 e3
      cases hr : rgt x with
      | false =>
        have HW : Hid (whole l = false) := by
          show _ = false
          unfold whole
          rw [HX.out hr]
          rfl
        have HR := Lib.hid hr
        clear hr
        go_wp2_with fail
        refine (rightR_any x _ hxm).mono ?_
        rw [HR.out]
        rintro e w' ⟨rfl, hb'⟩
        go_wp2_with fail
        go_ret
        exact ⟨ret_bool HW.out.symm, HB.out.trans (hb'.mono HB.out.size)⟩
      | true =>
        have HK' : Hid ((l.take (k + 1)).all rgt = true) := by
          show _ = true
          rw [HT.out, HK.out, hr]
          rfl
        have HR := Lib.hid hr
        clear hr
        go_wp2_with fail
        refine (rightR_any x _ hxm).mono ?_
        rw [HR.out]
        rintro e w' ⟨rfl, hb'⟩
        go_wp2_with fail
        go_roundw
        case rel => exact ⟨k + 1, by omega, by go_num, HB.out.trans (hb'.mono HB.out.size), HK'⟩
        case measure => simp [intOf]; omega
    · have HL : Hid (l.all rgt = true) := by
        have := HK.out
        rwa [List.take_of_length_le (by omega)] at this
      by_cases q1 : 1 ≤ l.length
      · by_cases q2 : l.length ≤ 200
        · obtain ⟨z, hz⟩ : ∃ z, size l = z := ⟨_, rfl⟩
          have HZ := Lib.hid hz
          have HW : Hid (whole l = decide (z = l.length)) := by
            show _ = _
            unfold whole
            rw [HL.out, decide_eq_true q1, decide_eq_true q2, hz]
            rfl
          clear hz
          go_wp2_with fail
          refine (sizeR_any _ l _ (HN.out.below (HB.out)) hl).mono ?_
          rw [HZ.out]
          rintro e w' ⟨rfl, rfl⟩
          go_wp2_with fail
          go_ret
          refine ⟨ret_bool ?_, HB.out⟩
          rw [HW.out]
          rw [Bool.eq_iff_iff]
          simp
          try omega
        · have HW : Hid (whole l = false) := by
            show _ = _
            unfold whole
            rw [decide_eq_false q2, Bool.and_false, Bool.and_false]
            rfl
          go_wp2_with fail
          go_ret
          exact ⟨ret_bool HW.out.symm, HB.out⟩
      · have HW : Hid (whole l = false) := by
          show _ = _
          unfold whole
          rw [decide_eq_false q1, Bool.false_and, Bool.and_false]
          rfl
        go_wp2_with fail
        go_ret
        exact ⟨ret_bool HW.out.symm, HB.out⟩
theorem wholeR_any (v : Value) (l : List Nd) (w : World) (h : Nds w v l) (hl : l.length ≤ 1000000) (hm : Nms l) :
    Calls Try.prog 27 #[v] w fun e w' => e = .returned (.bool (whole l)) ∧ Below w.heap.size w w' := by
  rcases h.form with ⟨rfl, a, cap, rfl⟩ | ⟨b, off, cap, rfl, _, hat⟩
  · exact whole_empty a cap w
  · exact whole_cells b off cap l w h hat hl hm
theorem Below.drewN (B n : Nat) (w : World) : Below B w (w.drewN n) := by
  induction n with
  | zero => exact Below.refl _ _
  | succ n ih => exact ih.drew
/-- How many nodes are of one of the kinds. -/
def cnt (l : List Nd) (ks : List Int) : Nat := l.countP fun x => decide (x.k ∈ ks)
/-- A slice of integers that reads as these. -/
def Ints (w : World) (v : Value) (l : List Int) : Prop := Ap.Rd w 1 v l.length (l.map (.int .i64))
theorem Ints.below {w w' : World} {v : Value} {l : List Int} (h : Ints w v l) (hb : Below w.heap.size w w') : Ints w' v l := Ap.Rd.below h hb
def AtI (w : World) (b off : Nat) (l : List Int) : Prop := ∀ k, (h : k < l.length) → w.cell? ⟨b, off + k, none⟩ = some (.int .i64 l[k])
theorem Ints.form {w : World} {v : Value} {l : List Int} (h : Ints w v l) :
    (l = [] ∧ ∃ a cap, v = .slice a 0 cap) ∨ ∃ b off cap, v = .slice (some ⟨b, off, none⟩) l.length cap ∧ l.length ≤ cap ∧ AtI w b off l := by
  obtain ⟨_, a, cap, rfl, hle, _, hcell⟩ := h
  by_cases h0 : 0 < l.length
  · obtain ⟨b, off, rfl, hj⟩ := hcell h0
    exact Or.inr ⟨b, off, cap, rfl, hle, fun k hk => hj _ _ (by rw [List.getElem?_map, List.getElem?_eq_getElem hk]; rfl)⟩
  · have : l = [] := List.eq_nil_of_length_eq_zero (by omega)
    subst this
    exact Or.inl ⟨rfl, a, cap, rfl⟩
end Go.Proofs.Ytcgbbhnhpkkomaa.Rw
