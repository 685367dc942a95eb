/- Rows of traces in memory, and the document's Has and Same over them. -/
import Derived.Test.YtmhmfnjjdcdkcaaDoorTrc
import Derived.Deep.RegionHeld3
import Derived.StillTailTactics
namespace Go.Proofs.YtmhmfnjjdcdkcaaDoor.Tr
open Go Go.RowKit
set_option maxRecDepth 20000

/-- The cells of some traces: of each its row of actions, and its end. -/
def TrCells (w : World) : List Value → List Tr → Prop
  | [], [] => True
  | a :: e :: cs, t :: ts => Strs w a t.a ∧ e = .int .i64 t.e ∧ TrCells w cs ts
  | _, _ => False
/-- A slice of traces that reads as these. -/
def Trs (w : World) (v : Value) (ts : List Tr) : Prop := ∃ cs, Ap.Rd w 2 v ts.length cs ∧ TrCells w cs ts

theorem TrCells.below {w w' : World} (hb : Below w.heap.size w w') : ∀ {cs : List Value} {ts : List Tr}, TrCells w cs ts → TrCells w' cs ts
  | [], [], _ => trivial
  | _ :: _ :: _, _ :: _, h => ⟨h.1.below hb, h.2.1, TrCells.below hb h.2.2⟩
  | [], _ :: _, h => h.elim
  | [_], [], h => h.elim
  | [_], _ :: _, h => h.elim
  | _ :: _ :: _, [], h => h.elim
theorem Trs.below {w w' : World} {v : Value} {ts : List Tr} (h : Trs w v ts) (hb : Below w.heap.size w w') : Trs w' v ts := by
  obtain ⟨cs, h1, h2⟩ := h
  exact ⟨cs, h1.below hb, h2.below hb⟩
theorem TrCells.at {w : World} : ∀ {cs : List Value} {ts : List Tr}, TrCells w cs ts → ∀ k (hk : k < ts.length), ∃ a, cs[2 * k]? = some a ∧ cs[2 * k + 1]? = some (.int .i64 ts[k].e) ∧ Strs w a ts[k].a
  | [], [], _, k, hk => by simp at hk
  | a :: e :: cs, t :: ts, h, 0, _ => ⟨a, rfl, by simp [h.2.1], h.1⟩
  | a :: e :: cs, t :: ts, h, k + 1, hk => by
    obtain ⟨x, h1, h2, h3⟩ := TrCells.at h.2.2 k (by simpa using hk)
    refine ⟨x, ?_, ?_, h3⟩
    · rw [show 2 * (k + 1) = 2 * k + 1 + 1 by omega]; simpa using h1
    · rw [show 2 * (k + 1) + 1 = 2 * k + 1 + 1 + 1 by omega]; simpa using h2
  | [], _ :: _, h, _, _ => h.elim
  | [_], [], h, _, _ => h.elim
  | [_], _ :: _, h, _, _ => h.elim
  | _ :: _ :: _, [], h, _, _ => h.elim
/-- A trace of a row: its two cells. -/
theorem Trs.form {w : World} {v : Value} {ts : List Tr} (h : Trs w v ts) :
    (ts = [] ∧ ∃ a cap, v = .slice a 0 cap) ∨ ∃ b off cap, v = .slice (some ⟨b, off, none⟩) ts.length cap ∧
      ∀ k, (hk : k < ts.length) → ∃ a, w.cell? ⟨b, off + 2 * k, none⟩ = some a ∧ w.cell? ⟨b, off + 2 * k + 1, none⟩ = some (.int .i64 ts[k].e) ∧ Strs w a ts[k].a := by
  obtain ⟨cs, ⟨_, a, cap, rfl, _, _, hcell⟩, hc⟩ := h
  by_cases h0 : 0 < ts.length
  · obtain ⟨b, off, rfl, hj⟩ := hcell h0
    refine Or.inr ⟨b, off, cap, rfl, fun k hk => ?_⟩
    obtain ⟨x, h1, h2, h3⟩ := hc.at k hk
    exact ⟨x, hj _ _ h1, by rw [Nat.add_assoc]; exact hj _ _ h2, h3⟩
  · have : ts = [] := List.eq_nil_of_length_eq_zero (by omega)
    subst this
    exact Or.inl ⟨rfl, a, cap, rfl⟩

/-- All actions of some traces are few. -/
def Few (ts : List Tr) : Prop := ts.length ≤ 1000000 ∧ ∀ t ∈ ts, t.a.length ≤ 1000000

theorem any_take (ts : List Tr) (p : Tr → Bool) (k : Nat) (h : k < ts.length) : (ts.take (k + 1)).any p = ((ts.take k).any p || p ts[k]) := by
  rw [List.take_succ_eq_append_getElem h, List.any_append]
  simp

/-- A cell of an older world, behind a box and more. -/
theorem cell_box {w wr : World} {o : Obj} {b i : Nat} {u : Value} (hb : Below (w.heap.size + 1) (w.alloc o) wr) (h : w.cell? ⟨b, i, none⟩ = some u) : wr.cell? ⟨b, i, none⟩ = some u := by
  have hlt : b < w.heap.size := Ap.cell_lt h
  rw [hb.cell (p := ⟨b, i, none⟩) (Nat.lt_succ_of_lt hlt), World.cell?_alloc_lt _ _ _ hlt]
  exact h
theorem cell_boxed {w wr : World} {cs : Array Value} {t : TypeId} (hb : Below (w.heap.size + 1) (w.alloc (.cells cs t)) wr) (i : Nat) : wr.cell? ⟨w.heap.size, i, none⟩ = cs[i]? := by
  rw [hb.cell (p := ⟨w.heap.size, i, none⟩) (Nat.lt_succ_self _)]
  simp
theorem below_box {w wr : World} {o : Obj} (hb : Below (w.heap.size + 1) (w.alloc o) wr) : Below w.heap.size w wr :=
  ((Below.refl _ _).alloc (Nat.le_refl _) o).trans (hb.mono (Nat.le_succ _))

set_option maxHeartbeats 1000000 in
theorem has_cells (b off cap : Nat) (ts : List Tr) (v : Value) (t : Tr) (w : World) (hf : Few ts) (ht : t.a.length ≤ 1000000) (hv : Strs w v t.a)
    (hc : ∀ k, (hk : k < ts.length) → ∃ a, w.cell? ⟨b, off + 2 * k, none⟩ = some a ∧ w.cell? ⟨b, off + 2 * k + 1, none⟩ = some (.int .i64 ts[k].e) ∧ Strs w a ts[k].a) :
    Calls Tryd.prog 24 #[.slice (some ⟨b, off, none⟩) ts.length cap, .agg #[v, .int .i64 t.e]] w fun e w' => e = .returned (.bool (ts.any fun u => cmp u t == 0)) ∧ Below w.heap.size w w' := by
  have HC := Lib.hid hc
  have HV := Lib.hid hv
  have HF := Lib.hid hf
  have hlen := hf.1
  clear hc hv hf
  go_enter Tryd.func24, Tryd.ntmps24
  go_wp2_with fail
  go_loopw [5] (fun i wr => ∃ k : Nat, k ≤ ts.length ∧ i = .int .i64 k ∧ Below (w.heap.size + 1) (w.alloc (.cells #[v, .int .i64 t.e] 24)) wr ∧ (ts.take k).any (fun u => cmp u t == 0) = false) (fun i _ => ts.length - (intOf i).toNat)
  case atStart => exact ⟨0, Nat.zero_le _, rfl, Below.refl _ _, rfl⟩
  case round =>
    obtain ⟨k, hk, rfl, hb, hany⟩ := hrel
    have HB := Lib.hid hb
    have HANY := Lib.hid hany
    clear hb hany
    by_cases hlt : k < ts.length
    · obtain ⟨a, e1, e2, hs⟩ := HC.out k hlt
      have c1 : wr.cell? ⟨b, off + k * 2, none⟩ = some a := by rw [Nat.mul_comm k 2]; exact cell_box HB.out e1
      have c2 : wr.cell? ⟨b, off + k * 2 + 1, none⟩ = some (.int .i64 ts[k].e) := by rw [Nat.mul_comm k 2]; exact cell_box HB.out e2
      have c3 : wr.cell? ⟨w.heap.size, 0, none⟩ = some v := cell_boxed HB.out 0
      have c4 : wr.cell? ⟨w.heap.size, 1, none⟩ = some (.int .i64 t.e) := cell_boxed HB.out 1
      have HS := Lib.hid hs
      clear e1 e2 hs
      obtain ⟨u, hu⟩ : ∃ u, ts[k] = u := ⟨_, rfl⟩
      have hua : u.a.length ≤ 1000000 := by rw [← hu]; exact HF.out.2 _ (List.getElem_mem hlt)
      have HT := Lib.hid (any_take ts (fun u => cmp u t == 0) k hlt)
      rw [hu] at c2 HS HT
      clear hu
      cases hcu : cmp u t == 0 with
      | true =>
        go_wp2_with fail
        go_still_tail 5, (by kernel_rfl)
        change wpList _ _ _ _ _ wr.drew
        go_wp2_with fail
        refine (cmp_any _ _ u t _ (HS.out.below (below_box HB.out.drew)) (HV.out.below (below_box HB.out.drew)) hua ht).mono ?_
        rintro e w' ⟨rfl, hb'⟩
        go_wp2_with fail
        go_ret
        refine ⟨ret_bool ?_, (below_box HB.out.drew).trans (hb'.mono (below_box HB.out.drew).size)⟩
        have : (ts.take (k + 1)).any (fun u => cmp u t == 0) = true := by rw [HT.out, hcu]; simp
        obtain ⟨x, hx, hx'⟩ := List.any_eq_true.1 this
        exact (List.any_eq_true.2 ⟨x, List.mem_of_mem_take hx, hx'⟩).symm
      | false =>
        go_wp2_with fail
        go_still_tail 5, (by kernel_rfl)
        change wpList _ _ _ _ _ wr.drew
        go_wp2_with fail
        refine (cmp_any _ _ u t _ (HS.out.below (below_box HB.out.drew)) (HV.out.below (below_box HB.out.drew)) hua ht).mono ?_
        rintro e w' ⟨rfl, hb'⟩
        go_wp2_with fail
        go_roundw
        case rel => exact ⟨k + 1, by omega, by go_num, HB.out.drew.trans (hb'.mono (by have := HB.out.size; simpa using this)), by rw [HT.out, HANY.out, hcu]; rfl⟩
        case measure => simp [intOf]; omega
    · go_wp2_with fail
      go_ret
      refine ⟨ret_bool ?_, below_box HB.out⟩
      have := HANY.out
      rw [List.take_of_length_le (by omega)] at this
      exact this.symm
end Go.Proofs.YtmhmfnjjdcdkcaaDoor.Tr
