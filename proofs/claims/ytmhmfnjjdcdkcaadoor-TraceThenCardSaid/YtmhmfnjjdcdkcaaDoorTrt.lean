/- The document's Has and Same over any rows of traces. -/
import Derived.Test.YtmhmfnjjdcdkcaaDoorTrs
namespace Go.Proofs.YtmhmfnjjdcdkcaaDoor.Tr
open Go Go.RowKit
set_option maxRecDepth 20000

set_option maxHeartbeats 400000 in
theorem has_empty (a : Option Addr) (cap : Nat) (x : Value) (n : Int) (w : World) :
    Calls Tryd.prog 24 #[.slice a 0 cap, .agg #[x, .int .i64 n]] w fun e w' => e = .returned (.bool false) ∧ Below w.heap.size w w' := by
  go_enter Tryd.func24, Tryd.ntmps24
  go_wp2_with fail
  refine Go.wp_loop_rounds 1 ?_
  rw [rounds_succ]
  go_wp2_with fail
  go_ret
  exact ⟨rfl, (Below.refl _ _).alloc (Nat.le_refl _) _⟩

theorem any_cmp (ts : List Tr) (t : Tr) : (ts.any fun u => cmp u t == 0) = true ↔ t ∈ ts := by
  rw [List.any_eq_true]
  constructor
  · rintro ⟨u, hu, he⟩
    rw [beq_iff_eq] at he
    rw [← cmp_eq0 he]
    exact hu
  · intro h
    exact ⟨t, h, by rw [cmp_self]; rfl⟩

theorem has_any (x v : Value) (ts : List Tr) (t : Tr) (w : World) (hx : Trs w x ts) (hv : Strs w v t.a) (hf : Few ts) (ht : t.a.length ≤ 1000000) :
    Calls Tryd.prog 24 #[x, .agg #[v, .int .i64 t.e]] w fun e w' => e = .returned (.bool (ts.any fun u => cmp u t == 0)) ∧ Below w.heap.size w w' := by
  rcases hx.form with ⟨rfl, a, cap, rfl⟩ | ⟨b, off, cap, rfl, hc⟩
  · exact has_empty a cap v t.e w
  · exact has_cells b off cap ts v t w hf ht hv hc

/-- Are two rows of traces the same? -/
def same : List Tr → List Tr → Bool
  | [], [] => true
  | p :: l, q :: m => cmp p q == 0 && same l m
  | _, _ => false
theorem same_iff : ∀ l m : List Tr, same l m = true ↔ l = m
  | [], [] => by simp [same]
  | [], _ :: _ => by simp [same]
  | _ :: _, [] => by simp [same]
  | p :: l, q :: m => by
    simp only [same, Bool.and_eq_true, beq_iff_eq, same_iff l m, List.cons.injEq]
    exact and_congr_left fun _ => ⟨cmp_eq0, fun h => by rw [h]; exact cmp_self q⟩
theorem same_len : ∀ {l m : List Tr}, l.length ≠ m.length → same l m = false
  | [], [], h => absurd rfl h
  | [], _ :: _, _ => rfl
  | _ :: _, [], _ => rfl
  | p :: l, q :: m, h => by simp [same, same_len (l := l) (m := m) (by simpa using h)]
theorem same_at (l m : List Tr) (k : Nat) (h1 : k < l.length) (h2 : k < m.length) : same (l.drop k) (m.drop k) = (cmp l[k] m[k] == 0 && same (l.drop (k + 1)) (m.drop (k + 1))) := by
  rw [List.drop_eq_getElem_cons h1, List.drop_eq_getElem_cons h2]
  rfl

set_option maxHeartbeats 400000 in
theorem same_other (a1 a2 : Option Addr) (c1 c2 n m : Nat) (w : World) (h : n ≠ m) :
    Calls Tryd.prog 19 #[.slice a1 n c1, .slice a2 m c2] w fun e w' => e = .returned (.bool false) ∧ Below w.heap.size w w' := by
  have hne : ((n : Int) == (m : Int)) = false := by rw [beq_eq_false_iff_ne]; omega
  have hne' : ((n : Int) != (m : Int)) = true := by rw [bne_iff_ne]; omega
  go_enter Tryd.func19, Tryd.ntmps19
  go_wp2_with fail
  go_ret
  exact ⟨rfl, Below.refl _ _⟩
set_option maxHeartbeats 400000 in
theorem same_empty (a1 a2 : Option Addr) (c1 c2 : Nat) (w : World) :
    Calls Tryd.prog 19 #[.slice a1 0 c1, .slice a2 0 c2] w fun e w' => e = .returned (.bool true) ∧ Below w.heap.size w w' := by
  go_enter Tryd.func19, Tryd.ntmps19
  go_wp2_with fail
  refine Go.wp_loop_rounds 1 ?_
  rw [rounds_succ]
  go_wp2_with fail
  go_ret
  exact ⟨rfl, Below.refl _ _⟩

set_option maxHeartbeats 1000000 in
theorem same_cells (b1 o1 c1 b2 o2 c2 : Nat) (l m : List Tr) (w : World) (hf : Few l) (hg : Few m) (he : m.length = l.length)
    (h1 : ∀ k, (hk : k < l.length) → ∃ a, w.cell? ⟨b1, o1 + 2 * k, none⟩ = some a ∧ w.cell? ⟨b1, o1 + 2 * k + 1, none⟩ = some (.int .i64 l[k].e) ∧ Strs w a l[k].a)
    (h2 : ∀ k, (hk : k < m.length) → ∃ a, w.cell? ⟨b2, o2 + 2 * k, none⟩ = some a ∧ w.cell? ⟨b2, o2 + 2 * k + 1, none⟩ = some (.int .i64 m[k].e) ∧ Strs w a m[k].a) :
    Calls Tryd.prog 19 #[.slice (some ⟨b1, o1, none⟩) l.length c1, .slice (some ⟨b2, o2, none⟩) l.length c2] w fun e w' => e = .returned (.bool (same l m)) ∧ Below w.heap.size w w' := by
  have H1 := Lib.hid h1
  have H2 := Lib.hid h2
  have HF := Lib.hid hf
  have HG := Lib.hid hg
  have HE := Lib.hid he
  have hlen := hf.1
  clear h1 h2 hf hg he
  go_enter Tryd.func19, Tryd.ntmps19
  go_wp2_with fail
  go_loopw [5] (fun i wr => ∃ k : Nat, k ≤ l.length ∧ i = .int .i64 k ∧ Below w.heap.size w wr ∧ same l m = same (l.drop k) (m.drop k)) (fun i _ => l.length - (intOf i).toNat)
  case atStart => exact ⟨0, Nat.zero_le _, rfl, Below.refl _ _, rfl⟩
  case round =>
    obtain ⟨k, hk, rfl, hb, hsame⟩ := hrel
    have HB := Lib.hid hb
    have HS := Lib.hid hsame
    clear hb hsame
    by_cases hlt : k < l.length
    · have hlt2 : k < m.length := by rw [HE.out]; exact hlt
      obtain ⟨a, e1, e2, hs⟩ := H1.out k hlt
      obtain ⟨a', e1', e2', hs'⟩ := H2.out k hlt2
      have c1 : wr.cell? ⟨b1, o1 + k * 2, none⟩ = some a := by rw [Nat.mul_comm k 2, HB.out.cell (Ap.cell_lt e1)]; exact e1
      have c2 : wr.cell? ⟨b1, o1 + k * 2 + 1, none⟩ = some (.int .i64 l[k].e) := by rw [Nat.mul_comm k 2, HB.out.cell (Ap.cell_lt e2)]; exact e2
      have c3 : wr.cell? ⟨b2, o2 + k * 2, none⟩ = some a' := by rw [Nat.mul_comm k 2, HB.out.cell (Ap.cell_lt e1')]; exact e1'
      have c4 : wr.cell? ⟨b2, o2 + k * 2 + 1, none⟩ = some (.int .i64 m[k].e) := by rw [Nat.mul_comm k 2, HB.out.cell (Ap.cell_lt e2')]; exact e2'
      have HS1 := Lib.hid hs
      have HS2 := Lib.hid hs'
      have HA := Lib.hid (HS.out.trans (same_at l m k hlt hlt2))
      clear e1 e2 hs e1' e2' hs'
      obtain ⟨u, hu⟩ : ∃ u, l[k] = u := ⟨_, rfl⟩
      obtain ⟨v, hv⟩ : ∃ v, m[k] = v := ⟨_, rfl⟩
      have hua : u.a.length ≤ 1000000 := by rw [← hu]; exact HF.out.2 _ (List.getElem_mem hlt)
      have hva : v.a.length ≤ 1000000 := by rw [← hv]; exact HG.out.2 _ (List.getElem_mem hlt2)
      rw [hu] at c2 HS1 HA
      rw [hv] at c4 HS2 HA
      clear hu hv
      cases hcu : cmp u v == 0 with
      | true =>
        have hcn : (cmp u v != 0) = false := by rw [bne, hcu]; rfl
        go_wp2_with fail
        go_still_tail 8, (by kernel_rfl)
        change wpList _ _ _ _ _ wr.drew
        go_wp2_with fail
        refine (cmp_any _ _ u v _ (HS1.out.below HB.out.drew) (HS2.out.below HB.out.drew) hua hva).mono ?_
        rintro e w' ⟨rfl, hb'⟩
        go_wp2_with fail
        go_roundw
        case rel => exact ⟨k + 1, by omega, by go_num, HB.out.drew.trans (hb'.mono HB.out.size), by rw [HA.out, hcu]; rfl⟩
        case measure => simp [intOf]; omega
      | false =>
        have hcn : (cmp u v != 0) = true := by rw [bne, hcu]; rfl
        go_wp2_with fail
        go_still_tail 8, (by kernel_rfl)
        change wpList _ _ _ _ _ wr.drew
        go_wp2_with fail
        refine (cmp_any _ _ u v _ (HS1.out.below HB.out.drew) (HS2.out.below HB.out.drew) hua hva).mono ?_
        rintro e w' ⟨rfl, hb'⟩
        go_wp2_with fail
        go_ret
        exact ⟨ret_bool (by rw [HA.out, hcu]; rfl), HB.out.drew.trans (hb'.mono HB.out.size)⟩
    · go_wp2_with fail
      go_ret
      refine ⟨ret_bool ?_, HB.out⟩
      rw [HS.out, List.drop_eq_nil_of_le (by omega), List.drop_eq_nil_of_le (by rw [HE.out]; omega)]
      rfl

theorem same_any (x y : Value) (l m : List Tr) (w : World) (hx : Trs w x l) (hy : Trs w y m) (hf : Few l) (hg : Few m) :
    Calls Tryd.prog 19 #[x, y] w fun e w' => e = .returned (.bool (same l m)) ∧ Below w.heap.size w w' := by
  by_cases he : l.length = m.length
  · rcases hx.form with ⟨rfl, a, cap, rfl⟩ | ⟨b, off, cap, rfl, hc⟩
    · obtain rfl : m = [] := List.eq_nil_of_length_eq_zero he.symm
      obtain ⟨_, ⟨_, a', cap', rfl, _⟩, _⟩ := hy
      exact same_empty a a' cap cap' w
    · rcases hy.form with ⟨rfl, a', cap', rfl⟩ | ⟨b', off', cap', rfl, hc'⟩
      · obtain rfl : l = [] := List.eq_nil_of_length_eq_zero he
        exact same_empty _ a' cap cap' w
      · rw [← he]
        exact same_cells b off cap b' off' cap' l m w hf hg he.symm hc hc'
  · rw [same_len he]
    obtain ⟨_, ⟨_, a, cap, rfl, _⟩, _⟩ := hx
    obtain ⟨_, ⟨_, a', cap', rfl, _⟩, _⟩ := hy
    exact same_other a a' cap cap' l.length m.length w he
end Go.Proofs.YtmhmfnjjdcdkcaaDoor.Tr
