/- CrcSums: the walk. -/
import Derived.Test.YtgdhgicofobebaaCrl
namespace Go.Proofs.Ytgdhgicofobebaa.Cr
open Go Go.RowKit
set_option maxRecDepth 20000

/-- append onto a slice whose room is used up. -/
theorem append_full {w : World} {a : Option Addr} {n : Nat} {x : Value} {l m : By} (h : Bys w (.slice a n n) l) (hx : Bys w x m) (hl : l.length + m.length ≤ 4398046511104) :
    ∃ v' w', (Builtin.append_ #[23, 23] 23 #[.slice a n n, x]).run Try.prog w = .ok v' w' ∧ Bys w' v' (l ++ m) ∧ Below w.heap.size w w' := by
  have hn := h.len
  subst hn
  obtain ⟨i0, hi, hz, hs1, hb8⟩ := info_parts infoB
  obtain ⟨v', w', h1, h2, h3⟩ := Ap.run_append_full (P := Try.prog) (ty := 23) Try.underlying23 hi hz hs1 hb8 (by rfl) (by omega) h hx (bc_one m) (by unfold maxLen; omega) (by omega)
  refine ⟨v', w', h1, ?_, h3⟩
  unfold Bys
  rw [bc_append, List.length_append]
  exact h2
/-- A slice's room cut to its length. -/
theorem Bys.full {w : World} {a : Option Addr} {n c : Nat} {l : By} (h : Bys w (.slice a n c) l) : Bys w (.slice a n n) l := by
  obtain ⟨hl, a', c', hv, hc, hn, hcell⟩ := h
  cases hv
  exact ⟨hl, a, l.length, rfl, Nat.le_refl _, fun h => ⟨(hn h).1, (hn h).1⟩, hcell⟩
/-- What a law owes. -/
def Yes (w : World) (e : Ending) (w' : World) : Prop := e = .returned (.bool true) ∧ Below w.heap.size w w'
theorem sums_long (s : Int) (va vb : Value) (a b : By) (w : World) (ha : Bys w va a) (hb : Bys w vb b) (h : ¬ (a.length ≤ 2100 ∧ b.length ≤ 2100)) :
    Calls Try.prog 3 #[.int .u32 s, va, vb] w (Yes w) := by
  have FA := Lib.hid (few_any va a w ha)
  have FB := Lib.hid (few_any vb b w hb)
  have HA := Lib.hid (alive_any w)
  obtain ⟨aa, na, ca, rfl, hna⟩ := id ha.split
  obtain ⟨ab, nb, cb, rfl, hnb⟩ := id hb.split
  clear ha hb hna hnb
  by_cases h1 : a.length ≤ 2100
  · rw [decide_eq_true h1] at FA
    rw [decide_eq_false (fun h2 => h ⟨h1, h2⟩)] at FB
    clear h h1
    go_enter Try.func3, Try.ntmps3
    go_wp2_with fail
    refine FA.out.mono ?_
    rintro e w' ⟨rfl, rfl⟩
    go_wp2_with fail
    refine FB.out.mono ?_
    rintro e w' ⟨rfl, rfl⟩
    go_wp2_with fail
    refine HA.out.mono ?_
    rintro e w' ⟨rfl, hb⟩
    have D := Lib.hid hb
    clear hb
    go_wp2_with fail
    go_ret
    exact ⟨rfl, D.out⟩
  · rw [decide_eq_false h1] at FA
    clear h h1
    go_enter Try.func3, Try.ntmps3
    go_wp2_with fail
    refine FA.out.mono ?_
    rintro e w' ⟨rfl, rfl⟩
    go_wp2_with fail
    refine HA.out.mono ?_
    rintro e w' ⟨rfl, hb⟩
    have D := Lib.hid hb
    clear hb
    go_wp2_with fail
    go_ret
    exact ⟨rfl, D.out⟩
set_option maxHeartbeats 4000000 in
theorem sums_short (s : BitVec 32) (va vb : Value) (a b : By) (w : World) (ha : Bys w va a) (hb : Bys w vb b) (h1 : a.length ≤ 2100) (h2 : b.length ≤ 2100) :
    Calls Try.prog 3 #[.int .u32 (s.toNat : Int), va, vb] w (Yes w) := by
  have FA := Lib.hid (few_any va a w ha)
  have FB := Lib.hid (few_any vb b w hb)
  rw [decide_eq_true h1] at FA
  rw [decide_eq_true h2] at FB
  obtain ⟨aa, na, ca, rfl, hna⟩ := ha.split
  obtain ⟨ab, nb, cb, rfl, hnb⟩ := hb.split
  have hca := ha.cap
  obtain ⟨vx, w1, r1, hx, b1⟩ := append_full ha.full hb (by omega)
  obtain ⟨ax, nx, cx, rfl, hnx⟩ := hx.split
  rw [List.length_append] at hnx
  have R1 := Lib.hid r1
  have D1 := Lib.hid b1
  have HA := Lib.hid (alive_any w1)
  have M1 := Lib.hid (fun X (hX : Below w.heap.size w X) => moreP_any s _ a X (ha.below hX) (by omega))
  have M2 := Lib.hid (fun X (hX : Below w.heap.size w X) => moreR_any s _ a X (ha.below hX) (by omega))
  have M3 := Lib.hid (fun X (hX : Below w.heap.size w X) => sumP_any _ a X (ha.below hX) (by omega))
  have M4 := Lib.hid (fun X (hX : Below w.heap.size w X) => moreR_any 0 _ a X (ha.below hX) (by omega))
  have M5 := Lib.hid (fun X (hX : Below w.heap.size w X) => moreP_any (more s a) _ b X (hb.below hX) (by omega))
  have M6 := Lib.hid (fun X (hX : Below w1.heap.size w1 X) => moreP_any s _ (a ++ b) X (hx.below hX) (by rw [List.length_append]; omega))
  rw [show (((0 : BitVec 32).toNat : Nat) : Int) = 0 from rfl] at M4
  rw [more_append] at M5
  generalize (more s (a ++ b)).toNat = z at M5 M6
  generalize (more s a).toNat = y at M1 M2 M5
  generalize (more 0 a).toNat = x at M3 M4
  generalize s.toNat = t at M1 M2 M6 ⊢
  clear ha hb hx h1 h2 hna hnb hnx r1 b1
  go_enter Try.func3, Try.ntmps3
  go_wp2_with fail
  refine FA.out.mono ?_
  rintro e w' ⟨rfl, rfl⟩
  go_wp2_with fail
  refine FB.out.mono ?_
  rintro e w' ⟨rfl, rfl⟩
  go_wp2_with (at_builtin; refine Ap.wpList_append_run (by rfl) (.tmp 22) (.tmp 23) _ _ rfl _ _ rfl rfl _ w1 R1.out ?_)
  refine HA.out.mono ?_
  rintro e w2 ⟨rfl, hb2⟩
  have D2 := Lib.hid (D1.out.trans (hb2.mono D1.out.size))
  have B2 := Lib.hid hb2
  clear hb2
  go_wp2_with fail
  refine (M1.out _ D2.out).mono ?_
  rintro e w' ⟨rfl, rfl⟩
  go_wp2_with fail
  refine (M2.out _ D2.out).mono ?_
  rintro e w' ⟨rfl, rfl⟩
  go_wp2_with fail
  refine (M3.out _ D2.out).mono ?_
  rintro e w' ⟨rfl, rfl⟩
  go_wp2_with fail
  refine (M4.out _ D2.out).mono ?_
  rintro e w' ⟨rfl, rfl⟩
  go_wp2_with fail
  refine (M1.out _ D2.out).mono ?_
  rintro e w' ⟨rfl, rfl⟩
  go_wp2_with fail
  refine (M5.out _ D2.out).mono ?_
  rintro e w' ⟨rfl, rfl⟩
  go_wp2_with fail
  refine (M6.out _ B2.out).mono ?_
  rintro e w' ⟨rfl, rfl⟩
  go_wp2_with fail
  go_ret
  exact ⟨rfl, D2.out⟩
theorem sums_law (s : BitVec 32) (va vb : Value) (a b : By) (w : World) (ha : Bys w va a) (hb : Bys w vb b) :
    Calls Try.prog 3 #[.int .u32 (s.toNat : Int), va, vb] w (Yes w) := by
  by_cases h : a.length ≤ 2100 ∧ b.length ≤ 2100
  · exact sums_short s va vb a b w ha hb h.1 h.2
  · exact sums_long _ va vb a b w ha hb h
end Go.Proofs.Ytgdhgicofobebaa.Cr
