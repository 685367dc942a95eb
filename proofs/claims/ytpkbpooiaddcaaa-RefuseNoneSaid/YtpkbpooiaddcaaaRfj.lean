/- The program's Places, and whether a row begins so. -/
import Derived.Test.YtpkbpooiaddcaaaRfg
import Derived.Test.YtpkbpooiaddcaaaRfe
namespace Go.Proofs.Ytpkbpooiaddcaaa.Rf
open Go Go.RowKit Go.Proofs.Ytpkbpooiaddcaaa.Rw
set_option maxRecDepth 20000

set_option maxHeartbeats 1000000 in
theorem placesP_empty (a : Option Addr) (cap : Nat) (s : ByteArray) (w : World) :
    Calls Try.prog 11 #[.slice a 0 cap, .string s] w fun e w' => ∃ y, e = .returned y ∧ Plc w' y [] ∧ Below w.heap.size w w' := by
  go_enter Try.func11, Try.ntmps11
  go_wp2_with fail
  refine Go.wp_loop_rounds 1 ?_
  rw [rounds_succ]
  go_wp2_with fail
  go_ret
  exact ⟨_, rfl, (GotI.start w).plc, Below.refl _ _⟩
theorem nb_cells (w : World) (x : Nd) {wx : World} (hb : Below (w.alloc (nb x)).heap.size (w.alloc (nb x)) wx) :
    wx.cell? ⟨w.heap.size, 0, none⟩ = some (.int .i64 x.k) ∧ wx.cell? ⟨w.heap.size, 1, none⟩ = some (.string x.n) ∧ wx.cell? ⟨w.heap.size, 2, none⟩ = some (.int .i64 x.s) := by
  have h0 : (w.alloc (nb x)).cell? ⟨w.heap.size, 0, none⟩ = some (.int .i64 x.k) := by simp
  have h1 : (w.alloc (nb x)).cell? ⟨w.heap.size, 1, none⟩ = some (.string x.n) := by simp
  have h2 : (w.alloc (nb x)).cell? ⟨w.heap.size, 2, none⟩ = some (.int .i64 x.s) := by simp
  exact ⟨by rw [hb.cell (Ap.cell_lt h0)]; exact h0, by rw [hb.cell (Ap.cell_lt h1)]; exact h1, by rw [hb.cell (Ap.cell_lt h2)]; exact h2⟩
set_option maxHeartbeats 8000000 in
theorem placesP_cells (b off cap : Nat) (l : List Nd) (s : ByteArray) (w : World) (hl : l.length ≤ 300000) (hat : At w b off l) :
    Calls Try.prog 11 #[.slice (some ⟨b, off, none⟩) l.length cap, .string s] w fun e w' => ∃ y, e = .returned y ∧ Plc w' y (plc (isN s) l) ∧ Below w.heap.size w w' := by
  have HA := Lib.hid hat
  clear hat
  go_enter Try.func11, Try.ntmps11
  go_wp2_with fail
  go_loopw [5, 10] (fun o i wr => ∃ (k : Nat) (a : Option Addr) (n c : Nat), k ≤ l.length ∧ n ≤ k ∧ i = .int .i64 k ∧ o = .slice a n c ∧ Hid ((plk (isN s) l k).length = n) ∧ Hid (GotI w wr (.slice a n c) (plk (isN s) l k))) (fun _ i _ => l.length - (intOf i).toNat)
  case atStart => exact ⟨0, none, 0, 0, Nat.zero_le _, Nat.le_refl _, rfl, rfl, Lib.hid rfl, Lib.hid (GotI.start w)⟩
  case round =>
    obtain ⟨k, a, n, c, hk, hn, rfl, rfl, HL, HG⟩ := hrel
    by_cases hlt : k < l.length
    · obtain ⟨e1, e2, e3⟩ := HA.out k hlt
      have c1 : wr.cell? ⟨b, off + k * 3, none⟩ = some (.int .i64 l[k].k) := by rw [HG.out.2.cell (Ap.cell_lt e1)]; exact e1
      have c2 : wr.cell? ⟨b, off + k * 3 + 1, none⟩ = some (.string l[k].n) := by rw [HG.out.2.cell (Ap.cell_lt e2)]; exact e2
      have c3 : wr.cell? ⟨b, off + k * 3 + 2, none⟩ = some (.int .i64 l[k].s) := by rw [HG.out.2.cell (Ap.cell_lt e3)]; exact e3
      have HY := Lib.hid (fun h => plk_yes (f := isN s) hlt h)
      have HO := Lib.hid (fun h => plk_no (f := isN s) hlt h)
      obtain ⟨q, hq⟩ : ∃ q, plk (isN s) l k = q := ⟨_, rfl⟩
      obtain ⟨x, hx⟩ : ∃ x, l[k] = x := ⟨_, rfl⟩
      rw [hx] at c1 c2 c3 HY HO
      rw [hq] at HL HG HY HO
      clear hx e1 e2 e3 hq
      have HNB := Lib.hid (fun wx hb => nb_cells wr x (wx := wx) hb)
      have HB0 := Lib.hid (below1 wr (nb x))
      go_wp2_with fail
      refine (isAct_any x _).mono ?_
      rintro e w1 ⟨rfl, hb1⟩
      obtain ⟨c4, c5, c6⟩ := HNB.out w1 hb1
      replace HG := Lib.hid ((HG.out.below HB0.out).below hb1)
      clear hb1 c1 c2 c3
      by_cases h1 : x.k = 1
      · rw [decide_eq_true h1]
        by_cases h2 : x.n = s
        · have HX := Lib.hid (HY.out (hit_yes h1 (by unfold isN; exact decide_eq_true h2)))
          have hq := bytes_eq h2
          clear h2 h1
          obtain ⟨v', w3, hrun, hgot⟩ := HG.out.one k (by rw [HL.out]; omega)
          rw [← HX.out] at hgot
          obtain ⟨a', c', rfl⟩ := hgot.slice
          have HL' : Hid ((plk (isN s) l (k + 1)).length = n + 1) := by
            show _ = _
            rw [HX.out, List.length_append, HL.out]
            rfl
          rw [HL'.out] at hrun hgot
          have R := Lib.hid hrun
          have HG' := Lib.hid hgot
          clear hrun hgot
          go_wp2_with (at_builtin; refine Ap.wpList_append_run (by rfl) (.tmp 23) (.tmp 25) _ _ rfl _ _ rfl rfl _ w3 R.out ?_)
          go_roundw
          case rel => exact ⟨k + 1, a', n + 1, c', by omega, by omega, by go_num, rfl, HL', HG'⟩
          case measure => simp [intOf]; omega
        · have HX := Lib.hid (HO.out (hit_not (by unfold isN; exact decide_eq_false h2)))
          have hq := bytes_ne h2
          clear h2 h1
          rw [← HX.out] at HL HG
          go_wp2_with fail
          go_roundw
          case rel => exact ⟨k + 1, a, n, c, by omega, by omega, by go_num, rfl, HL, HG⟩
          case measure => simp [intOf]; omega
      · rw [decide_eq_false h1]
        have HX := Lib.hid (HO.out (hit_no h1))
        clear h1
        rw [← HX.out] at HL HG
        go_wp2_with fail
        go_roundw
        case rel => exact ⟨k + 1, a, n, c, by omega, by omega, by go_num, rfl, HL, HG⟩
        case measure => simp [intOf]; omega
    · have HZ : Hid (plc (isN s) l = plk (isN s) l k) := by
        show _ = _
        unfold plc
        rw [show k = l.length by omega]
      go_wp2_with fail
      go_ret
      exact ⟨_, rfl, by rw [HZ.out]; exact HG.out.plc, HG.out.2⟩
/-- The program's Places. -/
theorem placesP_any (v : Value) (l : List Nd) (s : ByteArray) (w : World) (hv : Nds w v l) (hl : l.length ≤ 300000) :
    Calls Try.prog 11 #[v, .string s] w fun e w' => ∃ y, e = .returned y ∧ Plc w' y (plc (isN s) l) ∧ Below w.heap.size w w' := by
  rcases hv.form with ⟨rfl, a, cap, rfl⟩ | ⟨b, off, cap, rfl, _, hat⟩
  · exact placesP_empty a cap s w
  · exact placesP_cells b off cap l s w hl hat

/-- Does a row begin so? -/
def patB (l : List Nd) : Bool := match l with
  | a :: x :: c :: _ => decide (a = alt) && decide (x.k = 1) && decide (c = thr)
  | _ => false
theorem patB_short {l : List Nd} (h : l.length < 3) : patB l = false := by
  match l, h with
  | [], _ => rfl
  | [_], _ => rfl
  | [_, _], _ => rfl
theorem patB_at {l : List Nd} (h : 3 ≤ l.length) : patB l = (decide (l[0] = alt) && decide (l[1].k = 1) && decide (l[2] = thr)) := by
  match l, h with
  | a :: x :: c :: r, _ => rfl
theorem patB_iff {l : List Nd} : patB l = true ↔ pat l := by
  match l with
  | [] => simp [patB, pat]
  | [_] => simp [patB, pat]
  | [_, _] => simp [patB, pat]
  | a :: x :: c :: r => simp [patB, pat, and_assoc]
set_option maxHeartbeats 1000000 in
theorem mayP_short (a : Option Addr) (n cap : Nat) (w : World) (h : n < 3) :
    Calls Try.prog 28 #[.slice a n cap] w fun e w' => e = .returned (.bool false) ∧ Below w.heap.size w w' := by
  have h3 : ¬ (3 : Int) ≤ (n : Int) := by omega
  have d3 : decide ((3 : Int) ≤ (n : Int)) = false := decide_eq_false h3
  go_enter Try.func28, Try.ntmps28
  go_wp2_with fail
  go_ret
  exact ⟨rfl, Below.refl _ _⟩
set_option maxHeartbeats 8000000 in
theorem mayP_cells (b off cap : Nat) (l : List Nd) (w : World) (hl : l.length ≤ 1000000) (hat : At w b off l) (h3 : 3 ≤ l.length) :
    Calls Try.prog 28 #[.slice (some ⟨b, off, none⟩) l.length cap] w fun e w' => e = .returned (.bool (patB l)) ∧ Below w.heap.size w w' := by
  rw [patB_at h3]
  have HA := Lib.hid hat
  have hq0 : ∀ w, (binOp .eql 39 (.agg #[.int .i64 l[0].k, .string l[0].n, .int .i64 l[0].s]) (.agg #[.int .i64 6, .string ⟨#[]⟩, .int .i64 0])).run Try.prog w = .ok (.bool (decide (l[0] = alt))) w := fun w => eq_nd l[0] alt w
  have hq2 : ∀ w, (binOp .eql 39 (.agg #[.int .i64 l[2].k, .string l[2].n, .int .i64 l[2].s]) (.agg #[.int .i64 3, .string ⟨#[]⟩, .int .i64 0])).run Try.prog w = .ok (.bool (decide (l[2] = thr))) w := fun w => eq_nd l[2] thr w
  have hc0 := hat 0 (by omega)
  have hc1 := hat 1 (by omega)
  have hc2 := hat 2 (by omega)
  rw [Nat.zero_mul, Nat.add_zero] at hc0
  obtain ⟨x0, hx0⟩ : ∃ x, l[0] = x := ⟨_, rfl⟩
  obtain ⟨x1, hx1⟩ : ∃ x, l[1] = x := ⟨_, rfl⟩
  obtain ⟨x2, hx2⟩ : ∃ x, l[2] = x := ⟨_, rfl⟩
  rw [hx0] at hq0 hc0
  rw [hx1] at hc1
  rw [hx2] at hq2 hc2
  rw [hx0, hx1, hx2]
  clear hx0 hx1 hx2 hat
  obtain ⟨c01, c02, c03⟩ := hc0
  obtain ⟨c11, c12, c13⟩ := hc1
  obtain ⟨c21, c22, c23⟩ := hc2
  have HC2 := Lib.hid (fun wx (hb : Below w.heap.size w wx) => (show wx.cell? ⟨b, off + 6, none⟩ = some (.int .i64 x2.k) ∧ wx.cell? ⟨b, off + 6 + 1, none⟩ = some (.string x2.n) ∧ wx.cell? ⟨b, off + 6 + 2, none⟩ = some (.int .i64 x2.s) from ⟨by rw [hb.cell (Ap.cell_lt c21)]; exact c21, by rw [hb.cell (Ap.cell_lt c22)]; exact c22, by rw [hb.cell (Ap.cell_lt c23)]; exact c23⟩))
  obtain ⟨p, hp⟩ : ∃ p, decide (x2 = thr) = p := ⟨_, rfl⟩
  rw [hp] at hq2 ⊢
  clear hp
  by_cases h0 : x0 = alt
  · rw [decide_eq_true h0] at hq0 ⊢
    rw [Bool.true_and]
    clear h0
    by_cases h1 : x1.k = 1
    · have H1 := Lib.hid (decide_eq_true h1)
      rw [decide_eq_true h1, Bool.true_and]
      clear h1
      go_enter Try.func28, Try.ntmps28
      go_wp2_with fail
      refine (isAct_any x1 _).mono ?_
      rw [H1.out]
      rintro e w1 ⟨rfl, hb1⟩
      have HB1 := Lib.hid hb1
      obtain ⟨d1, d2, d3⟩ := HC2.out w1 hb1
      clear c01 c02 c03 c11 c12 c13 c21 c22 c23 hb1
      go_wp2_with fail
      go_ret
      exact ⟨rfl, HB1.out⟩
    · have H1 := Lib.hid (decide_eq_false h1)
      rw [decide_eq_false h1, Bool.false_and]
      clear h1
      go_enter Try.func28, Try.ntmps28
      go_wp2_with fail
      refine (isAct_any x1 _).mono ?_
      rw [H1.out]
      rintro e w1 ⟨rfl, hb1⟩
      have HB1 := Lib.hid hb1
      clear c01 c02 c03 c11 c12 c13 c21 c22 c23 hb1
      go_wp2_with fail
      go_ret
      exact ⟨rfl, HB1.out⟩
  · rw [decide_eq_false h0] at hq0 ⊢
    rw [Bool.false_and, Bool.false_and]
    clear h0
    go_enter Try.func28, Try.ntmps28
    go_wp2_with fail
    go_ret
    exact ⟨rfl, Below.refl _ _⟩
theorem mayP_any (v : Value) (l : List Nd) (w : World) (hv : Nds w v l) (hl : l.length ≤ 1000000) :
    Calls Try.prog 28 #[v] w fun e w' => e = .returned (.bool (patB l)) ∧ Below w.heap.size w w' := by
  by_cases h3 : 3 ≤ l.length
  · rcases hv.form with ⟨rfl, a, cap, rfl⟩ | ⟨b, off, cap, rfl, _, hat⟩
    · exact absurd h3 (by decide)
    · exact mayP_cells b off cap l w hl hat h3
  · obtain ⟨_, a, cap, rfl, -⟩ := hv
    rw [patB_short (by omega)]
    exact mayP_short a l.length cap w (by omega)
end Go.Proofs.Ytpkbpooiaddcaaa.Rf
