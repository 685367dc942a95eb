/- The program's Size and Depth: the walk of measure. -/
import Derived.Test.YtpkbpooiaddcaaaRxe
namespace Go.Proofs.Ytpkbpooiaddcaaa.Rx
open Go Go.RowKit Rw
set_option maxRecDepth 20000

set_option maxHeartbeats 2000000 in
theorem measure_cells (b off cap : Nat) (l : List Nd) (w : World) (hat : At w b off l) (hl : l.length ≤ 1000000) :
    Calls Try.prog 42 #[.slice (some ⟨b, off, none⟩) l.length cap] w fun e w' => e = .returned (.tuple #[.int .i64 (size l), .int .i64 (depth l)]) ∧ Below w.heap.size w w' := by
  have HA := Lib.hid hat
  clear hat
  obtain ⟨i0, hi0, hz0, hs0, hb0⟩ := info_parts infoI
  go_enter Try.func42, Try.ntmps42
  go_wp2_with fail
  go_step3
  go_wp2_with (at_make; refine wpList_make_own _ rfl _ _ 27 rfl w.heap.size 3 i0 _ 1 Try.underlying27 hi0 hz0 hs0 .i64 .i64 _ 16 rfl rfl rfl (by rw [hb0]; omega) (by unfold maxLen; omega) (Nat.le_refl _) ?_; intro w0 hown0 hgrow0)
  go_step3
  go_wp2_with fail
  go_loopg [3, 4, 12] l.length (fun g0 dv ov iv wr => ∃ (k d g c : Nat) (st : List Nat), k + g0 = l.length ∧ d ≤ k ∧ st.length ≤ k ∧ dv = .int .i64 d ∧ ov = .slice (some ⟨g, 0, none⟩) st.length c ∧ iv = .int .i64 k ∧ Hid (Stk w.heap.size wr g c st) ∧ Hid (Below w.heap.size w wr) ∧ Hid (Rest l k st d) ∧ Hid (∀ y ∈ st, y ≤ 2))
  case atStart =>
    exact ⟨0, 0, w.heap.size, 16, [], Nat.zero_add _, Nat.le_refl _, Nat.le_refl _, rfl, rfl, rfl, Lib.hid hown0, Lib.hid ((Below.refl _ _).grown hgrow0 (Nat.le_refl _) (fun k hk => by cases hk)), Lib.hid (Rest.start l), Lib.hid (fun y hy => by cases hy)⟩
  case round =>
    obtain ⟨k, d, g, c, st, hk, hd, hst, rfl, rfl, rfl, HS, HB, HR, HY⟩ := hrel
    by_cases hlt : k < l.length
    · obtain ⟨e1, e2, e3⟩ := HA.out k hlt
      have c1 : wr.cell? ⟨b, off + k * 3, none⟩ = some (.int .i64 l[k].k) := by rw [HB.out.cell (Ap.cell_lt e1)]; exact e1
      have c2 : wr.cell? ⟨b, off + k * 3 + 1, none⟩ = some (.string l[k].n) := by rw [HB.out.cell (Ap.cell_lt e2)]; exact e2
      have c3 : wr.cell? ⟨b, off + k * 3 + 2, none⟩ = some (.int .i64 l[k].s) := by rw [HB.out.cell (Ap.cell_lt e3)]; exact e3
      have H1 := Lib.hid (fun ha => HR.out.stop hlt ha)
      have H2 := Lib.hid (fun a ha hp => HR.out.end (a := a) hlt ha hp)
      have H3 := Lib.hid (fun a s ha hp => HR.out.more (a := a) (s := s) hlt ha hp)
      obtain ⟨x, hx⟩ : ∃ x, l[k] = x := ⟨_, rfl⟩
      rw [hx] at c1 c2 c3 H1 H2 H3
      clear hx e1 e2 e3
      obtain ⟨a, ha⟩ : ∃ a, ar x.k = a := ⟨_, rfl⟩
      rw [ha] at H1 H2 H3
      have HAR := Lib.hid ha
      have HBD : Hid (a ≤ 2) := by have := ar_le x.k; rw [ha] at this; exact this.2
      clear ha
      by_cases h0 : a < 0
      · have HZ := Lib.hid (H1.out h0)
        have d1 : decide (a < 0) = true := decide_eq_true h0
        go_wp2_with fail
        refine (arP_eq x.k _).mono ?_
        rw [HAR.out]
        rintro e w' ⟨rfl, rfl⟩
        go_wp2_with fail
        rw [Exit.noGoto_ret]
        go_ret2
        rw [HZ.out.1, HZ.out.2]
        exact ⟨rfl, HB.out.alloc HB.out.size _⟩
      · obtain ⟨a, rfl⟩ : ∃ a' : Nat, a = (a' : Int) := ⟨a.toNat, by omega⟩
        have d1 : decide ((a : Int) < 0) = false := decide_eq_false h0
        have HB1 : Hid (Below w.heap.size w (wr.alloc (nb x))) := HB.out.alloc HB.out.size _
        have hS1 : Stk w.heap.size (wr.alloc (nb x)) g c st := Ap.own_below HS.out (below1 wr (nb x))
        obtain ⟨g', c', w2, hrun, hS2, hB2⟩ := hS1.push a HB1.out.size (by omega)
        rw [show (wr.alloc (nb x)).heap.size = wr.heap.size + 1 by simp] at hrun
        have R := Lib.hid hrun
        have HYA : Hid (∀ y ∈ st ++ [a], y ≤ 2) := Lib.hid fun y hy => by
          rcases List.mem_append.1 hy with h | h
          · exact HY.out y h
          · rw [List.mem_singleton] at h; have := HBD.out; omega
        have HL : Hid ((st ++ [a]).length = st.length + 1) := by show _ = _; simp
        have HS2 := Lib.hid hS2
        have HB2 := Lib.hid (HB1.out.trans hB2)
        have HG : Hid (w.heap.size ≤ g') := by obtain ⟨_, _, hb', _⟩ := hS2.parts; exact hb'
        obtain ⟨n, hn⟩ : ∃ n, st.length = n := ⟨_, rfl⟩
        rw [hn] at R H2 H3 hst HL
        clear hrun hS2 hB2 hS1
        go_wp2_with fail
        refine (arP_eq x.k _).mono ?_
        rw [HAR.out]
        rintro e w' ⟨rfl, rfl⟩
        go_wp2_with (at_builtin; refine Ap.wpList_append_run (by rfl) (.tmp 22) (.tmp 24) _ _ rfl _ _ rfl rfl _ w2 R.out ?_)
        all_goals
          go_loopg [4, 8] (n + 1) (fun g2 sv lv wy => w2 = wy ∧ sv = .slice (some ⟨g', 0, none⟩) (n + 1) c' ∧ g2 ≤ n + 1 ∧ Hid (pop (st ++ [a]).reverse = pop ((st ++ [a]).take g2).reverse) ∧ ((g2 = 0 ∧ lv = .int .i64 (-1)) ∨ ∃ i : Nat, g2 = i + 1 ∧ lv = .int .i64 i))
          case atStart => exact ⟨rfl, rfl, Nat.le_refl _, Lib.hid (by rw [List.take_of_length_le (by rw [HL.out]; exact Nat.le_refl _)]), Or.inr ⟨n, rfl, rfl⟩⟩
          case round =>
            obtain ⟨rfl, rfl, hg2, HP, ⟨rfl, rfl⟩ | ⟨i, rfl, rfl⟩⟩ := hrel
            · have HE := Lib.hid (H2.out a rfl HP.out)
              go_wp2_with fail
              rw [Exit.noGoto_ret]
              go_ret2
              rw [HE.out.1, HE.out.2]
              refine ⟨?_, HB2.out⟩
              first
                | (rw [Nat.max_eq_left (by omega)]; rfl)
                | (rw [Nat.max_eq_right (by omega)]; rfl)
            · have hi : i < (st ++ [a]).length := by rw [HL.out]; omega
              have ci := HS2.out.cell i hi
              have HPI := Lib.hid (HP.out.trans (congrArg pop (pop_last hi)))
              obtain ⟨y, hy⟩ : ∃ y, (st ++ [a])[i] = y := ⟨_, rfl⟩
              rw [hy] at ci HPI
              have HY2 : Hid (y ≤ 2) := HYA.out y (by rw [← hy]; exact List.getElem_mem hi)
              clear hy
              cases y with
              | zero =>
                go_wp2_with fail
                go_roundg i
                case measure => omega
                case rel =>
                  refine ⟨rfl, rfl, by omega, HPI, ?_⟩
                  cases i with
                  | zero => exact Or.inl ⟨rfl, rfl⟩
                  | succ j => exact Or.inr ⟨j, rfl, by go_num⟩
              | succ z =>
                have hwz : wrap64 ((z : Nat) : Int) = (z : Int) := by have := HY2.out; unfold wrap64; omega
                have HYZ : Hid (∀ y ∈ (st ++ [a]).take i ++ [z], y ≤ 2) := Lib.hid fun y hy => by
                  rcases List.mem_append.1 hy with h | h
                  · exact HYA.out y (List.mem_of_mem_take h)
                  · rw [List.mem_singleton] at h; have := HY2.out; omega
                have hic : i + 1 ≤ c' := by have := HS2.out.cap.1; omega
                have HZ := Lib.hid (HS2.out.down i z hi)
                have HN : Hid (Rest l (k + 1) ((st ++ [a]).take i ++ [z]) (max d (n + 1))) := H3.out a _ rfl (HPI.out.trans (by rw [List.reverse_concat]; rfl))
                have HLZ : Hid (((st ++ [a]).take i ++ [z]).length = i + 1) := by
                  show _ = _
                  rw [List.length_append, List.length_take]
                  simp only [List.length_cons, List.length_nil]
                  omega
                have fi := HS2.out.soft i
                go_wp2_with fail
                go_roundg (gk - 1)
                case measure => omega
                case rel =>
                  refine ⟨k + 1, max d (n + 1), g', c', (st ++ [a]).take i ++ [z], by omega, by omega, by rw [HLZ.out]; omega, ?_, by rw [HLZ.out], rfl, HZ, Lib.hid (below_setCell HB2.out _ _ _ HG.out), HN, HYZ⟩
                  first
                    | (rw [Nat.max_eq_left (by omega)]; done)
                    | (rw [Nat.max_eq_right (by omega)]; rfl)
    · have HZ := Lib.hid (HR.out.out hlt)
      go_wp2_with fail
      rw [Exit.noGoto_ret]
      go_ret2
      rw [HZ.out.1, HZ.out.2]
      exact ⟨rfl, HB.out⟩
set_option maxHeartbeats 1000000 in
theorem measure_empty (a : Option Addr) (cap : Nat) (w : World) :
    Calls Try.prog 42 #[.slice a 0 cap] w fun e w' => e = .returned (.tuple #[.int .i64 0, .int .i64 0]) ∧ Below w.heap.size w w' := by
  obtain ⟨i0, hi0, hz0, hs0, hb0⟩ := info_parts infoI
  go_enter Try.func42, Try.ntmps42
  go_wp2_with fail
  go_step3
  go_wp2_with (at_make; refine wpList_make_own _ rfl _ _ 27 rfl w.heap.size 3 i0 _ 1 Try.underlying27 hi0 hz0 hs0 .i64 .i64 _ 16 rfl rfl rfl (by rw [hb0]; omega) (by unfold maxLen; omega) (Nat.le_refl _) ?_; intro w0 hown0 hgrow0)
  go_step3
  go_wp2_with fail
  refine Go.wp_loop_rounds 1 ?_
  rw [rounds_succ]
  go_wp2_with fail
  rw [Exit.noGoto_ret]
  go_ret2
  exact ⟨rfl, (Below.refl _ _).grown hgrow0 (Nat.le_refl _) (fun k hk => by cases hk)⟩
theorem measure_any (v : Value) (l : List Nd) (w : World) (h : Nds w v l) (hl : l.length ≤ 1000000) :
    Calls Try.prog 42 #[v] w fun e w' => e = .returned (.tuple #[.int .i64 (size l), .int .i64 (depth l)]) ∧ Below w.heap.size w w' := by
  rcases h.form with ⟨rfl, a, cap, rfl⟩ | ⟨b, off, cap, rfl, _, hat⟩
  · exact measure_empty a cap w
  · exact measure_cells b off cap l w hat hl
set_option maxHeartbeats 400000 in
theorem sizeP_any (v : Value) (l : List Nd) (w : World) (h : Nds w v l) (hl : l.length ≤ 1000000) :
    Calls Try.prog 33 #[v] w fun e w' => e = .returned (.int .i64 (size l)) ∧ Below w.heap.size w w' := by
  have H := Lib.hid h
  clear h
  go_enter Try.func33, Try.ntmps33
  go_wp2_with fail
  refine (measure_any v l _ H.out hl).mono ?_
  rintro e w' ⟨rfl, hb⟩
  have HB := Lib.hid hb
  clear hb
  go_wp2_with fail
  go_ret
  exact ⟨rfl, HB.out⟩
end Go.Proofs.Ytpkbpooiaddcaaa.Rx
