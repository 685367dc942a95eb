/- The program's Size and Depth: the walk of measure. The program's Right. The program's Same: slices.Equal over nodes. The document's Set: by halves. The document's plain, paired, plainOn, pairedOn and Is, walked kind by kind. The program's Kids: slices.Clone over nodes. Plain: the sort of a tree out of those of its kids, as the program makes it. -/
import Derived.Test.YtpingbiibbmcaabQ03
import Derived.IntWalk
import Derived.Lib.SliceRun

namespace Go.Proofs.Ytpingbiibbmcaab.Rx
open Go Go.RowKit Rw
set_option maxRecDepth 20000

set_option maxHeartbeats 2000000 in
theorem measure_cells (b off cap : Nat) (l : List Nd) (w : World) (hat : At w b off l) (hl : l.length ≤ 4398046511104) :
    Calls Try.prog 35 #[.slice (some ⟨b, off, none⟩) l.length cap] w fun e w' => e = .returned (.tuple #[.int .i64 (size l), .int .i64 (depth l)]) ∧ Below w.heap.size w w' := by
  have HA := Lib.hid hat
  clear hat
  obtain ⟨i0, hi0, hz0, hs0, hb0⟩ := info_parts infoI
  go_enter Try.func35, Try.ntmps35
  go_wp2_with fail
  go_step3
  go_wp2_with (at_make; refine wpList_make_own _ rfl _ _ 55 rfl w.heap.size 3 i0 _ 1 Try.underlying55 hi0 hz0 hs0 .i64 .i64 _ 16 rfl rfl rfl (by rw [hb0]; omega) (by unfold maxLen; omega) (Nat.le_refl _) ?_; intro w0 hown0 hgrow0)
  go_step3
  go_wp2_with fail
  go_loopg [3, 4, 12] l.length (fun g0 dv ov iv wr => ∃ (k d g c : Nat) (st : List Nat), k + g0 = l.length ∧ d ≤ k ∧ st.length ≤ k ∧ dv = .int .i64 d ∧ ov = .slice (some ⟨g, 0, none⟩) st.length c ∧ iv = .int .i64 k ∧ Hid (Stk w.heap.size wr g c st) ∧ Hid (Below w.heap.size w wr) ∧ Hid (Rest l k st d) ∧ Hid (∀ y ∈ st, y ≤ 2))
  case atStart =>
    exact ⟨0, 0, w.heap.size, 16, [], Nat.zero_add _, Nat.le_refl _, Nat.le_refl _, rfl, rfl, rfl, Lib.hid hown0, Lib.hid ((Below.refl _ _).grown hgrow0 (Nat.le_refl _) (fun k hk => by cases hk)), Lib.hid (Rest.start l), Lib.hid (fun y hy => by cases hy)⟩
  case round =>
    obtain ⟨k, d, g, c, st, hk, hd, hst, rfl, rfl, rfl, HS, HB, HR, HY⟩ := hrel
    by_cases hlt : k < l.length
    · obtain ⟨e1, e2, e3⟩ := HA.out k hlt
      have c1 : wr.cell? ⟨b, off + k * 3, none⟩ = some (.int .i64 l[k].k) := by rw [HB.out.cell (Ap.cell_lt e1)]; exact e1
      have c2 : wr.cell? ⟨b, off + k * 3 + 1, none⟩ = some (.string l[k].n) := by rw [HB.out.cell (Ap.cell_lt e2)]; exact e2
      have c3 : wr.cell? ⟨b, off + k * 3 + 2, none⟩ = some (.int .i64 l[k].s) := by rw [HB.out.cell (Ap.cell_lt e3)]; exact e3
      have H1 := Lib.hid (fun ha => HR.out.stop hlt ha)
      have H2 := Lib.hid (fun a ha hp => HR.out.end (a := a) hlt ha hp)
      have H3 := Lib.hid (fun a s ha hp => HR.out.more (a := a) (s := s) hlt ha hp)
      obtain ⟨x, hx⟩ : ∃ x, l[k] = x := ⟨_, rfl⟩
      rw [hx] at c1 c2 c3 H1 H2 H3
      clear hx e1 e2 e3
      obtain ⟨a, ha⟩ : ∃ a, ar x.k = a := ⟨_, rfl⟩
      rw [ha] at H1 H2 H3
      have HAR := Lib.hid ha
      have HBD : Hid (a ≤ 2) := by have := ar_le x.k; rw [ha] at this; exact this.2
      clear ha
      by_cases h0 : a < 0
      · have HZ := Lib.hid (H1.out h0)
        have d1 : decide (a < 0) = true := decide_eq_true h0
        go_wp2_with fail
        refine (arP_eq x.k _).mono ?_
        rw [HAR.out]
        rintro e w' ⟨rfl, rfl⟩
        go_wp2_with fail
        rw [Exit.noGoto_ret]
        go_ret2
        rw [HZ.out.1, HZ.out.2]
        exact ⟨rfl, HB.out.alloc HB.out.size _⟩
      · obtain ⟨a, rfl⟩ : ∃ a' : Nat, a = (a' : Int) := ⟨a.toNat, by omega⟩
        have d1 : decide ((a : Int) < 0) = false := decide_eq_false h0
        have HB1 : Hid (Below w.heap.size w (wr.alloc (nb x))) := HB.out.alloc HB.out.size _
        have hS1 : Stk w.heap.size (wr.alloc (nb x)) g c st := Ap.own_below HS.out (below1 wr (nb x))
        obtain ⟨g', c', w2, hrun, hS2, hB2⟩ := hS1.push a HB1.out.size (by omega)
        rw [show (wr.alloc (nb x)).heap.size = wr.heap.size + 1 by simp] at hrun
        have R := Lib.hid hrun
        have HYA : Hid (∀ y ∈ st ++ [a], y ≤ 2) := Lib.hid fun y hy => by
          rcases List.mem_append.1 hy with h | h
          · exact HY.out y h
          · rw [List.mem_singleton] at h; have := HBD.out; omega
        have HL : Hid ((st ++ [a]).length = st.length + 1) := by show _ = _; simp
        have HS2 := Lib.hid hS2
        have HB2 := Lib.hid (HB1.out.trans hB2)
        have HG : Hid (w.heap.size ≤ g') := by obtain ⟨_, _, hb', _⟩ := hS2.parts; exact hb'
        obtain ⟨n, hn⟩ : ∃ n, st.length = n := ⟨_, rfl⟩
        rw [hn] at R H2 H3 hst HL
        clear hrun hS2 hB2 hS1
        go_wp2_with fail
        refine (arP_eq x.k _).mono ?_
        rw [HAR.out]
        rintro e w' ⟨rfl, rfl⟩
        go_wp2_with (at_builtin; refine Ap.wpList_append_run (by rfl) (.tmp 22) (.tmp 24) _ _ rfl _ _ rfl rfl _ w2 R.out ?_)
        all_goals
          go_loopg [4, 8] (n + 1) (fun g2 sv lv wy => w2 = wy ∧ sv = .slice (some ⟨g', 0, none⟩) (n + 1) c' ∧ g2 ≤ n + 1 ∧ Hid (pop (st ++ [a]).reverse = pop ((st ++ [a]).take g2).reverse) ∧ ((g2 = 0 ∧ lv = .int .i64 (-1)) ∨ ∃ i : Nat, g2 = i + 1 ∧ lv = .int .i64 i))
          case atStart => exact ⟨rfl, rfl, Nat.le_refl _, Lib.hid (by rw [List.take_of_length_le (by rw [HL.out]; exact Nat.le_refl _)]), Or.inr ⟨n, rfl, rfl⟩⟩
          case round =>
            obtain ⟨rfl, rfl, hg2, HP, ⟨rfl, rfl⟩ | ⟨i, rfl, rfl⟩⟩ := hrel
            · have HE := Lib.hid (H2.out a rfl HP.out)
              go_wp2_with fail
              rw [Exit.noGoto_ret]
              go_ret2
              rw [HE.out.1, HE.out.2]
              refine ⟨?_, HB2.out⟩
              first
                | (rw [Nat.max_eq_left (by omega)]; rfl)
                | (rw [Nat.max_eq_right (by omega)]; rfl)
            · have hi : i < (st ++ [a]).length := by rw [HL.out]; omega
              have ci := HS2.out.cell i hi
              have HPI := Lib.hid (HP.out.trans (congrArg pop (pop_last hi)))
              obtain ⟨y, hy⟩ : ∃ y, (st ++ [a])[i] = y := ⟨_, rfl⟩
              rw [hy] at ci HPI
              have HY2 : Hid (y ≤ 2) := HYA.out y (by rw [← hy]; exact List.getElem_mem hi)
              clear hy
              cases y with
              | zero =>
                go_wp2_with fail
                go_roundg i
                case measure => omega
                case rel =>
                  refine ⟨rfl, rfl, by omega, HPI, ?_⟩
                  cases i with
                  | zero => exact Or.inl ⟨rfl, rfl⟩
                  | succ j => exact Or.inr ⟨j, rfl, by go_num⟩
              | succ z =>
                have hwz : wrap64 ((z : Nat) : Int) = (z : Int) := by have := HY2.out; unfold wrap64; omega
                have HYZ : Hid (∀ y ∈ (st ++ [a]).take i ++ [z], y ≤ 2) := Lib.hid fun y hy => by
                  rcases List.mem_append.1 hy with h | h
                  · exact HYA.out y (List.mem_of_mem_take h)
                  · rw [List.mem_singleton] at h; have := HY2.out; omega
                have hic : i + 1 ≤ c' := by have := HS2.out.cap.1; omega
                have HZ := Lib.hid (HS2.out.down i z hi)
                have HN : Hid (Rest l (k + 1) ((st ++ [a]).take i ++ [z]) (max d (n + 1))) := H3.out a _ rfl (HPI.out.trans (by rw [List.reverse_concat]; rfl))
                have HLZ : Hid (((st ++ [a]).take i ++ [z]).length = i + 1) := by
                  show _ = _
                  rw [List.length_append, List.length_take]
                  simp only [List.length_cons, List.length_nil]
                  omega
                have fi := HS2.out.soft i
                go_wp2_with fail
                go_roundg (gk - 1)
                case measure => omega
                case rel =>
                  refine ⟨k + 1, max d (n + 1), g', c', (st ++ [a]).take i ++ [z], by omega, by omega, by rw [HLZ.out]; omega, ?_, by rw [HLZ.out], rfl, HZ, Lib.hid (below_setCell HB2.out _ _ _ HG.out), HN, HYZ⟩
                  first
                    | (rw [Nat.max_eq_left (by omega)]; done)
                    | (rw [Nat.max_eq_right (by omega)]; rfl)
    · have HZ := Lib.hid (HR.out.out hlt)
      go_wp2_with fail
      rw [Exit.noGoto_ret]
      go_ret2
      rw [HZ.out.1, HZ.out.2]
      exact ⟨rfl, HB.out⟩
set_option maxHeartbeats 1000000 in
theorem measure_empty (a : Option Addr) (cap : Nat) (w : World) :
    Calls Try.prog 35 #[.slice a 0 cap] w fun e w' => e = .returned (.tuple #[.int .i64 0, .int .i64 0]) ∧ Below w.heap.size w w' := by
  obtain ⟨i0, hi0, hz0, hs0, hb0⟩ := info_parts infoI
  go_enter Try.func35, Try.ntmps35
  go_wp2_with fail
  go_step3
  go_wp2_with (at_make; refine wpList_make_own _ rfl _ _ 55 rfl w.heap.size 3 i0 _ 1 Try.underlying55 hi0 hz0 hs0 .i64 .i64 _ 16 rfl rfl rfl (by rw [hb0]; omega) (by unfold maxLen; omega) (Nat.le_refl _) ?_; intro w0 hown0 hgrow0)
  go_step3
  go_wp2_with fail
  refine Go.wp_loop_rounds 1 ?_
  rw [rounds_succ]
  go_wp2_with fail
  rw [Exit.noGoto_ret]
  go_ret2
  exact ⟨rfl, (Below.refl _ _).grown hgrow0 (Nat.le_refl _) (fun k hk => by cases hk)⟩
theorem measure_big (v : Value) (l : List Nd) (w : World) (h : Nds w v l) (hl : l.length ≤ 4398046511104) :
    Calls Try.prog 35 #[v] w fun e w' => e = .returned (.tuple #[.int .i64 (size l), .int .i64 (depth l)]) ∧ Below w.heap.size w w' := by
  rcases h.form with ⟨rfl, a, cap, rfl⟩ | ⟨b, off, cap, rfl, _, hat⟩
  · exact measure_empty a cap w
  · exact measure_cells b off cap l w hat hl
set_option maxHeartbeats 400000 in
theorem sizeP_big (v : Value) (l : List Nd) (w : World) (h : Nds w v l) (hl : l.length ≤ 4398046511104) :
    Calls Try.prog 27 #[v] w fun e w' => e = .returned (.int .i64 (size l)) ∧ Below w.heap.size w w' := by
  have H := Lib.hid h
  clear h
  go_enter Try.func27, Try.ntmps27
  go_wp2_with fail
  refine (measure_big v l _ H.out hl).mono ?_
  rintro e w' ⟨rfl, hb⟩
  have HB := Lib.hid hb
  clear hb
  go_wp2_with fail
  go_ret
  exact ⟨rfl, HB.out⟩
theorem sizeP_any (v : Value) (l : List Nd) (w : World) (h : Nds w v l) (hl : l.length ≤ 1000000) :
    Calls Try.prog 27 #[v] w fun e w' => e = .returned (.int .i64 (size l)) ∧ Below w.heap.size w w' := sizeP_big v l w h (by omega)
end Go.Proofs.Ytpingbiibbmcaab.Rx

namespace Go.Proofs.Ytpingbiibbmcaab.Rx
open Go Go.RowKit Rw
set_option maxRecDepth 20000

def sgn (s : Int) : Bool := decide (1 ≤ s) && decide (s ≤ 3)
set_option maxHeartbeats 1000000 in
theorem sign_any (s : Int) (w : World) : Calls Try.prog 38 #[.int .i64 s] w fun e w' => e = .returned (.bool (sgn s)) ∧ w = w' := by
  by_cases h : s = 1 ∨ s = 2 ∨ s = 3
  · rcases h with rfl | rfl | rfl
    all_goals
      go_enter Try.func38, Try.ntmps38
      go_wp2_with fail
      go_ret
      exact ⟨rfl, rfl⟩
  · have b1 : (s == 1) = false := by rw [beq_eq_false_iff_ne]; omega
    have b2 : (s == 2) = false := by rw [beq_eq_false_iff_ne]; omega
    have b3 : (s == 3) = false := by rw [beq_eq_false_iff_ne]; omega
    have hb : sgn s = false := by simp [sgn]; omega
    rw [hb]
    clear hb h
    go_enter Try.func38, Try.ntmps38
    go_wp2_with fail
    go_ret
    exact ⟨rfl, rfl⟩
theorem eq_nd (x y : Nd) (w : World) : (binOp .eql 29 (.agg #[.int .i64 x.k, .string x.n, .int .i64 x.s]) (.agg #[.int .i64 y.k, .string y.n, .int .i64 y.s])).run Try.prog w = .ok (.bool (decide (x = y))) w := by
  rw [run_eql_struct, show (10000 : Nat) = 9998 + 2 from rfl, eql_nd]
  rfl
theorem below_any (w : World) (o : Obj) : Below w.heap.size w (w.alloc o) := (Below.refl _ _).alloc (Nat.le_refl _) _

theorem below2 (w : World) (o p : Obj) : Below w.heap.size w ((w.alloc o).alloc p) := (below_any w o).alloc (below_any w o).size p
theorem low_nm (n : ByteArray) : (low n.data.toList && (decide (1 ≤ n.size) && decide (n.size ≤ 8)) && true && !wordB n) = nm n := by unfold nm; simp
set_option maxHeartbeats 4000000 in
theorem rgtP_act (n : ByteArray) (s : Int) (w : World) (hn : n.size ≤ 140737488355328) : Calls Try.prog 30 #[.agg #[.int .i64 1, .string n, .int .i64 s]] w fun e w' => e = .returned (.bool (rgt ⟨1, n, s⟩)) ∧ Below w.heap.size w w' := by
  have hq := eq_nd ⟨1, n, s⟩ ⟨1, n, 0⟩
  by_cases h0 : s = 0
  · subst h0
    have HR : Hid (rgt ⟨1, n, 0⟩ = nm n) := (rgt_act n 0).trans (low_nm n)
    rw [decide_eq_true rfl] at hq
    go_enter Try.func30, Try.ntmps30
    go_wp2_with fail
    refine (name_any n _ hn).mono ?_
    rintro e w' ⟨rfl, hb⟩
    have HB := Lib.hid hb
    clear hb
    go_wp2_with fail
    go_ret
    exact ⟨ret_bool HR.out.symm, (below2 w _ _).trans (HB.out.mono (below2 w _ _).size)⟩
  · have HR : Hid (rgt ⟨1, n, s⟩ = false) := (rgt_act n s).trans (by rw [show (s == 0) = false by simpa using h0]; simp)
    rw [decide_eq_false (fun e => h0 (nd_ext.1 e).2.2)] at hq
    clear h0
    go_enter Try.func30, Try.ntmps30
    go_wp2_with fail
    go_ret
    exact ⟨ret_bool HR.out.symm, below2 w _ _⟩
set_option maxHeartbeats 4000000 in
theorem rgtP_sign (k : Int) (n : ByteArray) (s : Int) (w : World) (hk : k = 11 ∨ k = 14) : Calls Try.prog 30 #[.agg #[.int .i64 k, .string n, .int .i64 s]] w fun e w' => e = .returned (.bool (rgt ⟨k, n, s⟩)) ∧ Below w.heap.size w w' := by
  have hq := eq_nd ⟨k, n, s⟩ ⟨k, ⟨#[]⟩, s⟩
  by_cases h0 : n.size = 0
  · have HR : Hid (rgt ⟨k, n, s⟩ = sgn s) := (rgt_sign n s hk).trans (by rw [decide_eq_true h0, Bool.true_and]; rfl)
    obtain rfl := empty_of h0
    rw [decide_eq_true rfl] at hq
    clear h0
    rcases hk with rfl | rfl
    all_goals
      go_enter Try.func30, Try.ntmps30
      go_wp2_with fail
      refine (sign_any s _).mono ?_
      rintro e w' ⟨rfl, rfl⟩
      go_wp2_with fail
      go_ret
      exact ⟨ret_bool HR.out.symm, below2 w _ _⟩
  · have HR : Hid (rgt ⟨k, n, s⟩ = false) := (rgt_sign n s hk).trans (by rw [decide_eq_false h0, Bool.false_and])
    rw [decide_eq_false (fun e => h0 (congrArg ByteArray.size (nd_ext.1 e).2.1))] at hq
    clear h0
    rcases hk with rfl | rfl
    all_goals
      go_enter Try.func30, Try.ntmps30
      go_wp2_with fail
      go_ret
      exact ⟨ret_bool HR.out.symm, below2 w _ _⟩
theorem rgt_no {k : Int} (n : ByteArray) (s : Int) (h0 : ar k < 0) : rgt ⟨k, n, s⟩ = false := by unfold rgt; rw [if_pos h0]
set_option maxHeartbeats 4000000 in
theorem rgtP_other (k : Int) (n : ByteArray) (s : Int) (w : World) (h1 : ¬ k = 1) (hk : ¬ (k = 11 ∨ k = 14)) : Calls Try.prog 30 #[.agg #[.int .i64 k, .string n, .int .i64 s]] w fun e w' => e = .returned (.bool (rgt ⟨k, n, s⟩)) ∧ Below w.heap.size w w' := by
  have hq := eq_nd ⟨k, n, s⟩ ⟨k, ⟨#[]⟩, 0⟩
  have k1 : (k == 1) = false := by rw [beq_eq_false_iff_ne]; omega
  have k2 : (k == 11) = false := by rw [beq_eq_false_iff_ne]; omega
  have k3 : (k == 14) = false := by rw [beq_eq_false_iff_ne]; omega
  have HZ : Hid (rgt ⟨k, n, s⟩ = (decide ((⟨k, n, s⟩ : Nd) = ⟨k, ⟨#[]⟩, 0⟩) && decide (ar k ≥ 0))) := by
    show _ = _
    by_cases h0 : ar k < 0
    · rw [rgt_no n s h0, decide_eq_false (show ¬ ar k ≥ 0 by omega), Bool.and_false]
    · rw [rgt_other n s h0 h1 hk, decide_eq_true (show ar k ≥ 0 by omega), Bool.and_true]
      by_cases h2 : n.size = 0
      · obtain rfl := empty_of h2
        rw [decide_eq_true h2, Bool.true_and, Bool.eq_iff_iff]
        simp
      · rw [decide_eq_false h2, Bool.false_and, decide_eq_false (fun e => h2 (congrArg ByteArray.size (nd_ext.1 e).2.1))]
  clear h1 hk
  obtain ⟨a, ha⟩ : ∃ a, ar k = a := ⟨_, rfl⟩
  rw [ha] at HZ
  have HA := Lib.hid ha
  clear ha
  by_cases h0 : (⟨k, n, s⟩ : Nd) = ⟨k, ⟨#[]⟩, 0⟩
  · rw [decide_eq_true h0, Bool.true_and] at HZ
    rw [decide_eq_true h0] at hq
    clear h0
    go_enter Try.func30, Try.ntmps30
    go_wp2_with fail
    refine (arP_eq k _).mono ?_
    rw [HA.out]
    rintro e w' ⟨rfl, rfl⟩
    go_wp2_with fail
    go_ret
    exact ⟨ret_bool HZ.out.symm, below2 w _ _⟩
  · rw [decide_eq_false h0, Bool.false_and] at HZ
    rw [decide_eq_false h0] at hq
    clear h0
    go_enter Try.func30, Try.ntmps30
    go_wp2_with fail
    go_ret
    exact ⟨ret_bool HZ.out.symm, below2 w _ _⟩
/-- The program's Right. -/
theorem rgtP_any (x : Nd) (w : World) (hn : x.n.size ≤ 140737488355328) : Calls Try.prog 30 #[.agg #[.int .i64 x.k, .string x.n, .int .i64 x.s]] w fun e w' => e = .returned (.bool (rgt x)) ∧ Below w.heap.size w w' := by
  obtain ⟨k, n, s⟩ := x
  by_cases h1 : k = 1
  · subst h1
    exact rgtP_act n s w hn
  · by_cases hk : k = 11 ∨ k = 14
    · exact rgtP_sign k n s w hk
    · exact rgtP_other k n s w h1 hk
end Go.Proofs.Ytpingbiibbmcaab.Rx

namespace Go.Proofs.Ytpingbiibbmcaab.Rx
open Go Go.RowKit Rw
set_option maxRecDepth 20000

end Go.Proofs.Ytpingbiibbmcaab.Rx

namespace Go.Proofs.Ytpingbiibbmcaab.Tr
open Go Go.RowKit
set_option maxRecDepth 20000

end Go.Proofs.Ytpingbiibbmcaab.Tr

namespace Go.Proofs.Ytpingbiibbmcaab.So
open Go Go.RowKit Go.Proofs.Ytpingbiibbmcaab.Rw
set_option maxRecDepth 20000

end Go.Proofs.Ytpingbiibbmcaab.So

namespace Go.Proofs.Ytpingbiibbmcaab.Rx
open Go Go.RowKit Rw
set_option maxRecDepth 20000

theorem heap_newK (w : World) (o : Obj) : (w.alloc o).heap[w.heap.size]? = some o := by
  show (w.heap.push o)[w.heap.size]? = some o
  simp
theorem own_madeK (w : World) : (w.alloc (.cells #[] 29)).ownsRow w.heap.size 29 3 (.slice (some ⟨w.heap.size, 0, none⟩) 0 0) 0 [] :=
  ⟨rfl, .inr ⟨w.heap.size, 0, #[], rfl, Nat.le_refl _, heap_newK w _, Nat.le_refl _, Nat.zero_le _, rfl, rfl⟩⟩

set_option maxHeartbeats 800000 in
theorem clone_any (x : Value) (l : List Nd) (w : World) (hx : Nds w x l) (hlen : l.length ≤ 1000000) :
    Calls Try.prog 34 #[x] w fun e w' => ∃ v, e = .returned v ∧ w'.ownsRow w.heap.size 29 3 v l.length (cls l) ∧ Below w.heap.size w w' := by
  have q : ∀ (w : World) (a : Option Addr) (n c n' c' : Nat), (binOp .eql 22 (.slice a n c) (.slice none n' c')).run Try.prog w = .ok (.bool a.isNone) w := fun w a n c n' c' => Lib.run_eql_slice_nil w _ _ a n c n' c' Try.underlying22
  have hb0 : Below w.heap.size w (w.alloc (.cells #[] 29)) := below1 w _
  obtain ⟨v1, w1, hrun, hown, _, hb, _⟩ := run_append_nds (l := []) (own_madeK w) hb0.size (hx.below hb0) (by simp; omega)
  rw [List.nil_append] at hown
  obtain ⟨hl, a, c, rfl, _, hn, _⟩ := hx
  cases a with
  | none =>
    obtain ⟨h0, rfl⟩ := hn rfl
    obtain rfl : l = [] := List.eq_nil_of_length_eq_zero h0
    clear hrun hown hb hb0 hl hn h0
    go_enter Try.func34, Try.ntmps34
    go_wp2_with fail
    go_ret
    exact ⟨_, rfl, ⟨rfl, .inl ⟨rfl, rfl⟩⟩, Below.refl _ _⟩
  | some ad =>
    have R := Lib.hid hrun
    have O := Lib.hid hown
    have B := Lib.hid (hb0.trans hb)
    clear hrun hown hb hb0 hn hl
    go_enter Try.func34, Try.ntmps34
    go_wp2_with (at_builtin; refine Ap.wpList_append_run (by rfl) _ _ _ _ rfl _ _ rfl rfl v1 w1 R.out ?_)
    go_ret
    exact ⟨_, rfl, O.out, B.out⟩

/-- Rows of the call's own, none in a given block. -/
def OwnK (base : Nat) (out : Option Nat) (w : World) : List Value → List (List Nd) → Prop
  | [], [] => True
  | a :: cs, r :: rs => (w.ownsRow base 29 3 a r.length (cls r) ∧ ∀ g, a.ownBlock = some g → some g ≠ out) ∧ OwnK base out w cs rs
  | _, _ => False
theorem OwnK.below {base : Nat} {out : Option Nat} {w w' : World} (hb : Below w.heap.size w w') : ∀ {cs : List Value} {ls : List (List Nd)}, OwnK base out w cs ls → OwnK base out w' cs ls
  | [], [], _ => trivial
  | _ :: _, _ :: _, h => ⟨⟨Ap.own_below h.1.1 hb, h.1.2⟩, OwnK.below hb h.2⟩
  | [], _ :: _, h => h.elim
  | _ :: _, [], h => h.elim
theorem OwnK.snoc {base : Nat} {out : Option Nat} {w : World} {a : Value} {r : List Nd} (ha : w.ownsRow base 29 3 a r.length (cls r)) (hn : ∀ g, a.ownBlock = some g → some g ≠ out) : ∀ {cs : List Value} {ls : List (List Nd)}, OwnK base out w cs ls → OwnK base out w (cs ++ [a]) (ls ++ [r])
  | [], [], _ => ⟨⟨ha, hn⟩, trivial⟩
  | _ :: _, _ :: _, h => ⟨h.1, OwnK.snoc ha hn h.2⟩
  | [], _ :: _, h => h.elim
  | _ :: _, [], h => h.elim
theorem own_grown {w w' : World} {base size n : Nat} {e : TypeId} {v : Value} {xs : List Value} {r : Option Nat} (h : w.ownsRow base e size v n xs) (hg : w.grownBy w' r) (hr : ∀ g, v.ownBlock = some g → some g ≠ r) : w'.ownsRow base e size v n xs := by
  obtain ⟨hl, h | ⟨g, cap, cur, rfl, hb, hh, h1, h2, h3, h4⟩⟩ := h
  · exact ⟨hl, .inl h⟩
  · refine ⟨hl, .inr ⟨g, cap, cur, rfl, hb, ?_, h1, h2, h3, h4⟩⟩
    rw [hg.block g (Nat.lt_of_not_le fun hle => by rw [Array.getElem?_eq_none hle] at hh; cases hh) (hr g rfl)]
    exact hh
theorem OwnK.grow {base : Nat} {w w' : World} {v v' : Value} (hg : w.grownBy w' v.ownBlock) (hf : Ap.Fresh w v v') : ∀ {cs : List Value} {ls : List (List Nd)}, OwnK base v.ownBlock w cs ls → OwnK base v'.ownBlock w' cs ls
  | [], [], _ => trivial
  | a :: _, r :: _, h => by
    refine ⟨⟨own_grown h.1.1 hg h.1.2, fun g hgo => ?_⟩, OwnK.grow hg hf h.2⟩
    have hlt := Ap.own_lt h.1.1 g hgo
    rcases hf with e | ⟨k, e, hk⟩
    · rw [e]; exact h.1.2 g hgo
    · rw [e]
      intro e2
      cases e2
      omega
  | [], _ :: _, h => h.elim
  | _ :: _, [], h => h.elim
theorem own_rdO {base : Nat} {out : Option Nat} {w : World} {a : Value} {r : List Nd} (h : w.ownsRow base 29 3 a r.length (cls r)) (hn : ∀ g, a.ownBlock = some g → some g ≠ out) : Own1 base out w a r := by
  obtain ⟨hl, ⟨rfl, h0⟩ | ⟨g, cap, cur, rfl, hb, hh, hnc, hcm, hcs, ht⟩⟩ := h
  · refine ⟨⟨hl, none, 0, by rw [h0], by omega, fun _ => ⟨h0, rfl⟩, fun h => by omega⟩, ?_⟩
    intro b off cap e
    rw [h0] at e
    cases e
  · refine ⟨⟨hl, some ⟨g, 0, none⟩, cap, rfl, hnc, fun h => (by cases h), fun _ => ⟨g, 0, rfl, ⟨hb, hn g rfl⟩, ?_, fun j u hu => ?_⟩⟩, ?_⟩
    · exact Nat.lt_of_not_le fun hle => by
        rw [Array.getElem?_eq_none hle] at hh
        cases hh
    · have hj : j < r.length * 3 := by
        rw [← hl]
        exact (List.getElem?_eq_some_iff.1 hu).1
      rw [← ht, List.getElem?_take_of_lt hj] at hu
      simp only [World.cell?, hh, Nat.zero_add]
      simpa using hu
    · intro b off cap' e j _
      cases e
      simp [World.frozen?, hh]
theorem OwnK.ownC {base : Nat} {out : Option Nat} {w : World} : ∀ {cs : List Value} {ls : List (List Nd)}, OwnK base out w cs ls → OwnC base out w cs ls
  | [], [], _ => trivial
  | _ :: _, _ :: _, h => ⟨own_rdO h.1.1 h.1.2, OwnK.ownC h.2⟩
  | [], _ :: _, h => h.elim
  | _ :: _, [], h => h.elim
/-- What the loop has made: the first k kids, in a row of its own, each in a block of its own. -/
def MadeK (w wr : World) (v : Value) (l : List Nd) (k p : Nat) : Prop := ∃ cs d, Far l 0 k p d ∧ wr.ownsRow w.heap.size 22 1 v k cs ∧ OwnK w.heap.size v.ownBlock wr cs (kidsN k (l.drop 1)) ∧ Below w.heap.size w wr
theorem MadeK.start (w : World) (l : List Nd) : MadeK w w (.slice none 0 0) l 0 1 := ⟨[], 0, Far.start l 0, ⟨rfl, .inl ⟨rfl, rfl⟩⟩, trivial, Below.refl _ _⟩
theorem MadeK.below {w wr wr' : World} {v : Value} {l : List Nd} {k p : Nat} (h : MadeK w wr v l k p) (hb : Below wr.heap.size wr wr') : MadeK w wr' v l k p := by
  obtain ⟨cs, d, h1, h2, h3, h4⟩ := h
  exact ⟨cs, d, h1, Ap.own_below h2 hb, h3.below hb, h4.trans (hb.mono h4.size)⟩
theorem MadeK.next {w wr w1 : World} {v a : Value} {l : List Nd} {k p c' d' : Nat} (h : MadeK w wr v l k p) (ht : T (l.drop p) = some (c', d')) (hk : k ≤ 2) (ha : w1.ownsRow wr.heap.size 29 3 a ((l.drop p).take c').length (cls ((l.drop p).take c'))) (hb1 : Below wr.heap.size wr w1) (h1a : a.oneCell' = true) :
    ∃ v' w', (Builtin.append_ #[43, 43] 43 #[v, .slice (some ⟨w1.heap.size, 0, none⟩) 1 1]).run Try.prog (w1.alloc (.cells #[a] 22)) = .ok v' w' ∧ MadeK w w' v' l (k + 1) (p + c') := by
  have h' := h.below hb1
  obtain ⟨cs, d, hfar, hown, hrw, hb⟩ := h'
  have hb0 : w.heap.size ≤ wr.heap.size := by obtain ⟨_, _, _, _, _, hb⟩ := h; exact hb.size
  obtain ⟨i0, hi, hz, hs1, hb8⟩ := info_parts infoR
  obtain ⟨v', w', h1, h2, h3, h4, h5⟩ := Ap.run_append_one (P := Try.prog) (ty := 43) Try.underlying43 hi hz hs1 hb8 (by rfl) (by omega) hown hb.size #[a] rfl
    (by intro u hu; simp at hu; subst hu; exact h1a) (by unfold maxLen; omega) (by omega)
  have hne : ∀ g, a.ownBlock = some g → some g ≠ v.ownBlock := by
    intro g hg e
    obtain ⟨_, _, _, hown0, _⟩ := h
    have h1 := Ap.own_lt hown0 g e.symm
    obtain ⟨_, ⟨rfl, _⟩ | ⟨g', _, _, rfl, hg', _⟩⟩ := ha
    · cases hg
    · have : g' = g := Option.some.inj hg
      omega
  refine ⟨v', w', h1, cs ++ [a], max d d', hfar.next ht, h2, ?_, hb.trans h4⟩
  rw [kids_next hfar ht]
  exact (hrw.snoc (Ap.own_base ha hb0) hne).grow h3 h5
theorem blk_own (v : Value) : blk v = v.ownBlock := by
  unfold blk Value.ownBlock
  rfl
/-- The kids in a row of the call's own, each in a row of the call's own, which lies in another block. -/
def KidsOwn (ls : List (List Nd)) (w : World) (e : Ending) (w' : World) : Prop :=
  ∃ v cs, e = .returned v ∧ w'.ownsRow w.heap.size 22 1 v ls.length cs ∧ OwnK w.heap.size v.ownBlock w' cs ls ∧ Below w.heap.size w w'
theorem KidsOwn.post {ls : List (List Nd)} {w : World} {e : Ending} {w' : World} (h : KidsOwn ls w e w') : KidsPost ls w e w' := by
  obtain ⟨v, cs, rfl, hown, hrw, hb⟩ := h
  exact ⟨v, cs, rfl, Ap.RdO.fresh hown, by rw [blk_own]; exact hrw.ownC, hb⟩
theorem MadeK.done {w wr : World} {v : Value} {l : List Nd} {k p : Nat} (h : MadeK w wr v l k p) (hk : kids l = kidsN k (l.drop 1)) : KidsOwn (kids l) w (.returned v) wr := by
  obtain ⟨cs, d, _, hown, hrw, hb⟩ := h
  refine ⟨v, cs, rfl, ?_, ?_, hb⟩
  · rw [hk, kidsN_len]
    exact hown
  · rw [hk]
    exact hrw
theorem own_sliceK {w : World} {base size n : Nat} {e : TypeId} {v : Value} {xs : List Value} (h : w.ownsRow base e size v n xs) : ∃ a c, v = .slice a n c := by
  obtain ⟨_, ⟨rfl, rfl⟩ | ⟨g, cap, cur, rfl, _⟩⟩ := h
  · exact ⟨none, 0, rfl⟩
  · exact ⟨_, _, rfl⟩

set_option maxHeartbeats 400000 in
theorem kidsP_none (v : Value) (l : List Nd) (w : World) (hv : Nds w v l) (hl : l.length ≤ 1000000) (hs : size l = 0) :
    Calls Try.prog 25 #[v] w (KidsOwn (kids l) w) := by
  have HV := Lib.hid hv
  have HS := Lib.hid hs
  have HK : Hid (kids l = []) := by
    show _ = _
    unfold kids
    rw [if_pos hs]
  obtain ⟨_, a, cap, rfl, -⟩ := hv
  clear hs
  rw [HK.out]
  go_enter Try.func25, Try.ntmps25
  go_wp2_with fail
  refine (sizeP_any _ l _ HV.out hl).mono ?_
  rw [HS.out]
  rintro e w' ⟨rfl, hb⟩
  have HB := Lib.hid hb
  clear hb
  go_wp2_with fail
  go_ret
  exact ⟨_, [], rfl, ⟨rfl, .inl ⟨rfl, rfl⟩⟩, trivial, HB.out⟩

set_option maxHeartbeats 800000 in
theorem kidsP_leaf (b off : Nat) (l : List Nd) (w : World) (hn : Nds w (.slice (some ⟨b, off, none⟩) l.length 1) l) (hat : At w b off l) (hl : l.length ≤ 1000000) (hcap : l.length ≤ 1) (hs : size l ≠ 0) :
    Calls Try.prog 25 #[.slice (some ⟨b, off, none⟩) l.length 1] w (KidsOwn (kids l) w) := by
  have h0 : 0 < l.length := by have := size_le l; omega
  have HN := Lib.hid hn
  have HA := Lib.hid hat
  have hz := size_le l
  have HM := Lib.hid (fun k p d => kids_more (k := k) (p := p) (d := d) h0 hs)
  have HK := Lib.hid (kids_of h0 hs)
  have hbd := ar_le l[0].k
  obtain ⟨e1, e2, e3⟩ := hat 0 h0
  rw [Nat.zero_mul, Nat.add_zero] at e1 e2 e3
  obtain ⟨z, hzz⟩ : ∃ z, size l = z := ⟨_, rfl⟩
  have HZ := Lib.hid hzz
  rw [hzz] at hs hz
  have gz : ((z : Int) == 0) = false := by rw [beq_eq_false_iff_ne]; omega
  obtain ⟨y, hy⟩ : ∃ y, l[0] = y := ⟨_, rfl⟩
  rw [hy] at hbd e1 e2 e3 HM HK
  obtain ⟨x, hx⟩ : ∃ x, ar y.k = x := ⟨_, rfl⟩
  have HX := Lib.hid hx
  rw [hx] at hbd HM HK
  have E1 := Lib.hid e1
  have E2 := Lib.hid e2
  have E3 := Lib.hid e3
  have HBD := Lib.hid hbd
  clear hn hat hx hzz e1 e2 e3 hy hbd
  go_enter Try.func25, Try.ntmps25
  go_wp2_with fail
  refine (sizeP_any _ l _ HN.out hl).mono ?_
  rw [HZ.out]
  rintro e w0 ⟨rfl, hb⟩
  have HB0 := Lib.hid hb
  have c1 : w0.cell? ⟨b, off, none⟩ = some (.int .i64 y.k) := by rw [hb.cell (Ap.cell_lt E1.out)]; exact E1.out
  have c2 : w0.cell? ⟨b, off + 1, none⟩ = some (.string y.n) := by rw [hb.cell (Ap.cell_lt E2.out)]; exact E2.out
  have c3 : w0.cell? ⟨b, off + 2, none⟩ = some (.int .i64 y.s) := by rw [hb.cell (Ap.cell_lt E3.out)]; exact E3.out
  clear hb
  go_wp2_with fail
  refine (arP_eq y.k _).mono ?_
  rw [HX.out]
  rintro e w' ⟨rfl, rfl⟩
  go_wp2_with fail
  have hx0 : x ≤ 0 := by
    by_cases hx : x ≤ 0
    · exact hx
    · exfalso
      obtain ⟨c', d', ht⟩ := HM.out 0 1 0 (Far.start l 0) (by omega)
      rw [List.drop_eq_nil_of_le hcap, T_nil] at ht
      cases ht
  refine Go.wp_loop_rounds 1 ?_
  rw [rounds_succ]
  go_wp2_with fail
  go_ret
  exact ((MadeK.start w l).below HB0.out).done (by rw [HK.out, show x.toNat = 0 by omega])
set_option maxHeartbeats 800000 in
theorem kidsP_cells (b off cap : Nat) (l : List Nd) (w : World) (hn : Nds w (.slice (some ⟨b, off, none⟩) l.length cap) l) (hat : At w b off l) (hl : l.length ≤ 1000000) (hcap : l.length ≤ cap) (hs : size l ≠ 0) (hc1 : ¬ cap = 1) :
    Calls Try.prog 25 #[.slice (some ⟨b, off, none⟩) l.length cap] w (KidsOwn (kids l) w) := by
  have h0 : 0 < l.length := by have := size_le l; omega
  have HN := Lib.hid hn
  have HA := Lib.hid hat
  have hz := size_le l
  have HM := Lib.hid (fun k p d => kids_more (k := k) (p := p) (d := d) h0 hs)
  have HK := Lib.hid (kids_of h0 hs)
  have hbd := ar_le l[0].k
  obtain ⟨e1, e2, e3⟩ := hat 0 h0
  rw [Nat.zero_mul, Nat.add_zero] at e1 e2 e3
  obtain ⟨z, hzz⟩ : ∃ z, size l = z := ⟨_, rfl⟩
  have HZ := Lib.hid hzz
  rw [hzz] at hs hz
  have gz : ((z : Int) == 0) = false := by rw [beq_eq_false_iff_ne]; omega
  obtain ⟨y, hy⟩ : ∃ y, l[0] = y := ⟨_, rfl⟩
  rw [hy] at hbd e1 e2 e3 HM HK
  obtain ⟨x, hx⟩ : ∃ x, ar y.k = x := ⟨_, rfl⟩
  have HX := Lib.hid hx
  rw [hx] at hbd HM HK
  have E1 := Lib.hid e1
  have E2 := Lib.hid e2
  have E3 := Lib.hid e3
  have HBD := Lib.hid hbd
  clear hn hat hx hzz e1 e2 e3 hy hbd
  go_enter Try.func25, Try.ntmps25
  go_wp2_with fail
  refine (sizeP_any _ l _ HN.out hl).mono ?_
  rw [HZ.out]
  rintro e w0 ⟨rfl, hb⟩
  have HB0 := Lib.hid hb
  have c1 : w0.cell? ⟨b, off, none⟩ = some (.int .i64 y.k) := by rw [hb.cell (Ap.cell_lt E1.out)]; exact E1.out
  have c2 : w0.cell? ⟨b, off + 1, none⟩ = some (.string y.n) := by rw [hb.cell (Ap.cell_lt E2.out)]; exact E2.out
  have c3 : w0.cell? ⟨b, off + 2, none⟩ = some (.int .i64 y.s) := by rw [hb.cell (Ap.cell_lt E3.out)]; exact E3.out
  clear hb
  go_wp2_with fail
  refine (arP_eq y.k _).mono ?_
  rw [HX.out]
  rintro e w' ⟨rfl, rfl⟩
  go_wp2_with fail
  go_loopw [3, 4, 16] (fun kv rv iv wr => ∃ k p o : Nat, (k : Int) ≤ max x 0 ∧ p ≤ l.length ∧ rv = .slice (some ⟨b, o, none⟩) (l.length - p) (cap - p) ∧ (p < cap → o = off + p * 3) ∧ iv = .int .i64 k ∧ Hid (MadeK w wr kv l k p)) (fun _ _ i _ => (x - intOf i).toNat)
  case atStart =>
    exact ⟨0, 1, off + 3, by omega, by omega, rfl, fun _ => by omega, rfl, Lib.hid ((MadeK.start w l).below HB0.out)⟩
  case round =>
    have HC1 := Lib.hid hc1; clear hc1
    obtain ⟨k, p, o, hk, hp, rfl, ho, rfl, HD⟩ := hrel
    have HB : Hid (Below w.heap.size w wr) := by obtain ⟨_, _, _, _, _, hb⟩ := HD.out; exact hb
    by_cases hkl : (k : Int) < x
    · obtain ⟨c', d', ht⟩ : ∃ c' d', T (l.drop p) = some (c', d') := by
        obtain ⟨_, d, hfar, _⟩ := HD.out
        exact HM.out k p d hfar hkl
      have hb' := T_bd ht
      rw [List.length_drop] at hb'
      have HSZ : Hid (size (l.drop p) = c') := by show _ = _; unfold size; rw [ht]
      have HT := Lib.hid ht
      obtain rfl := ho (by omega)
      have hNr := part_nds HA.out p (l.length - p) (cap - p) (by omega) (by omega)
      rw [List.take_of_length_le (by rw [List.length_drop]; exact Nat.le_refl _)] at hNr
      have HNr := Lib.hid (hNr.below HB.out)
      have HNp := Lib.hid (part_nds HA.out p c' (cap - p) (by omega) (by omega))
      have i1 : 1 ≤ c' := by omega
      have i2 : c' ≤ l.length - p := by omega
      have i3 : c' ≤ cap - p := by omega
      have i4 : k ≤ 2 := by have := HBD.out; omega
      have HLP : Hid ((l.drop p).length ≤ 1000000 ∧ ((l.drop p).take c').length ≤ 1000000) := by
        show _ ∧ _
        rw [List.length_take, List.length_drop]
        omega
      clear ht hb' ho hNr
      go_wp2_with fail
      refine (sizeP_any _ (l.drop p) _ HNr.out HLP.out.1).mono ?_
      rw [HSZ.out]
      rintro e w1 ⟨rfl, hb1⟩
      have HB1 := Lib.hid hb1
      clear hb1
      go_wp2_with fail
      refine (clone_any _ ((l.drop p).take c') _ ((HNp.out.below HB.out).below HB1.out) HLP.out.2).mono ?_
      rintro e w2 ⟨a, rfl, hown, hb2⟩
      have hB2 := HB1.out.trans (hb2.mono HB1.out.size)
      obtain ⟨v', w', hrun, hmk⟩ := HD.out.next HT.out i4 (Ap.own_base hown HB1.out.size) hB2 (by obtain ⟨_, _, rfl⟩ := own_sliceK hown; rfl)
      obtain ⟨am, cm, rfl⟩ := own_sliceK hown
      rw [show ((l.drop p).take c').length = c' by rw [List.length_take, List.length_drop]; omega] at hrun ⊢
      have R := Lib.hid hrun
      have HD' := Lib.hid hmk
      clear hown hb2 hrun hmk hB2
      go_wp2_with (at_builtin; refine Ap.wpList_append_run (by rfl) (.tmp 20) (.tmp 25) _ _ rfl _ _ rfl rfl v' w' R.out ?_)
      go_roundw
      case rel =>
        have l1 : l.length - p - c' = l.length - (p + c') := by omega
        have l2 : cap - p - c' = cap - (p + c') := by omega
        rw [l1, l2]
        by_cases hf : cap - p = c'
        · rw [if_pos hf]
          exact ⟨k + 1, p + c', off + p * 3, by omega, by omega, rfl, fun _ => by omega, by go_num, HD'⟩
        · rw [if_neg hf]
          exact ⟨k + 1, p + c', off + p * 3 + c' * 3, by omega, by omega, rfl, fun _ => by omega, by go_num, HD'⟩
      case measure => simp [intOf]; omega
    · go_wp2_with fail
      go_ret
      exact HD.out.done (by rw [HK.out, show x.toNat = k by omega])
/-- The program's Kids. -/
theorem kidsP_own (v : Value) (l : List Nd) (w : World) (hv : Nds w v l) (hl : l.length ≤ 1000000) :
    Calls Try.prog 25 #[v] w (KidsOwn (kids l) w) := by
  by_cases hs : size l = 0
  · exact kidsP_none v l w hv hl hs
  · rcases hv.form with ⟨rfl, _, _, rfl⟩ | ⟨b, off, cap, rfl, hc, hat⟩
    · exact absurd rfl hs
    · by_cases hc1 : cap = 1
      · subst hc1
        exact kidsP_leaf b off l w hv hat hl hc hs
      · exact kidsP_cells b off cap l w hv hat hl hc hs hc1
theorem kidsP_any (v : Value) (l : List Nd) (w : World) (hv : Nds w v l) (hl : l.length ≤ 1000000) :
    Calls Try.prog 25 #[v] w (KidsPost (kids l) w) := (kidsP_own v l w hv hl).mono fun _ _ h => h.post
end Go.Proofs.Ytpingbiibbmcaab.Rx

namespace Go.Proofs.Ytpingbiibbmcaab.Sx
open Go.Proofs.Ytpingbiibbmcaab.Rw Go.Proofs.Ytpingbiibbmcaab.So

def pl (s : Nat) : Bool := s == 1 || s == 3
def pd (s : Nat) : Bool := s == 2 || s == 4
def on (s : Nat) : Bool := s == 3 || s == 4
/-- May a node of a kind have kids of these sorts? -/
def fit (k : Int) (a b : Nat) : Bool :=
  if k = 9 then pd a else if k = 14 then a == 1 else if k = 13 then pd a && b == 1
  else if k = 10 then !on a && (pl a && b == 1) else if k = 8 ∨ k = 12 then pl a && b == 1
  else if k = 6 then !on a && (!on b && (pl a && pl b || pd a && pd b)) else if k = 5 then !on b && (pl a && pl b || pd a && pd b)
  else if k = 7 then pl a && pl b || pd a && pd b else true
/-- The sort that it then is of. -/
def made (k : Int) (a b : Nat) : Nat :=
  if k = 5 ∨ k = 6 ∨ k = 7 ∨ k = 8 then max a b else if k = 9 then (if a = 4 then 3 else 1) else if k = 11 then 3
  else if k = 10 then 2 else if k = 12 ∨ k = 13 ∨ k = 14 then 4 else 1
def comb (k : Int) (a b : Nat) : Nat := if fit k a b then made k a b else 0
theorem first_le (l : List Nd) : first l ≤ 4 := by
  unfold first
  repeat' split
  all_goals omega
theorem apart_of (l : List Nd) : ¬ (Is 3 l = true ∧ Is 4 l = true) := apart l.length l (Nat.le_refl _)
theorem is_first (l : List Nd) : Is 1 l = (first l == 1) ∧ Is 2 l = (first l == 2) ∧ Is 3 l = pl (first l) ∧ Is 4 l = pd (first l) := by
  have h := apart_of l
  have h1 := @one_three l
  have h2 := @two_four l
  unfold first
  cases e1 : Is 1 l <;> cases e2 : Is 2 l <;> cases e3 : Is 3 l <;> cases e4 : Is 4 l <;> simp [e1, e2, e3, e4, pl, pd] at h h1 h2 ⊢
/-- The document's steps, with the sorts of the kids. -/
def p1 (k : Int) (a b : Nat) : Bool := if k = 1 ∨ k = 2 ∨ k = 3 ∨ k = 4 then true else if k = 5 ∨ k = 6 ∨ k = 7 ∨ k = 8 then a == 1 && b == 1 else if k = 9 then a == 2 else false
def p2 (k : Int) (a b : Nat) : Bool := if k = 10 then a == 1 && b == 1 else if k = 5 ∨ k = 6 ∨ k = 7 then a == 2 && b == 2 else false
def p3 (k : Int) (a b : Nat) : Bool := if k = 11 then true else if k = 5 ∨ k = 8 then pl a && b == 1 else if k = 7 then pl a && pl b else if k = 9 then pd a else false
def p4 (k : Int) (a b : Nat) : Bool := if k = 12 then pl a && b == 1 else if k = 5 then pd a && b == 2 else if k = 7 then pd a && pd b else if k = 13 then pd a && b == 1 else if k = 14 then a == 1 else false
def step (k : Int) (a b : Nat) : Nat := if p1 k a b then 1 else if p2 k a b then 2 else if p1 k a b || p3 k a b then 3 else if p2 k a b || p4 k a b then 4 else 0
theorem first_step (l : List Nd) : first l = step (hd l) (first (k0 l)) (first (k1 l)) := by
  obtain ⟨a1, a2, a3, a4⟩ := is_first (k0 l)
  obtain ⟨b1, b2, b3, b4⟩ := is_first (k1 l)
  have h1 : Is 1 l = p1 (hd l) (first (k0 l)) (first (k1 l)) := by
    rw [Is_one]; unfold plainB p1; rw [a1, a2, b1]
  have h2 : Is 2 l = p2 (hd l) (first (k0 l)) (first (k1 l)) := by
    rw [Is_two]; unfold pairedB p2; rw [a1, a2, b1, b2]
  have h3 : Is 3 l = (p1 (hd l) (first (k0 l)) (first (k1 l)) || p3 (hd l) (first (k0 l)) (first (k1 l))) := by
    rw [Is_three, ← Is_one, h1]; unfold plainOnB p3; rw [a3, a4, b1, b3]
  have h4 : Is 4 l = (p2 (hd l) (first (k0 l)) (first (k1 l)) || p4 (hd l) (first (k0 l)) (first (k1 l))) := by
    rw [Is_four, ← Is_two, h2]; unfold pairedOnB p4; rw [a1, a3, a4, b1, b2, b4]
  rw [first, h1, h2, h3, h4]
  rfl
theorem steps : ∀ k ∈ ([1, 2, 3, 4, 5, 6, 7, 8, 9, 10, 11, 12, 13, 14] : List Int), ∀ a ∈ ([0, 1, 2, 3, 4] : List Nat), ∀ b ∈ ([0, 1, 2, 3, 4] : List Nat), step k a b = comb k a b := by decide +kernel
theorem mem5 {a : Nat} (h : a ≤ 4) : a ∈ ([0, 1, 2, 3, 4] : List Nat) := by
  simp only [List.mem_cons, List.not_mem_nil, or_false]
  omega
theorem first_comb {l : List Nd} (h : 0 ≤ Rw.ar (hd l)) : first l = comb (hd l) (first (k0 l)) (first (k1 l)) := by
  rw [first_step]
  refine steps _ ?_ _ (mem5 (first_le _)) _ (mem5 (first_le _))
  simp only [List.mem_cons, List.not_mem_nil, or_false]
  exact kinds h
theorem first_nil : first [] = 0 := by decide +kernel
/-- A tree is its first node and its kids. -/
theorem parts {l : List Nd} (h : Tre l) : ∃ n, hd l = n.k ∧ l = n :: (kids l).flatten := by
  have hs : Rw.size l ≠ 0 := by rw [h.size]; have := h.pos; omega
  cases l with
  | nil => exact absurd h.pos (Nat.lt_irrefl 0)
  | cons n r =>
    have := kids_flat hs
    rw [h.size, List.take_length] at this
    exact ⟨n, rfl, this.symm⟩
theorem parts0 {l : List Nd} (h : Tre l) (h0 : Rw.ar (hd l) = 0) : ∃ n, hd l = n.k ∧ l = [n] ∧ first l = comb n.k 0 0 := by
  obtain ⟨n, hn, hl⟩ := parts h
  have hk : kids l = [] := by
    have := h.kids.1
    rw [h0] at this
    exact List.eq_nil_of_length_eq_zero this
  refine ⟨n, hn, by rw [hl, hk]; rfl, ?_⟩
  rw [first_comb (by omega), hn, show k0 l = [] by unfold k0; rw [hk]; rfl, show k1 l = [] by unfold k1; rw [hk]; rfl, first_nil]
theorem parts1 {l : List Nd} (h : Tre l) (h0 : Rw.ar (hd l) = 1) : ∃ n a, hd l = n.k ∧ l = n :: a ∧ Tre a ∧ first l = comb n.k (first a) 0 := by
  obtain ⟨n, hn, hl⟩ := parts h
  obtain ⟨a, hk, ha, _⟩ := h.one h0
  refine ⟨n, a, hn, by rw [hl, hk]; simp, ha, ?_⟩
  rw [first_comb (by omega), hn, show k0 l = a by unfold k0; rw [hk]; rfl, show k1 l = [] by unfold k1; rw [hk]; rfl, first_nil]
theorem parts2 {l : List Nd} (h : Tre l) (h0 : Rw.ar (hd l) = 2) : ∃ n a b, hd l = n.k ∧ l = n :: (a ++ b) ∧ Tre a ∧ Tre b ∧ first l = comb n.k (first a) (first b) := by
  obtain ⟨n, hn, hl⟩ := parts h
  obtain ⟨a, b, hk, ha, hb, _⟩ := h.two h0
  refine ⟨n, a, b, hn, by rw [hl, hk]; simp, ha, hb, ?_⟩
  rw [first_comb (by omega), hn, show k0 l = a by unfold k0; rw [hk]; rfl, show k1 l = b by unfold k1; rw [hk]; rfl]
end Go.Proofs.Ytpingbiibbmcaab.Sx
