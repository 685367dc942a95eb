/- The program's Size and Depth: the walk of measure. The program's Right. The program's Same: slices.Equal over nodes. What the program's package row is asked to do, as contracts of its calls; and the statements' own first look at it, walked from them. The document's Kids: its rows are parts of the row that was given, wherever that was made. The document's Set: by halves. -/
import Derived.Test.YtpingbiibbmcaaaGreatQ06
import Derived.Test.YtpingbiibbmcaaaGreatQ05
import Derived.IntWalk

namespace Go.Proofs.YtpingbiibbmcaaaGreat.Rx
open Go Go.RowKit Rw
set_option maxRecDepth 20000

set_option maxHeartbeats 2000000 in
theorem measure_cells (b off cap : Nat) (l : List Nd) (w : World) (hat : At w b off l) (hl : l.length ≤ 4398046511104) :
    Calls Tryz.prog 97 #[.slice (some ⟨b, off, none⟩) l.length cap] w fun e w' => e = .returned (.tuple #[.int .i64 (size l), .int .i64 (depth l)]) ∧ Below w.heap.size w w' := by
  have HA := Lib.hid hat
  clear hat
  obtain ⟨i0, hi0, hz0, hs0, hb0⟩ := info_parts infoI
  go_enter Tryz.func97, Tryz.ntmps97
  go_wp2_with fail
  go_step3
  go_wp2_with (at_make; refine wpList_make_own _ rfl _ _ 23 rfl w.heap.size 3 i0 _ 1 Tryz.underlying23 hi0 hz0 hs0 .i64 .i64 _ 16 rfl rfl rfl (by rw [hb0]; omega) (by unfold maxLen; omega) (Nat.le_refl _) ?_; intro w0 hown0 hgrow0)
  go_step3
  go_wp2_with fail
  go_loopg [3, 4, 12] l.length (fun g0 dv ov iv wr => ∃ (k d g c : Nat) (st : List Nat), k + g0 = l.length ∧ d ≤ k ∧ st.length ≤ k ∧ dv = .int .i64 d ∧ ov = .slice (some ⟨g, 0, none⟩) st.length c ∧ iv = .int .i64 k ∧ Hid (Stk w.heap.size wr g c st) ∧ Hid (Below w.heap.size w wr) ∧ Hid (Rest l k st d) ∧ Hid (∀ y ∈ st, y ≤ 2))
  case atStart =>
    exact ⟨0, 0, w.heap.size, 16, [], Nat.zero_add _, Nat.le_refl _, Nat.le_refl _, rfl, rfl, rfl, Lib.hid hown0, Lib.hid ((Below.refl _ _).grown hgrow0 (Nat.le_refl _) (fun k hk => by cases hk)), Lib.hid (Rest.start l), Lib.hid (fun y hy => by cases hy)⟩
  case round =>
    obtain ⟨k, d, g, c, st, hk, hd, hst, rfl, rfl, rfl, HS, HB, HR, HY⟩ := hrel
    by_cases hlt : k < l.length
    · obtain ⟨e1, e2, e3⟩ := HA.out k hlt
      have c1 : wr.cell? ⟨b, off + k * 3, none⟩ = some (.int .i64 l[k].k) := by rw [HB.out.cell (Ap.cell_lt e1)]; exact e1
      have c2 : wr.cell? ⟨b, off + k * 3 + 1, none⟩ = some (.string l[k].n) := by rw [HB.out.cell (Ap.cell_lt e2)]; exact e2
      have c3 : wr.cell? ⟨b, off + k * 3 + 2, none⟩ = some (.int .i64 l[k].s) := by rw [HB.out.cell (Ap.cell_lt e3)]; exact e3
      have H1 := Lib.hid (fun ha => HR.out.stop hlt ha)
      have H2 := Lib.hid (fun a ha hp => HR.out.end (a := a) hlt ha hp)
      have H3 := Lib.hid (fun a s ha hp => HR.out.more (a := a) (s := s) hlt ha hp)
      obtain ⟨x, hx⟩ : ∃ x, l[k] = x := ⟨_, rfl⟩
      rw [hx] at c1 c2 c3 H1 H2 H3
      clear hx e1 e2 e3
      obtain ⟨a, ha⟩ : ∃ a, ar x.k = a := ⟨_, rfl⟩
      rw [ha] at H1 H2 H3
      have HAR := Lib.hid ha
      have HBD : Hid (a ≤ 2) := by have := ar_le x.k; rw [ha] at this; exact this.2
      clear ha
      by_cases h0 : a < 0
      · have HZ := Lib.hid (H1.out h0)
        have d1 : decide (a < 0) = true := decide_eq_true h0
        go_wp2_with fail
        refine (arP_eq x.k _).mono ?_
        rw [HAR.out]
        rintro e w' ⟨rfl, rfl⟩
        go_wp2_with fail
        rw [Exit.noGoto_ret]
        go_ret2
        rw [HZ.out.1, HZ.out.2]
        exact ⟨rfl, HB.out.alloc HB.out.size _⟩
      · obtain ⟨a, rfl⟩ : ∃ a' : Nat, a = (a' : Int) := ⟨a.toNat, by omega⟩
        have d1 : decide ((a : Int) < 0) = false := decide_eq_false h0
        have HB1 : Hid (Below w.heap.size w (wr.alloc (nb x))) := HB.out.alloc HB.out.size _
        have hS1 : Stk w.heap.size (wr.alloc (nb x)) g c st := Ap.own_below HS.out (below1 wr (nb x))
        obtain ⟨g', c', w2, hrun, hS2, hB2⟩ := hS1.push a HB1.out.size (by omega)
        rw [show (wr.alloc (nb x)).heap.size = wr.heap.size + 1 by simp] at hrun
        have R := Lib.hid hrun
        have HYA : Hid (∀ y ∈ st ++ [a], y ≤ 2) := Lib.hid fun y hy => by
          rcases List.mem_append.1 hy with h | h
          · exact HY.out y h
          · rw [List.mem_singleton] at h; have := HBD.out; omega
        have HL : Hid ((st ++ [a]).length = st.length + 1) := by show _ = _; simp
        have HS2 := Lib.hid hS2
        have HB2 := Lib.hid (HB1.out.trans hB2)
        have HG : Hid (w.heap.size ≤ g') := by obtain ⟨_, _, hb', _⟩ := hS2.parts; exact hb'
        obtain ⟨n, hn⟩ : ∃ n, st.length = n := ⟨_, rfl⟩
        rw [hn] at R H2 H3 hst HL
        clear hrun hS2 hB2 hS1
        go_wp2_with fail
        refine (arP_eq x.k _).mono ?_
        rw [HAR.out]
        rintro e w' ⟨rfl, rfl⟩
        go_wp2_with (at_builtin; refine Ap.wpList_append_run (by rfl) (.tmp 22) (.tmp 24) _ _ rfl _ _ rfl rfl _ w2 R.out ?_)
        all_goals
          go_loopg [4, 8] (n + 1) (fun g2 sv lv wy => w2 = wy ∧ sv = .slice (some ⟨g', 0, none⟩) (n + 1) c' ∧ g2 ≤ n + 1 ∧ Hid (pop (st ++ [a]).reverse = pop ((st ++ [a]).take g2).reverse) ∧ ((g2 = 0 ∧ lv = .int .i64 (-1)) ∨ ∃ i : Nat, g2 = i + 1 ∧ lv = .int .i64 i))
          case atStart => exact ⟨rfl, rfl, Nat.le_refl _, Lib.hid (by rw [List.take_of_length_le (by rw [HL.out]; exact Nat.le_refl _)]), Or.inr ⟨n, rfl, rfl⟩⟩
          case round =>
            obtain ⟨rfl, rfl, hg2, HP, ⟨rfl, rfl⟩ | ⟨i, rfl, rfl⟩⟩ := hrel
            · have HE := Lib.hid (H2.out a rfl HP.out)
              go_wp2_with fail
              rw [Exit.noGoto_ret]
              go_ret2
              rw [HE.out.1, HE.out.2]
              refine ⟨?_, HB2.out⟩
              first
                | (rw [Nat.max_eq_left (by omega)]; rfl)
                | (rw [Nat.max_eq_right (by omega)]; rfl)
            · have hi : i < (st ++ [a]).length := by rw [HL.out]; omega
              have ci := HS2.out.cell i hi
              have HPI := Lib.hid (HP.out.trans (congrArg pop (pop_last hi)))
              obtain ⟨y, hy⟩ : ∃ y, (st ++ [a])[i] = y := ⟨_, rfl⟩
              rw [hy] at ci HPI
              have HY2 : Hid (y ≤ 2) := HYA.out y (by rw [← hy]; exact List.getElem_mem hi)
              clear hy
              cases y with
              | zero =>
                go_wp2_with fail
                go_roundg i
                case measure => omega
                case rel =>
                  refine ⟨rfl, rfl, by omega, HPI, ?_⟩
                  cases i with
                  | zero => exact Or.inl ⟨rfl, rfl⟩
                  | succ j => exact Or.inr ⟨j, rfl, by go_num⟩
              | succ z =>
                have hwz : wrap64 ((z : Nat) : Int) = (z : Int) := by have := HY2.out; unfold wrap64; omega
                have HYZ : Hid (∀ y ∈ (st ++ [a]).take i ++ [z], y ≤ 2) := Lib.hid fun y hy => by
                  rcases List.mem_append.1 hy with h | h
                  · exact HYA.out y (List.mem_of_mem_take h)
                  · rw [List.mem_singleton] at h; have := HY2.out; omega
                have hic : i + 1 ≤ c' := by have := HS2.out.cap.1; omega
                have HZ := Lib.hid (HS2.out.down i z hi)
                have HN : Hid (Rest l (k + 1) ((st ++ [a]).take i ++ [z]) (max d (n + 1))) := H3.out a _ rfl (HPI.out.trans (by rw [List.reverse_concat]; rfl))
                have HLZ : Hid (((st ++ [a]).take i ++ [z]).length = i + 1) := by
                  show _ = _
                  rw [List.length_append, List.length_take]
                  simp only [List.length_cons, List.length_nil]
                  omega
                have fi := HS2.out.soft i
                go_wp2_with fail
                go_roundg (gk - 1)
                case measure => omega
                case rel =>
                  refine ⟨k + 1, max d (n + 1), g', c', (st ++ [a]).take i ++ [z], by omega, by omega, by rw [HLZ.out]; omega, ?_, by rw [HLZ.out], rfl, HZ, Lib.hid (below_setCell HB2.out _ _ _ HG.out), HN, HYZ⟩
                  first
                    | (rw [Nat.max_eq_left (by omega)]; done)
                    | (rw [Nat.max_eq_right (by omega)]; rfl)
    · have HZ := Lib.hid (HR.out.out hlt)
      go_wp2_with fail
      rw [Exit.noGoto_ret]
      go_ret2
      rw [HZ.out.1, HZ.out.2]
      exact ⟨rfl, HB.out⟩
set_option maxHeartbeats 1000000 in
theorem measure_empty (a : Option Addr) (cap : Nat) (w : World) :
    Calls Tryz.prog 97 #[.slice a 0 cap] w fun e w' => e = .returned (.tuple #[.int .i64 0, .int .i64 0]) ∧ Below w.heap.size w w' := by
  obtain ⟨i0, hi0, hz0, hs0, hb0⟩ := info_parts infoI
  go_enter Tryz.func97, Tryz.ntmps97
  go_wp2_with fail
  go_step3
  go_wp2_with (at_make; refine wpList_make_own _ rfl _ _ 23 rfl w.heap.size 3 i0 _ 1 Tryz.underlying23 hi0 hz0 hs0 .i64 .i64 _ 16 rfl rfl rfl (by rw [hb0]; omega) (by unfold maxLen; omega) (Nat.le_refl _) ?_; intro w0 hown0 hgrow0)
  go_step3
  go_wp2_with fail
  refine Go.wp_loop_rounds 1 ?_
  rw [rounds_succ]
  go_wp2_with fail
  rw [Exit.noGoto_ret]
  go_ret2
  exact ⟨rfl, (Below.refl _ _).grown hgrow0 (Nat.le_refl _) (fun k hk => by cases hk)⟩
theorem measure_big (v : Value) (l : List Nd) (w : World) (h : Nds w v l) (hl : l.length ≤ 4398046511104) :
    Calls Tryz.prog 97 #[v] w fun e w' => e = .returned (.tuple #[.int .i64 (size l), .int .i64 (depth l)]) ∧ Below w.heap.size w w' := by
  rcases h.form with ⟨rfl, a, cap, rfl⟩ | ⟨b, off, cap, rfl, _, hat⟩
  · exact measure_empty a cap w
  · exact measure_cells b off cap l w hat hl
set_option maxHeartbeats 400000 in
theorem sizeP_big (v : Value) (l : List Nd) (w : World) (h : Nds w v l) (hl : l.length ≤ 4398046511104) :
    Calls Tryz.prog 79 #[v] w fun e w' => e = .returned (.int .i64 (size l)) ∧ Below w.heap.size w w' := by
  have H := Lib.hid h
  clear h
  go_enter Tryz.func79, Tryz.ntmps79
  go_wp2_with fail
  refine (measure_big v l _ H.out hl).mono ?_
  rintro e w' ⟨rfl, hb⟩
  have HB := Lib.hid hb
  clear hb
  go_wp2_with fail
  go_ret
  exact ⟨rfl, HB.out⟩
theorem sizeP_any (v : Value) (l : List Nd) (w : World) (h : Nds w v l) (hl : l.length ≤ 1000000) :
    Calls Tryz.prog 79 #[v] w fun e w' => e = .returned (.int .i64 (size l)) ∧ Below w.heap.size w w' := sizeP_big v l w h (by omega)
end Go.Proofs.YtpingbiibbmcaaaGreat.Rx

namespace Go.Proofs.YtpingbiibbmcaaaGreat.Rx
open Go Go.RowKit Rw
set_option maxRecDepth 20000

def sgn (s : Int) : Bool := decide (1 ≤ s) && decide (s ≤ 3)
set_option maxHeartbeats 1000000 in
theorem sign_any (s : Int) (w : World) : Calls Tryz.prog 100 #[.int .i64 s] w fun e w' => e = .returned (.bool (sgn s)) ∧ w = w' := by
  by_cases h : s = 1 ∨ s = 2 ∨ s = 3
  · rcases h with rfl | rfl | rfl
    all_goals
      go_enter Tryz.func100, Tryz.ntmps100
      go_wp2_with fail
      go_ret
      exact ⟨rfl, rfl⟩
  · have b1 : (s == 1) = false := by rw [beq_eq_false_iff_ne]; omega
    have b2 : (s == 2) = false := by rw [beq_eq_false_iff_ne]; omega
    have b3 : (s == 3) = false := by rw [beq_eq_false_iff_ne]; omega
    have hb : sgn s = false := by simp [sgn]; omega
    rw [hb]
    clear hb h
    go_enter Tryz.func100, Tryz.ntmps100
    go_wp2_with fail
    go_ret
    exact ⟨rfl, rfl⟩
theorem eq_nd (x y : Nd) (w : World) : (binOp .eql 39 (.agg #[.int .i64 x.k, .string x.n, .int .i64 x.s]) (.agg #[.int .i64 y.k, .string y.n, .int .i64 y.s])).run Tryz.prog w = .ok (.bool (decide (x = y))) w := by
  rw [run_eql_struct, show (10000 : Nat) = 9998 + 2 from rfl, eql_nd]
  rfl
theorem below_any (w : World) (o : Obj) : Below w.heap.size w (w.alloc o) := (Below.refl _ _).alloc (Nat.le_refl _) _

theorem below2 (w : World) (o p : Obj) : Below w.heap.size w ((w.alloc o).alloc p) := (below_any w o).alloc (below_any w o).size p
theorem low_nm (n : ByteArray) : (low n.data.toList && (decide (1 ≤ n.size) && decide (n.size ≤ 8)) && true && !wordB n) = nm n := by unfold nm; simp
set_option maxHeartbeats 4000000 in
theorem rgtP_act (n : ByteArray) (s : Int) (w : World) (hn : n.size ≤ 140737488355328) : Calls Tryz.prog 82 #[.agg #[.int .i64 1, .string n, .int .i64 s]] w fun e w' => e = .returned (.bool (rgt ⟨1, n, s⟩)) ∧ Below w.heap.size w w' := by
  have hq := eq_nd ⟨1, n, s⟩ ⟨1, n, 0⟩
  by_cases h0 : s = 0
  · subst h0
    have HR : Hid (rgt ⟨1, n, 0⟩ = nm n) := (rgt_act n 0).trans (low_nm n)
    rw [decide_eq_true rfl] at hq
    go_enter Tryz.func82, Tryz.ntmps82
    go_wp2_with fail
    refine (name_any n _ hn).mono ?_
    rintro e w' ⟨rfl, hb⟩
    have HB := Lib.hid hb
    clear hb
    go_wp2_with fail
    go_ret
    exact ⟨ret_bool HR.out.symm, (below2 w _ _).trans (HB.out.mono (below2 w _ _).size)⟩
  · have HR : Hid (rgt ⟨1, n, s⟩ = false) := (rgt_act n s).trans (by rw [show (s == 0) = false by simpa using h0]; simp)
    rw [decide_eq_false (fun e => h0 (nd_ext.1 e).2.2)] at hq
    clear h0
    go_enter Tryz.func82, Tryz.ntmps82
    go_wp2_with fail
    go_ret
    exact ⟨ret_bool HR.out.symm, below2 w _ _⟩
set_option maxHeartbeats 4000000 in
theorem rgtP_sign (k : Int) (n : ByteArray) (s : Int) (w : World) (hk : k = 11 ∨ k = 14) : Calls Tryz.prog 82 #[.agg #[.int .i64 k, .string n, .int .i64 s]] w fun e w' => e = .returned (.bool (rgt ⟨k, n, s⟩)) ∧ Below w.heap.size w w' := by
  have hq := eq_nd ⟨k, n, s⟩ ⟨k, ⟨#[]⟩, s⟩
  by_cases h0 : n.size = 0
  · have HR : Hid (rgt ⟨k, n, s⟩ = sgn s) := (rgt_sign n s hk).trans (by rw [decide_eq_true h0, Bool.true_and]; rfl)
    obtain rfl := empty_of h0
    rw [decide_eq_true rfl] at hq
    clear h0
    rcases hk with rfl | rfl
    all_goals
      go_enter Tryz.func82, Tryz.ntmps82
      go_wp2_with fail
      refine (sign_any s _).mono ?_
      rintro e w' ⟨rfl, rfl⟩
      go_wp2_with fail
      go_ret
      exact ⟨ret_bool HR.out.symm, below2 w _ _⟩
  · have HR : Hid (rgt ⟨k, n, s⟩ = false) := (rgt_sign n s hk).trans (by rw [decide_eq_false h0, Bool.false_and])
    rw [decide_eq_false (fun e => h0 (congrArg ByteArray.size (nd_ext.1 e).2.1))] at hq
    clear h0
    rcases hk with rfl | rfl
    all_goals
      go_enter Tryz.func82, Tryz.ntmps82
      go_wp2_with fail
      go_ret
      exact ⟨ret_bool HR.out.symm, below2 w _ _⟩
theorem rgt_no {k : Int} (n : ByteArray) (s : Int) (h0 : ar k < 0) : rgt ⟨k, n, s⟩ = false := by unfold rgt; rw [if_pos h0]
set_option maxHeartbeats 4000000 in
theorem rgtP_other (k : Int) (n : ByteArray) (s : Int) (w : World) (h1 : ¬ k = 1) (hk : ¬ (k = 11 ∨ k = 14)) : Calls Tryz.prog 82 #[.agg #[.int .i64 k, .string n, .int .i64 s]] w fun e w' => e = .returned (.bool (rgt ⟨k, n, s⟩)) ∧ Below w.heap.size w w' := by
  have hq := eq_nd ⟨k, n, s⟩ ⟨k, ⟨#[]⟩, 0⟩
  have k1 : (k == 1) = false := by rw [beq_eq_false_iff_ne]; omega
  have k2 : (k == 11) = false := by rw [beq_eq_false_iff_ne]; omega
  have k3 : (k == 14) = false := by rw [beq_eq_false_iff_ne]; omega
  have HZ : Hid (rgt ⟨k, n, s⟩ = (decide ((⟨k, n, s⟩ : Nd) = ⟨k, ⟨#[]⟩, 0⟩) && decide (ar k ≥ 0))) := by
    show _ = _
    by_cases h0 : ar k < 0
    · rw [rgt_no n s h0, decide_eq_false (show ¬ ar k ≥ 0 by omega), Bool.and_false]
    · rw [rgt_other n s h0 h1 hk, decide_eq_true (show ar k ≥ 0 by omega), Bool.and_true]
      by_cases h2 : n.size = 0
      · obtain rfl := empty_of h2
        rw [decide_eq_true h2, Bool.true_and, Bool.eq_iff_iff]
        simp
      · rw [decide_eq_false h2, Bool.false_and, decide_eq_false (fun e => h2 (congrArg ByteArray.size (nd_ext.1 e).2.1))]
  clear h1 hk
  obtain ⟨a, ha⟩ : ∃ a, ar k = a := ⟨_, rfl⟩
  rw [ha] at HZ
  have HA := Lib.hid ha
  clear ha
  by_cases h0 : (⟨k, n, s⟩ : Nd) = ⟨k, ⟨#[]⟩, 0⟩
  · rw [decide_eq_true h0, Bool.true_and] at HZ
    rw [decide_eq_true h0] at hq
    clear h0
    go_enter Tryz.func82, Tryz.ntmps82
    go_wp2_with fail
    refine (arP_eq k _).mono ?_
    rw [HA.out]
    rintro e w' ⟨rfl, rfl⟩
    go_wp2_with fail
    go_ret
    exact ⟨ret_bool HZ.out.symm, below2 w _ _⟩
  · rw [decide_eq_false h0, Bool.false_and] at HZ
    rw [decide_eq_false h0] at hq
    clear h0
    go_enter Tryz.func82, Tryz.ntmps82
    go_wp2_with fail
    go_ret
    exact ⟨ret_bool HZ.out.symm, below2 w _ _⟩
/-- The program's Right. -/
theorem rgtP_any (x : Nd) (w : World) (hn : x.n.size ≤ 140737488355328) : Calls Tryz.prog 82 #[.agg #[.int .i64 x.k, .string x.n, .int .i64 x.s]] w fun e w' => e = .returned (.bool (rgt x)) ∧ Below w.heap.size w w' := by
  obtain ⟨k, n, s⟩ := x
  by_cases h1 : k = 1
  · subst h1
    exact rgtP_act n s w hn
  · by_cases hk : k = 11 ∨ k = 14
    · exact rgtP_sign k n s w hk
    · exact rgtP_other k n s w h1 hk
end Go.Proofs.YtpingbiibbmcaaaGreat.Rx

namespace Go.Proofs.YtpingbiibbmcaaaGreat.Rx
open Go Go.RowKit Rw
set_option maxRecDepth 20000

set_option maxHeartbeats 400000 in
theorem eqP_other (a1 a2 : Option Addr) (c1 c2 n m : Nat) (w : World) (h : n ≠ m) :
    Calls Tryz.prog 104 #[.slice a1 n c1, .slice a2 m c2] w fun e w' => e = .returned (.bool false) ∧ Below w.heap.size w w' := by
  have hne : ((n : Int) == (m : Int)) = false := by rw [beq_eq_false_iff_ne]; omega
  have hne' : ((n : Int) != (m : Int)) = true := by rw [bne_iff_ne]; omega
  go_enter Tryz.func104, Tryz.ntmps104
  go_wp2_with fail
  go_ret
  exact ⟨rfl, Below.refl _ _⟩
set_option maxHeartbeats 400000 in
theorem eqP_empty (a1 a2 : Option Addr) (c1 c2 : Nat) (w : World) :
    Calls Tryz.prog 104 #[.slice a1 0 c1, .slice a2 0 c2] w fun e w' => e = .returned (.bool true) ∧ Below w.heap.size w w' := by
  go_enter Tryz.func104, Tryz.ntmps104
  go_wp2_with fail
  refine Go.wp_loop_rounds 1 ?_
  rw [rounds_succ]
  go_wp2_with fail
  go_ret
  exact ⟨rfl, Below.refl _ _⟩
set_option maxHeartbeats 2000000 in
theorem eqP_cells (b1 o1 c1 b2 o2 c2 : Nat) (l m : List Nd) (w : World) (hl : l.length ≤ 1000000) (he : m.length = l.length) (h1 : At w b1 o1 l) (h2 : At w b2 o2 m) :
    Calls Tryz.prog 104 #[.slice (some ⟨b1, o1, none⟩) l.length c1, .slice (some ⟨b2, o2, none⟩) l.length c2] w fun e w' => e = .returned (.bool (sameN l m)) ∧ Below w.heap.size w w' := by
  have H1 := Lib.hid h1
  have H2 := Lib.hid h2
  have HE := Lib.hid he
  clear h1 h2 he
  go_enter Tryz.func104, Tryz.ntmps104
  go_wp2_with fail
  go_loopw [13] (fun i wr => ∃ k : Nat, k ≤ l.length ∧ i = .int .i64 k ∧ Below w.heap.size w wr ∧ sameN l m = sameN (l.drop k) (m.drop k)) (fun i _ => l.length - (intOf i).toNat)
  case atStart => exact ⟨0, Nat.zero_le _, rfl, Below.refl _ _, rfl⟩
  case round =>
    obtain ⟨k, hk, rfl, hb, hsame⟩ := hrel
    have HB := Lib.hid hb
    have HS := Lib.hid hsame
    clear hb hsame
    by_cases hlt : k < l.length
    · have hlt2 : k < m.length := by rw [HE.out]; exact hlt
      obtain ⟨e1, e2, e3⟩ := H1.out k hlt
      obtain ⟨e1', e2', e3'⟩ := H2.out k hlt2
      have d1 : wr.cell? ⟨b1, o1 + k * 3, none⟩ = some (.int .i64 l[k].k) := by rw [HB.out.cell (Ap.cell_lt e1)]; exact e1
      have d2 : wr.cell? ⟨b1, o1 + k * 3 + 1, none⟩ = some (.string l[k].n) := by rw [HB.out.cell (Ap.cell_lt e2)]; exact e2
      have d3 : wr.cell? ⟨b1, o1 + k * 3 + 2, none⟩ = some (.int .i64 l[k].s) := by rw [HB.out.cell (Ap.cell_lt e3)]; exact e3
      have d4 : wr.cell? ⟨b2, o2 + k * 3, none⟩ = some (.int .i64 m[k].k) := by rw [HB.out.cell (Ap.cell_lt e1')]; exact e1'
      have d5 : wr.cell? ⟨b2, o2 + k * 3 + 1, none⟩ = some (.string m[k].n) := by rw [HB.out.cell (Ap.cell_lt e2')]; exact e2'
      have d6 : wr.cell? ⟨b2, o2 + k * 3 + 2, none⟩ = some (.int .i64 m[k].s) := by rw [HB.out.cell (Ap.cell_lt e3')]; exact e3'
      have HA := Lib.hid (HS.out.trans (sameN_at hlt hlt2))
      clear e1 e2 e3 e1' e2' e3'
      obtain ⟨u, hu⟩ : ∃ u, l[k] = u := ⟨_, rfl⟩
      obtain ⟨v, hv⟩ : ∃ v, m[k] = v := ⟨_, rfl⟩
      rw [hu] at d1 d2 d3 HA
      rw [hv] at d4 d5 d6 HA
      clear hu hv
      have hq := neq_nd u v
      by_cases huv : u = v
      · rw [decide_eq_true huv] at hq
        have HV := Lib.hid huv
        clear huv
        go_wp2_with fail
        go_quiet (fail)
        go_wp2_with fail
        go_roundw
        case rel => exact ⟨k + 1, by omega, by go_num, HB.out.trans (Below.drewN _ _ _), by rw [HA.out, decide_eq_true HV.out, Bool.true_and]⟩
        case measure => simp [intOf]; omega
      · rw [decide_eq_false huv] at hq
        have HV := Lib.hid huv
        clear huv
        go_wp2_with fail
        go_quiet (fail)
        go_wp2_with fail
        go_ret
        exact ⟨ret_bool (by rw [HA.out, decide_eq_false HV.out, Bool.false_and]), HB.out.trans (Below.drewN _ _ _)⟩
    · go_wp2_with fail
      go_ret
      refine ⟨ret_bool ?_, HB.out⟩
      rw [HS.out, List.drop_eq_nil_of_le (by omega), List.drop_eq_nil_of_le (by rw [HE.out]; omega)]
      rfl
theorem eqP_any (x y : Value) (l m : List Nd) (w : World) (hx : Nds w x l) (hy : Nds w y m) (hl : l.length ≤ 1000000) :
    Calls Tryz.prog 104 #[x, y] w fun e w' => e = .returned (.bool (sameN l m)) ∧ Below w.heap.size w w' := by
  by_cases he : l.length = m.length
  · rcases hx.form with ⟨rfl, a, cap, rfl⟩ | ⟨b, off, cap, rfl, _, hc⟩
    · obtain rfl : m = [] := List.eq_nil_of_length_eq_zero he.symm
      obtain ⟨_, a', cap', rfl, _⟩ := hy
      exact eqP_empty a a' cap cap' w
    · rcases hy.form with ⟨rfl, a', cap', rfl⟩ | ⟨b', off', cap', rfl, _, hc'⟩
      · obtain rfl : l = [] := List.eq_nil_of_length_eq_zero he
        exact eqP_empty _ a' cap cap' w
      · rw [← he]
        exact eqP_cells b off cap b' off' cap' l m w hl he.symm hc hc'
  · rw [sameN_len he]
    obtain ⟨_, a, cap, rfl, _⟩ := hx
    obtain ⟨_, a', cap', rfl, _⟩ := hy
    exact eqP_other a a' cap cap' l.length m.length w he

set_option maxHeartbeats 400000 in
theorem sameP_any (x y : Value) (l m : List Nd) (w : World) (hx : Nds w x l) (hy : Nds w y m) (hl : l.length ≤ 1000000) :
    Calls Tryz.prog 86 #[x, y] w fun e w' => e = .returned (.bool (sameN l m)) ∧ Below w.heap.size w w' := by
  have HX := Lib.hid hx
  have HY := Lib.hid hy
  obtain ⟨q, hq⟩ : ∃ q, sameN l m = q := ⟨_, rfl⟩
  rw [hq]
  have HQ := Lib.hid hq
  clear hx hy hq
  go_enter Tryz.func86, Tryz.ntmps86
  go_wp2_with fail
  refine (eqP_any x y l m _ HX.out HY.out hl).mono ?_
  rw [HQ.out]
  rintro e w' ⟨rfl, hb⟩
  have HB := Lib.hid hb
  clear hb
  go_wp2_with fail
  go_ret
  exact ⟨rfl, HB.out⟩
end Go.Proofs.YtpingbiibbmcaaaGreat.Rx

namespace Go.Proofs.YtpingbiibbmcaaaGreat.Rw
open Go Go.RowKit
set_option maxRecDepth 20000

/-- The tree of the first look. -/
def n0 : Nd := ⟨5, ⟨#[]⟩, 0⟩
def n1 : Nd := ⟨1, ⟨#[97]⟩, 0⟩
def n2 : Nd := ⟨6, ⟨#[]⟩, 0⟩
def n3 : Nd := ⟨2, ⟨#[]⟩, 0⟩
def n4 : Nd := ⟨3, ⟨#[]⟩, 0⟩
def aL : List Nd := [n0, n1, n2, n3, n4]
end Go.Proofs.YtpingbiibbmcaaaGreat.Rw

namespace Go.Proofs.YtpingbiibbmcaaaGreat.Rw
open Go Go.RowKit
set_option maxRecDepth 20000

end Go.Proofs.YtpingbiibbmcaaaGreat.Rw

namespace Go.Proofs.YtpingbiibbmcaaaGreat.Tr
open Go Go.RowKit
set_option maxRecDepth 20000

end Go.Proofs.YtpingbiibbmcaaaGreat.Tr
