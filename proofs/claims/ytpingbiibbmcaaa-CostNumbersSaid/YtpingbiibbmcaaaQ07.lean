/- The program's Right. The program's Same: slices.Equal over nodes. What the program's package row is asked to do, as contracts of its calls; and the statements' own first look at it, walked from them. The document's Kids: its rows are parts of the row that was given, wherever that was made. The document's Set: by halves. -/
import Derived.Test.YtpingbiibbmcaaaQ06
import Derived.Test.YtpingbiibbmcaaaQ05
import Derived.IntWalk

namespace Go.Proofs.Ytpingbiibbmcaaa.Rx
open Go Go.RowKit Rw
set_option maxRecDepth 20000

def sgn (s : Int) : Bool := decide (1 ≤ s) && decide (s ≤ 3)
set_option maxHeartbeats 1000000 in
theorem sign_any (s : Int) (w : World) : Calls Try.prog 88 #[.int .i64 s] w fun e w' => e = .returned (.bool (sgn s)) ∧ w = w' := by
  by_cases h : s = 1 ∨ s = 2 ∨ s = 3
  · rcases h with rfl | rfl | rfl
    all_goals
      go_enter Try.func88, Try.ntmps88
      go_wp2_with fail
      go_ret
      exact ⟨rfl, rfl⟩
  · have b1 : (s == 1) = false := by rw [beq_eq_false_iff_ne]; omega
    have b2 : (s == 2) = false := by rw [beq_eq_false_iff_ne]; omega
    have b3 : (s == 3) = false := by rw [beq_eq_false_iff_ne]; omega
    have hb : sgn s = false := by simp [sgn]; omega
    rw [hb]
    clear hb h
    go_enter Try.func88, Try.ntmps88
    go_wp2_with fail
    go_ret
    exact ⟨rfl, rfl⟩
theorem eq_nd (x y : Nd) (w : World) : (binOp .eql 37 (.agg #[.int .i64 x.k, .string x.n, .int .i64 x.s]) (.agg #[.int .i64 y.k, .string y.n, .int .i64 y.s])).run Try.prog w = .ok (.bool (decide (x = y))) w := by
  rw [run_eql_struct, show (10000 : Nat) = 9998 + 2 from rfl, eql_nd]
  rfl
theorem below_any (w : World) (o : Obj) : Below w.heap.size w (w.alloc o) := (Below.refl _ _).alloc (Nat.le_refl _) _

theorem below2 (w : World) (o p : Obj) : Below w.heap.size w ((w.alloc o).alloc p) := (below_any w o).alloc (below_any w o).size p
theorem low_nm (n : ByteArray) : (low n.data.toList && (decide (1 ≤ n.size) && decide (n.size ≤ 8)) && true && !wordB n) = nm n := by unfold nm; simp
set_option maxHeartbeats 4000000 in
theorem rgtP_act (n : ByteArray) (s : Int) (w : World) (hn : n.size ≤ 140737488355328) : Calls Try.prog 60 #[.agg #[.int .i64 1, .string n, .int .i64 s]] w fun e w' => e = .returned (.bool (rgt ⟨1, n, s⟩)) ∧ Below w.heap.size w w' := by
  have hq := eq_nd ⟨1, n, s⟩ ⟨1, n, 0⟩
  by_cases h0 : s = 0
  · subst h0
    have HR : Hid (rgt ⟨1, n, 0⟩ = nm n) := (rgt_act n 0).trans (low_nm n)
    rw [decide_eq_true rfl] at hq
    go_enter Try.func60, Try.ntmps60
    go_wp2_with fail
    refine (name_any n _ hn).mono ?_
    rintro e w' ⟨rfl, hb⟩
    have HB := Lib.hid hb
    clear hb
    go_wp2_with fail
    go_ret
    exact ⟨ret_bool HR.out.symm, (below2 w _ _).trans (HB.out.mono (below2 w _ _).size)⟩
  · have HR : Hid (rgt ⟨1, n, s⟩ = false) := (rgt_act n s).trans (by rw [show (s == 0) = false by simpa using h0]; simp)
    rw [decide_eq_false (fun e => h0 (nd_ext.1 e).2.2)] at hq
    clear h0
    go_enter Try.func60, Try.ntmps60
    go_wp2_with fail
    go_ret
    exact ⟨ret_bool HR.out.symm, below2 w _ _⟩
set_option maxHeartbeats 4000000 in
theorem rgtP_sign (k : Int) (n : ByteArray) (s : Int) (w : World) (hk : k = 11 ∨ k = 14) : Calls Try.prog 60 #[.agg #[.int .i64 k, .string n, .int .i64 s]] w fun e w' => e = .returned (.bool (rgt ⟨k, n, s⟩)) ∧ Below w.heap.size w w' := by
  have hq := eq_nd ⟨k, n, s⟩ ⟨k, ⟨#[]⟩, s⟩
  by_cases h0 : n.size = 0
  · have HR : Hid (rgt ⟨k, n, s⟩ = sgn s) := (rgt_sign n s hk).trans (by rw [decide_eq_true h0, Bool.true_and]; rfl)
    obtain rfl := empty_of h0
    rw [decide_eq_true rfl] at hq
    clear h0
    rcases hk with rfl | rfl
    all_goals
      go_enter Try.func60, Try.ntmps60
      go_wp2_with fail
      refine (sign_any s _).mono ?_
      rintro e w' ⟨rfl, rfl⟩
      go_wp2_with fail
      go_ret
      exact ⟨ret_bool HR.out.symm, below2 w _ _⟩
  · have HR : Hid (rgt ⟨k, n, s⟩ = false) := (rgt_sign n s hk).trans (by rw [decide_eq_false h0, Bool.false_and])
    rw [decide_eq_false (fun e => h0 (congrArg ByteArray.size (nd_ext.1 e).2.1))] at hq
    clear h0
    rcases hk with rfl | rfl
    all_goals
      go_enter Try.func60, Try.ntmps60
      go_wp2_with fail
      go_ret
      exact ⟨ret_bool HR.out.symm, below2 w _ _⟩
theorem rgt_no {k : Int} (n : ByteArray) (s : Int) (h0 : ar k < 0) : rgt ⟨k, n, s⟩ = false := by unfold rgt; rw [if_pos h0]
set_option maxHeartbeats 4000000 in
theorem rgtP_other (k : Int) (n : ByteArray) (s : Int) (w : World) (h1 : ¬ k = 1) (hk : ¬ (k = 11 ∨ k = 14)) : Calls Try.prog 60 #[.agg #[.int .i64 k, .string n, .int .i64 s]] w fun e w' => e = .returned (.bool (rgt ⟨k, n, s⟩)) ∧ Below w.heap.size w w' := by
  have hq := eq_nd ⟨k, n, s⟩ ⟨k, ⟨#[]⟩, 0⟩
  have k1 : (k == 1) = false := by rw [beq_eq_false_iff_ne]; omega
  have k2 : (k == 11) = false := by rw [beq_eq_false_iff_ne]; omega
  have k3 : (k == 14) = false := by rw [beq_eq_false_iff_ne]; omega
  have HZ : Hid (rgt ⟨k, n, s⟩ = (decide ((⟨k, n, s⟩ : Nd) = ⟨k, ⟨#[]⟩, 0⟩) && decide (ar k ≥ 0))) := by
    show _ = _
    by_cases h0 : ar k < 0
    · rw [rgt_no n s h0, decide_eq_false (show ¬ ar k ≥ 0 by omega), Bool.and_false]
    · rw [rgt_other n s h0 h1 hk, decide_eq_true (show ar k ≥ 0 by omega), Bool.and_true]
      by_cases h2 : n.size = 0
      · obtain rfl := empty_of h2
        rw [decide_eq_true h2, Bool.true_and, Bool.eq_iff_iff]
        simp
      · rw [decide_eq_false h2, Bool.false_and, decide_eq_false (fun e => h2 (congrArg ByteArray.size (nd_ext.1 e).2.1))]
  clear h1 hk
  obtain ⟨a, ha⟩ : ∃ a, ar k = a := ⟨_, rfl⟩
  rw [ha] at HZ
  have HA := Lib.hid ha
  clear ha
  by_cases h0 : (⟨k, n, s⟩ : Nd) = ⟨k, ⟨#[]⟩, 0⟩
  · rw [decide_eq_true h0, Bool.true_and] at HZ
    rw [decide_eq_true h0] at hq
    clear h0
    go_enter Try.func60, Try.ntmps60
    go_wp2_with fail
    refine (arP_eq k _).mono ?_
    rw [HA.out]
    rintro e w' ⟨rfl, rfl⟩
    go_wp2_with fail
    go_ret
    exact ⟨ret_bool HZ.out.symm, below2 w _ _⟩
  · rw [decide_eq_false h0, Bool.false_and] at HZ
    rw [decide_eq_false h0] at hq
    clear h0
    go_enter Try.func60, Try.ntmps60
    go_wp2_with fail
    go_ret
    exact ⟨ret_bool HZ.out.symm, below2 w _ _⟩
/-- The program's Right. -/
theorem rgtP_any (x : Nd) (w : World) (hn : x.n.size ≤ 140737488355328) : Calls Try.prog 60 #[.agg #[.int .i64 x.k, .string x.n, .int .i64 x.s]] w fun e w' => e = .returned (.bool (rgt x)) ∧ Below w.heap.size w w' := by
  obtain ⟨k, n, s⟩ := x
  by_cases h1 : k = 1
  · subst h1
    exact rgtP_act n s w hn
  · by_cases hk : k = 11 ∨ k = 14
    · exact rgtP_sign k n s w hk
    · exact rgtP_other k n s w h1 hk
end Go.Proofs.Ytpingbiibbmcaaa.Rx

namespace Go.Proofs.Ytpingbiibbmcaaa.Rx
open Go Go.RowKit Rw
set_option maxRecDepth 20000

set_option maxHeartbeats 400000 in
theorem eqP_other (a1 a2 : Option Addr) (c1 c2 n m : Nat) (w : World) (h : n ≠ m) :
    Calls Try.prog 93 #[.slice a1 n c1, .slice a2 m c2] w fun e w' => e = .returned (.bool false) ∧ Below w.heap.size w w' := by
  have hne : ((n : Int) == (m : Int)) = false := by rw [beq_eq_false_iff_ne]; omega
  have hne' : ((n : Int) != (m : Int)) = true := by rw [bne_iff_ne]; omega
  go_enter Try.func93, Try.ntmps93
  go_wp2_with fail
  go_ret
  exact ⟨rfl, Below.refl _ _⟩
set_option maxHeartbeats 400000 in
theorem eqP_empty (a1 a2 : Option Addr) (c1 c2 : Nat) (w : World) :
    Calls Try.prog 93 #[.slice a1 0 c1, .slice a2 0 c2] w fun e w' => e = .returned (.bool true) ∧ Below w.heap.size w w' := by
  go_enter Try.func93, Try.ntmps93
  go_wp2_with fail
  refine Go.wp_loop_rounds 1 ?_
  rw [rounds_succ]
  go_wp2_with fail
  go_ret
  exact ⟨rfl, Below.refl _ _⟩
set_option maxHeartbeats 2000000 in
theorem eqP_cells (b1 o1 c1 b2 o2 c2 : Nat) (l m : List Nd) (w : World) (hl : l.length ≤ 1000000) (he : m.length = l.length) (h1 : At w b1 o1 l) (h2 : At w b2 o2 m) :
    Calls Try.prog 93 #[.slice (some ⟨b1, o1, none⟩) l.length c1, .slice (some ⟨b2, o2, none⟩) l.length c2] w fun e w' => e = .returned (.bool (sameN l m)) ∧ Below w.heap.size w w' := by
  have H1 := Lib.hid h1
  have H2 := Lib.hid h2
  have HE := Lib.hid he
  clear h1 h2 he
  go_enter Try.func93, Try.ntmps93
  go_wp2_with fail
  go_loopw [13] (fun i wr => ∃ k : Nat, k ≤ l.length ∧ i = .int .i64 k ∧ Below w.heap.size w wr ∧ sameN l m = sameN (l.drop k) (m.drop k)) (fun i _ => l.length - (intOf i).toNat)
  case atStart => exact ⟨0, Nat.zero_le _, rfl, Below.refl _ _, rfl⟩
  case round =>
    obtain ⟨k, hk, rfl, hb, hsame⟩ := hrel
    have HB := Lib.hid hb
    have HS := Lib.hid hsame
    clear hb hsame
    by_cases hlt : k < l.length
    · have hlt2 : k < m.length := by rw [HE.out]; exact hlt
      obtain ⟨e1, e2, e3⟩ := H1.out k hlt
      obtain ⟨e1', e2', e3'⟩ := H2.out k hlt2
      have d1 : wr.cell? ⟨b1, o1 + k * 3, none⟩ = some (.int .i64 l[k].k) := by rw [HB.out.cell (Ap.cell_lt e1)]; exact e1
      have d2 : wr.cell? ⟨b1, o1 + k * 3 + 1, none⟩ = some (.string l[k].n) := by rw [HB.out.cell (Ap.cell_lt e2)]; exact e2
      have d3 : wr.cell? ⟨b1, o1 + k * 3 + 2, none⟩ = some (.int .i64 l[k].s) := by rw [HB.out.cell (Ap.cell_lt e3)]; exact e3
      have d4 : wr.cell? ⟨b2, o2 + k * 3, none⟩ = some (.int .i64 m[k].k) := by rw [HB.out.cell (Ap.cell_lt e1')]; exact e1'
      have d5 : wr.cell? ⟨b2, o2 + k * 3 + 1, none⟩ = some (.string m[k].n) := by rw [HB.out.cell (Ap.cell_lt e2')]; exact e2'
      have d6 : wr.cell? ⟨b2, o2 + k * 3 + 2, none⟩ = some (.int .i64 m[k].s) := by rw [HB.out.cell (Ap.cell_lt e3')]; exact e3'
      have HA := Lib.hid (HS.out.trans (sameN_at hlt hlt2))
      clear e1 e2 e3 e1' e2' e3'
      obtain ⟨u, hu⟩ : ∃ u, l[k] = u := ⟨_, rfl⟩
      obtain ⟨v, hv⟩ : ∃ v, m[k] = v := ⟨_, rfl⟩
      rw [hu] at d1 d2 d3 HA
      rw [hv] at d4 d5 d6 HA
      clear hu hv
      have hq := neq_nd u v
      by_cases huv : u = v
      · rw [decide_eq_true huv] at hq
        have HV := Lib.hid huv
        clear huv
        go_wp2_with fail
        go_quiet (fail)
        go_wp2_with fail
        go_roundw
        case rel => exact ⟨k + 1, by omega, by go_num, HB.out.trans (Below.drewN _ _ _), by rw [HA.out, decide_eq_true HV.out, Bool.true_and]⟩
        case measure => simp [intOf]; omega
      · rw [decide_eq_false huv] at hq
        have HV := Lib.hid huv
        clear huv
        go_wp2_with fail
        go_quiet (fail)
        go_wp2_with fail
        go_ret
        exact ⟨ret_bool (by rw [HA.out, decide_eq_false HV.out, Bool.false_and]), HB.out.trans (Below.drewN _ _ _)⟩
    · go_wp2_with fail
      go_ret
      refine ⟨ret_bool ?_, HB.out⟩
      rw [HS.out, List.drop_eq_nil_of_le (by omega), List.drop_eq_nil_of_le (by rw [HE.out]; omega)]
      rfl
theorem eqP_any (x y : Value) (l m : List Nd) (w : World) (hx : Nds w x l) (hy : Nds w y m) (hl : l.length ≤ 1000000) :
    Calls Try.prog 93 #[x, y] w fun e w' => e = .returned (.bool (sameN l m)) ∧ Below w.heap.size w w' := by
  by_cases he : l.length = m.length
  · rcases hx.form with ⟨rfl, a, cap, rfl⟩ | ⟨b, off, cap, rfl, _, hc⟩
    · obtain rfl : m = [] := List.eq_nil_of_length_eq_zero he.symm
      obtain ⟨_, a', cap', rfl, _⟩ := hy
      exact eqP_empty a a' cap cap' w
    · rcases hy.form with ⟨rfl, a', cap', rfl⟩ | ⟨b', off', cap', rfl, _, hc'⟩
      · obtain rfl : l = [] := List.eq_nil_of_length_eq_zero he
        exact eqP_empty _ a' cap cap' w
      · rw [← he]
        exact eqP_cells b off cap b' off' cap' l m w hl he.symm hc hc'
  · rw [sameN_len he]
    obtain ⟨_, a, cap, rfl, _⟩ := hx
    obtain ⟨_, a', cap', rfl, _⟩ := hy
    exact eqP_other a a' cap cap' l.length m.length w he

set_option maxHeartbeats 400000 in
theorem sameP_any (x y : Value) (l m : List Nd) (w : World) (hx : Nds w x l) (hy : Nds w y m) (hl : l.length ≤ 1000000) :
    Calls Try.prog 73 #[x, y] w fun e w' => e = .returned (.bool (sameN l m)) ∧ Below w.heap.size w w' := by
  have HX := Lib.hid hx
  have HY := Lib.hid hy
  obtain ⟨q, hq⟩ : ∃ q, sameN l m = q := ⟨_, rfl⟩
  rw [hq]
  have HQ := Lib.hid hq
  clear hx hy hq
  go_enter Try.func73, Try.ntmps73
  go_wp2_with fail
  refine (eqP_any x y l m _ HX.out HY.out hl).mono ?_
  rw [HQ.out]
  rintro e w' ⟨rfl, hb⟩
  have HB := Lib.hid hb
  clear hb
  go_wp2_with fail
  go_ret
  exact ⟨rfl, HB.out⟩
end Go.Proofs.Ytpingbiibbmcaaa.Rx

namespace Go.Proofs.Ytpingbiibbmcaaa.Rw
open Go Go.RowKit
set_option maxRecDepth 20000

/-- The tree of the first look. -/
def n0 : Nd := ⟨5, ⟨#[]⟩, 0⟩
def n1 : Nd := ⟨1, ⟨#[97]⟩, 0⟩
def n2 : Nd := ⟨6, ⟨#[]⟩, 0⟩
def n3 : Nd := ⟨2, ⟨#[]⟩, 0⟩
def n4 : Nd := ⟨3, ⟨#[]⟩, 0⟩
def aL : List Nd := [n0, n1, n2, n3, n4]
end Go.Proofs.Ytpingbiibbmcaaa.Rw

namespace Go.Proofs.Ytpingbiibbmcaaa.Rw
open Go Go.RowKit
set_option maxRecDepth 20000

end Go.Proofs.Ytpingbiibbmcaaa.Rw

namespace Go.Proofs.Ytpingbiibbmcaaa.Tr
open Go Go.RowKit
set_option maxRecDepth 20000

end Go.Proofs.Ytpingbiibbmcaaa.Tr
