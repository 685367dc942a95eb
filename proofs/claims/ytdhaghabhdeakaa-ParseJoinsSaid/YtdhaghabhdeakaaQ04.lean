/- The document's Right, Size, Depth, Whole over rows of nodes. Plain: a tree's tokens, between brackets where they are wanted, are read as that tree. The document's Lex. The program's Arity. The document's Whole over rows of nodes. -/
import Derived.Test.YtdhaghabhdeakaaQ03
import Derived.Laws.AppendOwn
import Derived.OwnWalk

namespace Go.Proofs.Ytdhaghabhdeakaa.Rw
open Go Go.RowKit
set_option maxRecDepth 20000

theorem str_ne {s : ByteArray} {l : List UInt8} (h : ¬ s = ⟨l.toArray⟩) : (l == s.toList) = false := by
  rw [beq_eq_false_iff_ne]
  intro e
  apply h
  have : s.data.toList = s.toList := (ByteArray.toList_eq s).symm
  rw [← this] at e
  cases s with
  | mk d => simp at e; subst e; rfl
theorem str_ne' {s : ByteArray} {l : List UInt8} (h : ¬ s = ⟨l.toArray⟩) : (s.toList == l) = false := by
  have := str_ne h
  rw [beq_eq_false_iff_ne] at this ⊢
  exact fun e => this e.symm
/-- Words that no action has. -/
def w1 : ByteArray := ⟨#[115, 107, 105, 112]⟩
def w2 : ByteArray := ⟨#[116, 104, 114, 111, 119]⟩
def w3 : ByteArray := ⟨#[121, 105, 101, 108, 100]⟩
def w4 : ByteArray := ⟨#[115, 107, 105, 112, 112]⟩
def w5 : ByteArray := ⟨#[116, 104, 114, 111, 119, 119]⟩
def w6 : ByteArray := ⟨#[121, 105, 101, 108, 100, 100]⟩
def wordB (s : ByteArray) : Bool := decide (s = w1 ∨ s = w2 ∨ s = w3 ∨ s = w4 ∨ s = w5 ∨ s = w6)
set_option maxHeartbeats 1000000 in
theorem word_any (s : ByteArray) (w : World) : Calls Try.prog 80 #[.string s] w fun e w' => e = .returned (.bool (wordB s)) ∧ w = w' := by
  by_cases h : s = w1 ∨ s = w2 ∨ s = w3 ∨ s = w4 ∨ s = w5 ∨ s = w6
  · have hb : wordB s = true := by simpa [wordB] using h
    rw [hb]
    clear hb
    rcases h with rfl | rfl | rfl | rfl | rfl | rfl
    all_goals
      simp only [w1, w2, w3, w4, w5, w6]
      go_enter Try.func80, Try.ntmps80
      go_wp2_with fail
      go_ret
      exact ⟨rfl, rfl⟩
  · have hb : wordB s = false := by simpa [wordB] using h
    rw [hb]
    clear hb
    simp only [not_or] at h
    obtain ⟨h1, h2, h3, h4, h5, h6⟩ := h
    have e1 := str_ne' (l := [115, 107, 105, 112]) h1
    have e2 := str_ne' (l := [116, 104, 114, 111, 119]) h2
    have e3 := str_ne' (l := [121, 105, 101, 108, 100]) h3
    have e4 := str_ne' (l := [115, 107, 105, 112, 112]) h4
    have e5 := str_ne' (l := [116, 104, 114, 111, 119, 119]) h5
    have e6 := str_ne' (l := [121, 105, 101, 108, 100, 100]) h6
    clear h1 h2 h3 h4 h5 h6
    go_enter Try.func80, Try.ntmps80
    go_wp2_with fail
    go_ret
    exact ⟨rfl, rfl⟩

/-- Letters from a to z alone. -/
def low (l : List UInt8) : Bool := l.all fun c => decide (97 ≤ c.toNat) && decide (c.toNat ≤ 122)
theorem low_take (s : ByteArray) (k : Nat) (h : k < s.size) : low (s.data.toList.take (k + 1)) = (low (s.data.toList.take k) && (decide (97 ≤ s[k].toNat) && decide (s[k].toNat ≤ 122))) := by
  unfold low
  rw [List.take_succ_eq_append_getElem (by simpa using h), List.all_append]
  simp
  rfl
theorem low_no {s : ByteArray} {k : Nat} (h : k < s.size) (hb : (decide (97 ≤ s[k].toNat) && decide (s[k].toNat ≤ 122)) = false) : low s.data.toList = false := by
  have := low_take s k h
  rw [hb, Bool.and_false] at this
  unfold low at this ⊢
  rw [List.all_eq_false] at this ⊢
  obtain ⟨x, hx, hn⟩ := this
  exact ⟨x, List.mem_of_mem_take hx, hn⟩
/-- A node that may be. -/
def rgt (x : Nd) : Bool :=
  if ar x.k < 0 then false
  else if x.k = 1 then low x.n.data.toList && (decide (1 ≤ x.n.size) && decide (x.n.size ≤ 8)) && (x.s == 0) && !wordB x.n
  else if x.k = 11 ∨ x.k = 14 then decide (x.n.size = 0) && (decide (1 ≤ x.s) && decide (x.s ≤ 3))
  else decide (x.n.size = 0) && (x.s == 0)

set_option maxHeartbeats 2000000 in
theorem right_no (x : Nd) (w : World) (h : ar x.k < 0) : Calls Try.prog 68 #[.agg #[.int .i64 x.k, .string x.n, .int .i64 x.s]] w fun e w' => e = .returned (.bool (rgt x)) ∧ Below w.heap.size w w' := by
  have hr : rgt x = false := by unfold rgt; rw [if_pos h]
  rw [hr]
  clear hr
  obtain ⟨k, n, s⟩ := x
  obtain ⟨a, ha⟩ : ∃ a, ar k = a := ⟨_, rfl⟩
  simp only at h
  rw [ha] at h
  have HA := Lib.hid ha
  clear ha
  go_enter Try.func68, Try.ntmps68
  go_wp2_with fail
  refine (arR_any _ _).mono ?_
  rw [HA.out]
  rintro e w' ⟨rfl, rfl⟩
  go_wp2_with fail
  go_ret
  exact ⟨rfl, (Below.refl _ _).alloc (Nat.le_refl _) _⟩
theorem rgt_act (n : ByteArray) (s : Int) : rgt ⟨1, n, s⟩ = (low n.data.toList && (decide (1 ≤ n.size) && decide (n.size ≤ 8)) && (s == 0) && !wordB n) := by
  unfold rgt
  rw [if_neg (show ¬ ar 1 < 0 from by decide), if_pos rfl]
theorem rgt_sign {k : Int} (n : ByteArray) (s : Int) (h : k = 11 ∨ k = 14) : rgt ⟨k, n, s⟩ = (decide (n.size = 0) && (decide (1 ≤ s) && decide (s ≤ 3))) := by
  unfold rgt
  rw [if_neg (show ¬ ar k < 0 from by rcases h with rfl | rfl <;> decide), if_neg (show ¬ k = 1 from by omega), if_pos h]
theorem rgt_other {k : Int} (n : ByteArray) (s : Int) (h0 : ¬ ar k < 0) (h1 : ¬ k = 1) (h : ¬ (k = 11 ∨ k = 14)) : rgt ⟨k, n, s⟩ = (decide (n.size = 0) && (s == 0)) := by
  unfold rgt
  rw [if_neg h0, if_neg h1, if_neg h]

set_option maxHeartbeats 2000000 in
theorem right_act (n : ByteArray) (s : Int) (w : World) (hn : n.size ≤ 140737488355328) : Calls Try.prog 68 #[.agg #[.int .i64 1, .string n, .int .i64 s]] w fun e w' => e = .returned (.bool (rgt ⟨1, n, s⟩)) ∧ Below w.heap.size w w' := by
  have HR := Lib.hid (rgt_act n s)
  go_enter Try.func68, Try.ntmps68
  go_wp2_with fail
  refine (arR_any _ _).mono ?_
  rintro e w' ⟨rfl, rfl⟩
  rw [show ar 1 = 0 from rfl]
  go_wp2_with fail
  go_loop [3] (fun i => ∃ j : Nat, j ≤ n.size ∧ i = .int .i64 j ∧ Hid (low (n.data.toList.take j) = true)) (fun i => n.size - (intOf i).toNat)
  case atStart => exact ⟨0, Nat.zero_le _, rfl, Lib.hid rfl⟩
  case round =>
    obtain ⟨j, hj, rfl, HL⟩ := hrel
    by_cases hlt : j < n.size
    · have HT := Lib.hid (low_take n j hlt)
      have HN := Lib.hid (fun hb => low_no hlt hb)
      by_cases b1 : n[j].toNat < 97
      · have d1 : decide ((n[j].toNat : Int) < 97) = true := by simp; omega
        have HF := Lib.hid (HN.out (by simp; omega))
        go_wp2_with fail
        go_ret
        refine ⟨ret_bool ?_, (Below.refl _ _).alloc (Nat.le_refl _) _⟩
        rw [HR.out, HF.out]
        rfl
      · have d1 : decide ((n[j].toNat : Int) < 97) = false := by simp; omega
        by_cases b2 : 122 < n[j].toNat
        · have d2 : decide (122 < (n[j].toNat : Int)) = true := by simp; omega
          have HF := Lib.hid (HN.out (by simp; omega))
          go_wp2_with fail
          go_ret
          refine ⟨ret_bool ?_, (Below.refl _ _).alloc (Nat.le_refl _) _⟩
          rw [HR.out, HF.out]
          rfl
        · have d2 : decide (122 < (n[j].toNat : Int)) = false := by simp; omega
          have HG : Hid (low (n.data.toList.take (j + 1)) = true) := by
            show _ = true
            rw [HT.out, HL.out]
            simp
            omega
          go_wp2_with fail
          go_round
          case rel => exact ⟨j + 1, by omega, by go_num, HG⟩
          case measure => simp [intOf]; omega
    · have HF : Hid (low n.data.toList = true) := by
        have := HL.out
        rwa [List.take_of_length_le (by simp; omega)] at this
      have HR' := Lib.hid (HR.out.trans (by rw [HF.out]))
      by_cases q1 : 1 ≤ n.size
      · by_cases q2 : n.size ≤ 8
        · by_cases q3 : s = 0
          · subst q3
            go_wp2_with fail
            refine (word_any _ _).mono ?_
            rintro e w' ⟨rfl, rfl⟩
            go_wp2_with fail
            go_ret
            refine ⟨ret_bool ?_, (Below.refl _ _).alloc (Nat.le_refl _) _⟩
            rw [HR'.out]
            simp [q1, q2]
          · have d3 : (s == 0) = false := by simpa using q3
            go_wp2_with fail
            go_ret
            refine ⟨ret_bool ?_, (Below.refl _ _).alloc (Nat.le_refl _) _⟩
            rw [HR'.out]
            simp [d3]
        · go_wp2_with fail
          go_ret
          refine ⟨ret_bool ?_, (Below.refl _ _).alloc (Nat.le_refl _) _⟩
          rw [HR'.out]
          simp [q2]
      · go_wp2_with fail
        go_ret
        refine ⟨ret_bool ?_, (Below.refl _ _).alloc (Nat.le_refl _) _⟩
        rw [HR'.out]
        simp [q1]

theorem empty_of {n : ByteArray} (h : n.size = 0) : n = ⟨#[]⟩ := by
  obtain ⟨d⟩ := n
  have : d = #[] := Array.eq_empty_of_size_eq_zero h
  rw [this]
theorem not_empty {n : ByteArray} (h : ¬ n.size = 0) : (n.toList == []) = false := str_ne' (l := []) fun e => h (by rw [e]; rfl)
set_option maxHeartbeats 2000000 in
theorem right_sign (k : Int) (n : ByteArray) (s : Int) (w : World) (hk : k = 11 ∨ k = 14) : Calls Try.prog 68 #[.agg #[.int .i64 k, .string n, .int .i64 s]] w fun e w' => e = .returned (.bool (rgt ⟨k, n, s⟩)) ∧ Below w.heap.size w w' := by
  rw [rgt_sign n s hk]
  by_cases q1 : n.size = 0
  · obtain rfl := empty_of q1
    rw [decide_eq_true q1, Bool.true_and]
    clear q1
    by_cases q2 : 1 ≤ s
    · rw [decide_eq_true q2, Bool.true_and]
      by_cases q3 : s ≤ 3
      · rw [decide_eq_true q3]
        rcases hk with rfl | rfl
        all_goals
          go_enter Try.func68, Try.ntmps68
          go_wp2_with fail
          refine (arR_any _ _).mono ?_
          rintro e w' ⟨rfl, rfl⟩
          go_wp2_with fail
          go_ret
          exact ⟨rfl, (Below.refl _ _).alloc (Nat.le_refl _) _⟩
      · have d3 : decide (s ≤ 3) = false := decide_eq_false q3
        rw [d3]
        clear q3
        rcases hk with rfl | rfl
        all_goals
          go_enter Try.func68, Try.ntmps68
          go_wp2_with fail
          refine (arR_any _ _).mono ?_
          rintro e w' ⟨rfl, rfl⟩
          go_wp2_with fail
          go_ret
          exact ⟨rfl, (Below.refl _ _).alloc (Nat.le_refl _) _⟩
    · have d2 : decide (1 ≤ s) = false := decide_eq_false q2
      rw [d2, Bool.false_and]
      clear q2
      rcases hk with rfl | rfl
      all_goals
        go_enter Try.func68, Try.ntmps68
        go_wp2_with fail
        refine (arR_any _ _).mono ?_
        rintro e w' ⟨rfl, rfl⟩
        go_wp2_with fail
        go_ret
        exact ⟨rfl, (Below.refl _ _).alloc (Nat.le_refl _) _⟩
  · have e0 := not_empty q1
    rw [decide_eq_false q1, Bool.false_and]
    clear q1
    rcases hk with rfl | rfl
    all_goals
      go_enter Try.func68, Try.ntmps68
      go_wp2_with fail
      refine (arR_any _ _).mono ?_
      rintro e w' ⟨rfl, rfl⟩
      go_wp2_with fail
      go_ret
      exact ⟨rfl, (Below.refl _ _).alloc (Nat.le_refl _) _⟩
set_option maxHeartbeats 2000000 in
theorem right_other (k : Int) (n : ByteArray) (s : Int) (w : World) (h0 : ¬ ar k < 0) (h1 : ¬ k = 1) (hk : ¬ (k = 11 ∨ k = 14)) : Calls Try.prog 68 #[.agg #[.int .i64 k, .string n, .int .i64 s]] w fun e w' => e = .returned (.bool (rgt ⟨k, n, s⟩)) ∧ Below w.heap.size w w' := by
  rw [rgt_other n s h0 h1 hk]
  have k1 : (k == 1) = false := by rw [beq_eq_false_iff_ne]; omega
  have k2 : (k == 11) = false := by rw [beq_eq_false_iff_ne]; omega
  have k3 : (k == 14) = false := by rw [beq_eq_false_iff_ne]; omega
  obtain ⟨a, ha⟩ : ∃ a, ar k = a := ⟨_, rfl⟩
  rw [ha] at h0
  have HA := Lib.hid ha
  clear ha hk h1
  by_cases q1 : n.size = 0
  · obtain rfl := empty_of q1
    rw [decide_eq_true q1, Bool.true_and]
    clear q1
    go_enter Try.func68, Try.ntmps68
    go_wp2_with fail
    refine (arR_any _ _).mono ?_
    rw [HA.out]
    rintro e w' ⟨rfl, rfl⟩
    go_wp2_with fail
    go_ret
    exact ⟨rfl, (Below.refl _ _).alloc (Nat.le_refl _) _⟩
  · have e0 := not_empty q1
    rw [decide_eq_false q1, Bool.false_and]
    clear q1
    go_enter Try.func68, Try.ntmps68
    go_wp2_with fail
    refine (arR_any _ _).mono ?_
    rw [HA.out]
    rintro e w' ⟨rfl, rfl⟩
    go_wp2_with fail
    go_ret
    exact ⟨rfl, (Below.refl _ _).alloc (Nat.le_refl _) _⟩
/-- The document's Right. -/
theorem rightR_any (x : Nd) (w : World) (hn : x.n.size ≤ 140737488355328) : Calls Try.prog 68 #[.agg #[.int .i64 x.k, .string x.n, .int .i64 x.s]] w fun e w' => e = .returned (.bool (rgt x)) ∧ Below w.heap.size w w' := by
  by_cases h0 : ar x.k < 0
  · exact right_no x w h0
  · obtain ⟨k, n, s⟩ := x
    by_cases h1 : k = 1
    · subst h1
      exact right_act n s w hn
    · by_cases hk : k = 11 ∨ k = 14
      · exact right_sign k n s w hk
      · exact right_other k n s w h0 h1 hk

set_option maxHeartbeats 1000000 in
theorem sizeR_any (v : Value) (l : List Nd) (w : World) (h : Nds w v l) (hl : l.length ≤ 1000000) :
    Calls Try.prog 59 #[v] w fun e w' => e = .returned (.int .i64 (size l)) ∧ w = w' := by
  have hz := size_le l
  have H := Lib.hid h
  obtain ⟨_, a, cap, rfl, -⟩ := h
  cases ht : T l with
  | none =>
    have HS : Hid (size l = 0) := size_pos.2 ht
    have HT := Lib.hid ht
    clear ht
    go_enter Try.func59, Try.ntmps59
    go_wp2_with fail
    refine (walk_any _ l 0 _ H.out hl (Nat.zero_le _)).mono ?_
    rw [List.drop_zero, HT.out]
    rintro e w' ⟨rfl, rfl⟩
    go_wp2_with fail
    go_ret
    exact ⟨ret_int (by rw [HS.out]; rfl), rfl⟩
  | some x =>
    obtain ⟨c, d⟩ := x
    have hs : size l = c := by unfold size; rw [ht]
    rw [hs] at hz ⊢
    have HW : Hid (WalkPost 0 (T l) = fun w e w' => e = .returned (.tuple #[.int .i64 (c : Int), .int .i64 (d : Int)]) ∧ w = w') := by
      funext w e w'
      unfold WalkPost
      rw [ht]
      simp [nx, dp]
    clear ht hs
    go_enter Try.func59, Try.ntmps59
    go_wp2_with fail
    refine (walk_any _ l 0 _ H.out hl (Nat.zero_le _)).mono ?_
    rw [List.drop_zero, HW.out]
    rintro e w' ⟨rfl, rfl⟩
    go_wp2_with fail
    go_ret
    exact ⟨rfl, rfl⟩
set_option maxHeartbeats 1000000 in
theorem depthR_any (v : Value) (l : List Nd) (w : World) (h : Nds w v l) (hl : l.length ≤ 1000000) :
    Calls Try.prog 30 #[v] w fun e w' => e = .returned (.int .i64 (depth l)) ∧ w = w' := by
  have HD : Hid ((depth l : Int) = dp (T l)) := by
    show (depth l : Int) = _
    unfold depth
    cases T l with
    | none => rfl
    | some x => rfl
  have H := Lib.hid h
  obtain ⟨_, a, cap, rfl, -⟩ := h
  rw [HD.out]
  obtain ⟨r, hr⟩ : ∃ r, T l = r := ⟨_, rfl⟩
  rw [hr]
  have HT := Lib.hid hr
  clear hr HD
  obtain ⟨x, hx⟩ : ∃ x, nx 0 r = x := ⟨_, rfl⟩
  obtain ⟨y, hy⟩ : ∃ y, dp r = y := ⟨_, rfl⟩
  have HX := Lib.hid hx
  have HY := Lib.hid hy
  rw [hy]
  clear hx hy
  go_enter Try.func30, Try.ntmps30
  go_wp2_with fail
  refine (walk_any _ l 0 _ H.out hl (Nat.zero_le _)).mono ?_
  unfold WalkPost
  rw [List.drop_zero, HT.out, HX.out, HY.out]
  rintro e w' ⟨rfl, rfl⟩
  go_wp2_with fail
  go_ret
  exact ⟨rfl, rfl⟩
end Go.Proofs.Ytdhaghabhdeakaa.Rw

namespace Go.Proofs.Ytdhaghabhdeakaa.Pa
open Rw

inductive Tm where
  | leaf (x : Nd)
  | blk (a : Tm)
  | bin (k : Int) (a b : Tm)
def Tm.row : Tm → List Nd
  | .leaf x => [x]
  | .blk a => nOf 9 :: a.row
  | .bin k a b => nOf k :: (a.row ++ b.row)
/-- How tightly a tree holds: 0 Par, 1 Alt, 2 Hand, 3 Seq, 4 Pair, 5 any other one. -/
def rankK (k : Int) : Nat := if k = 7 then 0 else if k = 6 then 1 else if k = 8 then 2 else if k = 5 then 3 else if k = 10 then 4 else 5
def Tm.rank : Tm → Nat
  | .leaf _ => 5
  | .blk _ => 5
  | .bin k _ _ => rankK k
/-- The word of a leaf. -/
def word (x : Nd) : ByteArray := if x.k = 1 then x.n else if x.k = 2 then w1 else if x.k = 3 then w2 else w3
def Tm.ok : Tm → Prop
  | .leaf x => name (word x) = [x]
  | .blk a => a.ok
  | .bin k a b => (k = 5 ∨ k = 6 ∨ k = 7 ∨ k = 8 ∨ k = 10) ∧ a.ok ∧ b.ok
def brk (c : Bool) (l : List Kn) : List Kn := if c then (1, ⟨#[]⟩) :: (l ++ [(2, ⟨#[]⟩)]) else l
/-- The sign between two trees. -/
def sgn (k : Int) : Int := if k = 10 then 9 else k
def lim (k : Int) : Nat := if k = 10 then 5 else rankK k
def limR (k : Int) : Nat := if k = 10 then 5 else rankK k + 1
def Tm.kn : Tm → List Kn
  | .leaf x => [(10, word x)]
  | .blk a => (3, ⟨#[]⟩) :: (a.kn ++ [(4, ⟨#[]⟩)])
  | .bin k a b => brk (decide (a.rank < lim k)) a.kn ++ (sgn k, ⟨#[]⟩) :: brk (decide (b.rank < limR k)) b.kn

/-- What stands at a place. -/
def Has (q : List Kn) (p : Nat) (l : List Kn) : Prop := ∃ pre post, q = pre ++ (l ++ post) ∧ p = pre.length
theorem Has.head {q : List Kn} {p : Nat} {x : Kn} {l : List Kn} (h : Has q p (x :: l)) : kd q p = x.1 ∧ nmAt q p = x.2 := by
  obtain ⟨pre, post, rfl, rfl⟩ := h
  unfold kd nmAt
  rw [List.getElem?_append_right (Nat.le_refl _), Nat.sub_self]
  exact ⟨rfl, rfl⟩
theorem Has.left {q : List Kn} {p : Nat} {l m : List Kn} (h : Has q p (l ++ m)) : Has q p l := by
  obtain ⟨pre, post, rfl, rfl⟩ := h
  exact ⟨pre, m ++ post, by simp, rfl⟩
theorem Has.right {q : List Kn} {p : Nat} {l m : List Kn} (h : Has q p (l ++ m)) : Has q (p + l.length) m := by
  obtain ⟨pre, post, rfl, rfl⟩ := h
  exact ⟨pre ++ l, post, by simp, by simp⟩
theorem Has.tail {q : List Kn} {p : Nat} {x : Kn} {l : List Kn} (h : Has q p (x :: l)) : Has q (p + 1) l := Has.right (l := [x]) h

/-- The next token is no sign that holds as tightly as that level or more so. -/
def Nx (q : List Kn) (p k : Nat) : Prop := (∀ j, k ≤ j → j < 4 → kd q p ≠ sg j) ∧ kd q p ≠ 9
theorem Nx.up {q : List Kn} {p k j : Nat} (h : Nx q p k) (hj : k ≤ j) : Nx q p j := ⟨fun i hi hi4 => h.1 i (Nat.le_trans hj hi) hi4, h.2⟩
theorem Nx.of_close {q : List Kn} {p : Nat} (h : kd q p = 2 ∨ kd q p = 4 ∨ kd q p = 0) (k : Nat) : Nx q p k := by
  refine ⟨fun j _ _ => ?_, ?_⟩
  · unfold sg
    repeat' split
    all_goals omega
  · omega
theorem sg_inj {i j : Nat} (hi : i < 4) (hj : j < 4) (h : sg i = sg j) : i = j := by
  have h1 : i = 0 ∨ i = 1 ∨ i = 2 ∨ i = 3 := by omega
  have h2 : j = 0 ∨ j = 1 ∨ j = 2 ∨ j = 3 := by omega
  rcases h1 with rfl | rfl | rfl | rfl <;> rcases h2 with rfl | rfl | rfl | rfl <;> first | rfl | (revert h; decide)
theorem sg_nine (j : Nat) : sg j ≠ 9 := by
  unfold sg
  repeat' split
  all_goals decide
theorem Nx.of_sg {q : List Kn} {p k : Nat} (h : kd q p = sg k) (hk : k < 4) : Nx q p (k + 1) := by
  refine ⟨fun j hj hj4 e => ?_, ?_⟩
  · rw [h] at e
    have := sg_inj hk hj4 e
    omega
  · rw [h]
    exact sg_nine k
theorem stop_at {q : List Kn} {k p : Nat} {L : List Nd} (h : Nx q p k) (hk : k < 4) : MoR q k ⟨L, p, false⟩ ⟨L, p, false⟩ := MoR.stop fun hc => h.1 k (Nat.le_refl _) hk hc.2
/-- From a pair on down to a level. -/
theorem down {q : List Kn} {p p' : Nat} {L : List Nd} (h : PrR q p ⟨L, p', false⟩) : ∀ (n k : Nat), k + n = 4 → Nx q p' k → LvR q p k ⟨L, p', false⟩
  | 0, k, hk, _ => by
    obtain rfl : k = 4 := by omega
    exact LvR.pair h
  | n + 1, k, hk, hx => LvR.of (by omega) (down h n (k + 1) (by omega) (hx.up (by omega))) (stop_at hx (by omega))
theorem rank_le (t : Tm) : t.rank ≤ 5 := by
  cases t with
  | leaf x => exact Nat.le_refl _
  | blk a => exact Nat.le_refl _
  | bin k a b =>
    show rankK k ≤ 5
    unfold rankK
    repeat' split
    all_goals omega
def Tm.size : Tm → Nat
  | .leaf _ => 1
  | .blk a => a.size + 1
  | .bin _ a b => a.size + b.size + 1
/-- What is claimed of a tree: read as an atom, as a pair, and at each level that it may stand at. -/
structure Rd (t : Tm) : Prop where
  atom : ∀ q p, t.rank = 5 → Has q p t.kn → AtR q p ⟨t.row, p + t.kn.length, false⟩
  pair : ∀ q p, 4 ≤ t.rank → Has q p t.kn → kd q (p + t.kn.length) ≠ 9 → PrR q p ⟨t.row, p + t.kn.length, false⟩
  spine : ∀ q p k r, k ≤ t.rank → k < 4 → Has q p t.kn → Nx q (p + t.kn.length) (k + 1) → MoR q k ⟨t.row, p + t.kn.length, false⟩ r → LvR q p k r
theorem Rd.exact {t : Tm} (h : Rd t) {q : List Kn} {p k : Nat} (hk : k ≤ t.rank) (h4 : k ≤ 4) (hh : Has q p t.kn) (hx : Nx q (p + t.kn.length) k) : LvR q p k ⟨t.row, p + t.kn.length, false⟩ := by
  by_cases hk4 : k = 4
  · subst hk4
    exact LvR.pair (h.pair q p hk hh hx.2)
  · exact h.spine q p k _ hk (by omega) hh (hx.up (Nat.le_succ k)) (stop_at hx (by omega))
/-- Between brackets it is an atom. -/
theorem Rd.brk {t : Tm} (h : Rd t) {q : List Kn} {p : Nat} (hh : Has q p (brk true t.kn)) : AtR q p ⟨t.row, p + (brk true t.kn).length, false⟩ := by
  have hb : Pa.brk true t.kn = (1, ⟨#[]⟩) :: (t.kn ++ [(2, ⟨#[]⟩)]) := rfl
  rw [hb] at hh ⊢
  have h1 := hh.head.1
  have h2 := hh.tail
  have h3 := h2.right.head.1
  have := AtR.open (g := ⟨t.row, p + 1 + t.kn.length, false⟩) h1 (h.exact (Nat.zero_le _) (by omega) h2.left (Nx.of_close (Or.inl h3) 0)) rfl h3
  have e : p + ((1, (⟨#[]⟩ : ByteArray)) :: (t.kn ++ [(2, ⟨#[]⟩)]) : List Kn).length = p + 1 + t.kn.length + 1 := by simp; omega
  rw [e]
  exact this
/-- An operand, with or without brackets, where an atom is wanted. -/
theorem Rd.opAt {t : Tm} (h : Rd t) {q : List Kn} {p : Nat} (hh : Has q p (Pa.brk (decide (t.rank < 5)) t.kn)) : AtR q p ⟨t.row, p + (Pa.brk (decide (t.rank < 5)) t.kn).length, false⟩ := by
  by_cases hr : t.rank < 5
  · rw [decide_eq_true hr] at hh ⊢
    exact h.brk hh
  · rw [decide_eq_false hr] at hh ⊢
    exact h.atom q p (by have := rank_le t; omega) hh
/-- An operand of a level: read one level up. -/
theorem Rd.opLv {t : Tm} (h : Rd t) {q : List Kn} {p k : Nat} (hk : k < 4) (hh : Has q p (Pa.brk (decide (t.rank < k + 1)) t.kn)) (hx : Nx q (p + (Pa.brk (decide (t.rank < k + 1)) t.kn).length) (k + 1)) : LvR q p (k + 1) ⟨t.row, p + (Pa.brk (decide (t.rank < k + 1)) t.kn).length, false⟩ := by
  by_cases hr : t.rank < k + 1
  · rw [decide_eq_true hr] at hh hx ⊢
    exact down (PrR.one (h.brk hh) (Or.inr hx.2)) (3 - k) (k + 1) (by omega) hx
  · rw [decide_eq_false hr] at hh hx ⊢
    exact h.exact (by omega) (by omega) hh hx
theorem kinds {k : Int} (hk : k = 5 ∨ k = 6 ∨ k = 7 ∨ k = 8 ∨ k = 10) : (k = 10 ∧ rankK k = 4 ∧ sgn k = 9 ∧ lim k = 5 ∧ limR k = 5) ∨ (rankK k < 4 ∧ sgn k = k ∧ sg (rankK k) = k ∧ lim k = rankK k ∧ limR k = rankK k + 1) := by
  rcases hk with rfl | rfl | rfl | rfl | rfl
  · exact Or.inr (by decide)
  · exact Or.inr (by decide)
  · exact Or.inr (by decide)
  · exact Or.inr (by decide)
  · exact Or.inl (by decide)
theorem reads : ∀ (t : Tm), t.ok → Rd t
  | .leaf x, h => by
    have hat : ∀ q p, Has q p (Tm.leaf x).kn → AtR q p ⟨[x], p + 1, false⟩ := fun q p hh => by
      obtain ⟨h1, h2⟩ := Has.head hh
      have := AtR.name h1
      rw [h2, show name (word x) = [x] from h] at this
      exact this
    have hpr : ∀ q p, Has q p (Tm.leaf x).kn → kd q (p + 1) ≠ 9 → PrR q p ⟨[x], p + 1, false⟩ := fun q p hh hn => PrR.one (hat q p hh) (Or.inr hn)
    exact ⟨fun q p _ hh => hat q p hh, fun q p _ hh hn => hpr q p hh hn, fun q p k r _ hk4 hh hx hm => LvR.of (by omega) (down (hpr q p hh hx.2) (3 - k) (k + 1) (by omega) hx) hm⟩
  | .blk a, h => by
    have ha := reads a h
    have hat : ∀ q p, Has q p (Tm.blk a).kn → AtR q p ⟨(Tm.blk a).row, p + (Tm.blk a).kn.length, false⟩ := fun q p hh => by
      have hh : Has q p ((3, ⟨#[]⟩) :: (a.kn ++ [(4, ⟨#[]⟩)])) := hh
      have h1 := hh.head.1
      have h2 := hh.tail
      have h3 := h2.right.head.1
      have := AtR.from (g := ⟨a.row, p + 1 + a.kn.length, false⟩) h1 (ha.exact (Nat.zero_le _) (by omega) h2.left (Nx.of_close (Or.inr (Or.inl h3)) 0)) rfl h3
      have e : p + (Tm.blk a).kn.length = p + 1 + a.kn.length + 1 := by show p + ((3, (⟨#[]⟩ : ByteArray)) :: (a.kn ++ [(4, ⟨#[]⟩)]) : List Kn).length = _; simp; omega
      rw [e]
      exact this
    have hpr : ∀ q p, Has q p (Tm.blk a).kn → kd q (p + (Tm.blk a).kn.length) ≠ 9 → PrR q p ⟨(Tm.blk a).row, p + (Tm.blk a).kn.length, false⟩ := fun q p hh hn => PrR.one (hat q p hh) (Or.inr hn)
    exact ⟨fun q p _ hh => hat q p hh, fun q p _ hh hn => hpr q p hh hn, fun q p k r _ hk4 hh hx hm => LvR.of (by omega) (down (hpr q p hh hx.2) (3 - k) (k + 1) (by omega) hx) hm⟩
  | .bin k a b, h => by
    obtain ⟨hk, ha, hb⟩ := h
    have ha := reads a ha
    have hb := reads b hb
    have hrow : (Tm.bin k a b).row = nOf k :: (a.row ++ b.row) := rfl
    have hkn : (Tm.bin k a b).kn = Pa.brk (decide (a.rank < lim k)) a.kn ++ (sgn k, ⟨#[]⟩) :: Pa.brk (decide (b.rank < limR k)) b.kn := rfl
    have hrank : (Tm.bin k a b).rank = rankK k := rfl
    have hlen : ∀ p, p + (Tm.bin k a b).kn.length = p + (Pa.brk (decide (a.rank < lim k)) a.kn).length + 1 + (Pa.brk (decide (b.rank < limR k)) b.kn).length := fun p => by rw [hkn]; simp; omega
    rcases kinds hk with ⟨rfl, h1, h2, h3, h4⟩ | ⟨h1, h2, h3, h4, h5⟩
    · have hpr : ∀ q p, Has q p (Tm.bin 10 a b).kn → PrR q p ⟨(Tm.bin 10 a b).row, p + (Tm.bin 10 a b).kn.length, false⟩ := fun q p hh => by
        rw [hkn, h2, h3, h4] at hh
        have g1 := ha.opAt hh.left
        have g2 := hh.right.head.1
        have g3 := hb.opAt hh.right.tail
        rw [hlen, hrow, h3, h4]
        exact PrR.two g1 rfl g2 g3
      refine ⟨fun q p hr hh => ?_, fun q p _ hh _ => hpr q p hh, fun q p k r _ hk4 hh hx hm => LvR.of (by omega) (down (hpr q p hh) (3 - k) (k + 1) (by omega) hx) hm⟩
      rw [hrank, h1] at hr
      omega
    · have hsp : ∀ q p r, Has q p (Tm.bin k a b).kn → Nx q (p + (Tm.bin k a b).kn.length) (rankK k + 1) → MoR q (rankK k) ⟨(Tm.bin k a b).row, p + (Tm.bin k a b).kn.length, false⟩ r → LvR q p (rankK k) r := fun q p r hh hx hm => by
        rw [hkn, h2, h4, h5] at hh
        rw [hlen, h4, h5] at hx
        rw [hlen, h4, h5, hrow] at hm
        have g2 := hh.right.head.1
        have g3 := hb.opLv h1 hh.right.tail hx
        have hmo : MoR q (rankK k) ⟨a.row, p + (Pa.brk (decide (a.rank < rankK k)) a.kn).length, false⟩ r := by
          refine MoR.step rfl (g2.trans h3.symm) g3 ?_
          rw [h3]
          exact hm
        by_cases hr : a.rank < rankK k
        · rw [decide_eq_true hr] at hh hmo g2
          have hx2 := Nx.of_sg (g2.trans h3.symm) h1
          exact LvR.of (by omega) (down (PrR.one (ha.brk hh.left) (Or.inr hx2.2)) (3 - rankK k) (rankK k + 1) (by omega) hx2) hmo
        · rw [decide_eq_false hr] at hh hmo g2
          exact ha.spine q p (rankK k) r (by omega) h1 hh.left (Nx.of_sg (g2.trans h3.symm) h1) hmo
      refine ⟨fun q p hr hh => ?_, fun q p hr hh _ => ?_, fun q p j r hj hj4 hh hx hm => ?_⟩
      · rw [hrank] at hr
        omega
      · rw [hrank] at hr
        omega
      · rw [hrank] at hj
        by_cases hjk : j = rankK k
        · subst hjk
          exact hsp q p r hh hx hm
        · -- looser levels: read at its own, and then nothing more till there
          have hgo : ∀ n i, i + n = rankK k → Nx q (p + (Tm.bin k a b).kn.length) i → LvR q p i ⟨(Tm.bin k a b).row, p + (Tm.bin k a b).kn.length, false⟩ := by
            intro n
            induction n with
            | zero =>
              intro i hi hxi
              obtain rfl : i = rankK k := by omega
              exact hsp q p _ hh (hxi.up (Nat.le_succ _)) (stop_at hxi h1)
            | succ n ih =>
              intro i hi hxi
              exact LvR.of (by omega) (ih (i + 1) (by omega) (hxi.up (by omega))) (stop_at hxi (by omega))
          exact LvR.of (by omega) (hgo (rankK k - (j + 1)) (j + 1) (by omega) hx) hm
/-- A tree's tokens, and nothing else, are read as that tree. -/
theorem reads_all (t : Tm) (h : t.ok) : LvR t.kn 0 0 ⟨t.row, t.kn.length, false⟩ := by
  have := (reads t h).exact (q := t.kn) (p := 0) (k := 0) (Nat.zero_le _) (by omega) ⟨[], [], by simp, rfl⟩ (Nx.of_close (Or.inr (Or.inr (by rw [Nat.zero_add]; exact kd_out (Nat.le_refl _)))) 0)
  rwa [Nat.zero_add] at this
end Go.Proofs.Ytdhaghabhdeakaa.Pa

namespace Go.Proofs.Ytdhaghabhdeakaa.To
open Go Go.RowKit
set_option maxRecDepth 20000

def Res.toks : Res → List Tk
  | .ok l => l
  | .bad _ _ => []
def Res.place (n : Nat) : Res → Nat
  | .ok _ => n
  | .bad a _ => a
def Res.err : Res → Int
  | .ok _ => 0
  | .bad _ e => e
/-- The tokens of any text, or where and why there are none. -/
def lexR (s : ByteArray) : Res := if 1000 < s.size then .bad 1000 52 else F s.data.toList 0
def LexPost (r : Res) (n : Nat) (w : World) (e : Ending) (w' : World) : Prop := ∃ y, e = .returned (.tuple #[y, .int .i64 (r.place n : Nat), .int .i64 r.err]) ∧ Tks w' y r.toks ∧ Below w.heap.size w w'
theorem tks_nil (w : World) : Tks w (.slice none 0 0) [] := ⟨rfl, none, 0, rfl, Nat.le_refl _, fun _ => ⟨rfl, rfl⟩, fun h => absurd h (Nat.lt_irrefl 0)⟩

theorem infoT : (Try.prog.info? 52).map (fun i => (i.zero, i.size, i.bytes)) = some (some (.agg #[.int .i64 0, .int .i64 0, .string ⟨#[]⟩]), 3, 32) := by kernel_rfl
/-- What the loop has made. -/
def Lx (w wr : World) (v : Value) (s : ByteArray) (p : Nat) : Prop := ∃ ts : List Tk, ts.length ≤ p ∧ wr.ownsRow w.heap.size 52 3 v ts.length (cls ts) ∧ F s.data.toList 0 = (F (s.data.toList.drop p) p).pre ts ∧ Below w.heap.size w wr
theorem Lx.start (w : World) (s : ByteArray) : Lx w w (.slice none 0 0) s 0 := ⟨[], Nat.le_refl _, ⟨rfl, .inl ⟨rfl, rfl⟩⟩, by rw [Res.pre_nil]; rfl, Below.refl _ _⟩
theorem Lx.below {w wr : World} {v : Value} {s : ByteArray} {p : Nat} (h : Lx w wr v s p) : Below w.heap.size w wr := by obtain ⟨_, _, _, _, h⟩ := h; exact h
/-- One token more. -/
theorem Lx.next {w wr : World} {v : Value} {s : ByteArray} {p q : Nat} (t : Tk) (h : Lx w wr v s p) (hF : F (s.data.toList.drop p) p = (F (s.data.toList.drop q) q).cons t) (hq : p < q) (hq2 : q ≤ 2000) :
    ∃ v' w', (Builtin.append_ #[45, 45] 45 #[v, .slice (some ⟨wr.heap.size, 0, none⟩) 1 1]).run Try.prog (wr.alloc (.cells #[.int .i64 t.k, .int .i64 t.a, .string t.n] 52)) = .ok v' w' ∧ Lx w w' v' s q := by
  obtain ⟨ts, hl, hown, hf, hb⟩ := h
  obtain ⟨i0, hi, hz, hs1, hb8⟩ := info_parts infoT
  obtain ⟨v', w', h1, h2, h3, h4, h5⟩ := Ap.run_append_one (P := Try.prog) (ty := 45) Try.underlying45 hi hz hs1 hb8 (by rfl) (by omega) hown hb.size #[.int .i64 t.k, .int .i64 t.a, .string t.n] rfl
    (by intro u hu; simp at hu; rcases hu with rfl | rfl | rfl <;> rfl) (by unfold maxLen; omega) (by omega)
  refine ⟨v', w', h1, ts ++ [t], by simp; omega, ?_, by rw [hf, hF, Res.pre_snoc], hb.trans h4⟩
  rw [cls_append, List.length_append]
  exact h2
theorem Lx.skip {w wr : World} {v : Value} {s : ByteArray} {p q : Nat} (h : Lx w wr v s p) (hF : F (s.data.toList.drop p) p = F (s.data.toList.drop q) q) (hq : p ≤ q) : Lx w wr v s q := by
  obtain ⟨ts, hl, hown, hf, hb⟩ := h
  exact ⟨ts, by omega, hown, by rw [hf, hF], hb⟩
theorem Lx.bad {w wr : World} {v : Value} {s : ByteArray} {p : Nat} {e : Int} (h : Lx w wr v s p) (hF : F (s.data.toList.drop p) p = .bad p e) : F s.data.toList 0 = .bad p e := by
  obtain ⟨ts, hl, hown, hf, hb⟩ := h
  rw [hf, hF]
  rfl
theorem Lx.done {w wr : World} {v : Value} {s : ByteArray} {p : Nat} (h : Lx w wr v s p) (hp : ¬ p < s.size) (hl : s.size ≤ 1000) : LexPost (lexR s) s.size w (.returned (.tuple #[v, .int .i64 (s.size : Nat), .int .i64 0])) wr := by
  obtain ⟨ts, hl', hown, hf, hb⟩ := h
  rw [List.drop_eq_nil_of_le (by simp; omega), F_nil] at hf
  have : lexR s = .ok ts := by
    unfold lexR
    rw [if_neg (by omega), hf]
    simp [Res.pre]
  rw [this]
  exact ⟨v, rfl, Ap.Rd.owned hown, hb⟩
theorem drop_at {s : ByteArray} {p : Nat} (h : p < s.size) : s.data.toList.drop p = s[p] :: s.data.toList.drop (p + 1) := by
  rw [List.drop_eq_getElem_cons (by simpa using h)]
  simp
  rfl
theorem tw_len {l : List UInt8} {n : Nat} (h1 : ∀ b ∈ l.take n, letB b = true) (h2 : noLet (l.drop n)) : l.takeWhile letB = l.take n := by
  have := tw_append (l.take n) (l.drop n) h1 h2
  rwa [List.take_append_drop] at this
theorem take_more {s : ByteArray} {p q : Nat} (hq : p ≤ q) (h : q < s.size) : (s.data.toList.drop p).take (q + 1 - p) = (s.data.toList.drop p).take (q - p) ++ [s[q]] := by
  rw [show q + 1 - p = (q - p) + 1 by omega, List.take_succ_eq_append_getElem (by simp; omega)]
  congr 2
  rw [List.getElem_drop]
  simp only [show p + (q - p) = q by omega]
  simp
  rfl
theorem ext_take (s : ByteArray) (p q : Nat) : s.extract p q = ⟨((s.data.toList.drop p).take (q - p)).toArray⟩ := by
  have h : (s.extract p q).data = s.data.extract p q := by simp
  have h2 : (s.extract p q) = ⟨(s.extract p q).data⟩ := rfl
  rw [h2, h]
  congr 1
  rw [← Array.toList_inj]
  simp [Array.toList_extract, List.extract]

set_option maxHeartbeats 400000 in
theorem lexR_long (s : ByteArray) (w : World) (h : 1000 < s.size) : Calls Try.prog 28 #[.string s] w (LexPost (lexR s) s.size w) := by
  have HL : Hid (lexR s = .bad 1000 52) := if_pos h
  rw [HL.out]
  have d1 : decide ((s.size : Int) > 1000) = true := by simp; omega
  go_enter Try.func28, Try.ntmps28
  go_wp2_with fail
  go_ret3
  exact ⟨_, rfl, tks_nil _, Below.refl _ _⟩
end Go.Proofs.Ytdhaghabhdeakaa.To

namespace Go.Proofs.Ytdhaghabhdeakaa.Rx
open Go Go.RowKit Rw
set_option maxRecDepth 20000

set_option maxHeartbeats 1000000 in
theorem arP_eq (k : Int) (w : World) : Calls Try.prog 58 #[.int .i64 k] w fun e w' => e = .returned (.int .i64 (ar k)) ∧ w = w' := by
  rcases cases15 k with rfl | rfl | rfl | rfl | rfl | rfl | rfl | rfl | rfl | rfl | rfl | rfl | rfl | rfl | h
  case inr.inr.inr.inr.inr.inr.inr.inr.inr.inr.inr.inr.inr.inr =>
    have hr := Lib.hid (ar_no h)
    obtain ⟨h1, h2, h3, h4, h5, h6, h7, h8, h9, h10, h11, h12, h13, h14⟩ := h
    have b1 : (k == 1) = false := by simp [h1]
    have b2 : (k == 2) = false := by simp [h2]
    have b3 : (k == 3) = false := by simp [h3]
    have b4 : (k == 4) = false := by simp [h4]
    have b5 : (k == 5) = false := by simp [h5]
    have b6 : (k == 6) = false := by simp [h6]
    have b7 : (k == 7) = false := by simp [h7]
    have b8 : (k == 8) = false := by simp [h8]
    have b9 : (k == 9) = false := by simp [h9]
    have b10 : (k == 10) = false := by simp [h10]
    have b11 : (k == 11) = false := by simp [h11]
    have b12 : (k == 12) = false := by simp [h12]
    have b13 : (k == 13) = false := by simp [h13]
    have b14 : (k == 14) = false := by simp [h14]
    clear h1 h2 h3 h4 h5 h6 h7 h8 h9 h10 h11 h12 h13 h14
    go_enter Try.func58, Try.ntmps58
    go_wp2_with fail
    go_ret
    exact ⟨ret_int hr.out.symm, rfl⟩
  all_goals
    go_enter Try.func58, Try.ntmps58
    go_wp2_with fail
    go_ret
    exact ⟨rfl, rfl⟩
theorem arP_any (k : Int) (w : World) : Calls Try.prog 58 #[.int .i64 k] w fun e w' => e = .returned (.int .i64 (ar k)) ∧ Below w.heap.size w w' :=
  (arP_eq k w).mono fun _ _ h => ⟨h.1, h.2 ▸ Below.refl _ _⟩
end Go.Proofs.Ytdhaghabhdeakaa.Rx

namespace Go.Proofs.Ytdhaghabhdeakaa.Rw
open Go Go.RowKit
set_option maxRecDepth 20000

/-- Names of a length that memory has. -/
def Nms (l : List Nd) : Prop := ∀ x ∈ l, x.n.size ≤ 140737488355328
def whole (l : List Nd) : Bool := l.all rgt && (decide (1 ≤ l.length) && decide (l.length ≤ 200)) && decide (size l = l.length)
theorem all_take (l : List Nd) (k : Nat) (h : k < l.length) : (l.take (k + 1)).all rgt = ((l.take k).all rgt && rgt l[k]) := by
  rw [List.take_succ_eq_append_getElem h, List.all_append]
  simp
theorem all_no {l : List Nd} {k : Nat} (h : k < l.length) (hr : rgt l[k] = false) : l.all rgt = false := by
  rw [List.all_eq_false]
  exact ⟨l[k], List.getElem_mem h, by rw [hr]; decide⟩

set_option maxHeartbeats 1000000 in
theorem whole_empty (a : Option Addr) (cap : Nat) (w : World) :
    Calls Try.prog 52 #[.slice a 0 cap] w fun e w' => e = .returned (.bool false) ∧ Below w.heap.size w w' := by
  go_enter Try.func52, Try.ntmps52
  go_wp2_with fail
  refine Go.wp_loop_rounds 1 ?_
  rw [rounds_succ]
  go_wp2_with fail
  go_ret
  exact ⟨rfl, Below.refl _ _⟩
set_option maxHeartbeats 2000000 in
theorem whole_cells (b off cap : Nat) (l : List Nd) (w : World) (hn : Nds w (.slice (some ⟨b, off, none⟩) l.length cap) l) (hat : At w b off l) (hl : l.length ≤ 1000000) (hm : Nms l) :
    Calls Try.prog 52 #[.slice (some ⟨b, off, none⟩) l.length cap] w fun e w' => e = .returned (.bool (whole l)) ∧ Below w.heap.size w w' := by
  have HN := Lib.hid hn
  have HA := Lib.hid hat
  have HM := Lib.hid hm
  clear hn hat hm
  go_enter Try.func52, Try.ntmps52
  go_wp2_with fail
  go_loopw [3] (fun i wr => ∃ k : Nat, k ≤ l.length ∧ i = .int .i64 k ∧ Below w.heap.size w wr ∧ Hid ((l.take k).all rgt = true)) (fun i _ => l.length - (intOf i).toNat)
  case atStart => exact ⟨0, Nat.zero_le _, rfl, Below.refl _ _, Lib.hid rfl⟩
  case round =>
    obtain ⟨k, hk, rfl, hb, HK⟩ := hrel
    have HB := Lib.hid hb
    clear hb
    by_cases hlt : k < l.length
    · obtain ⟨e1, e2, e3⟩ := HA.out k hlt
      have c1 : wr.cell? ⟨b, off + k * 3, none⟩ = some (.int .i64 l[k].k) := by rw [HB.out.cell (Ap.cell_lt e1)]; exact e1
      have c2 : wr.cell? ⟨b, off + k * 3 + 1, none⟩ = some (.string l[k].n) := by rw [HB.out.cell (Ap.cell_lt e2)]; exact e2
      have c3 : wr.cell? ⟨b, off + k * 3 + 2, none⟩ = some (.int .i64 l[k].s) := by rw [HB.out.cell (Ap.cell_lt e3)]; exact e3
      have HT := Lib.hid (all_take l k hlt)
      have HX := Lib.hid (fun h => all_no (l := l) hlt h)
      have hxm : (l[k]).n.size ≤ 140737488355328 := HM.out _ (List.getElem_mem hlt)
      obtain ⟨x, hx⟩ : ∃ x, l[k] = x := ⟨_, rfl⟩
      rw [hx] at c1 c2 c3 HT HX hxm
      clear hx e1 e2 e3
      cases hr : rgt x with
      | false =>
        have HW : Hid (whole l = false) := by
          show _ = false
          unfold whole
          rw [HX.out hr]
          rfl
        have HR := Lib.hid hr
        clear hr
        go_wp2_with fail
        refine (rightR_any x _ hxm).mono ?_
        rw [HR.out]
        rintro e w' ⟨rfl, hb'⟩
        go_wp2_with fail
        go_ret
        exact ⟨ret_bool HW.out.symm, HB.out.trans (hb'.mono HB.out.size)⟩
      | true =>
        have HK' : Hid ((l.take (k + 1)).all rgt = true) := by
          show _ = true
          rw [HT.out, HK.out, hr]
          rfl
        have HR := Lib.hid hr
        clear hr
        go_wp2_with fail
        refine (rightR_any x _ hxm).mono ?_
        rw [HR.out]
        rintro e w' ⟨rfl, hb'⟩
        go_wp2_with fail
        go_roundw
        case rel => exact ⟨k + 1, by omega, by go_num, HB.out.trans (hb'.mono HB.out.size), HK'⟩
        case measure => simp [intOf]; omega
    · have HL : Hid (l.all rgt = true) := by
        have := HK.out
        rwa [List.take_of_length_le (by omega)] at this
      by_cases q1 : 1 ≤ l.length
      · by_cases q2 : l.length ≤ 200
        · obtain ⟨z, hz⟩ : ∃ z, size l = z := ⟨_, rfl⟩
          have HZ := Lib.hid hz
          have HW : Hid (whole l = decide (z = l.length)) := by
            show _ = _
            unfold whole
            rw [HL.out, decide_eq_true q1, decide_eq_true q2, hz]
            rfl
          clear hz
          go_wp2_with fail
          refine (sizeR_any _ l _ (HN.out.below (HB.out)) hl).mono ?_
          rw [HZ.out]
          rintro e w' ⟨rfl, rfl⟩
          go_wp2_with fail
          go_ret
          refine ⟨ret_bool ?_, HB.out⟩
          rw [HW.out]
          rw [Bool.eq_iff_iff]
          simp
          try omega
        · have HW : Hid (whole l = false) := by
            show _ = _
            unfold whole
            rw [decide_eq_false q2, Bool.and_false, Bool.and_false]
            rfl
          go_wp2_with fail
          go_ret
          exact ⟨ret_bool HW.out.symm, HB.out⟩
      · have HW : Hid (whole l = false) := by
          show _ = _
          unfold whole
          rw [decide_eq_false q1, Bool.false_and, Bool.and_false]
          rfl
        go_wp2_with fail
        go_ret
        exact ⟨ret_bool HW.out.symm, HB.out⟩
theorem wholeR_any (v : Value) (l : List Nd) (w : World) (h : Nds w v l) (hl : l.length ≤ 1000000) (hm : Nms l) :
    Calls Try.prog 52 #[v] w fun e w' => e = .returned (.bool (whole l)) ∧ Below w.heap.size w w' := by
  rcases h.form with ⟨rfl, a, cap, rfl⟩ | ⟨b, off, cap, rfl, _, hat⟩
  · exact whole_empty a cap w
  · exact whole_cells b off cap l w h hat hl hm
theorem Below.drewN (B n : Nat) (w : World) : Below B w (w.drewN n) := by
  induction n with
  | zero => exact Below.refl _ _
  | succ n ih => exact ih.drew
/-- How many nodes are of one of the kinds. -/
def cnt (l : List Nd) (ks : List Int) : Nat := l.countP fun x => decide (x.k ∈ ks)
/-- A slice of integers that reads as these. -/
def Ints (w : World) (v : Value) (l : List Int) : Prop := Ap.Rd w 1 v l.length (l.map (.int .i64))
theorem Ints.below {w w' : World} {v : Value} {l : List Int} (h : Ints w v l) (hb : Below w.heap.size w w') : Ints w' v l := Ap.Rd.below h hb
def AtI (w : World) (b off : Nat) (l : List Int) : Prop := ∀ k, (h : k < l.length) → w.cell? ⟨b, off + k, none⟩ = some (.int .i64 l[k])
theorem Ints.form {w : World} {v : Value} {l : List Int} (h : Ints w v l) :
    (l = [] ∧ ∃ a cap, v = .slice a 0 cap) ∨ ∃ b off cap, v = .slice (some ⟨b, off, none⟩) l.length cap ∧ l.length ≤ cap ∧ AtI w b off l := by
  obtain ⟨_, a, cap, rfl, hle, _, hcell⟩ := h
  by_cases h0 : 0 < l.length
  · obtain ⟨b, off, rfl, hj⟩ := hcell h0
    exact Or.inr ⟨b, off, cap, rfl, hle, fun k hk => hj _ _ (by rw [List.getElem?_map, List.getElem?_eq_getElem hk]; rfl)⟩
  · have : l = [] := List.eq_nil_of_length_eq_zero (by omega)
    subst this
    exact Or.inl ⟨rfl, a, cap, rfl⟩
end Go.Proofs.Ytdhaghabhdeakaa.Rw
