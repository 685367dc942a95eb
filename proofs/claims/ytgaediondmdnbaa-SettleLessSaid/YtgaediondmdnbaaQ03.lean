/- The document's Right, Size, Depth, Whole over rows of nodes. The program's Arity. The document's Whole over rows of nodes. Arguments that are nodes, and rows of nodes: how they lie in memory, and what the reach says of them. Plain: the sorts of trees. -/
import Derived.Test.YtgaediondmdnbaaQ02
import Derived.Deep.Strs
import Derived.Deep.Slices
import Derived.Lib.SmallJoins

namespace Go.Proofs.Ytgaediondmdnbaa.Rw
open Go Go.RowKit
set_option maxRecDepth 20000

theorem str_ne {s : ByteArray} {l : List UInt8} (h : ¬ s = ⟨l.toArray⟩) : (l == s.toList) = false := by
  rw [beq_eq_false_iff_ne]
  intro e
  apply h
  have : s.data.toList = s.toList := (ByteArray.toList_eq s).symm
  rw [← this] at e
  cases s with
  | mk d => simp at e; subst e; rfl
theorem str_ne' {s : ByteArray} {l : List UInt8} (h : ¬ s = ⟨l.toArray⟩) : (s.toList == l) = false := by
  have := str_ne h
  rw [beq_eq_false_iff_ne] at this ⊢
  exact fun e => this e.symm
/-- Words that no action has. -/
def w1 : ByteArray := ⟨#[115, 107, 105, 112]⟩
def w2 : ByteArray := ⟨#[116, 104, 114, 111, 119]⟩
def w3 : ByteArray := ⟨#[121, 105, 101, 108, 100]⟩
def w4 : ByteArray := ⟨#[115, 107, 105, 112, 112]⟩
def w5 : ByteArray := ⟨#[116, 104, 114, 111, 119, 119]⟩
def w6 : ByteArray := ⟨#[121, 105, 101, 108, 100, 100]⟩
def wordB (s : ByteArray) : Bool := decide (s = w1 ∨ s = w2 ∨ s = w3 ∨ s = w4 ∨ s = w5 ∨ s = w6)
set_option maxHeartbeats 1000000 in
theorem word_any (s : ByteArray) (w : World) : Calls Try.prog 79 #[.string s] w fun e w' => e = .returned (.bool (wordB s)) ∧ w = w' := by
  by_cases h : s = w1 ∨ s = w2 ∨ s = w3 ∨ s = w4 ∨ s = w5 ∨ s = w6
  · have hb : wordB s = true := by simpa [wordB] using h
    rw [hb]
    clear hb
    rcases h with rfl | rfl | rfl | rfl | rfl | rfl
    all_goals
      simp only [w1, w2, w3, w4, w5, w6]
      go_enter Try.func79, Try.ntmps79
      go_wp2_with fail
      go_ret
      exact ⟨rfl, rfl⟩
  · have hb : wordB s = false := by simpa [wordB] using h
    rw [hb]
    clear hb
    simp only [not_or] at h
    obtain ⟨h1, h2, h3, h4, h5, h6⟩ := h
    have e1 := str_ne' (l := [115, 107, 105, 112]) h1
    have e2 := str_ne' (l := [116, 104, 114, 111, 119]) h2
    have e3 := str_ne' (l := [121, 105, 101, 108, 100]) h3
    have e4 := str_ne' (l := [115, 107, 105, 112, 112]) h4
    have e5 := str_ne' (l := [116, 104, 114, 111, 119, 119]) h5
    have e6 := str_ne' (l := [121, 105, 101, 108, 100, 100]) h6
    clear h1 h2 h3 h4 h5 h6
    go_enter Try.func79, Try.ntmps79
    go_wp2_with fail
    go_ret
    exact ⟨rfl, rfl⟩

/-- Letters from a to z alone. -/
def low (l : List UInt8) : Bool := l.all fun c => decide (97 ≤ c.toNat) && decide (c.toNat ≤ 122)
theorem low_take (s : ByteArray) (k : Nat) (h : k < s.size) : low (s.data.toList.take (k + 1)) = (low (s.data.toList.take k) && (decide (97 ≤ s[k].toNat) && decide (s[k].toNat ≤ 122))) := by
  unfold low
  rw [List.take_succ_eq_append_getElem (by simpa using h), List.all_append]
  simp
  rfl
theorem low_no {s : ByteArray} {k : Nat} (h : k < s.size) (hb : (decide (97 ≤ s[k].toNat) && decide (s[k].toNat ≤ 122)) = false) : low s.data.toList = false := by
  have := low_take s k h
  rw [hb, Bool.and_false] at this
  unfold low at this ⊢
  rw [List.all_eq_false] at this ⊢
  obtain ⟨x, hx, hn⟩ := this
  exact ⟨x, List.mem_of_mem_take hx, hn⟩
/-- A node that may be. -/
def rgt (x : Nd) : Bool :=
  if ar x.k < 0 then false
  else if x.k = 1 then low x.n.data.toList && (decide (1 ≤ x.n.size) && decide (x.n.size ≤ 8)) && (x.s == 0) && !wordB x.n
  else if x.k = 11 ∨ x.k = 14 then decide (x.n.size = 0) && (decide (1 ≤ x.s) && decide (x.s ≤ 3))
  else decide (x.n.size = 0) && (x.s == 0)

set_option maxHeartbeats 2000000 in
theorem right_no (x : Nd) (w : World) (h : ar x.k < 0) : Calls Try.prog 63 #[.agg #[.int .i64 x.k, .string x.n, .int .i64 x.s]] w fun e w' => e = .returned (.bool (rgt x)) ∧ Below w.heap.size w w' := by
  have hr : rgt x = false := by unfold rgt; rw [if_pos h]
  rw [hr]
  clear hr
  obtain ⟨k, n, s⟩ := x
  obtain ⟨a, ha⟩ : ∃ a, ar k = a := ⟨_, rfl⟩
  simp only at h
  rw [ha] at h
  have HA := Lib.hid ha
  clear ha
  go_enter Try.func63, Try.ntmps63
  go_wp2_with fail
  refine (arR_any _ _).mono ?_
  rw [HA.out]
  rintro e w' ⟨rfl, rfl⟩
  go_wp2_with fail
  go_ret
  exact ⟨rfl, (Below.refl _ _).alloc (Nat.le_refl _) _⟩
theorem rgt_act (n : ByteArray) (s : Int) : rgt ⟨1, n, s⟩ = (low n.data.toList && (decide (1 ≤ n.size) && decide (n.size ≤ 8)) && (s == 0) && !wordB n) := by
  unfold rgt
  rw [if_neg (show ¬ ar 1 < 0 from by decide), if_pos rfl]
theorem rgt_sign {k : Int} (n : ByteArray) (s : Int) (h : k = 11 ∨ k = 14) : rgt ⟨k, n, s⟩ = (decide (n.size = 0) && (decide (1 ≤ s) && decide (s ≤ 3))) := by
  unfold rgt
  rw [if_neg (show ¬ ar k < 0 from by rcases h with rfl | rfl <;> decide), if_neg (show ¬ k = 1 from by omega), if_pos h]
theorem rgt_other {k : Int} (n : ByteArray) (s : Int) (h0 : ¬ ar k < 0) (h1 : ¬ k = 1) (h : ¬ (k = 11 ∨ k = 14)) : rgt ⟨k, n, s⟩ = (decide (n.size = 0) && (s == 0)) := by
  unfold rgt
  rw [if_neg h0, if_neg h1, if_neg h]

set_option maxHeartbeats 2000000 in
theorem right_act (n : ByteArray) (s : Int) (w : World) (hn : n.size ≤ 140737488355328) : Calls Try.prog 63 #[.agg #[.int .i64 1, .string n, .int .i64 s]] w fun e w' => e = .returned (.bool (rgt ⟨1, n, s⟩)) ∧ Below w.heap.size w w' := by
  have HR := Lib.hid (rgt_act n s)
  go_enter Try.func63, Try.ntmps63
  go_wp2_with fail
  refine (arR_any _ _).mono ?_
  rintro e w' ⟨rfl, rfl⟩
  rw [show ar 1 = 0 from rfl]
  go_wp2_with fail
  go_loop [3] (fun i => ∃ j : Nat, j ≤ n.size ∧ i = .int .i64 j ∧ Hid (low (n.data.toList.take j) = true)) (fun i => n.size - (intOf i).toNat)
  case atStart => exact ⟨0, Nat.zero_le _, rfl, Lib.hid rfl⟩
  case round =>
    obtain ⟨j, hj, rfl, HL⟩ := hrel
    by_cases hlt : j < n.size
    · have HT := Lib.hid (low_take n j hlt)
      have HN := Lib.hid (fun hb => low_no hlt hb)
      by_cases b1 : n[j].toNat < 97
      · have d1 : decide ((n[j].toNat : Int) < 97) = true := by simp; omega
        have HF := Lib.hid (HN.out (by simp; omega))
        go_wp2_with fail
        go_ret
        refine ⟨ret_bool ?_, (Below.refl _ _).alloc (Nat.le_refl _) _⟩
        rw [HR.out, HF.out]
        rfl
      · have d1 : decide ((n[j].toNat : Int) < 97) = false := by simp; omega
        by_cases b2 : 122 < n[j].toNat
        · have d2 : decide (122 < (n[j].toNat : Int)) = true := by simp; omega
          have HF := Lib.hid (HN.out (by simp; omega))
          go_wp2_with fail
          go_ret
          refine ⟨ret_bool ?_, (Below.refl _ _).alloc (Nat.le_refl _) _⟩
          rw [HR.out, HF.out]
          rfl
        · have d2 : decide (122 < (n[j].toNat : Int)) = false := by simp; omega
          have HG : Hid (low (n.data.toList.take (j + 1)) = true) := by
            show _ = true
            rw [HT.out, HL.out]
            simp
            omega
          go_wp2_with fail
          go_round
          case rel => exact ⟨j + 1, by omega, by go_num, HG⟩
          case measure => simp [intOf]; omega
    · have HF : Hid (low n.data.toList = true) := by
        have := HL.out
        rwa [List.take_of_length_le (by simp; omega)] at this
      have HR' := Lib.hid (HR.out.trans (by rw [HF.out]))
      by_cases q1 : 1 ≤ n.size
      · by_cases q2 : n.size ≤ 8
        · by_cases q3 : s = 0
          · subst q3
            go_wp2_with fail
            refine (word_any _ _).mono ?_
            rintro e w' ⟨rfl, rfl⟩
            go_wp2_with fail
            go_ret
            refine ⟨ret_bool ?_, (Below.refl _ _).alloc (Nat.le_refl _) _⟩
            rw [HR'.out]
            simp [q1, q2]
          · have d3 : (s == 0) = false := by simpa using q3
            go_wp2_with fail
            go_ret
            refine ⟨ret_bool ?_, (Below.refl _ _).alloc (Nat.le_refl _) _⟩
            rw [HR'.out]
            simp [d3]
        · go_wp2_with fail
          go_ret
          refine ⟨ret_bool ?_, (Below.refl _ _).alloc (Nat.le_refl _) _⟩
          rw [HR'.out]
          simp [q2]
      · go_wp2_with fail
        go_ret
        refine ⟨ret_bool ?_, (Below.refl _ _).alloc (Nat.le_refl _) _⟩
        rw [HR'.out]
        simp [q1]

theorem empty_of {n : ByteArray} (h : n.size = 0) : n = ⟨#[]⟩ := by
  obtain ⟨d⟩ := n
  have : d = #[] := Array.eq_empty_of_size_eq_zero h
  rw [this]
theorem not_empty {n : ByteArray} (h : ¬ n.size = 0) : (n.toList == []) = false := str_ne' (l := []) fun e => h (by rw [e]; rfl)
set_option maxHeartbeats 2000000 in
theorem right_sign (k : Int) (n : ByteArray) (s : Int) (w : World) (hk : k = 11 ∨ k = 14) : Calls Try.prog 63 #[.agg #[.int .i64 k, .string n, .int .i64 s]] w fun e w' => e = .returned (.bool (rgt ⟨k, n, s⟩)) ∧ Below w.heap.size w w' := by
  rw [rgt_sign n s hk]
  by_cases q1 : n.size = 0
  · obtain rfl := empty_of q1
    rw [decide_eq_true q1, Bool.true_and]
    clear q1
    by_cases q2 : 1 ≤ s
    · rw [decide_eq_true q2, Bool.true_and]
      by_cases q3 : s ≤ 3
      · rw [decide_eq_true q3]
        rcases hk with rfl | rfl
        all_goals
          go_enter Try.func63, Try.ntmps63
          go_wp2_with fail
          refine (arR_any _ _).mono ?_
          rintro e w' ⟨rfl, rfl⟩
          go_wp2_with fail
          go_ret
          exact ⟨rfl, (Below.refl _ _).alloc (Nat.le_refl _) _⟩
      · have d3 : decide (s ≤ 3) = false := decide_eq_false q3
        rw [d3]
        clear q3
        rcases hk with rfl | rfl
        all_goals
          go_enter Try.func63, Try.ntmps63
          go_wp2_with fail
          refine (arR_any _ _).mono ?_
          rintro e w' ⟨rfl, rfl⟩
          go_wp2_with fail
          go_ret
          exact ⟨rfl, (Below.refl _ _).alloc (Nat.le_refl _) _⟩
    · have d2 : decide (1 ≤ s) = false := decide_eq_false q2
      rw [d2, Bool.false_and]
      clear q2
      rcases hk with rfl | rfl
      all_goals
        go_enter Try.func63, Try.ntmps63
        go_wp2_with fail
        refine (arR_any _ _).mono ?_
        rintro e w' ⟨rfl, rfl⟩
        go_wp2_with fail
        go_ret
        exact ⟨rfl, (Below.refl _ _).alloc (Nat.le_refl _) _⟩
  · have e0 := not_empty q1
    rw [decide_eq_false q1, Bool.false_and]
    clear q1
    rcases hk with rfl | rfl
    all_goals
      go_enter Try.func63, Try.ntmps63
      go_wp2_with fail
      refine (arR_any _ _).mono ?_
      rintro e w' ⟨rfl, rfl⟩
      go_wp2_with fail
      go_ret
      exact ⟨rfl, (Below.refl _ _).alloc (Nat.le_refl _) _⟩
set_option maxHeartbeats 2000000 in
theorem right_other (k : Int) (n : ByteArray) (s : Int) (w : World) (h0 : ¬ ar k < 0) (h1 : ¬ k = 1) (hk : ¬ (k = 11 ∨ k = 14)) : Calls Try.prog 63 #[.agg #[.int .i64 k, .string n, .int .i64 s]] w fun e w' => e = .returned (.bool (rgt ⟨k, n, s⟩)) ∧ Below w.heap.size w w' := by
  rw [rgt_other n s h0 h1 hk]
  have k1 : (k == 1) = false := by rw [beq_eq_false_iff_ne]; omega
  have k2 : (k == 11) = false := by rw [beq_eq_false_iff_ne]; omega
  have k3 : (k == 14) = false := by rw [beq_eq_false_iff_ne]; omega
  obtain ⟨a, ha⟩ : ∃ a, ar k = a := ⟨_, rfl⟩
  rw [ha] at h0
  have HA := Lib.hid ha
  clear ha hk h1
  by_cases q1 : n.size = 0
  · obtain rfl := empty_of q1
    rw [decide_eq_true q1, Bool.true_and]
    clear q1
    go_enter Try.func63, Try.ntmps63
    go_wp2_with fail
    refine (arR_any _ _).mono ?_
    rw [HA.out]
    rintro e w' ⟨rfl, rfl⟩
    go_wp2_with fail
    go_ret
    exact ⟨rfl, (Below.refl _ _).alloc (Nat.le_refl _) _⟩
  · have e0 := not_empty q1
    rw [decide_eq_false q1, Bool.false_and]
    clear q1
    go_enter Try.func63, Try.ntmps63
    go_wp2_with fail
    refine (arR_any _ _).mono ?_
    rw [HA.out]
    rintro e w' ⟨rfl, rfl⟩
    go_wp2_with fail
    go_ret
    exact ⟨rfl, (Below.refl _ _).alloc (Nat.le_refl _) _⟩
/-- The document's Right. -/
theorem rightR_any (x : Nd) (w : World) (hn : x.n.size ≤ 140737488355328) : Calls Try.prog 63 #[.agg #[.int .i64 x.k, .string x.n, .int .i64 x.s]] w fun e w' => e = .returned (.bool (rgt x)) ∧ Below w.heap.size w w' := by
  by_cases h0 : ar x.k < 0
  · exact right_no x w h0
  · obtain ⟨k, n, s⟩ := x
    by_cases h1 : k = 1
    · subst h1
      exact right_act n s w hn
    · by_cases hk : k = 11 ∨ k = 14
      · exact right_sign k n s w hk
      · exact right_other k n s w h0 h1 hk

set_option maxHeartbeats 1000000 in
theorem sizeR_any (v : Value) (l : List Nd) (w : World) (h : Nds w v l) (hl : l.length ≤ 1000000) :
    Calls Try.prog 51 #[v] w fun e w' => e = .returned (.int .i64 (size l)) ∧ w = w' := by
  have hz := size_le l
  have H := Lib.hid h
  obtain ⟨_, a, cap, rfl, -⟩ := h
  cases ht : T l with
  | none =>
    have HS : Hid (size l = 0) := size_pos.2 ht
    have HT := Lib.hid ht
    clear ht
    go_enter Try.func51, Try.ntmps51
    go_wp2_with fail
    refine (walk_any _ l 0 _ H.out hl (Nat.zero_le _)).mono ?_
    rw [List.drop_zero, HT.out]
    rintro e w' ⟨rfl, rfl⟩
    go_wp2_with fail
    go_ret
    exact ⟨ret_int (by rw [HS.out]; rfl), rfl⟩
  | some x =>
    obtain ⟨c, d⟩ := x
    have hs : size l = c := by unfold size; rw [ht]
    rw [hs] at hz ⊢
    have HW : Hid (WalkPost 0 (T l) = fun w e w' => e = .returned (.tuple #[.int .i64 (c : Int), .int .i64 (d : Int)]) ∧ w = w') := by
      funext w e w'
      unfold WalkPost
      rw [ht]
      simp [nx, dp]
    clear ht hs
    go_enter Try.func51, Try.ntmps51
    go_wp2_with fail
    refine (walk_any _ l 0 _ H.out hl (Nat.zero_le _)).mono ?_
    rw [List.drop_zero, HW.out]
    rintro e w' ⟨rfl, rfl⟩
    go_wp2_with fail
    go_ret
    exact ⟨rfl, rfl⟩
set_option maxHeartbeats 1000000 in
theorem depthR_any (v : Value) (l : List Nd) (w : World) (h : Nds w v l) (hl : l.length ≤ 1000000) :
    Calls Try.prog 25 #[v] w fun e w' => e = .returned (.int .i64 (depth l)) ∧ w = w' := by
  have HD : Hid ((depth l : Int) = dp (T l)) := by
    show (depth l : Int) = _
    unfold depth
    cases T l with
    | none => rfl
    | some x => rfl
  have H := Lib.hid h
  obtain ⟨_, a, cap, rfl, -⟩ := h
  rw [HD.out]
  obtain ⟨r, hr⟩ : ∃ r, T l = r := ⟨_, rfl⟩
  rw [hr]
  have HT := Lib.hid hr
  clear hr HD
  obtain ⟨x, hx⟩ : ∃ x, nx 0 r = x := ⟨_, rfl⟩
  obtain ⟨y, hy⟩ : ∃ y, dp r = y := ⟨_, rfl⟩
  have HX := Lib.hid hx
  have HY := Lib.hid hy
  rw [hy]
  clear hx hy
  go_enter Try.func25, Try.ntmps25
  go_wp2_with fail
  refine (walk_any _ l 0 _ H.out hl (Nat.zero_le _)).mono ?_
  unfold WalkPost
  rw [List.drop_zero, HT.out, HX.out, HY.out]
  rintro e w' ⟨rfl, rfl⟩
  go_wp2_with fail
  go_ret
  exact ⟨rfl, rfl⟩
end Go.Proofs.Ytgaediondmdnbaa.Rw

namespace Go.Proofs.Ytgaediondmdnbaa.Rx
open Go Go.RowKit Rw
set_option maxRecDepth 20000

set_option maxHeartbeats 1000000 in
theorem arP_eq (k : Int) (w : World) : Calls Try.prog 54 #[.int .i64 k] w fun e w' => e = .returned (.int .i64 (ar k)) ∧ w = w' := by
  rcases cases15 k with rfl | rfl | rfl | rfl | rfl | rfl | rfl | rfl | rfl | rfl | rfl | rfl | rfl | rfl | h
  case inr.inr.inr.inr.inr.inr.inr.inr.inr.inr.inr.inr.inr.inr =>
    have hr := Lib.hid (ar_no h)
    obtain ⟨h1, h2, h3, h4, h5, h6, h7, h8, h9, h10, h11, h12, h13, h14⟩ := h
    have b1 : (k == 1) = false := by simp [h1]
    have b2 : (k == 2) = false := by simp [h2]
    have b3 : (k == 3) = false := by simp [h3]
    have b4 : (k == 4) = false := by simp [h4]
    have b5 : (k == 5) = false := by simp [h5]
    have b6 : (k == 6) = false := by simp [h6]
    have b7 : (k == 7) = false := by simp [h7]
    have b8 : (k == 8) = false := by simp [h8]
    have b9 : (k == 9) = false := by simp [h9]
    have b10 : (k == 10) = false := by simp [h10]
    have b11 : (k == 11) = false := by simp [h11]
    have b12 : (k == 12) = false := by simp [h12]
    have b13 : (k == 13) = false := by simp [h13]
    have b14 : (k == 14) = false := by simp [h14]
    clear h1 h2 h3 h4 h5 h6 h7 h8 h9 h10 h11 h12 h13 h14
    go_enter Try.func54, Try.ntmps54
    go_wp2_with fail
    go_ret
    exact ⟨ret_int hr.out.symm, rfl⟩
  all_goals
    go_enter Try.func54, Try.ntmps54
    go_wp2_with fail
    go_ret
    exact ⟨rfl, rfl⟩
end Go.Proofs.Ytgaediondmdnbaa.Rx

namespace Go.Proofs.Ytgaediondmdnbaa.Rw
open Go Go.RowKit
set_option maxRecDepth 20000

/-- Names of a length that memory has. -/
def Nms (l : List Nd) : Prop := ∀ x ∈ l, x.n.size ≤ 140737488355328
def whole (l : List Nd) : Bool := l.all rgt && (decide (1 ≤ l.length) && decide (l.length ≤ 200)) && decide (size l = l.length)
theorem all_take (l : List Nd) (k : Nat) (h : k < l.length) : (l.take (k + 1)).all rgt = ((l.take k).all rgt && rgt l[k]) := by
  rw [List.take_succ_eq_append_getElem h, List.all_append]
  simp
theorem all_no {l : List Nd} {k : Nat} (h : k < l.length) (hr : rgt l[k] = false) : l.all rgt = false := by
  rw [List.all_eq_false]
  exact ⟨l[k], List.getElem_mem h, by rw [hr]; decide⟩

set_option maxHeartbeats 1000000 in
theorem whole_empty (a : Option Addr) (cap : Nat) (w : World) :
    Calls Try.prog 40 #[.slice a 0 cap] w fun e w' => e = .returned (.bool false) ∧ Below w.heap.size w w' := by
  go_enter Try.func40, Try.ntmps40
  go_wp2_with fail
  refine Go.wp_loop_rounds 1 ?_
  rw [rounds_succ]
  go_wp2_with fail
  go_ret
  exact ⟨rfl, Below.refl _ _⟩
set_option maxHeartbeats 2000000 in
theorem whole_cells (b off cap : Nat) (l : List Nd) (w : World) (hn : Nds w (.slice (some ⟨b, off, none⟩) l.length cap) l) (hat : At w b off l) (hl : l.length ≤ 1000000) (hm : Nms l) :
    Calls Try.prog 40 #[.slice (some ⟨b, off, none⟩) l.length cap] w fun e w' => e = .returned (.bool (whole l)) ∧ Below w.heap.size w w' := by
  have HN := Lib.hid hn
  have HA := Lib.hid hat
  have HM := Lib.hid hm
  clear hn hat hm
  go_enter Try.func40, Try.ntmps40
  go_wp2_with fail
  go_loopw [3] (fun i wr => ∃ k : Nat, k ≤ l.length ∧ i = .int .i64 k ∧ Below w.heap.size w wr ∧ Hid ((l.take k).all rgt = true)) (fun i _ => l.length - (intOf i).toNat)
  case atStart => exact ⟨0, Nat.zero_le _, rfl, Below.refl _ _, Lib.hid rfl⟩
  case round =>
    obtain ⟨k, hk, rfl, hb, HK⟩ := hrel
    have HB := Lib.hid hb
    clear hb
    by_cases hlt : k < l.length
    · obtain ⟨e1, e2, e3⟩ := HA.out k hlt
      have c1 : wr.cell? ⟨b, off + k * 3, none⟩ = some (.int .i64 l[k].k) := by rw [HB.out.cell (Ap.cell_lt e1)]; exact e1
      have c2 : wr.cell? ⟨b, off + k * 3 + 1, none⟩ = some (.string l[k].n) := by rw [HB.out.cell (Ap.cell_lt e2)]; exact e2
      have c3 : wr.cell? ⟨b, off + k * 3 + 2, none⟩ = some (.int .i64 l[k].s) := by rw [HB.out.cell (Ap.cell_lt e3)]; exact e3
      have HT := Lib.hid (all_take l k hlt)
      have HX := Lib.hid (fun h => all_no (l := l) hlt h)
      have hxm : (l[k]).n.size ≤ 140737488355328 := HM.out _ (List.getElem_mem hlt)
      obtain ⟨x, hx⟩ : ∃ x, l[k] = x := ⟨_, rfl⟩
      rw [hx] at c1 c2 c3 HT HX hxm
      clear hx e1 e2 e3
      cases hr : rgt x with
      | false =>
        have HW : Hid (whole l = false) := by
          show _ = false
          unfold whole
          rw [HX.out hr]
          rfl
        have HR := Lib.hid hr
        clear hr
        go_wp2_with fail
        refine (rightR_any x _ hxm).mono ?_
        rw [HR.out]
        rintro e w' ⟨rfl, hb'⟩
        go_wp2_with fail
        go_ret
        exact ⟨ret_bool HW.out.symm, HB.out.trans (hb'.mono HB.out.size)⟩
      | true =>
        have HK' : Hid ((l.take (k + 1)).all rgt = true) := by
          show _ = true
          rw [HT.out, HK.out, hr]
          rfl
        have HR := Lib.hid hr
        clear hr
        go_wp2_with fail
        refine (rightR_any x _ hxm).mono ?_
        rw [HR.out]
        rintro e w' ⟨rfl, hb'⟩
        go_wp2_with fail
        go_roundw
        case rel => exact ⟨k + 1, by omega, by go_num, HB.out.trans (hb'.mono HB.out.size), HK'⟩
        case measure => simp [intOf]; omega
    · have HL : Hid (l.all rgt = true) := by
        have := HK.out
        rwa [List.take_of_length_le (by omega)] at this
      by_cases q1 : 1 ≤ l.length
      · by_cases q2 : l.length ≤ 200
        · obtain ⟨z, hz⟩ : ∃ z, size l = z := ⟨_, rfl⟩
          have HZ := Lib.hid hz
          have HW : Hid (whole l = decide (z = l.length)) := by
            show _ = _
            unfold whole
            rw [HL.out, decide_eq_true q1, decide_eq_true q2, hz]
            rfl
          clear hz
          go_wp2_with fail
          refine (sizeR_any _ l _ (HN.out.below (HB.out)) hl).mono ?_
          rw [HZ.out]
          rintro e w' ⟨rfl, rfl⟩
          go_wp2_with fail
          go_ret
          refine ⟨ret_bool ?_, HB.out⟩
          rw [HW.out]
          rw [Bool.eq_iff_iff]
          simp
          try omega
        · have HW : Hid (whole l = false) := by
            show _ = _
            unfold whole
            rw [decide_eq_false q2, Bool.and_false, Bool.and_false]
            rfl
          go_wp2_with fail
          go_ret
          exact ⟨ret_bool HW.out.symm, HB.out⟩
      · have HW : Hid (whole l = false) := by
          show _ = _
          unfold whole
          rw [decide_eq_false q1, Bool.false_and, Bool.and_false]
          rfl
        go_wp2_with fail
        go_ret
        exact ⟨ret_bool HW.out.symm, HB.out⟩
theorem wholeR_any (v : Value) (l : List Nd) (w : World) (h : Nds w v l) (hl : l.length ≤ 1000000) (hm : Nms l) :
    Calls Try.prog 40 #[v] w fun e w' => e = .returned (.bool (whole l)) ∧ Below w.heap.size w w' := by
  rcases h.form with ⟨rfl, a, cap, rfl⟩ | ⟨b, off, cap, rfl, _, hat⟩
  · exact whole_empty a cap w
  · exact whole_cells b off cap l w h hat hl hm
theorem Below.drewN (B n : Nat) (w : World) : Below B w (w.drewN n) := by
  induction n with
  | zero => exact Below.refl _ _
  | succ n ih => exact ih.drew
/-- How many nodes are of one of the kinds. -/
def cnt (l : List Nd) (ks : List Int) : Nat := l.countP fun x => decide (x.k ∈ ks)
/-- A slice of integers that reads as these. -/
def Ints (w : World) (v : Value) (l : List Int) : Prop := Ap.Rd w 1 v l.length (l.map (.int .i64))
theorem Ints.below {w w' : World} {v : Value} {l : List Int} (h : Ints w v l) (hb : Below w.heap.size w w') : Ints w' v l := Ap.Rd.below h hb
def AtI (w : World) (b off : Nat) (l : List Int) : Prop := ∀ k, (h : k < l.length) → w.cell? ⟨b, off + k, none⟩ = some (.int .i64 l[k])
theorem Ints.form {w : World} {v : Value} {l : List Int} (h : Ints w v l) :
    (l = [] ∧ ∃ a cap, v = .slice a 0 cap) ∨ ∃ b off cap, v = .slice (some ⟨b, off, none⟩) l.length cap ∧ l.length ≤ cap ∧ AtI w b off l := by
  obtain ⟨_, a, cap, rfl, hle, _, hcell⟩ := h
  by_cases h0 : 0 < l.length
  · obtain ⟨b, off, rfl, hj⟩ := hcell h0
    exact Or.inr ⟨b, off, cap, rfl, hle, fun k hk => hj _ _ (by rw [List.getElem?_map, List.getElem?_eq_getElem hk]; rfl)⟩
  · have : l = [] := List.eq_nil_of_length_eq_zero (by omega)
    subst this
    exact Or.inl ⟨rfl, a, cap, rfl⟩
end Go.Proofs.Ytgaediondmdnbaa.Rw

namespace Go.Proofs.Ytgaediondmdnbaa.Rw
open Go Go.RowKit Go.ChangeShapes Go.WideShapes
set_option maxRecDepth 100000

section
variable {H : Type} {enc : TypeId × Value → H} {P : Program} {w : World}
/-- The datum of a node. -/
def nodeD (x : Nd) : DataW H := .agg [.lit (.int .i64 x.k), .lit (.string x.n.data.toList), .lit (.int .i64 x.s)]
/-- A node's three cells that were read. -/
theorem nd_of {held : Bool} {fuel : Nat} {t ti ts tj : TypeId} {f0 f1 f2 : Field} {cs : List Value} {x : DataW H × List MemPlace} (ut : P.underlying t = some (.struct #[f0, f1, f2])) (ct : P.cellsOf t = 3) (h0 : f0.type = ti) (o0 : f0.offset = 0) (h1 : f1.type = ts) (o1 : f1.offset = 1) (h2 : f2.type = tj) (o2 : f2.offset = 2)
    (ui : P.underlying ti = some (.int .i64)) (ci : P.cellsOf ti = 1) (us : P.underlying ts = some .string) (cs1 : P.cellsOf ts = 1) (uj : P.underlying tj = some (.int .i64)) (cj : P.cellsOf tj = 1)
    (h : DataW.trod enc P w 0 (fun _ => true) held fuel t cs = some x) : ∃ n : Nd, cs = cl n ∧ x.1 = nodeD n := by
  obtain ⟨y0, y1, y2, n, rfl, hl, hy0, hy1, hy2⟩ := Deep.trod_struct3 ut h
  rw [ct] at hl
  match cs, hl with
  | [a, b, c], _ =>
    rw [h0, o0, ci] at hy0
    rw [h1, o1, cs1] at hy1
    rw [h2, o2, cj] at hy2
    obtain ⟨k, e1, e2, _⟩ := DataW.trod_int ui hy0
    obtain ⟨s, e3, e4, _⟩ := DataW.trod_string us hy1
    obtain ⟨j, e5, e6, _⟩ := DataW.trod_int uj hy2
    have e1' : a = .int .i64 k := by simpa using e1
    have e3' : b = .string s := by simpa using e3
    have e5' : c = .int .i64 j := by simpa using e5
    subst e1' e3' e5'
    exact ⟨⟨k, s, j⟩, rfl, by simp [nodeD, e2, e4, e6]⟩
/-- The datum of a row of nodes. -/
def nodesD (l : List Nd) (d : DataW H) : Prop := (l = [] ∧ d = .nil) ∨ ∃ sp : List (DataW H), d = .slice (l.map nodeD) sp
theorem trip_at (f : Nat → Nd) : ∀ (n j : Nat) (u : Value), (cls ((List.range n).map f))[j]? = some u → ∃ i k, i < n ∧ k < 3 ∧ j = i * 3 + k ∧ (cl (f i))[k]? = some u := by
  intro n j u hu
  have hlen : (cls ((List.range n).map f)).length = n * 3 := by rw [cls_len]; simp
  have hj : j < n * 3 := by
    have := (List.getElem?_eq_some_iff.1 hu).1
    omega
  have hk : j / 3 < ((List.range n).map f).length := by simp; omega
  obtain ⟨h1, h2, h3⟩ := cls_at _ (j / 3) hk
  have hx : ((List.range n).map f)[j / 3] = f (j / 3) := by simp
  rw [hx] at h1 h2 h3
  have hr : j % 3 = 0 ∨ j % 3 = 1 ∨ j % 3 = 2 := by omega
  rcases hr with hr | hr | hr
  · rw [← show j = j / 3 * 3 by omega] at h1
    exact ⟨j / 3, 0, by omega, by omega, by omega, by rw [← hu, h1]; rfl⟩
  · rw [← show j = j / 3 * 3 + 1 by omega] at h2
    exact ⟨j / 3, 1, by omega, by omega, by omega, by rw [← hu, h2]; rfl⟩
  · rw [← show j = j / 3 * 3 + 2 by omega] at h3
    exact ⟨j / 3, 2, by omega, by omega, by omega, by rw [← hu, h3]; rfl⟩
/-- A slice of nodes that came in. -/
theorem nds_of {held : Bool} {fuel : Nat} {tt t ti ts tj : TypeId} {f0 f1 f2 : Field} {v : Value} {x : DataW H × List MemPlace} (utt : P.underlying tt = some (.slice t)) (ut : P.underlying t = some (.struct #[f0, f1, f2])) (ct : P.cellsOf t = 3) (h0 : f0.type = ti) (o0 : f0.offset = 0) (h1 : f1.type = ts) (o1 : f1.offset = 1) (h2 : f2.type = tj) (o2 : f2.offset = 2)
    (ui : P.underlying ti = some (.int .i64)) (ci : P.cellsOf ti = 1) (us : P.underlying ts = some .string) (cs1 : P.cellsOf ts = 1) (uj : P.underlying tj = some (.int .i64)) (cj : P.cellsOf tj = 1)
    (h : DataW.trod enc P w 0 (fun _ => true) held fuel tt [v] = some x) : ∃ l : List Nd, Nds w v l ∧ nodesD l x.1 := by
  rcases Deep.open_slice utt h with ⟨hcs, rfl⟩ | ⟨a, len, cap, m, n, D, Pl, hcs, _, hl, hm, hmm, rfl, hel⟩
  · cases hcs
    exact ⟨[], ⟨rfl, none, 0, rfl, Nat.le_refl _, fun _ => ⟨rfl, rfl⟩, fun h => absurd h (by simp)⟩, .inl ⟨rfl, rfl⟩⟩
  · cases hcs
    have hm' : m = cap := by simpa using hmm
    subst hm'
    rw [ct] at hel
    obtain ⟨F, hF⟩ : ∃ F : Nat → Nd, ∀ i, i < len → w.cells? 0 (a.add (i * 3)) 3 = some (cl (F i)) ∧ D i = nodeD (F i) := by
      haveI : Inhabited Nd := ⟨⟨0, ⟨#[]⟩, 0⟩⟩
      refine Deep.choose_lt (α := Nd) (p := fun i z => w.cells? 0 (a.add (i * 3)) 3 = some (cl z) ∧ D i = nodeD z) fun i hi => ?_
      obtain ⟨cs', hc, ht⟩ := hel i (by omega)
      obtain ⟨z, rfl, hz⟩ := nd_of ut ct h0 o0 h1 o1 h2 o2 ui ci us cs1 uj cj ht
      exact ⟨z, hc, hz⟩
    have hlen : ((List.range len).map F).length = len := by simp
    refine ⟨(List.range len).map F, ⟨cls_len _, some a, m, by rw [hlen], by omega, fun h => (by cases h), fun hp => ?_⟩, .inr ⟨(List.range (m - len)).map fun j => D (len + j), ?_⟩⟩
    · rw [hlen] at hp
      obtain ⟨b, off, spot⟩ := a
      have hc0 := (World.cells?_some (hF 0 hp).1).2.2 0 (by omega)
      have hspot : spot = none := by
        have := hc0
        simp [Addr.add, cl] at this
        exact World.cell?_spot this
      subst hspot
      refine ⟨b, off, rfl, fun j u hu => ?_⟩
      obtain ⟨i, k, hi, hk, rfl, hu'⟩ := trip_at F len j u hu
      have hc := (World.cells?_some (hF i hi).1).2.2 k hk
      rw [hu'] at hc
      simpa [Addr.add_lit, Nat.add_assoc] using hc
    · have e : (List.range len).map D = ((List.range len).map F).map nodeD := by
        rw [List.map_map]
        exact List.map_congr_left fun i hi => (hF i (List.mem_range.1 hi)).2
      simp only [e]
/-- The reach, element by element. -/
theorem all_each {e : TypeId} {q : Nat → Bool} : ∀ {l : List (DataW H)}, (DataW.weightsAll P e l).all q = true → ∀ d ∈ l, (d.weights P e).all q = true
  | [], _, d, hd => by cases hd
  | x :: l, h, d, hd => by
    have h' : (DataW.weights P e x ++ DataW.weightsAll P e l).all q = true := h
    rw [List.all_append, Bool.and_eq_true] at h'
    rcases List.mem_cons.1 hd with rfl | hd
    · exact h'.1
    · exact all_each h'.2 d hd
theorem nd_reach {t : TypeId} {f0 f1 f2 : Field} (ut : P.underlying t = some (.struct #[f0, f1, f2])) {x : Nd} (h : ((nodeD x : DataW H).weights P t).all (· ≤ reachBytes) = true) : x.n.size ≤ 140737488355328 := by
  unfold nodeD at h
  rw [DataW.weights, ut] at h
  have h' : (DataW.weights P f0.type (.lit (.int .i64 x.k) : DataW H) ++ (DataW.weights P f1.type (.lit (.string x.n.data.toList) : DataW H) ++ DataW.weightsEach P [f2.type] [.lit (.int .i64 x.s)])).all (· ≤ reachBytes) = true := h
  rw [List.all_append, List.all_append, Bool.and_eq_true, Bool.and_eq_true] at h'
  have h1 : ([x.n.data.toList.length].all (· ≤ reachBytes)) = true := h'.2.1
  have h2 : x.n.data.toList.length = x.n.size := by simp
  rw [h2] at h1
  have h3 : x.n.size ≤ reachBytes := by simpa using h1
  unfold reachBytes at h3
  omega
theorem nds_reach {tt t : TypeId} {f0 f1 f2 : Field} (utt : P.underlying tt = some (.slice t)) (ut : P.underlying t = some (.struct #[f0, f1, f2])) {l : List Nd} {d : DataW H} (hd : nodesD l d) (h : (d.weights P tt).all (· ≤ reachBytes) = true) : Nms l := by
  rcases hd with ⟨rfl, _⟩ | ⟨sp, rfl⟩
  · intro p hp; cases hp
  · rw [DataW.weights, utt] at h
    simp only [List.all_cons, List.all_append, Bool.and_eq_true] at h
    intro x hx
    exact nd_reach ut (all_each h.2.1 _ (List.mem_map.2 ⟨x, hx, rfl⟩))
theorem reach_cons {t : TypeId} {ts : List TypeId} {d : DataW H} {ds : List (DataW H)} (h : (DataW.weightsEach P (t :: ts) (d :: ds)).all (· ≤ reachBytes) = true) : (d.weights P t).all (· ≤ reachBytes) = true ∧ (DataW.weightsEach P ts ds).all (· ≤ reachBytes) = true := by
  have h' : (DataW.weights P t d ++ DataW.weightsEach P ts ds).all (· ≤ reachBytes) = true := h
  rwa [List.all_append, Bool.and_eq_true] at h'
end

theorem own : ownKnob Try.prog.godebug = none := by kernel_rfl
theorem laidOut : laidOutB Try.prog = true := by kernel_rfl
theorem cN : Try.prog.cellsOf 30 = 3 := by kernel_rfl
theorem cStr : Try.prog.cellsOf 9 = 1 := by kernel_rfl
theorem cInt : Try.prog.cellsOf 3 = 1 := by kernel_rfl
section
variable {H : Type} {enc : TypeId × Value → H} {W : World} {base : Nat} {v : Value} {d : DataW H} {p : List MemPlace}
/-- A row of nodes that came in. -/
theorem nds_arg (hok : Value.okWide Try.prog W .any base 22 v) (h : DataW.Trod enc Try.prog W 0 (fun _ => true) true 22 v d p) :
    ∃ l : List Nd, Nds W v l ∧ nodesD l d := by
  obtain ⟨a, len, cap, rfl⟩ := okWide_slice Try.underlying22 hok
  obtain ⟨fuel, hf⟩ := h
  exact nds_of Try.underlying22 Try.underlying30 cN rfl rfl rfl rfl rfl rfl Try.underlying3 cInt Try.underlying9 cStr Try.underlying3 cInt hf
theorem nds_in {l : List Nd} (hd : nodesD l d) (h : (d.weights Try.prog 22).all (· ≤ reachBytes) = true) : Nms l := nds_reach Try.underlying22 Try.underlying30 hd h
end
end Go.Proofs.Ytgaediondmdnbaa.Rw

namespace Go.Proofs.Ytgaediondmdnbaa.So
open Go.Proofs.Ytgaediondmdnbaa.Rw

def k0 (l : List Nd) : List Nd := (kids l).getD 0 []
def k1 (l : List Nd) : List Nd := (kids l).getD 1 []
def hd (l : List Nd) : Int := match l with | [] => 0 | n :: _ => n.k
/-- The four sorts, one step; t: what its kids are. -/
def plainB (t : Nat → List Nd → Bool) (l : List Nd) : Bool :=
  if hd l = 1 ∨ hd l = 2 ∨ hd l = 3 ∨ hd l = 4 then true
  else if hd l = 5 ∨ hd l = 6 ∨ hd l = 7 ∨ hd l = 8 then t 1 (k0 l) && t 1 (k1 l)
  else if hd l = 9 then t 2 (k0 l) else false
def pairedB (t : Nat → List Nd → Bool) (l : List Nd) : Bool :=
  if hd l = 10 then t 1 (k0 l) && t 1 (k1 l)
  else if hd l = 5 ∨ hd l = 6 ∨ hd l = 7 then t 2 (k0 l) && t 2 (k1 l) else false
def plainOnB (t : Nat → List Nd → Bool) (l : List Nd) : Bool :=
  if hd l = 11 then true
  else if hd l = 5 ∨ hd l = 8 then t 3 (k0 l) && t 1 (k1 l)
  else if hd l = 7 then t 3 (k0 l) && t 3 (k1 l)
  else if hd l = 9 then t 4 (k0 l) else false
def pairedOnB (t : Nat → List Nd → Bool) (l : List Nd) : Bool :=
  if hd l = 12 then t 3 (k0 l) && t 1 (k1 l)
  else if hd l = 5 then t 4 (k0 l) && t 2 (k1 l)
  else if hd l = 7 then t 4 (k0 l) && t 4 (k1 l)
  else if hd l = 13 then t 4 (k0 l) && t 1 (k1 l)
  else if hd l = 14 then t 1 (k0 l) else false
def stepB (t : Nat → List Nd → Bool) (s : Nat) (l : List Nd) : Bool :=
  if s = 1 then plainB t l else if s = 2 then pairedB t l else if s = 3 then plainB t l || plainOnB t l else pairedB t l || pairedOnB t l
def isF : Nat → Nat → List Nd → Bool
  | 0, _, _ => false
  | f + 1, s, l => stepB (isF f) s l
theorem kids_short {l r : List Nd} (hr : r ∈ kids l) : r.length < l.length := by
  have hs : size l ≠ 0 := fun e => by
    unfold kids at hr
    rw [if_pos e] at hr
    cases hr
  have h0 : 0 < l.length := by have := size_le l; omega
  cases l with
  | nil => simp at h0
  | cons n rs =>
    have := kids_flat hs
    have h1 : r.length ≤ (kids (n :: rs)).flatten.length := by
      obtain ⟨s, t, hst⟩ := List.append_of_mem hr
      rw [hst]
      simp
      omega
    have h2 : (kids (n :: rs)).flatten.length + 1 = ((n :: rs).take (size (n :: rs))).length := by rw [← this]; simp
    rw [List.length_take] at h2
    omega
theorem getD_short (l : List Nd) (i : Nat) (h : 0 < l.length) : ((kids l).getD i []).length < l.length := by
  rw [List.getD_eq_getElem?_getD]
  cases hx : (kids l)[i]? with
  | none => simpa using h
  | some r => exact kids_short (List.mem_of_getElem? hx)
theorem stepB_congr {t t' : Nat → List Nd → Bool} (s : Nat) (l : List Nd) (h : ∀ s i, t s ((kids l).getD i []) = t' s ((kids l).getD i [])) : stepB t s l = stepB t' s l := by
  unfold stepB plainB pairedB plainOnB pairedOnB k0 k1
  simp only [h]
theorem stepB_nil (t : Nat → List Nd → Bool) (s : Nat) : stepB t s [] = false := by
  unfold stepB plainB pairedB plainOnB pairedOnB
  simp [hd]
theorem isF_nil : ∀ (f s : Nat), isF f s [] = false
  | 0, _ => rfl
  | _ + 1, s => stepB_nil _ s
theorem isF_fuel : ∀ (f : Nat) (s : Nat) (l : List Nd), l.length ≤ f → isF (f + 1) s l = isF f s l
  | 0, s, l, h => by
    have : l = [] := List.eq_nil_of_length_eq_zero (by omega)
    subst this
    rw [isF_nil, isF_nil]
  | f + 1, s, l, h => by
    by_cases h0 : 0 < l.length
    · exact stepB_congr s l fun s' i => isF_fuel f s' _ (by have := getD_short l i h0; omega)
    · have : l = [] := List.eq_nil_of_length_eq_zero (by omega)
      subst this
      rw [isF_nil, isF_nil]
/-- Is a tree of a sort? 1: plain, 2: paired, 3: plain or goes on so, 4: paired or goes on so. -/
def Is (s : Nat) (l : List Nd) : Bool := isF l.length s l
theorem isF_Is (f s : Nat) (l : List Nd) (h : l.length ≤ f) : isF f s l = Is s l := by
  have : ∀ g, isF (l.length + g) s l = isF l.length s l := by
    intro g
    induction g with
    | zero => rfl
    | succ g ih => rw [← Nat.add_assoc, isF_fuel _ _ _ (by omega), ih]
  have h' := this (f - l.length)
  rw [show l.length + (f - l.length) = f by omega] at h'
  exact h'
theorem Is_eq (s : Nat) (l : List Nd) : Is s l = stepB Is s l := by
  cases hl : l.length with
  | zero =>
    have : l = [] := List.eq_nil_of_length_eq_zero hl
    subst this
    rw [stepB_nil]
    rfl
  | succ n =>
    unfold Is
    rw [hl]
    exact stepB_congr s l fun s' i => isF_Is n s' _ (by have := getD_short l i (by omega); omega)
theorem Is_one (l : List Nd) : Is 1 l = plainB Is l := Is_eq 1 l
theorem Is_two (l : List Nd) : Is 2 l = pairedB Is l := Is_eq 2 l
theorem Is_three (l : List Nd) : Is 3 l = (plainB Is l || plainOnB Is l) := Is_eq 3 l
theorem Is_four (l : List Nd) : Is 4 l = (pairedB Is l || pairedOnB Is l) := Is_eq 4 l
theorem one_three {l : List Nd} (h : Is 1 l = true) : Is 3 l = true := by rw [Is_three, ← Is_one, h]; rfl
theorem two_four {l : List Nd} (h : Is 2 l = true) : Is 4 l = true := by rw [Is_four, ← Is_two, h]; rfl

/-- The sort of a row. -/
def first (l : List Nd) : Nat := if Is 1 l then 1 else if Is 2 l then 2 else if Is 3 l then 3 else if Is 4 l then 4 else 0
def of (l : List Nd) : Nat := if whole l then first l else 0
theorem of_le (l : List Nd) : of l ≤ 4 := by
  unfold of first
  repeat' split
  all_goals omega

theorem of_cases (l : List Nd) : of l = 0 ∨ of l = 1 ∨ of l = 2 ∨ of l = 3 ∨ of l = 4 := by have := of_le l; omega

/-- No tree is of both kinds. -/
theorem apart : ∀ (m : Nat) (l : List Nd), l.length ≤ m → ¬ (Is 3 l = true ∧ Is 4 l = true)
  | 0, l, h, hh => by
    have : l = [] := List.eq_nil_of_length_eq_zero (by omega)
    subst this
    rw [Is_eq, stepB_nil] at hh
    cases hh.1
  | m + 1, l, h, hh => by
    by_cases h0 : 0 < l.length
    case neg =>
      have : l = [] := List.eq_nil_of_length_eq_zero (by omega)
      subst this
      rw [Is_eq, stepB_nil] at hh
      cases hh.1
    have i0 := apart m (k0 l) (by have := getD_short l 0 h0; unfold k0; omega)
    obtain ⟨h3, h4⟩ := hh
    have key : ∀ r, (Is 1 r = true ∨ Is 3 r = true) → (Is 2 r = true ∨ Is 4 r = true) → Is 3 r = true ∧ Is 4 r = true := fun r a b =>
      ⟨a.elim one_three id, b.elim two_four id⟩
    rw [Is_three, Bool.or_eq_true] at h3
    rw [Is_four, Bool.or_eq_true] at h4
    unfold plainB plainOnB at h3
    unfold pairedB pairedOnB at h4
    generalize hd l = k at h3 h4
    apply i0
    apply key
    · rcases h3 with h3 | h3
      all_goals
        repeat' split at h3
        all_goals (first | (simp only [Bool.and_eq_true] at h3; exact Or.inl h3.1) | (simp only [Bool.and_eq_true] at h3; exact Or.inr h3.1) | skip)
        all_goals (exfalso; rcases h4 with h4 | h4 <;> (repeat' split at h4) <;> first | omega | (cases h4; done) | (cases h3; done))
    · rcases h4 with h4 | h4
      all_goals
        repeat' split at h4
        all_goals (first | (simp only [Bool.and_eq_true] at h4; exact Or.inl h4.1) | (simp only [Bool.and_eq_true] at h4; exact Or.inr h4.1) | skip)
        all_goals (exfalso; rcases h3 with h3 | h3 <;> (repeat' split at h3) <;> first | omega | (cases h4; done) | (cases h3; done))
end Go.Proofs.Ytgaediondmdnbaa.So
