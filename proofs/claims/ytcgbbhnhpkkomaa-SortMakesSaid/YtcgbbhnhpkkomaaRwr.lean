/- The document's Right, Size, Depth, Whole over rows of nodes. -/
import Derived.Test.YtcgbbhnhpkkomaaRww
namespace Go.Proofs.Ytcgbbhnhpkkomaa.Rw
open Go Go.RowKit
set_option maxRecDepth 20000

theorem str_ne {s : ByteArray} {l : List UInt8} (h : ¬ s = ⟨l.toArray⟩) : (l == s.toList) = false := by
  rw [beq_eq_false_iff_ne]
  intro e
  apply h
  have : s.data.toList = s.toList := (ByteArray.toList_eq s).symm
  rw [← this] at e
  cases s with
  | mk d => simp at e; subst e; rfl
theorem str_ne' {s : ByteArray} {l : List UInt8} (h : ¬ s = ⟨l.toArray⟩) : (s.toList == l) = false := by
  have := str_ne h
  rw [beq_eq_false_iff_ne] at this ⊢
  exact fun e => this e.symm
/-- Words that no action has. -/
def w1 : ByteArray := ⟨#[115, 107, 105, 112]⟩
def w2 : ByteArray := ⟨#[116, 104, 114, 111, 119]⟩
def w3 : ByteArray := ⟨#[121, 105, 101, 108, 100]⟩
def w4 : ByteArray := ⟨#[115, 107, 105, 112, 112]⟩
def w5 : ByteArray := ⟨#[116, 104, 114, 111, 119, 119]⟩
def w6 : ByteArray := ⟨#[121, 105, 101, 108, 100, 100]⟩
def wordB (s : ByteArray) : Bool := decide (s = w1 ∨ s = w2 ∨ s = w3 ∨ s = w4 ∨ s = w5 ∨ s = w6)
set_option maxHeartbeats 1000000 in
theorem word_any (s : ByteArray) (w : World) : Calls Try.prog 56 #[.string s] w fun e w' => e = .returned (.bool (wordB s)) ∧ w = w' := by
  by_cases h : s = w1 ∨ s = w2 ∨ s = w3 ∨ s = w4 ∨ s = w5 ∨ s = w6
  · have hb : wordB s = true := by simpa [wordB] using h
    rw [hb]
    clear hb
    rcases h with rfl | rfl | rfl | rfl | rfl | rfl
    all_goals
      simp only [w1, w2, w3, w4, w5, w6]
      go_enter Try.func56, Try.ntmps56
      go_wp2_with fail
      go_ret
      exact ⟨rfl, rfl⟩
  · have hb : wordB s = false := by simpa [wordB] using h
    rw [hb]
    clear hb
    simp only [not_or] at h
    obtain ⟨h1, h2, h3, h4, h5, h6⟩ := h
    have e1 := str_ne' (l := [115, 107, 105, 112]) h1
    have e2 := str_ne' (l := [116, 104, 114, 111, 119]) h2
    have e3 := str_ne' (l := [121, 105, 101, 108, 100]) h3
    have e4 := str_ne' (l := [115, 107, 105, 112, 112]) h4
    have e5 := str_ne' (l := [116, 104, 114, 111, 119, 119]) h5
    have e6 := str_ne' (l := [121, 105, 101, 108, 100, 100]) h6
    clear h1 h2 h3 h4 h5 h6
    go_enter Try.func56, Try.ntmps56
    go_wp2_with fail
    go_ret
    exact ⟨rfl, rfl⟩

/-- Letters from a to z alone. -/
def low (l : List UInt8) : Bool := l.all fun c => decide (97 ≤ c.toNat) && decide (c.toNat ≤ 122)
theorem low_take (s : ByteArray) (k : Nat) (h : k < s.size) : low (s.data.toList.take (k + 1)) = (low (s.data.toList.take k) && (decide (97 ≤ s[k].toNat) && decide (s[k].toNat ≤ 122))) := by
  unfold low
  rw [List.take_succ_eq_append_getElem (by simpa using h), List.all_append]
  simp
  rfl
theorem low_no {s : ByteArray} {k : Nat} (h : k < s.size) (hb : (decide (97 ≤ s[k].toNat) && decide (s[k].toNat ≤ 122)) = false) : low s.data.toList = false := by
  have := low_take s k h
  rw [hb, Bool.and_false] at this
  unfold low at this ⊢
  rw [List.all_eq_false] at this ⊢
  obtain ⟨x, hx, hn⟩ := this
  exact ⟨x, List.mem_of_mem_take hx, hn⟩
/-- A node that may be. -/
def rgt (x : Nd) : Bool :=
  if ar x.k < 0 then false
  else if x.k = 1 then low x.n.data.toList && (decide (1 ≤ x.n.size) && decide (x.n.size ≤ 8)) && (x.s == 0) && !wordB x.n
  else if x.k = 11 ∨ x.k = 14 then decide (x.n.size = 0) && (decide (1 ≤ x.s) && decide (x.s ≤ 3))
  else decide (x.n.size = 0) && (x.s == 0)

set_option maxHeartbeats 2000000 in
theorem right_no (x : Nd) (w : World) (h : ar x.k < 0) : Calls Try.prog 42 #[.agg #[.int .i64 x.k, .string x.n, .int .i64 x.s]] w fun e w' => e = .returned (.bool (rgt x)) ∧ Below w.heap.size w w' := by
  have hr : rgt x = false := by unfold rgt; rw [if_pos h]
  rw [hr]
  clear hr
  obtain ⟨k, n, s⟩ := x
  obtain ⟨a, ha⟩ : ∃ a, ar k = a := ⟨_, rfl⟩
  simp only at h
  rw [ha] at h
  have HA := Lib.hid ha
  clear ha
  go_enter Try.func42, Try.ntmps42
  go_wp2_with fail
  refine (arR_any _ _).mono ?_
  rw [HA.out]
  rintro e w' ⟨rfl, rfl⟩
  go_wp2_with fail
  go_ret
  exact ⟨rfl, (Below.refl _ _).alloc (Nat.le_refl _) _⟩
theorem rgt_act (n : ByteArray) (s : Int) : rgt ⟨1, n, s⟩ = (low n.data.toList && (decide (1 ≤ n.size) && decide (n.size ≤ 8)) && (s == 0) && !wordB n) := by
  unfold rgt
  rw [if_neg (show ¬ ar 1 < 0 from by decide), if_pos rfl]
theorem rgt_sign {k : Int} (n : ByteArray) (s : Int) (h : k = 11 ∨ k = 14) : rgt ⟨k, n, s⟩ = (decide (n.size = 0) && (decide (1 ≤ s) && decide (s ≤ 3))) := by
  unfold rgt
  rw [if_neg (show ¬ ar k < 0 from by rcases h with rfl | rfl <;> decide), if_neg (show ¬ k = 1 from by omega), if_pos h]
theorem rgt_other {k : Int} (n : ByteArray) (s : Int) (h0 : ¬ ar k < 0) (h1 : ¬ k = 1) (h : ¬ (k = 11 ∨ k = 14)) : rgt ⟨k, n, s⟩ = (decide (n.size = 0) && (s == 0)) := by
  unfold rgt
  rw [if_neg h0, if_neg h1, if_neg h]

set_option maxHeartbeats 2000000 in
theorem right_act (n : ByteArray) (s : Int) (w : World) (hn : n.size ≤ 140737488355328) : Calls Try.prog 42 #[.agg #[.int .i64 1, .string n, .int .i64 s]] w fun e w' => e = .returned (.bool (rgt ⟨1, n, s⟩)) ∧ Below w.heap.size w w' := by
  have HR := Lib.hid (rgt_act n s)
  go_enter Try.func42, Try.ntmps42
  go_wp2_with fail
  refine (arR_any _ _).mono ?_
  rintro e w' ⟨rfl, rfl⟩
  rw [show ar 1 = 0 from rfl]
  go_wp2_with fail
  go_loop [3] (fun i => ∃ j : Nat, j ≤ n.size ∧ i = .int .i64 j ∧ Hid (low (n.data.toList.take j) = true)) (fun i => n.size - (intOf i).toNat)
  case atStart => exact ⟨0, Nat.zero_le _, rfl, Lib.hid rfl⟩
  case round =>
    obtain ⟨j, hj, rfl, HL⟩ := hrel
    by_cases hlt : j < n.size
    · have HT := Lib.hid (low_take n j hlt)
      have HN := Lib.hid (fun hb => low_no hlt hb)
      by_cases b1 : n[j].toNat < 97
      · have d1 : decide ((n[j].toNat : Int) < 97) = true := by simp; omega
        have HF := Lib.hid (HN.out (by simp; omega))
        go_wp2_with fail
        go_ret
        refine ⟨ret_bool ?_, (Below.refl _ _).alloc (Nat.le_refl _) _⟩
        rw [HR.out, HF.out]
        rfl
      · have d1 : decide ((n[j].toNat : Int) < 97) = false := by simp; omega
        by_cases b2 : 122 < n[j].toNat
        · have d2 : decide (122 < (n[j].toNat : Int)) = true := by simp; omega
          have HF := Lib.hid (HN.out (by simp; omega))
          go_wp2_with fail
          go_ret
          refine ⟨ret_bool ?_, (Below.refl _ _).alloc (Nat.le_refl _) _⟩
          rw [HR.out, HF.out]
          rfl
        · have d2 : decide (122 < (n[j].toNat : Int)) = false := by simp; omega
          have HG : Hid (low (n.data.toList.take (j + 1)) = true) := by
            show _ = true
            rw [HT.out, HL.out]
            simp
            omega
          go_wp2_with fail
          go_round
          case rel => exact ⟨j + 1, by omega, by go_num, HG⟩
          case measure => simp [intOf]; omega
    · have HF : Hid (low n.data.toList = true) := by
        have := HL.out
        rwa [List.take_of_length_le (by simp; omega)] at this
      have HR' := Lib.hid (HR.out.trans (by rw [HF.out]))
      by_cases q1 : 1 ≤ n.size
      · by_cases q2 : n.size ≤ 8
        · by_cases q3 : s = 0
          · subst q3
            go_wp2_with fail
            refine (word_any _ _).mono ?_
            rintro e w' ⟨rfl, rfl⟩
            go_wp2_with fail
            go_ret
            refine ⟨ret_bool ?_, (Below.refl _ _).alloc (Nat.le_refl _) _⟩
            rw [HR'.out]
            simp [q1, q2]
          · have d3 : (s == 0) = false := by simpa using q3
            go_wp2_with fail
            go_ret
            refine ⟨ret_bool ?_, (Below.refl _ _).alloc (Nat.le_refl _) _⟩
            rw [HR'.out]
            simp [d3]
        · go_wp2_with fail
          go_ret
          refine ⟨ret_bool ?_, (Below.refl _ _).alloc (Nat.le_refl _) _⟩
          rw [HR'.out]
          simp [q2]
      · go_wp2_with fail
        go_ret
        refine ⟨ret_bool ?_, (Below.refl _ _).alloc (Nat.le_refl _) _⟩
        rw [HR'.out]
        simp [q1]

theorem empty_of {n : ByteArray} (h : n.size = 0) : n = ⟨#[]⟩ := by
  obtain ⟨d⟩ := n
  have : d = #[] := Array.eq_empty_of_size_eq_zero h
  rw [this]
theorem not_empty {n : ByteArray} (h : ¬ n.size = 0) : (n.toList == []) = false := str_ne' (l := []) fun e => h (by rw [e]; rfl)
set_option maxHeartbeats 2000000 in
theorem right_sign (k : Int) (n : ByteArray) (s : Int) (w : World) (hk : k = 11 ∨ k = 14) : Calls Try.prog 42 #[.agg #[.int .i64 k, .string n, .int .i64 s]] w fun e w' => e = .returned (.bool (rgt ⟨k, n, s⟩)) ∧ Below w.heap.size w w' := by
  rw [rgt_sign n s hk]
  by_cases q1 : n.size = 0
  · obtain rfl := empty_of q1
    rw [decide_eq_true q1, Bool.true_and]
    clear q1
    by_cases q2 : 1 ≤ s
    · rw [decide_eq_true q2, Bool.true_and]
      by_cases q3 : s ≤ 3
      · rw [decide_eq_true q3]
        rcases hk with rfl | rfl
        all_goals
          go_enter Try.func42, Try.ntmps42
          go_wp2_with fail
          refine (arR_any _ _).mono ?_
          rintro e w' ⟨rfl, rfl⟩
          go_wp2_with fail
          go_ret
          exact ⟨rfl, (Below.refl _ _).alloc (Nat.le_refl _) _⟩
      · have d3 : decide (s ≤ 3) = false := decide_eq_false q3
        rw [d3]
        clear q3
        rcases hk with rfl | rfl
        all_goals
          go_enter Try.func42, Try.ntmps42
          go_wp2_with fail
          refine (arR_any _ _).mono ?_
          rintro e w' ⟨rfl, rfl⟩
          go_wp2_with fail
          go_ret
          exact ⟨rfl, (Below.refl _ _).alloc (Nat.le_refl _) _⟩
    · have d2 : decide (1 ≤ s) = false := decide_eq_false q2
      rw [d2, Bool.false_and]
      clear q2
      rcases hk with rfl | rfl
      all_goals
        go_enter Try.func42, Try.ntmps42
        go_wp2_with fail
        refine (arR_any _ _).mono ?_
        rintro e w' ⟨rfl, rfl⟩
        go_wp2_with fail
        go_ret
        exact ⟨rfl, (Below.refl _ _).alloc (Nat.le_refl _) _⟩
  · have e0 := not_empty q1
    rw [decide_eq_false q1, Bool.false_and]
    clear q1
    rcases hk with rfl | rfl
    all_goals
      go_enter Try.func42, Try.ntmps42
      go_wp2_with fail
      refine (arR_any _ _).mono ?_
      rintro e w' ⟨rfl, rfl⟩
      go_wp2_with fail
      go_ret
      exact ⟨rfl, (Below.refl _ _).alloc (Nat.le_refl _) _⟩
set_option maxHeartbeats 2000000 in
theorem right_other (k : Int) (n : ByteArray) (s : Int) (w : World) (h0 : ¬ ar k < 0) (h1 : ¬ k = 1) (hk : ¬ (k = 11 ∨ k = 14)) : Calls Try.prog 42 #[.agg #[.int .i64 k, .string n, .int .i64 s]] w fun e w' => e = .returned (.bool (rgt ⟨k, n, s⟩)) ∧ Below w.heap.size w w' := by
  rw [rgt_other n s h0 h1 hk]
  have k1 : (k == 1) = false := by rw [beq_eq_false_iff_ne]; omega
  have k2 : (k == 11) = false := by rw [beq_eq_false_iff_ne]; omega
  have k3 : (k == 14) = false := by rw [beq_eq_false_iff_ne]; omega
  obtain ⟨a, ha⟩ : ∃ a, ar k = a := ⟨_, rfl⟩
  rw [ha] at h0
  have HA := Lib.hid ha
  clear ha hk h1
  by_cases q1 : n.size = 0
  · obtain rfl := empty_of q1
    rw [decide_eq_true q1, Bool.true_and]
    clear q1
    go_enter Try.func42, Try.ntmps42
    go_wp2_with fail
    refine (arR_any _ _).mono ?_
    rw [HA.out]
    rintro e w' ⟨rfl, rfl⟩
    go_wp2_with fail
    go_ret
    exact ⟨rfl, (Below.refl _ _).alloc (Nat.le_refl _) _⟩
  · have e0 := not_empty q1
    rw [decide_eq_false q1, Bool.false_and]
    clear q1
    go_enter Try.func42, Try.ntmps42
    go_wp2_with fail
    refine (arR_any _ _).mono ?_
    rw [HA.out]
    rintro e w' ⟨rfl, rfl⟩
    go_wp2_with fail
    go_ret
    exact ⟨rfl, (Below.refl _ _).alloc (Nat.le_refl _) _⟩
/-- The document's Right. -/
theorem rightR_any (x : Nd) (w : World) (hn : x.n.size ≤ 140737488355328) : Calls Try.prog 42 #[.agg #[.int .i64 x.k, .string x.n, .int .i64 x.s]] w fun e w' => e = .returned (.bool (rgt x)) ∧ Below w.heap.size w w' := by
  by_cases h0 : ar x.k < 0
  · exact right_no x w h0
  · obtain ⟨k, n, s⟩ := x
    by_cases h1 : k = 1
    · subst h1
      exact right_act n s w hn
    · by_cases hk : k = 11 ∨ k = 14
      · exact right_sign k n s w hk
      · exact right_other k n s w h0 h1 hk

set_option maxHeartbeats 1000000 in
theorem sizeR_any (v : Value) (l : List Nd) (w : World) (h : Nds w v l) (hl : l.length ≤ 1000000) :
    Calls Try.prog 43 #[v] w fun e w' => e = .returned (.int .i64 (size l)) ∧ w = w' := by
  have hz := size_le l
  have H := Lib.hid h
  obtain ⟨_, a, cap, rfl, -⟩ := h
  cases ht : T l with
  | none =>
    have HS : Hid (size l = 0) := size_pos.2 ht
    have HT := Lib.hid ht
    clear ht
    go_enter Try.func43, Try.ntmps43
    go_wp2_with fail
    refine (walk_any _ l 0 _ H.out hl (Nat.zero_le _)).mono ?_
    rw [List.drop_zero, HT.out]
    rintro e w' ⟨rfl, rfl⟩
    go_wp2_with fail
    go_ret
    exact ⟨ret_int (by rw [HS.out]; rfl), rfl⟩
  | some x =>
    obtain ⟨c, d⟩ := x
    have hs : size l = c := by unfold size; rw [ht]
    rw [hs] at hz ⊢
    have HW : Hid (WalkPost 0 (T l) = fun w e w' => e = .returned (.tuple #[.int .i64 (c : Int), .int .i64 (d : Int)]) ∧ w = w') := by
      funext w e w'
      unfold WalkPost
      rw [ht]
      simp [nx, dp]
    clear ht hs
    go_enter Try.func43, Try.ntmps43
    go_wp2_with fail
    refine (walk_any _ l 0 _ H.out hl (Nat.zero_le _)).mono ?_
    rw [List.drop_zero, HW.out]
    rintro e w' ⟨rfl, rfl⟩
    go_wp2_with fail
    go_ret
    exact ⟨rfl, rfl⟩
set_option maxHeartbeats 1000000 in
theorem depthR_any (v : Value) (l : List Nd) (w : World) (h : Nds w v l) (hl : l.length ≤ 1000000) :
    Calls Try.prog 24 #[v] w fun e w' => e = .returned (.int .i64 (depth l)) ∧ w = w' := by
  have HD : Hid ((depth l : Int) = dp (T l)) := by
    show (depth l : Int) = _
    unfold depth
    cases T l with
    | none => rfl
    | some x => rfl
  have H := Lib.hid h
  obtain ⟨_, a, cap, rfl, -⟩ := h
  rw [HD.out]
  obtain ⟨r, hr⟩ : ∃ r, T l = r := ⟨_, rfl⟩
  rw [hr]
  have HT := Lib.hid hr
  clear hr HD
  obtain ⟨x, hx⟩ : ∃ x, nx 0 r = x := ⟨_, rfl⟩
  obtain ⟨y, hy⟩ : ∃ y, dp r = y := ⟨_, rfl⟩
  have HX := Lib.hid hx
  have HY := Lib.hid hy
  rw [hy]
  clear hx hy
  go_enter Try.func24, Try.ntmps24
  go_wp2_with fail
  refine (walk_any _ l 0 _ H.out hl (Nat.zero_le _)).mono ?_
  unfold WalkPost
  rw [List.drop_zero, HT.out, HX.out, HY.out]
  rintro e w' ⟨rfl, rfl⟩
  go_wp2_with fail
  go_ret
  exact ⟨rfl, rfl⟩
end Go.Proofs.Ytcgbbhnhpkkomaa.Rw
