/- The document's Right, Size, Depth, Whole over rows of nodes. -/
import Derived.Test.YtpkbpooiaddcaaaRww
namespace Go.Proofs.Ytpkbpooiaddcaaa.Rw
open Go Go.RowKit
set_option maxRecDepth 20000

theorem str_ne {s : ByteArray} {l : List UInt8} (h : ¬ s = ⟨l.toArray⟩) : (l == s.toList) = false := by
  rw [beq_eq_false_iff_ne]
  intro e
  apply h
  have : s.data.toList = s.toList := (ByteArray.toList_eq s).symm
  rw [← this] at e
  cases s with
  | mk d => simp at e; subst e; rfl
theorem str_ne' {s : ByteArray} {l : List UInt8} (h : ¬ s = ⟨l.toArray⟩) : (s.toList == l) = false := by
  have := str_ne h
  rw [beq_eq_false_iff_ne] at this ⊢
  exact fun e => this e.symm
/-- Words that no action has. -/
def w1 : ByteArray := ⟨#[115, 107, 105, 112]⟩
def w2 : ByteArray := ⟨#[116, 104, 114, 111, 119]⟩
def w3 : ByteArray := ⟨#[121, 105, 101, 108, 100]⟩
def w4 : ByteArray := ⟨#[115, 107, 105, 112, 112]⟩
def w5 : ByteArray := ⟨#[116, 104, 114, 111, 119, 119]⟩
def w6 : ByteArray := ⟨#[121, 105, 101, 108, 100, 100]⟩
def wordB (s : ByteArray) : Bool := decide (s = w1 ∨ s = w2 ∨ s = w3 ∨ s = w4 ∨ s = w5 ∨ s = w6)
/-- Letters from a to z alone. -/
def low (l : List UInt8) : Bool := l.all fun c => decide (97 ≤ c.toNat) && decide (c.toNat ≤ 122)
theorem low_take (s : ByteArray) (k : Nat) (h : k < s.size) : low (s.data.toList.take (k + 1)) = (low (s.data.toList.take k) && (decide (97 ≤ s[k].toNat) && decide (s[k].toNat ≤ 122))) := by
  unfold low
  rw [List.take_succ_eq_append_getElem (by simpa using h), List.all_append]
  simp
  rfl
theorem low_no {s : ByteArray} {k : Nat} (h : k < s.size) (hb : (decide (97 ≤ s[k].toNat) && decide (s[k].toNat ≤ 122)) = false) : low s.data.toList = false := by
  have := low_take s k h
  rw [hb, Bool.and_false] at this
  unfold low at this ⊢
  rw [List.all_eq_false] at this ⊢
  obtain ⟨x, hx, hn⟩ := this
  exact ⟨x, List.mem_of_mem_take hx, hn⟩
/-- A node that may be. -/
def rgt (x : Nd) : Bool :=
  if ar x.k < 0 then false
  else if x.k = 1 then low x.n.data.toList && (decide (1 ≤ x.n.size) && decide (x.n.size ≤ 8)) && (x.s == 0) && !wordB x.n
  else if x.k = 11 ∨ x.k = 14 then decide (x.n.size = 0) && (decide (1 ≤ x.s) && decide (x.s ≤ 3))
  else decide (x.n.size = 0) && (x.s == 0)

theorem rgt_act (n : ByteArray) (s : Int) : rgt ⟨1, n, s⟩ = (low n.data.toList && (decide (1 ≤ n.size) && decide (n.size ≤ 8)) && (s == 0) && !wordB n) := by
  unfold rgt
  rw [if_neg (show ¬ ar 1 < 0 from by decide), if_pos rfl]
theorem rgt_sign {k : Int} (n : ByteArray) (s : Int) (h : k = 11 ∨ k = 14) : rgt ⟨k, n, s⟩ = (decide (n.size = 0) && (decide (1 ≤ s) && decide (s ≤ 3))) := by
  unfold rgt
  rw [if_neg (show ¬ ar k < 0 from by rcases h with rfl | rfl <;> decide), if_neg (show ¬ k = 1 from by omega), if_pos h]
theorem rgt_other {k : Int} (n : ByteArray) (s : Int) (h0 : ¬ ar k < 0) (h1 : ¬ k = 1) (h : ¬ (k = 11 ∨ k = 14)) : rgt ⟨k, n, s⟩ = (decide (n.size = 0) && (s == 0)) := by
  unfold rgt
  rw [if_neg h0, if_neg h1, if_neg h]

theorem empty_of {n : ByteArray} (h : n.size = 0) : n = ⟨#[]⟩ := by
  obtain ⟨d⟩ := n
  have : d = #[] := Array.eq_empty_of_size_eq_zero h
  rw [this]
theorem not_empty {n : ByteArray} (h : ¬ n.size = 0) : (n.toList == []) = false := str_ne' (l := []) fun e => h (by rw [e]; rfl)
set_option maxHeartbeats 1000000 in
theorem depthR_any (v : Value) (l : List Nd) (w : World) (h : Nds w v l) (hl : l.length ≤ 1000000) :
    Calls Try.prog 21 #[v] w fun e w' => e = .returned (.int .i64 (depth l)) ∧ w = w' := by
  have HD : Hid ((depth l : Int) = dp (T l)) := by
    show (depth l : Int) = _
    unfold depth
    cases T l with
    | none => rfl
    | some x => rfl
  have H := Lib.hid h
  obtain ⟨_, a, cap, rfl, -⟩ := h
  rw [HD.out]
  obtain ⟨r, hr⟩ : ∃ r, T l = r := ⟨_, rfl⟩
  rw [hr]
  have HT := Lib.hid hr
  clear hr HD
  obtain ⟨x, hx⟩ : ∃ x, nx 0 r = x := ⟨_, rfl⟩
  obtain ⟨y, hy⟩ : ∃ y, dp r = y := ⟨_, rfl⟩
  have HX := Lib.hid hx
  have HY := Lib.hid hy
  rw [hy]
  clear hx hy
  go_enter Try.func21, Try.ntmps21
  go_wp2_with fail
  refine (walk_any _ l 0 _ H.out hl (Nat.zero_le _)).mono ?_
  unfold WalkPost
  rw [List.drop_zero, HT.out, HX.out, HY.out]
  rintro e w' ⟨rfl, rfl⟩
  go_wp2_with fail
  go_ret
  exact ⟨rfl, rfl⟩
end Go.Proofs.Ytpkbpooiaddcaaa.Rw
