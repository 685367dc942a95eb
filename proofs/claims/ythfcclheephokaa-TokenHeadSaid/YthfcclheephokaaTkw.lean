/- Rows of tokens in memory; the document's letter, kind, named, Word, Same. -/
import Derived.Test.YthfcclheephokaaProg
import Derived.Test.YthfcclheephokaaTkm
import Derived.Test.YthfcclheephokaaAp
import Derived.WalkKit
import Derived.WalkSpells
import Derived.WalkLawsBesides
import Derived.Lib.Hide
import Derived.Deep.QuietTactic
import Derived.BigQuiet
import Derived.Laws.StructEq
namespace Go.Proofs.Ythfcclheephokaa.To
open Go Go.RowKit
set_option maxRecDepth 20000

theorem ret_int {k : IntKind} {a b : Int} (h : a = b) : Ending.returned (.int k a) = .returned (.int k b) := congrArg (fun z => Ending.returned (.int k z)) h
theorem ret_bool {a b : Bool} (h : a = b) : Ending.returned (.bool a) = .returned (.bool b) := by rw [h]
theorem Below.drewN (B n : Nat) (w : World) : Below B w (w.drewN n) := by
  induction n with
  | zero => exact Below.refl _ _
  | succ n ih => exact ih.drew

theorem below_any (w : World) (o : Obj) : Below w.heap.size w (w.alloc o) := (Below.refl _ _).alloc (Nat.le_refl _) _
/-- A token's cells. -/
def cl (x : Tk) : List Value := [.int .i64 x.k, .int .i64 x.a, .string x.n]
def cls : List Tk → List Value
  | [] => []
  | x :: l => cl x ++ cls l
theorem cls_len : ∀ l : List Tk, (cls l).length = l.length * 3
  | [] => rfl
  | x :: l => by rw [cls, List.length_append, cls_len l]; simp [cl]; omega
theorem cls_append : ∀ l m : List Tk, cls (l ++ m) = cls l ++ cls m
  | [], _ => rfl
  | x :: l, m => by rw [List.cons_append, cls, cls_append l m, cls, List.append_assoc]
theorem cls_at : ∀ (l : List Tk) (k : Nat) (h : k < l.length), (cls l)[k * 3]? = some (.int .i64 l[k].k) ∧ (cls l)[k * 3 + 1]? = some (.int .i64 l[k].a) ∧ (cls l)[k * 3 + 2]? = some (.string l[k].n)
  | [], k, h => by simp at h
  | x :: l, 0, _ => ⟨rfl, rfl, rfl⟩
  | x :: l, k + 1, h => by
    have := cls_at l k (by simpa using h)
    simpa [cls, cl, show (k + 1) * 3 = k * 3 + 1 + 1 + 1 by omega] using this
/-- A slice of tokens that reads as these. -/
def Tks (w : World) (v : Value) (l : List Tk) : Prop := Ap.Rd w 3 v l.length (cls l)
theorem Tks.below {w w' : World} {v : Value} {l : List Tk} (h : Tks w v l) (hb : Below w.heap.size w w') : Tks w' v l := Ap.Rd.below h hb
/-- Token k's three cells. -/
def At (w : World) (b off : Nat) (l : List Tk) : Prop := ∀ k, (h : k < l.length) → w.cell? ⟨b, off + k * 3, none⟩ = some (.int .i64 l[k].k) ∧ w.cell? ⟨b, off + k * 3 + 1, none⟩ = some (.int .i64 l[k].a) ∧ w.cell? ⟨b, off + k * 3 + 2, none⟩ = some (.string l[k].n)
theorem Tks.form {w : World} {v : Value} {l : List Tk} (h : Tks w v l) :
    (l = [] ∧ ∃ a cap, v = .slice a 0 cap) ∨ ∃ b off cap, v = .slice (some ⟨b, off, none⟩) l.length cap ∧ l.length ≤ cap ∧ At w b off l := by
  obtain ⟨_, a, cap, rfl, hle, _, hcell⟩ := h
  by_cases h0 : 0 < l.length
  · obtain ⟨b, off, rfl, hj⟩ := hcell h0
    refine Or.inr ⟨b, off, cap, rfl, hle, fun k hk => ?_⟩
    obtain ⟨h1, h2, h3⟩ := cls_at l k hk
    exact ⟨hj _ _ h1, by rw [Nat.add_assoc]; exact hj _ _ h2, by rw [Nat.add_assoc]; exact hj _ _ h3⟩
  · have : l = [] := List.eq_nil_of_length_eq_zero (by omega)
    subst this
    exact Or.inl ⟨rfl, a, cap, rfl⟩

theorem str_ne {s : ByteArray} {l : List UInt8} (h : ¬ s = ⟨l.toArray⟩) : (l == s.toList) = false := by
  rw [beq_eq_false_iff_ne]
  intro e
  apply h
  have : s.data.toList = s.toList := (ByteArray.toList_eq s).symm
  rw [← this] at e
  cases s with
  | mk d => simp at e; subst e; rfl
theorem str_ne' {s : ByteArray} {l : List UInt8} (h : ¬ s = ⟨l.toArray⟩) : (s.toList == l) = false := by
  have := str_ne h
  rw [beq_eq_false_iff_ne] at this ⊢
  exact fun e => this e.symm
theorem empty_of {n : ByteArray} (h : n.size = 0) : n = ⟨#[]⟩ := by
  obtain ⟨d⟩ := n
  have : d = #[] := Array.eq_empty_of_size_eq_zero h
  rw [this]
theorem not_empty {n : ByteArray} (h : ¬ n = ⟨#[]⟩) : (n.toList == []) = false := str_ne' (l := []) h

/-- Is a byte a letter? -/
theorem letR_any (b : UInt8) (w : World) : Calls Try.prog 20 #[.int .u8 (b.toNat : Int)] w fun e w' => e = .returned (.bool (letB b)) ∧ w = w' := by
  by_cases h1 : 97 ≤ b.toNat
  · have d1 : decide ((b.toNat : Int) ≥ 97) = true := by simp; omega
    by_cases h2 : b.toNat ≤ 122
    · have d2 : decide ((b.toNat : Int) ≤ 122) = true := by simp; omega
      have hr : letB b = true := by unfold letB; rw [decide_eq_true h1, decide_eq_true h2]; rfl
      rw [hr]
      clear hr h1 h2
      go_enter Try.func20, Try.ntmps20
      go_wp2_with fail
      go_ret
      exact ⟨by first | rfl | (simp; omega), rfl⟩
    · have d2 : decide ((b.toNat : Int) ≤ 122) = false := by simp; omega
      have hr : letB b = false := by unfold letB; rw [decide_eq_false h2, Bool.and_false]
      rw [hr]
      clear hr h1 h2
      go_enter Try.func20, Try.ntmps20
      go_wp2_with fail
      go_ret
      exact ⟨by first | rfl | (simp; omega), rfl⟩
  · have d1 : decide ((b.toNat : Int) ≥ 97) = false := by simp; omega
    have hr : letB b = false := by unfold letB; rw [decide_eq_false h1, Bool.false_and]
    rw [hr]
    clear hr h1
    go_enter Try.func20, Try.ntmps20
    go_wp2_with fail
    go_ret
    exact ⟨by first | rfl | (simp; omega), rfl⟩
theorem sig_bytes (b : UInt8) : b = 40 ∨ b = 41 ∨ b = 91 ∨ b = 93 ∨ b = 59 ∨ b = 43 ∨ b = 124 ∨ b = 62 ∨ b = 47 ∨ (sig b = 0 ∧ b.toNat ≠ 40 ∧ b.toNat ≠ 41 ∧ b.toNat ≠ 91 ∧ b.toNat ≠ 93 ∧ b.toNat ≠ 59 ∧ b.toNat ≠ 43 ∧ b.toNat ≠ 124 ∧ b.toNat ≠ 62 ∧ b.toNat ≠ 47) := by
  have h : ∀ i : Fin 256, (fun b : UInt8 => b = 40 ∨ b = 41 ∨ b = 91 ∨ b = 93 ∨ b = 59 ∨ b = 43 ∨ b = 124 ∨ b = 62 ∨ b = 47 ∨ (sig b = 0 ∧ b.toNat ≠ 40 ∧ b.toNat ≠ 41 ∧ b.toNat ≠ 91 ∧ b.toNat ≠ 93 ∧ b.toNat ≠ 59 ∧ b.toNat ≠ 43 ∧ b.toNat ≠ 124 ∧ b.toNat ≠ 62 ∧ b.toNat ≠ 47)) (UInt8.ofNat i.val) := by decide +kernel
  have := h ⟨b.toNat, b.toNat_lt⟩
  simp only [UInt8.ofNat_toNat] at this
  exact this
set_option maxHeartbeats 1000000 in
theorem kindR_any (b : UInt8) (w : World) : Calls Try.prog 21 #[.int .u8 (b.toNat : Int)] w fun e w' => e = .returned (.int .i64 (sig b)) ∧ w = w' := by
  have l0 : (({ data := #[40, 41, 91, 93, 59, 43, 124, 62, 47] } : ByteArray)[0]'(by decide)).toNat = 40 := rfl
  have l1 : (({ data := #[40, 41, 91, 93, 59, 43, 124, 62, 47] } : ByteArray)[1]'(by decide)).toNat = 41 := rfl
  have l2 : (({ data := #[40, 41, 91, 93, 59, 43, 124, 62, 47] } : ByteArray)[2]'(by decide)).toNat = 91 := rfl
  have l3 : (({ data := #[40, 41, 91, 93, 59, 43, 124, 62, 47] } : ByteArray)[3]'(by decide)).toNat = 93 := rfl
  have l4 : (({ data := #[40, 41, 91, 93, 59, 43, 124, 62, 47] } : ByteArray)[4]'(by decide)).toNat = 59 := rfl
  have l5 : (({ data := #[40, 41, 91, 93, 59, 43, 124, 62, 47] } : ByteArray)[5]'(by decide)).toNat = 43 := rfl
  have l6 : (({ data := #[40, 41, 91, 93, 59, 43, 124, 62, 47] } : ByteArray)[6]'(by decide)).toNat = 124 := rfl
  have l7 : (({ data := #[40, 41, 91, 93, 59, 43, 124, 62, 47] } : ByteArray)[7]'(by decide)).toNat = 62 := rfl
  have l8 : (({ data := #[40, 41, 91, 93, 59, 43, 124, 62, 47] } : ByteArray)[8]'(by decide)).toNat = 47 := rfl
  rcases sig_bytes b with rfl | rfl | rfl | rfl | rfl | rfl | rfl | rfl | rfl | h
  case inr.inr.inr.inr.inr.inr.inr.inr.inr =>
    obtain ⟨h0, h1, h2, h3, h4, h5, h6, h7, h8, h9⟩ := h
    rw [h0]
    obtain ⟨n, hn⟩ : ∃ n, b.toNat = n := ⟨_, rfl⟩
    rw [hn] at h1 h2 h3 h4 h5 h6 h7 h8 h9 ⊢
    have b1 : ((40 : Int) == (n : Int)) = false := by rw [beq_eq_false_iff_ne]; omega
    have b2 : ((41 : Int) == (n : Int)) = false := by rw [beq_eq_false_iff_ne]; omega
    have b3 : ((91 : Int) == (n : Int)) = false := by rw [beq_eq_false_iff_ne]; omega
    have b4 : ((93 : Int) == (n : Int)) = false := by rw [beq_eq_false_iff_ne]; omega
    have b5 : ((59 : Int) == (n : Int)) = false := by rw [beq_eq_false_iff_ne]; omega
    have b6 : ((43 : Int) == (n : Int)) = false := by rw [beq_eq_false_iff_ne]; omega
    have b7 : ((124 : Int) == (n : Int)) = false := by rw [beq_eq_false_iff_ne]; omega
    have b8 : ((62 : Int) == (n : Int)) = false := by rw [beq_eq_false_iff_ne]; omega
    have b9 : ((47 : Int) == (n : Int)) = false := by rw [beq_eq_false_iff_ne]; omega
    clear h0 h1 h2 h3 h4 h5 h6 h7 h8 h9 hn
    go_enter Try.func21, Try.ntmps21
    go_wp2_with fail
    refine Go.wp_loop_rounds 10 ?_
    repeat
      rw [rounds_succ]
      go_wp2_with fail
    go_ret
    exact ⟨rfl, rfl⟩
  all_goals
    go_enter Try.func21, Try.ntmps21
    go_wp2_with fail
    refine Go.wp_loop_rounds 10 ?_
    repeat
      rw [rounds_succ]
      go_wp2_with fail
    go_ret
    exact ⟨rfl, rfl⟩
end Go.Proofs.Ythfcclheephokaa.To
