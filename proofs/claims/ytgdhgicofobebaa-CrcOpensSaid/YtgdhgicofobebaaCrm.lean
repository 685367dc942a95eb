/- Plain: a sum of 32 bits goes on over bytes; two that differ in one byte have other sums. -/
import Derived.WalkKit
namespace Go.Proofs.Ytgdhgicofobebaa.Cr
open Go

/-- One bit on. -/
def b1 (s : BitVec 32) : BitVec 32 := if s.getLsbD 0 then (s >>> 1) ^^^ 0xedb88320#32 else s >>> 1
def b8 (s : BitVec 32) : BitVec 32 := b1 (b1 (b1 (b1 (b1 (b1 (b1 (b1 s)))))))
/-- A sum goes on over bytes, its bits turned. -/
def go (s : BitVec 32) : List (BitVec 8) → BitVec 32
  | [] => s
  | b :: l => go (b8 (s ^^^ b.setWidth 32)) l
def more (s : BitVec 32) (l : List (BitVec 8)) : BitVec 32 := ~~~ (go (~~~ s) l)
theorem go_append (l m : List (BitVec 8)) : ∀ s, go s (l ++ m) = go (go s l) m := by
  induction l with
  | nil => intro s; rfl
  | cons b l ih => intro s; exact ih _
theorem more_append (s : BitVec 32) (l m : List (BitVec 8)) : more (more s l) m = more s (l ++ m) := by
  unfold more
  rw [BitVec.not_not, go_append]
theorem top (s : BitVec 32) : (b1 s).getLsbD 31 = s.getLsbD 0 := by
  unfold b1
  split
  · rename_i h
    rw [h, BitVec.getLsbD_xor, BitVec.getLsbD_ushiftRight, BitVec.getLsbD_of_ge s 32 (Nat.le_refl _)]
    decide
  · rename_i h
    rw [BitVec.getLsbD_ushiftRight, BitVec.getLsbD_of_ge s 32 (Nat.le_refl _)]
    cases hb : s.getLsbD 0 with
    | false => rfl
    | true => exact absurd hb h
theorem xor_inj {a b c : BitVec 32} (h : a ^^^ c = b ^^^ c) : a = b := by
  have := congrArg (· ^^^ c) h
  simpa [BitVec.xor_assoc] using this
theorem b1_inj {s t : BitVec 32} (h : b1 s = b1 t) : s = t := by
  have h0 : s.getLsbD 0 = t.getLsbD 0 := by rw [← top, ← top, h]
  have h1 : s >>> 1 = t >>> 1 := by
    unfold b1 at h
    rw [h0] at h
    split at h
    · exact xor_inj h
    · exact h
  apply BitVec.eq_of_getLsbD_eq
  intro i hi
  cases i with
  | zero => exact h0
  | succ i =>
    have := congrArg (fun x => x.getLsbD i) h1
    simp only [BitVec.getLsbD_ushiftRight] at this
    rw [Nat.add_comm i 1]
    exact this
theorem b8_inj {s t : BitVec 32} (h : b8 s = b8 t) : s = t := b1_inj (b1_inj (b1_inj (b1_inj (b1_inj (b1_inj (b1_inj (b1_inj h)))))))
theorem go_inj (l : List (BitVec 8)) : ∀ {s t : BitVec 32}, go s l = go t l → s = t := by
  induction l with
  | nil => intro s t h; exact h
  | cons b l ih => intro s t h; exact xor_inj (b8_inj (ih h))
theorem wide_inj {a b : BitVec 8} (h : a.setWidth 32 = b.setWidth 32) : a = b := by
  apply BitVec.eq_of_toNat_eq
  have := congrArg BitVec.toNat h
  rw [BitVec.toNat_setWidth, BitVec.toNat_setWidth, Nat.mod_eq_of_lt (by have := a.isLt; omega), Nat.mod_eq_of_lt (by have := b.isLt; omega)] at this
  exact this
theorem not_inj {a b : BitVec 32} (h : ~~~a = ~~~b) : a = b := by
  have := congrArg (~~~ ·) h
  simpa using this
/-- Two rows that differ in one byte have other sums. -/
theorem more_other (s : BitVec 32) (l m : List (BitVec 8)) {a b : BitVec 8} (h : a ≠ b) : more s (l ++ a :: m) ≠ more s (l ++ b :: m) := by
  intro e
  have e' := not_inj e
  rw [go_append, go_append] at e'
  have e2 := b8_inj (go_inj m e')
  rw [BitVec.xor_comm, BitVec.xor_comm _ (b.setWidth 32)] at e2
  exact h (wide_inj (xor_inj e2))
theorem known : more 0 [0x31, 0x32, 0x33, 0x34, 0x35, 0x36, 0x37, 0x38, 0x39] = 0xcbf43926#32 := by decide +kernel
end Go.Proofs.Ytgdhgicofobebaa.Cr
