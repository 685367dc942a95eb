/- The document's Lex: the walk. -/
import Derived.Test.YthfcclheephokaaTkl
import Derived.OwnWalk
namespace Go.Proofs.Ythfcclheephokaa.To
open Go Go.RowKit
set_option maxRecDepth 20000

theorem LexPost_bad {s : ByteArray} {p : Nat} {e : Int} {w w' : World} (h : F s.data.toList 0 = .bad p e) (hb : Below w.heap.size w w') : LexPost (F s.data.toList 0) s.size w (.returned (.tuple #[.slice none 0 0, .int .i64 (p : Int), .int .i64 e])) w' := by
  rw [h]
  exact ⟨_, rfl, tks_nil _, hb⟩
theorem F_long {l : List UInt8} {n p : Nat} (h : l.takeWhile letB = l.take n) (h8 : 8 < n) (hn : n ≤ l.length) : F l p = .bad p 51 := by
  cases l with
  | nil => simp at hn; omega
  | cons b r =>
    have hb : letB b = true := by
      by_cases hb : letB b = true
      · exact hb
      · rw [List.takeWhile_cons_of_neg hb] at h
        have := congrArg List.length h
        rw [List.length_take] at this
        simp at this hn
        omega
    rw [F_let hb, h, if_pos (by rw [List.length_take]; omega)]
theorem F_word_n {l : List UInt8} {n p : Nat} (h : l.takeWhile letB = l.take n) (h1 : 1 ≤ n) (h8 : ¬ 8 < n) (hn : n ≤ l.length) : F l p = (F (l.drop n) (p + n)).cons ⟨10, p, ⟨(l.take n).toArray⟩⟩ := by
  cases l with
  | nil => simp at hn; omega
  | cons b r =>
    have hl : ((b :: r).take n).length = n := by rw [List.length_take]; omega
    have hb : letB b = true := by
      by_cases hb : letB b = true
      · exact hb
      · rw [List.takeWhile_cons_of_neg hb] at h
        rw [← h] at hl
        simp at hl
        omega
    rw [F_let hb, h, hl, if_neg h8]
/-- How far a name goes. -/
def Wd (s : ByteArray) (p q : Nat) : Prop := (s.data.toList.drop p).takeWhile letB = (s.data.toList.drop p).take (q - p) ∧ q ≤ s.size
theorem Wd.long {s : ByteArray} {p q : Nat} (h : Wd s p q) (h8 : 8 < q - p) : F (s.data.toList.drop p) p = .bad p 51 := F_long h.1 h8 (by have := h.2; simp; omega)
theorem Wd.word {s : ByteArray} {p q : Nat} (h : Wd s p q) (h1 : 1 ≤ q - p) (h8 : ¬ 8 < q - p) : F (s.data.toList.drop p) p = (F (s.data.toList.drop q) q).cons ⟨10, p, s.extract p q⟩ := by
  rw [F_word_n h.1 h1 h8 (by have := h.2; simp; omega), List.drop_drop, ext_take, show p + (q - p) = q by omega]
theorem Wd.none {s : ByteArray} {p : Nat} (h : Wd s p p) (hp : p < s.size) : letB s[p] = false := by
  have h1 := h.1
  rw [drop_at hp, Nat.sub_self, List.take_zero] at h1
  by_cases hb : letB s[p] = true
  · rw [List.takeWhile_cons_of_pos hb] at h1
    cases h1
  · exact Bool.eq_false_iff.2 hb
theorem Wd.stop {s : ByteArray} {p q : Nat} (hpq : p ≤ q) (h : ∀ b ∈ (s.data.toList.drop p).take (q - p), letB b = true) (hq : q < s.size) (hb : letB s[q] = false) : Wd s p q := by
  refine ⟨tw_len h ?_, by omega⟩
  rw [List.drop_drop, show p + (q - p) = q by omega, drop_at hq]
  exact hb
theorem Wd.end {s : ByteArray} {p q : Nat} (hpq : p ≤ q) (h : ∀ b ∈ (s.data.toList.drop p).take (q - p), letB b = true) (hq : ¬ q < s.size) (hq2 : q ≤ s.size) : Wd s p q := by
  refine ⟨tw_len h ?_, hq2⟩
  rw [List.drop_drop, show p + (q - p) = q by omega, List.drop_eq_nil_of_le (by simp; omega)]
  exact trivial
theorem F_blank_at {s : ByteArray} {p : Nat} (hp : p < s.size) (h : s[p] = 32) : F (s.data.toList.drop p) p = F (s.data.toList.drop (p + 1)) (p + 1) := by
  rw [drop_at hp, h, F_blank]
theorem F_byte_at {s : ByteArray} {p : Nat} (hp : p < s.size) (h : letB s[p] = false) (h2 : ¬ s[p] = 32) (h0 : sig s[p] = 0) : F (s.data.toList.drop p) p = .bad p 50 := by
  rw [drop_at hp, F_byte _ _ h h2 h0]
theorem F_sig_at {s : ByteArray} {p : Nat} (hp : p < s.size) (h : letB s[p] = false) (h2 : ¬ s[p] = 32) (h0 : ¬ sig s[p] = 0) : F (s.data.toList.drop p) p = (F (s.data.toList.drop (p + 1)) (p + 1)).cons ⟨sig s[p], p, ⟨#[]⟩⟩ := by
  rw [drop_at hp, F_sig _ _ h h2 h0]
end Go.Proofs.Ythfcclheephokaa.To
