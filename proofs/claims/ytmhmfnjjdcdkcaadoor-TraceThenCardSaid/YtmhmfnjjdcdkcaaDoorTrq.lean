/- Rows mixed: that order does not matter, and that each row has the actions of both in their order. -/
import Derived.Test.YtmhmfnjjdcdkcaaDoorTr6
import Derived.Test.YtmhmfnjjdcdkcaaDoorTrd
namespace Go.Proofs.YtmhmfnjjdcdkcaaDoor.Tr
open Go

theorem mx_comm (r : List ByteArray) : ∀ (n : Nat) (a b : List ByteArray), a.length + b.length ≤ n → (r ∈ mx n a b ↔ r ∈ mx n b a)
  | n, [], [], _ => by rw [mx_nil]
  | n, [], y :: b, _ => by rw [mx_nil, mx_nil_r]
  | n, x :: a, [], _ => by rw [mx_nil, mx_nil_r]
  | 0, x :: a, y :: b, h => by simp at h
  | n + 1, x :: a, y :: b, h => by
    simp only [List.length_cons] at h
    simp only [mx, List.mem_append, List.mem_map]
    have h1 : ∀ s, s ∈ mx n a (y :: b) ↔ s ∈ mx n (y :: b) a := fun s => mx_comm s n a (y :: b) (by simp; omega)
    have h2 : ∀ s, s ∈ mx n (x :: a) b ↔ s ∈ mx n b (x :: a) := fun s => mx_comm s n (x :: a) b (by simp; omega)
    constructor
    · rintro (⟨s, hs, rfl⟩ | ⟨s, hs, rfl⟩)
      · exact .inr ⟨s, (h1 s).1 hs, rfl⟩
      · exact .inl ⟨s, (h2 s).1 hs, rfl⟩
    · rintro (⟨s, hs, rfl⟩ | ⟨s, hs, rfl⟩)
      · exact .inr ⟨s, (h2 s).2 hs, rfl⟩
      · exact .inl ⟨s, (h1 s).2 hs, rfl⟩
theorem pr_comm (p q : Tr) (h : p.a.length + q.a.length ≤ 19) : pr p q = pr q p := by
  unfold pr
  rw [Sg.both_comm p.e q.e]
  refine norm_congr fun t => ?_
  simp only [List.mem_map]
  constructor
  · rintro ⟨r, hr, rfl⟩
    exact ⟨r, (mx_comm r 19 _ _ h).1 hr, rfl⟩
  · rintro ⟨r, hr, rfl⟩
    exact ⟨r, (mx_comm r 19 _ _ h).2 hr, rfl⟩
theorem mix_comm (a b : List ByteArray) (h : a.length + b.length ≤ 19) : mix a b = mix b a := by
  unfold mix
  rw [pr_comm ⟨a, 1⟩ ⟨b, 1⟩ h]
theorem mem_pr {p q t : Tr} (h : t ∈ pr p q) : t.a ∈ mx 19 p.a q.a ∧ t.e = Sg.both p.e q.e := by
  unfold pr at h
  obtain ⟨r, hr, rfl⟩ := List.mem_map.1 ((mem_norm _ _).1 h)
  exact ⟨hr, rfl⟩
theorem mem_mix {a b r : List ByteArray} (h : r ∈ mix a b) : r ∈ mx 19 a b := by
  obtain ⟨t, ht, rfl⟩ := List.mem_map.1 h
  exact (mem_pr ht).1
theorem mix_row {a b r : List ByteArray} (h : r ∈ mix a b) : r.length = a.length + b.length := mx_row _ _ _ _ (mem_mix h)
theorem mix_len (a b : List ByteArray) : (mix a b).length ≤ 524288 := by unfold mix; rw [List.length_map]; exact pr_len _ _
theorem pr_row {p q t : Tr} (h : t ∈ pr p q) : t.a.length = p.a.length + q.a.length := mx_row _ _ _ _ (mem_pr h).1

theorem sub_tail : ∀ (x : ByteArray) (a r : List ByteArray), sub (x :: a) r = true → sub a r = true
  | x, a, [], h => by simp [sub] at h
  | x, [], y :: r, h => rfl
  | x, z :: a, y :: r, h => by
    rw [sub] at h
    split at h
    · rename_i e
      subst e
      rw [sub]
      split
      · exact sub_tail z a r h
      · exact h
    · rw [sub]
      have := sub_tail x (z :: a) r h
      split
      · exact sub_tail z a r this
      · exact this
theorem sub_more : ∀ (y : ByteArray) (a r : List ByteArray), sub a r = true → sub a (y :: r) = true
  | y, [], r, h => rfl
  | y, x :: a, r, h => by
    rw [sub]
    split
    · exact sub_tail x a r h
    · exact h
theorem sub_self : ∀ a : List ByteArray, sub a a = true
  | [] => rfl
  | x :: a => by rw [sub, if_pos rfl]; exact sub_self a
theorem sub_mx : ∀ (n : Nat) (a b r : List ByteArray), r ∈ mx n a b → sub a r = true
  | n, [], b, r, h => sub_nil r
  | n, x :: a, [], r, h => by rw [mx_nil_r] at h; simp at h; rw [h]; exact sub_self _
  | 0, x :: a, y :: b, r, h => by simp [mx] at h
  | n + 1, x :: a, y :: b, r, h => by
    simp only [mx, List.mem_append, List.mem_map] at h
    rcases h with ⟨s, hs, rfl⟩ | ⟨s, hs, rfl⟩
    · rw [sub, if_pos rfl]; exact sub_mx n a (y :: b) s hs
    · exact sub_more y (x :: a) s (sub_mx n (x :: a) b s hs)
theorem sub_mix {a b r : List ByteArray} (hl : a.length + b.length ≤ 19) (h : r ∈ mix a b) : sub a r = true ∧ sub b r = true :=
  ⟨sub_mx 19 a b r (mem_mix h), sub_mx 19 b a r ((mx_comm r 19 a b hl).1 (mem_mix h))⟩
end Go.Proofs.YtmhmfnjjdcdkcaaDoor.Tr
