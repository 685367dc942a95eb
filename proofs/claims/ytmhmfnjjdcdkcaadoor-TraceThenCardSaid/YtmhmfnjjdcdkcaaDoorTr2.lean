/- The document's mixed: all rows of two, the walk. -/
import Derived.Test.YtmhmfnjjdcdkcaaDoorTr1
namespace Go.Proofs.YtmhmfnjjdcdkcaaDoor.Tr
open Go Go.RowKit
set_option maxRecDepth 20000

/-- All rows that have the actions of both, each in order. -/
def mx : Nat → List ByteArray → List ByteArray → List (List ByteArray)
  | _, [], b => [b]
  | _, a, [] => [a]
  | 0, _, _ => []
  | n + 1, x :: a, y :: b => (mx n a (y :: b)).map (x :: ·) ++ (mx n (x :: a) b).map (y :: ·)
theorem mx_nil (n : Nat) (b : List ByteArray) : mx n [] b = [b] := by cases n <;> rfl
theorem mx_nil_r (n : Nat) (x : ByteArray) (a : List ByteArray) : mx n (x :: a) [] = [x :: a] := by cases n <;> rfl
theorem mx_len : ∀ (n : Nat) (a b : List ByteArray), (mx n a b).length ≤ 2 ^ n
  | n, [], b => by rw [mx_nil]; exact Nat.one_le_two_pow
  | n, x :: a, [] => by rw [mx_nil_r]; exact Nat.one_le_two_pow
  | 0, x :: a, y :: b => by simp [mx]
  | n + 1, x :: a, y :: b => by
    simp only [mx, List.length_append, List.length_map]
    have h1 := mx_len n a (y :: b)
    have h2 := mx_len n (x :: a) b
    rw [Nat.pow_succ]
    omega
theorem mx_row : ∀ (n : Nat) (a b r : List ByteArray), r ∈ mx n a b → r.length = a.length + b.length
  | n, [], b, r, h => by rw [mx_nil] at h; simp at h; simp [h]
  | n, x :: a, [], r, h => by rw [mx_nil_r] at h; simp at h; simp [h]
  | 0, x :: a, y :: b, r, h => by simp [mx] at h
  | n + 1, x :: a, y :: b, r, h => by
    simp only [mx, List.mem_append, List.mem_map] at h
    rcases h with ⟨s, hs, rfl⟩ | ⟨s, hs, rfl⟩
    · have := mx_row n a (y :: b) s hs; simp at this ⊢; omega
    · have := mx_row n (x :: a) b s hs; simp at this ⊢; omega
theorem pow20 {n : Nat} (h : n ≤ 20) : 2 ^ n ≤ 1048576 := Nat.le_trans (Nat.pow_le_pow_right (by decide) h) (by decide)

/-- The rest behind the first, wherever an empty rest is said to lie. -/
theorem Strs.tail {w : World} {b off cap : Nat} {x : ByteArray} {l : List ByteArray} (h : Strs w (.slice (some ⟨b, off, none⟩) (l.length + 1) cap) (x :: l)) (o : Nat) (ho : o = off + 1 ∨ cap = 1) :
    Strs w (.slice (some ⟨b, o, none⟩) l.length (cap - 1)) l := by
  obtain ⟨hl, a, cap', hv, hc, hn, hcell⟩ := h
  cases hv
  simp at hc
  refine ⟨by simp, some ⟨b, o, none⟩, cap - 1, rfl, by omega, fun h => (by cases h), fun h0 => ?_⟩
  obtain ⟨b', off', ha, hj⟩ := hcell (by simp)
  cases ha
  rcases ho with rfl | h1
  · refine ⟨b, off + 1, rfl, fun j u hu => ?_⟩
    rw [show off + 1 + j = off + (j + 1) by omega]
    exact hj (j + 1) u (by simpa using hu)
  · omega

/-- Rows appended to a row of rows that the call owns. -/
theorem run_append_rows {w : World} {base n m : Nat} {v x : Value} {cs ds : List Value} (hown : w.ownsRow base 22 1 v n cs) (hbase : base ≤ w.heap.size) (hx : Ap.Rd w 1 x m ds) (h1 : ∀ u ∈ ds, u.oneCell' = true) (hlen : n + m ≤ 3000000) :
    ∃ v' w', (Builtin.append_ #[47, 47] 47 #[v, x]).run Tryd.prog w = .ok v' w' ∧ w'.ownsRow base 22 1 v' (n + m) (cs ++ ds) ∧ w.grownBy w' v.ownBlock ∧ Below base w w' ∧ Ap.Fresh w v v' := by
  obtain ⟨i0, hi, hz, hs1, hb8⟩ := info_parts infoR
  exact Ap.run_append_rd (P := Tryd.prog) (ty := 47) Tryd.underlying47 hi hz hs1 hb8 (by rfl) (by omega) hown hbase hx h1 (by unfold maxLen; omega) (by omega)

/-- What mixed tells. -/
def Mxd (w : World) (n : Nat) (l m : List ByteArray) (e : Ending) (w' : World) : Prop :=
  ∃ v cs, e = .returned v ∧ w'.ownsRow w.heap.size 22 1 v (mx n l m).length cs ∧ RwO (fun b => some b ≠ v.ownBlock) w' cs (mx n l m) ∧ Below w.heap.size w w'

theorem own_new (w : World) (a : Value) : (w.alloc (.cells #[a] 22)).ownsRow w.heap.size 22 1 (.slice (some ⟨w.heap.size, 0, none⟩) 1 1) 1 [a] :=
  World.ownsRow_lit w #[a] 1 (Nat.le_refl _) (by unfold maxLen; omega) rfl
theorem new_off {w : World} {a : Value} {l : List ByteArray} (h : Strs w a l) : RwO (fun b => some b ≠ (Value.slice (some ⟨w.heap.size, 0, none⟩) 1 1).ownBlock) (w.alloc (.cells #[a] 22)) [a] [l] := by
  refine ⟨Ap.RdO.below (Ap.RdO.imp (Ap.RdO.of (by omega) h) fun b hb _ => ?_) ((Below.refl _ _).alloc (Nat.le_refl _) _), trivial⟩
  intro e
  simp [Value.ownBlock] at e
  omega

set_option maxHeartbeats 400000 in
theorem mixed_nil (n : Nat) (a1 : Option Addr) (c1 : Nat) (y : Value) (m : List ByteArray) (w : World) (hy : Strs w y m) :
    Calls Tryd.prog 52 #[.slice a1 0 c1, y] w (Mxd w n [] m) := by
  have hy' := hy
  obtain ⟨_, a2, c2, rfl, _⟩ := hy'
  have HY := Lib.hid hy
  clear hy
  go_enter Tryd.func52, Tryd.ntmps52
  go_wp2_with fail
  go_ret
  refine ⟨_, [.slice a2 m.length c2], rfl, ?_, ?_, (Below.refl _ _).alloc (Nat.le_refl _) _⟩
  · rw [mx_nil]; exact own_new w _
  · rw [mx_nil]; exact new_off HY.out
set_option maxHeartbeats 400000 in
theorem mixed_nil_r (n : Nat) (x0 : ByteArray) (l : List ByteArray) (a1 a2 : Option Addr) (c1 c2 : Nat) (w : World) (hl : l.length ≤ 1000) (hx : Strs w (.slice a1 (l.length + 1) c1) (x0 :: l)) :
    Calls Tryd.prog 52 #[.slice a1 (l.length + 1) c1, .slice a2 0 c2] w (Mxd w n (x0 :: l) []) := by
  have HX := Lib.hid hx
  have hne : (((l.length + 1 : Nat) : Int) == 0) = false := by rw [beq_eq_false_iff_ne]; omega
  clear hx
  go_enter Tryd.func52, Tryd.ntmps52
  go_wp2_with fail
  go_ret
  refine ⟨_, [.slice a1 (l.length + 1) c1], rfl, ?_, ?_, (Below.refl _ _).alloc (Nat.le_refl _) _⟩
  · rw [mx_nil_r]; exact own_new w _
  · rw [mx_nil_r]; exact new_off HX.out
end Go.Proofs.YtmhmfnjjdcdkcaaDoor.Tr
