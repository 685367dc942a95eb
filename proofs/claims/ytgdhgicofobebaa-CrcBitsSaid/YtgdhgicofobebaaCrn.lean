/- Plain: numbers as bytes, frames, and what they are opened as. -/
import Derived.Test.YtgdhgicofobebaaCrm
namespace Go.Proofs.Ytgdhgicofobebaa.Cr
open Go

abbrev By := List (BitVec 8)
/-- So many bytes of a number, the least first; the number of bytes. -/
def pu : Nat → Nat → By
  | 0, _ => []
  | k + 1, n => BitVec.ofNat 8 n :: pu k (n / 256)
def ge : By → Nat
  | [] => 0
  | b :: l => b.toNat + 256 * ge l
theorem pu_len : ∀ k n, (pu k n).length = k
  | 0, _ => rfl
  | k + 1, n => by rw [pu, List.length_cons, pu_len]
theorem ge_pu : ∀ k n, ge (pu k n) = n % 256 ^ k
  | 0, n => by simp [pu, ge, Nat.mod_one]
  | k + 1, n => by
    rw [pu, ge, ge_pu k, BitVec.toNat_ofNat, show 256 ^ (k + 1) = 256 * 256 ^ k by rw [Nat.pow_succ, Nat.mul_comm], Nat.mod_mul]
theorem ge_lt : ∀ l : By, ge l < 256 ^ l.length
  | [] => by simp [ge]
  | b :: l => by
    have := ge_lt l
    have := b.isLt
    rw [ge, List.length_cons, Nat.pow_succ]
    omega
theorem pu_ge : ∀ l : By, pu l.length (ge l) = l
  | [] => rfl
  | b :: l => by
    have hb := b.isLt
    rw [List.length_cons, pu, ge, show (b.toNat + 256 * ge l) / 256 = ge l by omega, pu_ge l]
    congr 1
    apply BitVec.eq_of_toNat_eq
    rw [BitVec.toNat_ofNat]
    omega
theorem ge_inj {l m : By} (hl : l.length = m.length) (h : ge l = ge m) : l = m := by rw [← pu_ge l, ← pu_ge m, hl, h]
/-- The head of a frame, ahead of its sum; the sum; the frame. -/
def hd (n : Nat) (data : By) : By := pu 8 n ++ pu 4 data.length
def sm (n : Nat) (data : By) : BitVec 32 := more 0 (hd n data ++ data)
def frame (n : Nat) (data : By) : By := hd n data ++ (pu 4 (sm n data).toNat ++ data)
theorem hd_len (n : Nat) (data : By) : (hd n data).length = 12 := by simp [hd, pu_len]
theorem frame_len (n : Nat) (data : By) : (frame n data).length = 16 + data.length := by simp [frame, hd_len, pu_len]; omega
theorem sm_two (n : Nat) (data : By) : more (more 0 (hd n data)) data = sm n data := more_append ..
/-- What bytes are opened as. -/
def openF (b : By) : Option (Nat × By) :=
  if b.length < 16 then none
  else if ge ((b.drop 8).take 4) > 2048 ∨ ge ((b.drop 8).take 4) + 16 > b.length then none
  else if frame (ge (b.take 8)) ((b.drop 16).take (ge ((b.drop 8).take 4))) = b.take (16 + ge ((b.drop 8).take 4)) then some (ge (b.take 8), (b.drop 16).take (ge ((b.drop 8).take 4)))
  else none
theorem frame_parts (n : Nat) (data rest : By) : (frame n data ++ rest).take 8 = pu 8 n ∧ ((frame n data ++ rest).drop 8).take 4 = pu 4 data.length ∧ ((frame n data ++ rest).drop 12).take 4 = pu 4 (sm n data).toNat ∧ (frame n data ++ rest).drop 16 = data ++ rest := by
  have e : frame n data ++ rest = pu 8 n ++ (pu 4 data.length ++ (pu 4 (sm n data).toNat ++ (data ++ rest))) := by simp [frame, hd]
  rw [e]
  have d8 : (pu 8 n ++ (pu 4 data.length ++ (pu 4 (sm n data).toNat ++ (data ++ rest)))).drop 8 = pu 4 data.length ++ (pu 4 (sm n data).toNat ++ (data ++ rest)) := List.drop_left' (pu_len 8 n)
  have d12 : (pu 8 n ++ (pu 4 data.length ++ (pu 4 (sm n data).toNat ++ (data ++ rest)))).drop 12 = pu 4 (sm n data).toNat ++ (data ++ rest) := by
    rw [show 12 = 8 + 4 from rfl, ← List.drop_drop, d8]
    exact List.drop_left' (pu_len 4 _)
  refine ⟨List.take_left' (pu_len 8 n), ?_, ?_, ?_⟩
  · rw [d8]; exact List.take_left' (pu_len 4 _)
  · rw [d12]; exact List.take_left' (pu_len 4 _)
  · rw [show 16 = 12 + 4 from rfl, ← List.drop_drop, d12]
    exact List.drop_left' (pu_len 4 _)
theorem open_frame {n : Nat} {data : By} (rest : By) (hn : n < 256 ^ 8) (hd' : data.length ≤ 2048) : openF (frame n data ++ rest) = some (n, data) := by
  obtain ⟨p1, p2, _, p4⟩ := frame_parts n data rest
  have hl := frame_len n data
  have hg : ge (pu 4 data.length) = data.length := by rw [ge_pu]; exact Nat.mod_eq_of_lt (by omega)
  have hh : ge (pu 8 n) = n := by rw [ge_pu]; exact Nat.mod_eq_of_lt hn
  unfold openF
  rw [p1, p2, p4, hg, hh, List.take_left' rfl, if_neg (by rw [List.length_append]; omega), if_neg (by rw [List.length_append]; omega), if_pos]
  exact (List.take_left' (by omega)).symm
/-- What is opened begins with the frame that it is opened as. -/
theorem open_some {b : By} {n : Nat} {d : By} (h : openF b = some (n, d)) : b.take (16 + d.length) = frame n d ∧ d.length ≤ 2048 ∧ 16 + d.length ≤ b.length ∧ n < 256 ^ 8 := by
  unfold openF at h
  split at h
  · cases h
  · split at h
    · cases h
    · split at h
      · rename_i h1 h2 h3
        rw [Option.some.injEq, Prod.mk.injEq] at h
        obtain ⟨rfl, rfl⟩ := h
        have hl : ((b.drop 16).take (ge ((b.drop 8).take 4))).length = ge ((b.drop 8).take 4) := by rw [List.length_take, List.length_drop]; omega
        rw [hl]
        refine ⟨h3.symm, by omega, by omega, ?_⟩
        have := ge_lt (b.take 8)
        rw [List.length_take, Nat.min_eq_left (by omega)] at this
        exact this
      · cases h
/-- No part of a frame is opened. -/
theorem open_part {n : Nat} {data : By} {k : Nat} (hn : data.length ≤ 2048) (hk : k < 16 + data.length) : openF ((frame n data).take k) = none := by
  cases h : openF ((frame n data).take k) with
  | none => rfl
  | some x =>
    obtain ⟨m, d⟩ := x
    obtain ⟨h1, _, h3, _⟩ := open_some h
    have hl := frame_len n data
    rw [List.length_take, hl] at h3
    have p := (frame_parts m d []).2.1
    have q := (frame_parts n data []).2.1
    rw [List.append_nil] at p q
    rw [← h1, List.take_take, Nat.min_eq_left (by omega), List.drop_take, List.take_take, Nat.min_eq_left (by omega), q] at p
    have := congrArg ge p
    rw [ge_pu, ge_pu, Nat.mod_eq_of_lt (by omega), Nat.mod_eq_of_lt (by omega)] at this
    omega
/-- A byte of the number, of the sum, or of the data turned: it is not opened. -/
theorem open_bit {n : Nat} {data l m : By} {a c : BitVec 8} (hn : n < 256 ^ 8) (hd' : data.length ≤ 2048) (he : frame n data = l ++ a :: m) (hac : a ≠ c) (hl : ¬ (8 ≤ l.length ∧ l.length < 12)) : openF (l ++ c :: m) = none := by
  cases h : openF (l ++ c :: m) with
  | none => rfl
  | some x =>
    exfalso
    obtain ⟨n', d⟩ := x
    obtain ⟨h1, h2, h3, h4⟩ := open_some h
    have hlen := congrArg List.length he
    rw [frame_len, List.length_append, List.length_cons] at hlen
    rw [List.length_append, List.length_cons] at h3
    have q := (frame_parts n data []).2.1
    rw [List.append_nil, he] at q
    -- the bytes that tell the length are the same
    have hsame : ((l ++ c :: m).drop 8).take 4 = ((l ++ a :: m).drop 8).take 4 := by
      by_cases h8 : l.length < 8
      · have e : ∀ x : BitVec 8, (l ++ x :: m).drop 8 = m.drop (8 - l.length - 1) := fun x => by
          rw [List.drop_append, List.drop_eq_nil_of_le (by omega), List.nil_append, show 8 - l.length = (8 - l.length - 1) + 1 by omega, List.drop_succ_cons]
          simp
        rw [e, e]
      · have e : ∀ x : BitVec 8, ((l ++ x :: m).drop 8).take 4 = (l.drop 8).take 4 := fun x => by
          rw [List.drop_append, List.take_append_of_le_length (by rw [List.length_drop]; omega)]
        rw [e, e]
    have p := (frame_parts n' d []).2.1
    rw [List.append_nil, ← h1, List.drop_take, List.take_take, Nat.min_eq_left (by omega), hsame, q] at p
    have hdl := congrArg ge p
    rw [ge_pu, ge_pu, Nat.mod_eq_of_lt (by omega), Nat.mod_eq_of_lt (by omega)] at hdl
    have hall : (l ++ c :: m) = frame n' d := by
      rw [← h1, List.take_of_length_le]
      rw [List.length_append, List.length_cons]
      omega
    -- parts of both
    have f1 := frame_parts n data []
    have f2 := frame_parts n' d []
    rw [List.append_nil, List.append_nil] at f1 f2
    obtain ⟨a1, a2, a3, a4⟩ := f1
    obtain ⟨b1', b2', b3', b4'⟩ := f2
    rw [he] at a1 a2 a3 a4
    rw [← hall] at b1' b2' b3' b4'
    have sums : ∀ {u v : BitVec 32}, pu 4 u.toNat = pu 4 v.toNat → u = v := fun {u v} e => by
      have := congrArg ge e
      rw [ge_pu, ge_pu, Nat.mod_eq_of_lt (by have := u.isLt; omega), Nat.mod_eq_of_lt (by have := v.isLt; omega)] at this
      exact BitVec.eq_of_toNat_eq this
    by_cases h8 : l.length < 8
    · -- in the number: the data and the sum stay
      have e4 : ∀ (x : BitVec 8) (j : Nat), l.length < j → (l ++ x :: m).drop j = m.drop (j - l.length - 1) := fun x j hj => by
        rw [List.drop_append, List.drop_eq_nil_of_le (by omega), List.nil_append, show j - l.length = (j - l.length - 1) + 1 by omega, List.drop_succ_cons]
        simp
      rw [e4 a 16 (by omega)] at a4
      rw [e4 c 16 (by omega)] at b4'
      rw [e4 a 12 (by omega)] at a3
      rw [e4 c 12 (by omega)] at b3'
      rw [e4 a 8 (by omega)] at a2
      rw [e4 c 8 (by omega)] at b2'
      have hdd : data = d := a4.symm.trans b4'
      subst hdd
      have hs := sums (a3.symm.trans b3')
      have t8 : ∀ x : BitVec 8, (l ++ x :: m).take 8 = l ++ x :: m.take (8 - l.length - 1) := fun x => by
        rw [List.take_append, List.take_of_length_le (by omega), show 8 - l.length = (8 - l.length - 1) + 1 by omega, List.take_succ_cons]
        simp
      rw [t8] at a1 b1'
      unfold sm hd at hs
      rw [← a1, ← b1', List.append_assoc, List.append_assoc, List.append_assoc, List.append_assoc, List.cons_append, List.cons_append] at hs
      exact more_other 0 l _ hac hs
    · have hl12 : 12 ≤ l.length := by omega
      have tk : ∀ (x : BitVec 8) (j : Nat), j ≤ l.length → (l ++ x :: m).take j = l.take j := fun x j hj => List.take_append_of_le_length hj
      rw [tk _ _ (by omega)] at a1 b1'
      have hnn : n = n' := by
        have := congrArg ge (a1.symm.trans b1')
        rw [ge_pu, ge_pu, Nat.mod_eq_of_lt hn, Nat.mod_eq_of_lt h4] at this
        exact this
      subst hnn
      by_cases h16 : l.length < 16
      · -- in the sum: the data stay
        have e4 : ∀ x : BitVec 8, (l ++ x :: m).drop 16 = m.drop (16 - l.length - 1) := fun x => by
          rw [List.drop_append, List.drop_eq_nil_of_le (by omega), List.nil_append, show 16 - l.length = (16 - l.length - 1) + 1 by omega, List.drop_succ_cons]
          simp
        rw [e4] at a4 b4'
        have hdd : data = d := a4.symm.trans b4'
        subst hdd
        have : l ++ a :: m = l ++ c :: m := by rw [← he, hall]
        exact hac (List.cons.inj (List.append_cancel_left this)).1
      · -- in the data: the sum stays
        have e3 : ∀ x : BitVec 8, ((l ++ x :: m).drop 12).take 4 = (l.drop 12).take 4 := fun x => by
          rw [List.drop_append, List.take_append_of_le_length (by rw [List.length_drop]; omega)]
        rw [e3] at a3 b3'
        have hs := sums (a3.symm.trans b3')
        have e4 : ∀ x : BitVec 8, (l ++ x :: m).drop 16 = l.drop 16 ++ x :: m := fun x => by
          rw [List.drop_append, show 16 - l.length = 0 by omega, List.drop_zero]
        rw [e4] at a4 b4'
        unfold sm hd at hs
        rw [← hdl, ← a4, ← b4', ← List.append_assoc, ← List.append_assoc] at hs
        exact more_other 0 _ m hac hs
end Go.Proofs.Ytgdhgicofobebaa.Cr
