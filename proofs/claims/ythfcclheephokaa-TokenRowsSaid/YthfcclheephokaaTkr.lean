/- The program's isLetter, kindOf, letters, isName. -/
import Derived.Test.YthfcclheephokaaTkx
import Derived.Laws.RangeAny
namespace Go.Proofs.Ythfcclheephokaa.To
open Go Go.RowKit
set_option maxRecDepth 20000
def ltI (r : Int) : Bool := decide (97 ≤ r) && decide (r ≤ 122)
theorem letB_int (b : UInt8) : ltI (b.toNat : Int) = letB b := by
  unfold ltI letB
  rw [Bool.eq_iff_iff]
  simp
  omega
theorem isLet_any (r : Int) (w : World) : Calls Try.prog 24 #[.int .i32 r] w fun e w' => e = .returned (.bool (ltI r)) ∧ w = w' := by
  by_cases h1 : 97 ≤ r
  · by_cases h2 : r ≤ 122
    · have e : ltI r = true := by unfold ltI; simp; omega
      have d1 : decide (97 ≤ r) = true := by simp; omega
      have d2 : decide (r ≤ 122) = true := by simp; omega
      rw [e]
      clear e
      go_enter Try.func24, Try.ntmps24
      go_wp2_with fail
      go_ret
      first
        | exact ⟨rfl, rfl⟩
        | exact ⟨ret_bool (by simp [h1, h2]), rfl⟩
    · have e : ltI r = false := by unfold ltI; simp; omega
      have d1 : decide (97 ≤ r) = true := by simp; omega
      have d2 : decide (r ≤ 122) = false := by simp; omega
      rw [e]
      clear e
      go_enter Try.func24, Try.ntmps24
      go_wp2_with fail
      go_ret
      first
        | exact ⟨rfl, rfl⟩
        | exact ⟨ret_bool (by simp; omega), rfl⟩
  · have e : ltI r = false := by unfold ltI; simp; omega
    have d1 : decide (97 ≤ r) = false := by simp; omega
    rw [e]
    clear e
    go_enter Try.func24, Try.ntmps24
    go_wp2_with fail
    go_ret
    first
      | exact ⟨rfl, rfl⟩
      | exact ⟨ret_bool (by simp; omega), rfl⟩
/-- The marks, in their order. -/
def markL : List Nat := [40, 41, 91, 93, 59, 43, 124, 62, 47]
/-- The kind of the token that begins with a rune. -/
def kdM : List Nat → Nat → Int → Nat
  | [], _, _ => 0
  | m :: l, i, r => if (m : Int) = r then i + 1 else kdM l (i + 1) r
def kdI (r : Int) : Nat := if ltI r then 10 else kdM markL 0 r
theorem kdM_drop {k : Nat} (h : k < 9) (r : Int) (hk : kdM (markL.drop k) k r = kdM markL 0 r) : kdM markL 0 r = if ((markL[k]! : Nat) : Int) = r then k + 1 else kdM (markL.drop (k + 1)) (k + 1) r := by
  rw [← hk, List.drop_eq_getElem_cons (by simpa [markL] using h), kdM]
  rw [show markL[k]! = markL[k]'(by simpa [markL] using h) from getElem!_pos ..]
theorem kd_sig (b : UInt8) (h : letB b = false) : kdI (b.toNat : Int) = sig b := by
  have hl : ltI (b.toNat : Int) = false := (letB_int b).trans h
  unfold kdI
  rw [hl, if_neg (by decide)]
  clear hl h
  have hk : ∀ n, n < 256 → kdM markL 0 ((n : Nat) : Int) = sig (UInt8.ofNat n) := by decide +kernel
  have := hk b.toNat b.toNat_lt
  rwa [UInt8.ofNat_toNat] at this
theorem kd_let (b : UInt8) (h : letB b = true) : kdI (b.toNat : Int) = 10 := by
  have hl : ltI (b.toNat : Int) = true := (letB_int b).trans h
  unfold kdI
  rw [hl, if_pos rfl]
theorem kd_high {r : Int} (h : 128 ≤ r) : kdI r = 0 := by
  have hl : ltI r = false := by unfold ltI; simp; omega
  unfold kdI
  rw [hl, if_neg (by decide)]
  simp only [markL, kdM]
  repeat rw [if_neg (by omega)]
theorem mark_at : ∀ k, (h : k < 9) → ((⟨#[40, 41, 91, 93, 59, 43, 124, 62, 47]⟩ : ByteArray)[k]'h).toNat = markL[k]! ∧ markL[k]! < 128 := by decide +kernel
set_option maxHeartbeats 1000000 in
theorem kind_any (r : Int) (w : World) : Calls Try.prog 18 #[.int .i32 r] w fun e w' => e = .returned (.int .i64 (kdI r : Nat)) ∧ Below w.heap.size w w' := by
  cases hl : ltI r with
  | true =>
    have e : kdI r = 10 := by unfold kdI; rw [hl, if_pos rfl]
    rw [e]
    have HL := Lib.hid hl
    clear hl e
    go_enter Try.func18, Try.ntmps18
    go_wp2_with fail
    refine (isLet_any r _).mono ?_
    rw [HL.out]
    rintro e w' ⟨rfl, rfl⟩
    go_wp2_with fail
    go_ret
    exact ⟨rfl, Below.refl _ _⟩
  | false =>
    have e : kdI r = kdM markL 0 r := by unfold kdI; rw [hl, if_neg (by decide)]
    have HL := Lib.hid hl
    have HK := Lib.hid e
    clear hl e
    go_enter Try.func18, Try.ntmps18
    go_wp2_with fail
    refine (isLet_any r _).mono ?_
    rw [HL.out]
    rintro e w' ⟨rfl, rfl⟩
    go_wp2_with fail
    go_loopw [] (fun wr => ∃ pos : Nat, pos ≤ 9 ∧ wr = w.iter ⟨#[40, 41, 91, 93, 59, 43, 124, 62, 47]⟩ pos ∧ Hid (kdM (markL.drop pos) pos r = kdM markL 0 r)) (fun wr => 9 - wr.iterPos w.heap.size)
    case atStart => exact ⟨0, Nat.zero_le _, rfl, Lib.hid rfl⟩
    case round =>
      obtain ⟨pos, hp, rfl, HM⟩ := hrel
      by_cases hlt : pos < 9
      · have HS := Lib.hid (kdM_drop hlt r HM.out)
        have hc := (mark_at pos hlt).1
        have h128 := (mark_at pos hlt).2
        obtain ⟨c, hcc⟩ : ∃ c, markL[pos]! = c := ⟨_, rfl⟩
        have hnx : ∀ ty, (Instr.next (.pointer (some ⟨w.heap.size, 0, none⟩)) true ty).run Try.prog (w.iter ⟨#[40, 41, 91, 93, 59, 43, 124, 62, 47]⟩ pos) = _ := fun ty => run_next_ascii w ⟨#[40, 41, 91, 93, 59, 43, 124, 62, 47]⟩ pos ty hlt (by rw [hc]; exact h128)
        rw [hc, hcc] at hnx
        rw [hcc] at HS
        clear hc h128 hcc
        by_cases hcr : (c : Int) = r
        · have d1 : ((c : Int) == r) = true := by rw [beq_iff_eq]; exact hcr
          have HR : Hid (kdI r = pos + 1) := Lib.hid (by rw [HK.out, HS.out, if_pos hcr])
          clear hcr
          go_wp2_with fail
          go_ret
          refine ⟨?_, (Below.refl _ _).alloc (Nat.le_refl _) _⟩
          rw [HR.out]
          exact ret_int (by omega)
        · have d1 : ((c : Int) == r) = false := by rw [beq_eq_false_iff_ne]; exact hcr
          have HR : Hid (kdM (markL.drop (pos + 1)) (pos + 1) r = kdM markL 0 r) := Lib.hid (by have := HS.out; rw [if_neg hcr] at this; exact this.symm)
          clear hcr
          go_wp2_with fail
          go_roundw
          case rel => exact ⟨pos + 1, by omega, rfl, HR⟩
          case measure => simp only [World.iterPos_iter]; omega
      · have hnx : ∀ ty, (Instr.next (.pointer (some ⟨w.heap.size, 0, none⟩)) true ty).run Try.prog (w.iter ⟨#[40, 41, 91, 93, 59, 43, 124, 62, 47]⟩ pos) = _ := fun ty => run_next_end w ⟨#[40, 41, 91, 93, 59, 43, 124, 62, 47]⟩ pos ty hlt
        have HR : Hid (kdI r = 0) := Lib.hid (by
          rw [HK.out, ← HM.out, List.drop_eq_nil_of_le (by simp [markL]; omega)]
          rfl)
        go_wp2_with fail
        go_ret
        refine ⟨?_, (Below.refl _ _).alloc (Nat.le_refl _) _⟩
        rw [HR.out]
        rfl
theorem ret_str {a b : ByteArray} (h : a = b) : Ending.returned (.string a) = .returned (.string b) := by rw [h]
/-- The letters with which a text begins. -/
def ltr (s : ByteArray) : ByteArray := ⟨(s.data.toList.takeWhile letB).toArray⟩
theorem ltr_stop {s : ByteArray} {q : Nat} (h : ∀ b ∈ s.data.toList.take q, letB b = true) (hq : q < s.size) (hb : letB s[q] = false) : s.extract 0 q = ltr s := by
  have := (Wd.stop (p := 0) (Nat.zero_le q) (by simpa using h) hq hb).1
  simp only [List.drop_zero, Nat.sub_zero] at this
  rw [ext_take]
  unfold ltr
  rw [this]
  simp
theorem ltr_end {s : ByteArray} {q : Nat} (h : ∀ b ∈ s.data.toList.take q, letB b = true) (hq : ¬ q < s.size) (hq2 : q ≤ s.size) : s = ltr s := by
  have := (Wd.end (p := 0) (Nat.zero_le q) (by simpa using h) hq hq2).1
  simp only [List.drop_zero, Nat.sub_zero] at this
  unfold ltr
  rw [this, List.take_of_length_le (by simp; omega)]
theorem take_let {s : ByteArray} {q : Nat} (h : ∀ b ∈ s.data.toList.take q, letB b = true) (hq : q < s.size) (hb : letB s[q] = true) : ∀ b ∈ s.data.toList.take (q + 1), letB b = true := by
  have := take_more (s := s) (p := 0) (Nat.zero_le q) hq
  simp only [List.drop_zero, Nat.sub_zero] at this
  rw [this]
  intro b hb'
  rcases List.mem_append.1 hb' with h1 | h1
  · exact h b h1
  · rw [List.mem_singleton] at h1
    rw [h1]
    exact hb
set_option maxHeartbeats 1000000 in
theorem letters_any (s : ByteArray) (w : World) : Calls Try.prog 19 #[.string s] w fun e w' => e = .returned (.string (ltr s)) ∧ Below w.heap.size w w' := by
  go_enter Try.func19, Try.ntmps19
  go_wp2_with fail
  go_loopw [] (fun wr => ∃ pos : Nat, pos ≤ s.size ∧ wr = w.iter s pos ∧ Hid (∀ b ∈ s.data.toList.take pos, letB b = true)) (fun wr => s.size - wr.iterPos w.heap.size)
  case atStart => exact ⟨0, Nat.zero_le _, rfl, Lib.hid (by intro b hb; cases hb)⟩
  case round =>
    obtain ⟨pos, hp, rfl, HL⟩ := hrel
    by_cases hlt : pos < s.size
    · have HB : Hid (ltI ((s[pos]'hlt).toNat : Int) = letB (s[pos]'hlt)) := Lib.hid (letB_int _)
      by_cases ha : (s[pos]'hlt).toNat < 128
      · have hnx : ∀ ty, (Instr.next (.pointer (some ⟨w.heap.size, 0, none⟩)) true ty).run Try.prog (w.iter s pos) = _ := fun ty => run_next_ascii w s pos ty hlt ha
        cases hb : letB (s[pos]'hlt) with
        | true =>
          have HT := Lib.hid (take_let HL.out hlt hb)
          rw [hb] at HB
          obtain ⟨c, hc⟩ : ∃ c, (s[pos]'hlt).toNat = c := ⟨_, rfl⟩
          rw [hc] at hnx HB
          clear hc ha hb
          go_wp2_with fail
          refine (isLet_any _ _).mono ?_
          rw [HB.out]
          rintro e w' ⟨rfl, rfl⟩
          go_wp2_with fail
          go_roundw
          case rel => exact ⟨pos + 1, by omega, rfl, HT⟩
          case measure => simp only [World.iterPos_iter]; omega
        | false =>
          have HT := Lib.hid (ltr_stop HL.out hlt hb)
          rw [hb] at HB
          obtain ⟨c, hc⟩ : ∃ c, (s[pos]'hlt).toNat = c := ⟨_, rfl⟩
          rw [hc] at hnx HB
          clear hc ha hb
          go_wp2_with fail
          refine (isLet_any _ _).mono ?_
          rw [HB.out]
          rintro e w' ⟨rfl, rfl⟩
          go_wp2_with fail
          go_ret
          exact ⟨ret_str HT.out, (Below.refl _ _).alloc (Nat.le_refl _) _⟩
      · have hnx : ∀ ty, (Instr.next (.pointer (some ⟨w.heap.size, 0, none⟩)) true ty).run Try.prog (w.iter s pos) = _ := fun ty => run_next_any w s pos ty hlt
        have hh := (decode_high s pos hlt (by omega)).1
        have HT := Lib.hid (ltr_stop HL.out hlt (by unfold letB; simp; omega))
        obtain ⟨c, hc⟩ : ∃ c, (Utf8.decode s pos).1 = c := ⟨_, rfl⟩
        obtain ⟨q, hq⟩ : ∃ q, pos + (Utf8.decode s pos).2 = q := ⟨_, rfl⟩
        rw [hc] at hh
        rw [hc, hq] at hnx
        have HC : Hid (ltI (c : Int) = false) := Lib.hid (by unfold ltI; simp; omega)
        clear hc hq ha hh
        go_wp2_with fail
        refine (isLet_any _ _).mono ?_
        rw [HC.out]
        rintro e w' ⟨rfl, rfl⟩
        go_wp2_with fail
        go_ret
        exact ⟨ret_str HT.out, (Below.refl _ _).alloc (Nat.le_refl _) _⟩
    · have hnx : ∀ ty, (Instr.next (.pointer (some ⟨w.heap.size, 0, none⟩)) true ty).run Try.prog (w.iter s pos) = _ := fun ty => run_next_end w s pos ty hlt
      have HT := Lib.hid (ltr_end HL.out hlt hp)
      go_wp2_with fail
      go_ret
      exact ⟨ret_str HT.out, (Below.refl _ _).alloc (Nat.le_refl _) _⟩
theorem ltr_len (s : ByteArray) : (ltr s).size ≤ s.size := by
  have := tw_le s.data.toList
  show (s.data.toList.takeWhile letB).toArray.size ≤ s.data.size
  simpa using this
theorem ltr_all {s : ByteArray} : (ltr s = s) ↔ s.data.toList.all letB = true := by
  constructor
  · intro h
    rw [← h]
    rw [List.all_eq_true]
    unfold ltr
    exact tw_all _
  · intro h
    rw [List.all_eq_true] at h
    exact (ltr_end (s := s) (q := s.size) (fun b hb => h b (List.mem_of_mem_take hb)) (by omega) (Nat.le_refl _)).symm
end Go.Proofs.Ythfcclheephokaa.To
