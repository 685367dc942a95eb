/- The program's order of traces: cmp.Compare, slices.Compare, cmp.Or, the method against and Compare: the walks. -/
import Derived.Test.YtmhmfnjjdcdkcaaDoorTrs
namespace Go.Proofs.YtmhmfnjjdcdkcaaDoor.Tr
open Go Go.RowKit
set_option maxRecDepth 20000

/-- Below 0, 0, above 0. -/
def sg3 (c : Int) : Int := if c < 0 then -1 else if 0 < c then 1 else 0
/-- How one text stands to another. -/
def cmpS (x y : ByteArray) : Int := if ls x y then -1 else if ls y x then 1 else 0
/-- How one number stands to another. -/
def cmpI (x y : Int) : Int := if x < y then -1 else if y < x then 1 else 0

set_option maxHeartbeats 400000 in
theorem nanS (x : ByteArray) (w : World) : Calls Tryd.prog 90 #[.string x] w fun e w' => e = .returned (.bool false) ∧ w' = w := by
  have hxx : (x.toList == x.toList) = true := by simp
  go_enter Tryd.func90, Tryd.ntmps90
  go_wp2_with fail
  go_ret
  exact ⟨rfl, rfl⟩
set_option maxHeartbeats 400000 in
theorem nanI (x : Int) (w : World) : Calls Tryd.prog 76 #[.int .i64 x] w fun e w' => e = .returned (.bool false) ∧ w' = w := by
  go_enter Tryd.func76, Tryd.ntmps76
  go_wp2_with fail
  go_ret
  exact ⟨rfl, rfl⟩

set_option maxHeartbeats 1000000 in
theorem cmpS_any (x y : ByteArray) (w : World) : Calls Tryd.prog 75 #[.string x, .string y] w fun e w' => e = .returned (.int .i64 (cmpS x y)) ∧ w' = w := by
  cases hx : ls x y with
  | true =>
    have hx' : Op.bytesLess x.toList y.toList = true := hx
    have HX := Lib.hid hx
    clear hx
    go_enter Tryd.func75, Tryd.ntmps75
    go_wp2_with (go_at_call 90; refine (nanS _ _).mono ?_; rintro e w' ⟨rfl, rfl⟩)
    go_ret
    exact ⟨ret_int (by rw [cmpS, HX.out]; rfl), rfl⟩
  | false =>
    have hx' : Op.bytesLess x.toList y.toList = false := hx
    have hy' := eq_of_ls hx
    have HX := Lib.hid hx
    clear hx
    cases hy : ls y x with
    | true =>
      rw [hy] at hy'
      have HY := Lib.hid hy
      clear hy
      go_enter Tryd.func75, Tryd.ntmps75
      go_wp2_with (go_at_call 90; refine (nanS _ _).mono ?_; rintro e w' ⟨rfl, rfl⟩)
      go_ret
      exact ⟨ret_int (by rw [cmpS, HX.out, HY.out]; rfl), rfl⟩
    | false =>
      rw [hy] at hy'
      have HY := Lib.hid hy
      clear hy
      go_enter Tryd.func75, Tryd.ntmps75
      go_wp2_with (go_at_call 90; refine (nanS _ _).mono ?_; rintro e w' ⟨rfl, rfl⟩)
      go_ret
      exact ⟨ret_int (by rw [cmpS, HX.out, HY.out]; rfl), rfl⟩

set_option maxHeartbeats 1000000 in
theorem cmpI_any (x y : Int) (w : World) : Calls Tryd.prog 59 #[.int .i64 x, .int .i64 y] w fun e w' => e = .returned (.int .i64 (cmpI x y)) ∧ w' = w := by
  by_cases h1 : x < y
  · go_enter Tryd.func59, Tryd.ntmps59
    go_wp2_with (go_at_call 76; refine (nanI _ _).mono ?_; rintro e w' ⟨rfl, rfl⟩)
    go_ret
    exact ⟨ret_int (by rw [cmpI, if_pos h1]), rfl⟩
  · by_cases h2 : y < x
    · go_enter Tryd.func59, Tryd.ntmps59
      go_wp2_with (go_at_call 76; refine (nanI _ _).mono ?_; rintro e w' ⟨rfl, rfl⟩)
      go_ret
      exact ⟨ret_int (by rw [cmpI, if_neg (by omega), if_pos h2]), rfl⟩
    · go_enter Tryd.func59, Tryd.ntmps59
      go_wp2_with (go_at_call 76; refine (nanI _ _).mono ?_; rintro e w' ⟨rfl, rfl⟩)
      go_ret
      exact ⟨ret_int (by rw [cmpI, if_neg (by omega), if_neg (by omega)]), rfl⟩

theorem sg3_at (l m : List ByteArray) (k : Nat) (h1 : k < l.length) (h2 : k < m.length) :
    sg3 (row (l.drop k) (m.drop k)) = if cmpS l[k] m[k] = 0 then sg3 (row (l.drop (k + 1)) (m.drop (k + 1))) else cmpS l[k] m[k] := by
  rw [row_at l m k h1 h2, cmpS]
  cases ls l[k] m[k] with
  | true => rfl
  | false =>
    cases ls m[k] l[k] with
    | true => rfl
    | false => rfl
theorem sg3_over (l m : List ByteArray) (k : Nat) (h1 : k < l.length) (h2 : ¬ k < m.length) (h3 : k ≤ m.length) : sg3 (row (l.drop k) (m.drop k)) = 1 := by
  rw [row_end l m k (by omega) h3 (.inr h2), sg3, if_neg (by omega), if_pos (by omega)]
theorem sg3_end (l m : List ByteArray) (k : Nat) (h1 : k = l.length) (h3 : k ≤ m.length) : sg3 (row (l.drop k) (m.drop k)) = if l.length < m.length then -1 else 0 := by
  rw [row_end l m k (by omega) h3 (.inl (by omega)), sg3]
  by_cases h : l.length < m.length
  · rw [if_pos (by omega), if_pos h]
  · rw [if_neg (by omega), if_neg (by omega), if_neg h]

set_option maxHeartbeats 1000000 in
theorem rowc_cells (b1 o1 c1 b2 o2 c2 : Nat) (l m : List ByteArray) (w : World) (hl : l.length ≤ 1000000) (_hm : m.length ≤ 1000000)
    (h1 : ∀ k, (h : k < l.length) → w.cell? ⟨b1, o1 + k, none⟩ = some (.string l[k])) (h2 : ∀ k, (h : k < m.length) → w.cell? ⟨b2, o2 + k, none⟩ = some (.string m[k])) :
    Calls Tryd.prog 58 #[.slice (some ⟨b1, o1, none⟩) l.length c1, .slice (some ⟨b2, o2, none⟩) m.length c2] w fun e w' => e = .returned (.int .i64 (sg3 (row l m))) ∧ w' = w := by
  have H1 := Lib.hid h1
  have H2 := Lib.hid h2
  clear h1 h2
  go_enter Tryd.func58, Tryd.ntmps58
  go_wp2_with fail
  go_loopw [11] (fun i wr => ∃ k : Nat, k ≤ l.length ∧ k ≤ m.length ∧ i = .int .i64 k ∧ wr = w ∧ sg3 (row l m) = sg3 (row (l.drop k) (m.drop k))) (fun i _ => l.length - (intOf i).toNat)
  case atStart => exact ⟨0, Nat.zero_le _, Nat.zero_le _, rfl, rfl, rfl⟩
  case round =>
    obtain ⟨k, hk1, hk2, rfl, rfl, hrow⟩ := hrel
    have HROW := Lib.hid hrow
    clear hrow
    by_cases hlt : k < l.length
    · have e1 := H1.out k hlt
      by_cases hlt2 : k < m.length
      · have e2 := H2.out k hlt2
        have HA := Lib.hid (HROW.out.trans (sg3_at l m k hlt hlt2))
        obtain ⟨x, hx⟩ : ∃ x, l[k] = x := ⟨_, rfl⟩
        obtain ⟨y, hy⟩ : ∃ y, m[k] = y := ⟨_, rfl⟩
        rw [hx] at e1 HA
        rw [hy] at e2 HA
        clear hx hy
        obtain ⟨c, hc⟩ : ∃ c, cmpS x y = c := ⟨_, rfl⟩
        have HC := Lib.hid (cmpS_any x y)
        rw [hc] at HA HC
        clear hc
        by_cases h0 : c = 0
        · subst h0
          go_wp2_with (go_at_call 75; refine (HC.out _).mono ?_; rintro e w' ⟨rfl, rfl⟩)
          go_roundw
          case rel => exact ⟨k + 1, by omega, by omega, by go_num, (by first | rfl | trivial), HA.out⟩
          case measure => simp [intOf]; omega
        · have H0 := Lib.hid h0
          go_wp2_with (go_at_call 75; refine (HC.out _).mono ?_; rintro e w' ⟨rfl, rfl⟩)
          go_ret
          exact ⟨ret_int (by rw [HA.out, if_neg H0.out]), rfl⟩
      · have HE := Lib.hid (HROW.out.trans (sg3_over l m k hlt hlt2 hk2))
        go_wp2_with fail
        go_ret
        exact ⟨ret_int HE.out.symm, rfl⟩
    · have HE := Lib.hid (HROW.out.trans (sg3_end l m k (by omega) hk2))
      by_cases hlm : l.length < m.length
      · rw [if_pos hlm] at HE
        go_wp2_with fail
        go_ret
        exact ⟨ret_int HE.out.symm, rfl⟩
      · rw [if_neg hlm] at HE
        go_wp2_with fail
        go_ret
        exact ⟨ret_int HE.out.symm, rfl⟩

set_option maxHeartbeats 400000 in
theorem rowc_empty_l (a1 a2 : Option Addr) (c1 c2 n : Nat) (w : World) (_hn : n ≤ 1000000) :
    Calls Tryd.prog 58 #[.slice a1 0 c1, .slice a2 n c2] w fun e w' => e = .returned (.int .i64 (if 0 < n then -1 else 0)) ∧ w' = w := by
  by_cases h : 0 < n
  · rw [if_pos h]
    go_enter Tryd.func58, Tryd.ntmps58
    go_wp2_with fail
    refine Go.wp_loop_rounds 1 ?_
    rw [rounds_succ]
    go_wp2_with fail
    go_ret
    exact ⟨rfl, rfl⟩
  · rw [if_neg h]
    go_enter Tryd.func58, Tryd.ntmps58
    go_wp2_with fail
    refine Go.wp_loop_rounds 1 ?_
    rw [rounds_succ]
    go_wp2_with fail
    go_ret
    exact ⟨rfl, rfl⟩
set_option maxHeartbeats 400000 in
theorem rowc_empty_r (b1 o1 c1 : Nat) (a2 : Option Addr) (c2 n : Nat) (w : World) (x : ByteArray) (_hn : n ≤ 1000000) (h0 : 0 < n) (h1 : w.cell? ⟨b1, o1, none⟩ = some (.string x)) :
    Calls Tryd.prog 58 #[.slice (some ⟨b1, o1, none⟩) n c1, .slice a2 0 c2] w fun e w' => e = .returned (.int .i64 1) ∧ w' = w := by
  go_enter Tryd.func58, Tryd.ntmps58
  go_wp2_with fail
  refine Go.wp_loop_rounds 1 ?_
  rw [rounds_succ]
  go_wp2_with fail
  go_ret
  exact ⟨rfl, rfl⟩

theorem rowc_any (v1 v2 : Value) (l m : List ByteArray) (w : World) (h1 : Strs w v1 l) (h2 : Strs w v2 m) (hl : l.length ≤ 1000000) (hm : m.length ≤ 1000000) :
    Calls Tryd.prog 58 #[v1, v2] w fun e w' => e = .returned (.int .i64 (sg3 (row l m))) ∧ w' = w := by
  have hL : ∀ m : List ByteArray, sg3 (row [] m) = if 0 < m.length then -1 else 0 := fun m => by
    have := sg3_end [] m 0 rfl (Nat.zero_le _)
    simpa using this
  rcases h1.form with ⟨rfl, a1, c1, rfl⟩ | ⟨b1, o1, c1, rfl, hc1⟩
  · obtain ⟨_, a2, c2, rfl, _⟩ := h2
    rw [hL]
    exact rowc_empty_l a1 a2 c1 c2 m.length w hm
  · by_cases h0 : 0 < l.length
    · rcases h2.form with ⟨rfl, a2, c2, rfl⟩ | ⟨b2, o2, c2, rfl, hc2⟩
      · rw [row_nil_r, sg3, if_neg (by omega), if_pos (by omega)]
        exact rowc_empty_r b1 o1 c1 a2 c2 l.length w l[0] hl h0 (hc1 0 h0)
      · exact rowc_cells b1 o1 c1 b2 o2 c2 l m w hl hm hc1 hc2
    · obtain rfl : l = [] := List.eq_nil_of_length_eq_zero (by omega)
      obtain ⟨_, a2, c2, rfl, _⟩ := h2
      rw [hL]
      exact rowc_empty_l _ a2 c1 c2 m.length w hm

set_option maxHeartbeats 400000 in
theorem or2_any (x y : Int) (b : Nat) (w : World) (h1 : w.cell? ⟨b, 0, none⟩ = some (.int .i64 x)) (h2 : w.cell? ⟨b, 1, none⟩ = some (.int .i64 y)) :
    Calls Tryd.prog 57 #[.slice (some ⟨b, 0, none⟩) 2 2] w fun e w' => e = .returned (.int .i64 (if x = 0 then y else x)) ∧ w' = w := by
  by_cases hx : x = 0
  · rw [if_pos hx]
    subst hx
    by_cases hy : y = 0
    · subst hy
      go_enter Tryd.func57, Tryd.ntmps57
      go_wp2_with fail
      refine Go.wp_loop_rounds 3 ?_
      rw [rounds_succ]
      go_wp2_with fail
      rw [rounds_succ]
      go_wp2_with fail
      rw [rounds_succ]
      go_wp2_with fail
      go_ret
      exact ⟨rfl, rfl⟩
    · go_enter Tryd.func57, Tryd.ntmps57
      go_wp2_with fail
      refine Go.wp_loop_rounds 2 ?_
      rw [rounds_succ]
      go_wp2_with fail
      rw [rounds_succ]
      go_wp2_with fail
      go_ret
      exact ⟨rfl, rfl⟩
  · rw [if_neg hx]
    go_enter Tryd.func57, Tryd.ntmps57
    go_wp2_with fail
    refine Go.wp_loop_rounds 1 ?_
    rw [rounds_succ]
    go_wp2_with fail
    go_ret
    exact ⟨rfl, rfl⟩
theorem cmp_or (p q : Tr) : (if sg3 (row p.a q.a) = 0 then cmpI p.e q.e else sg3 (row p.a q.a)) = cmp p q := by
  rcases Int.lt_trichotomy (row p.a q.a) 0 with h | h | h
  · have e : sg3 (row p.a q.a) = -1 := by rw [sg3, if_pos h]
    rw [e, if_neg (by decide)]
    have := cmp_neg (p := p) (q := q) |>.2 (.inl h)
    have := cmp_bd p q
    omega
  · have e : sg3 (row p.a q.a) = 0 := by rw [h]; rfl
    rw [e, if_pos rfl, cmpI, cmp]
    simp [h]
    repeat' split
    all_goals omega
  · have e : sg3 (row p.a q.a) = 1 := by rw [sg3, if_neg (by omega), if_pos h]
    rw [e, if_neg (by decide)]
    have h2 : row q.a p.a < 0 := (row_anti _ _).2 h
    have := cmp_neg (p := q) (q := p) |>.2 (.inl h2)
    have := cmp_anti p q
    have := cmp_bd p q
    omega
end Go.Proofs.YtmhmfnjjdcdkcaaDoor.Tr
