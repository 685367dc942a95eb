/- The program's Count: slices.Index and slices.Contains over whole numbers. -/
import Derived.Test.YtpkbpooiaddcaaaRwsb
import Derived.Test.YtpkbpooiaddcaaaRwt
import Derived.Deep.QuietTactic
import Derived.BigQuiet
namespace Go.Proofs.Ytpkbpooiaddcaaa.Rx
open Go Go.RowKit Rw
set_option maxRecDepth 20000

/-- Where a number stands first. -/
def idxAt (x : Int) : List Int → Nat → Int
  | [], _ => -1
  | y :: l, k => if x = y then k else idxAt x l (k + 1)
theorem idxAt_mem (x : Int) (l : List Int) (k : Nat) : decide (0 ≤ idxAt x l k) = decide (x ∈ l) := by
  induction l generalizing k with
  | nil => simp [idxAt]
  | cons y l ih =>
    unfold idxAt
    by_cases h : x = y
    · rw [if_pos h, decide_eq_true (show x ∈ y :: l by rw [h]; exact List.mem_cons_self)]
      simp
    · rw [if_neg h, ih (k + 1)]
      simp [h]
theorem idxAt_end {x : Int} {l : List Int} {k : Nat} (h : ¬ k < l.length) : idxAt x (l.drop k) k = -1 := by rw [List.drop_eq_nil_of_le (by omega)]; rfl
theorem idxAt_at {x : Int} {l : List Int} {k : Nat} (h : k < l.length) : idxAt x (l.drop k) k = if x = l[k] then (k : Int) else idxAt x (l.drop (k + 1)) (k + 1) := by
  rw [List.drop_eq_getElem_cons h, idxAt]

set_option maxHeartbeats 400000 in
theorem idx_empty (a : Option Addr) (cap : Nat) (x : Int) (w : World) :
    Calls Try.prog 40 #[.slice a 0 cap, .int .i64 x] w fun e w' => e = .returned (.int .i64 (-1)) ∧ w = w' := by
  go_enter Try.func40, Try.ntmps40
  go_wp2_with fail
  refine Go.wp_loop_rounds 1 ?_
  rw [rounds_succ]
  go_wp2_with fail
  go_ret
  exact ⟨rfl, rfl⟩
set_option maxHeartbeats 800000 in
theorem idx_cells (b off cap : Nat) (l : List Int) (x : Int) (w : World) (hat : AtI w b off l) (hl : l.length ≤ 1000000) :
    Calls Try.prog 40 #[.slice (some ⟨b, off, none⟩) l.length cap, .int .i64 x] w fun e w' => e = .returned (.int .i64 (idxAt x l 0)) ∧ Below w.heap.size w w' := by
  have HA := Lib.hid hat
  clear hat
  go_enter Try.func40, Try.ntmps40
  go_wp2_with fail
  go_loopw [8] (fun i wr => ∃ k : Nat, k ≤ l.length ∧ i = .int .i64 k ∧ Below w.heap.size w wr ∧ Hid (idxAt x l 0 = idxAt x (l.drop k) k)) (fun i _ => l.length - (intOf i).toNat)
  case atStart => exact ⟨0, Nat.zero_le _, rfl, Below.refl _ _, Lib.hid rfl⟩
  case round =>
    obtain ⟨k, hk, rfl, hb, HK⟩ := hrel
    have HB := Lib.hid hb
    clear hb
    by_cases hlt : k < l.length
    · have e1 := HA.out k hlt
      have c1 : wr.cell? ⟨b, off + k, none⟩ = some (.int .i64 l[k]) := by rw [HB.out.cell (Ap.cell_lt e1)]; exact e1
      have HX := Lib.hid (HK.out.trans (idxAt_at hlt))
      obtain ⟨y, hy⟩ : ∃ y, l[k] = y := ⟨_, rfl⟩
      rw [hy] at c1 HX
      clear hy e1
      by_cases hxy : x = y
      · rw [if_pos hxy] at HX
        subst hxy
        go_wp2_with fail
        try go_quiet (fail)
        try go_wp2_with fail
        go_ret
        exact ⟨ret_int HX.out.symm, by first | exact HB.out.trans (Below.drewN _ _ _) | exact HB.out⟩
      · rw [if_neg hxy] at HX
        have g : (x == y) = false := by rw [beq_eq_false_iff_ne]; exact hxy
        clear hxy
        go_wp2_with fail
        try go_quiet (fail)
        try go_wp2_with fail
        go_roundw
        case rel => exact ⟨k + 1, by omega, by go_num, by first | exact HB.out.trans (Below.drewN _ _ _) | exact HB.out, HX⟩
        case measure => simp [intOf]; omega
    · go_wp2_with fail
      go_ret
      exact ⟨ret_int (by rw [HK.out, idxAt_end hlt]), HB.out⟩
theorem idx_any (v : Value) (l : List Int) (x : Int) (w : World) (h : Ints w v l) (hl : l.length ≤ 1000000) :
    Calls Try.prog 40 #[v, .int .i64 x] w fun e w' => e = .returned (.int .i64 (idxAt x l 0)) ∧ Below w.heap.size w w' := by
  rcases h.form with ⟨rfl, a, cap, rfl⟩ | ⟨b, off, cap, rfl, _, hat⟩
  · refine (idx_empty a cap x w).mono ?_
    rintro e w' ⟨rfl, rfl⟩
    exact ⟨rfl, Below.refl _ _⟩
  · exact idx_cells b off cap l x w hat hl
set_option maxHeartbeats 400000 in
theorem has_any (v : Value) (l : List Int) (x : Int) (w : World) (h : Ints w v l) (hl : l.length ≤ 1000000) :
    Calls Try.prog 31 #[v, .int .i64 x] w fun e w' => e = .returned (.bool (decide (x ∈ l))) ∧ Below w.heap.size w w' := by
  have H := Lib.hid h
  have HQ := Lib.hid (idxAt_mem x l 0)
  obtain ⟨q, hq⟩ : ∃ q, idxAt x l 0 = q := ⟨_, rfl⟩
  rw [hq] at HQ
  have HC := Lib.hid hq
  clear h hq
  go_enter Try.func31, Try.ntmps31
  go_wp2_with fail
  refine (idx_any v l x _ H.out hl).mono ?_
  rw [HC.out]
  rintro e w' ⟨rfl, hb⟩
  have HB := Lib.hid hb
  clear hb
  go_wp2_with fail
  go_ret
  exact ⟨ret_bool HQ.out, HB.out⟩

set_option maxHeartbeats 400000 in
theorem countP_empty (a : Option Addr) (cap : Nat) (y : Value) (w : World) :
    Calls Try.prog 20 #[.slice a 0 cap, y] w fun e w' => e = .returned (.int .i64 0) ∧ Below w.heap.size w w' := by
  go_enter Try.func20, Try.ntmps20
  go_wp2_with fail
  refine Go.wp_loop_rounds 1 ?_
  rw [rounds_succ]
  go_wp2_with fail
  go_ret
  exact ⟨rfl, Below.refl _ _⟩
set_option maxHeartbeats 1000000 in
theorem countP_cells (b off cap : Nat) (l : List Nd) (v : Value) (ks : List Int) (w : World) (hl : l.length ≤ 1000000) (hk : ks.length ≤ 1000000) (h1 : At w b off l) (h2 : Ints w v ks) :
    Calls Try.prog 20 #[.slice (some ⟨b, off, none⟩) l.length cap, v] w fun e w' => e = .returned (.int .i64 (cnt l ks)) ∧ Below w.heap.size w w' := by
  have H1 := Lib.hid h1
  have H2 := Lib.hid h2
  clear h1 h2
  go_enter Try.func20, Try.ntmps20
  go_wp2_with fail
  go_loopw [5, 10] (fun n i wr => ∃ k c : Nat, k ≤ l.length ∧ c ≤ k ∧ i = .int .i64 k ∧ n = .int .i64 c ∧ Below w.heap.size w wr ∧ Hid (cnt (l.take k) ks = c)) (fun _ i _ => l.length - (intOf i).toNat)
  case atStart => exact ⟨0, 0, Nat.zero_le _, Nat.zero_le _, rfl, rfl, Below.refl _ _, Lib.hid rfl⟩
  case round =>
    obtain ⟨k, c, hk', hck, rfl, rfl, hb, HC⟩ := hrel
    have HB := Lib.hid hb
    clear hb
    by_cases hlt : k < l.length
    · obtain ⟨e1, e2, e3⟩ := H1.out k hlt
      have c1 : wr.cell? ⟨b, off + k * 3, none⟩ = some (.int .i64 l[k].k) := by rw [HB.out.cell (Ap.cell_lt e1)]; exact e1
      have c2 : wr.cell? ⟨b, off + k * 3 + 1, none⟩ = some (.string l[k].n) := by rw [HB.out.cell (Ap.cell_lt e2)]; exact e2
      have c3 : wr.cell? ⟨b, off + k * 3 + 2, none⟩ = some (.int .i64 l[k].s) := by rw [HB.out.cell (Ap.cell_lt e3)]; exact e3
      have HY := Lib.hid (cnt_yes l ks k hlt)
      have HN := Lib.hid (cnt_no l ks k hlt)
      obtain ⟨x, hx⟩ : ∃ x, l[k] = x := ⟨_, rfl⟩
      rw [hx] at c1 c2 c3 HY HN
      clear hx e1 e2 e3
      have HB1 := Lib.hid (HB.out.alloc HB.out.size (nb x))
      by_cases hm : x.k ∈ ks
      · have HX := Lib.hid (decide_eq_true hm)
        have HM := Lib.hid hm
        clear hm
        go_wp2_with fail
        refine (has_any v ks x.k _ (H2.out.below HB1.out) hk).mono ?_
        rw [HX.out]
        rintro e w' ⟨rfl, hb⟩
        have HB2 := Lib.hid (HB1.out.trans (hb.mono HB1.out.size))
        clear hb
        go_wp2_with fail
        go_roundw
        case rel => exact ⟨k + 1, c + 1, by omega, by omega, by go_num, by go_num, HB2.out, Lib.hid (by rw [HY.out HM.out, HC.out])⟩
        case measure => simp [intOf]; omega
      · have HX := Lib.hid (decide_eq_false hm)
        have HM := Lib.hid hm
        clear hm
        go_wp2_with fail
        refine (has_any v ks x.k _ (H2.out.below HB1.out) hk).mono ?_
        rw [HX.out]
        rintro e w' ⟨rfl, hb⟩
        have HB2 := Lib.hid (HB1.out.trans (hb.mono HB1.out.size))
        clear hb
        go_wp2_with fail
        go_roundw
        case rel => exact ⟨k + 1, c, by omega, by omega, by go_num, rfl, HB2.out, Lib.hid (by rw [HN.out HM.out, HC.out])⟩
        case measure => simp [intOf]; omega
    · have HZ : Hid (cnt l ks = c) := by
        have := HC.out
        rwa [List.take_of_length_le (by omega)] at this
      go_wp2_with fail
      go_ret
      exact ⟨ret_int (by rw [HZ.out]), HB.out⟩
/-- The program's Count. -/
theorem countP_any (x y : Value) (l : List Nd) (ks : List Int) (w : World) (hx : Nds w x l) (hy : Ints w y ks) (hl : l.length ≤ 1000000) (hk : ks.length ≤ 1000000) :
    Calls Try.prog 20 #[x, y] w fun e w' => e = .returned (.int .i64 (cnt l ks)) ∧ Below w.heap.size w w' := by
  rcases hx.form with ⟨rfl, a, cap, rfl⟩ | ⟨b, off, cap, rfl, _, hc⟩
  · exact countP_empty a cap y w
  · exact countP_cells b off cap l y ks w hl hk hc hy
end Go.Proofs.Ytpkbpooiaddcaaa.Rx
