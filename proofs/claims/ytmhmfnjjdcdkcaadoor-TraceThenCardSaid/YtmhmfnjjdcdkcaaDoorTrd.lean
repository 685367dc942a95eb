/- The statements' own rows and within: the walks. -/
import Derived.Test.YtmhmfnjjdcdkcaaDoorTr1
namespace Go.Proofs.YtmhmfnjjdcdkcaaDoor.Tr
open Go Go.RowKit
set_option maxRecDepth 20000

/-- Are two rows of rows the same? -/
def rowsB : List (List ByteArray) → List (List ByteArray) → Bool
  | [], [] => true
  | p :: l, q :: m => row p q == 0 && rowsB l m
  | _, _ => false
theorem rowsB_iff : ∀ l m : List (List ByteArray), rowsB l m = true ↔ l = m
  | [], [] => by simp [rowsB]
  | [], _ :: _ => by simp [rowsB]
  | _ :: _, [] => by simp [rowsB]
  | p :: l, q :: m => by
    simp only [rowsB, Bool.and_eq_true, beq_iff_eq, rowsB_iff l m, List.cons.injEq]
    exact and_congr_left fun _ => ⟨row_eq0 p q, fun h => by rw [h]; exact row_self q⟩
theorem rowsB_len : ∀ {l m : List (List ByteArray)}, l.length ≠ m.length → rowsB l m = false
  | [], [], h => absurd rfl h
  | [], _ :: _, _ => rfl
  | _ :: _, [], _ => rfl
  | p :: l, q :: m, h => by simp [rowsB, rowsB_len (l := l) (m := m) (by simpa using h)]
theorem rowsB_at (l m : List (List ByteArray)) (k : Nat) (h1 : k < l.length) (h2 : k < m.length) : rowsB (l.drop k) (m.drop k) = (row l[k] m[k] == 0 && rowsB (l.drop (k + 1)) (m.drop (k + 1))) := by
  rw [List.drop_eq_getElem_cons h1, List.drop_eq_getElem_cons h2]
  rfl

set_option maxHeartbeats 1000000 in
theorem rows_same (x y : Value) (l m : List (List ByteArray)) (w : World) (hx : Rws w x l) (hy : Rws w y m) (he : m.length = l.length) (hlen : l.length ≤ 1000000) (hf : ∀ r ∈ l, r.length ≤ 1000000) (hg : ∀ r ∈ m, r.length ≤ 1000000) :
    Calls Tryd.prog 28 #[x, y] w fun e w' => e = .returned (.bool (rowsB l m)) ∧ Below w.heap.size w w' := by
  obtain ⟨a1, c1, rfl, _, h1⟩ := hx.val
  obtain ⟨a2, c2, rfl, _, h2⟩ := hy.val
  rw [he]
  have H1 := Lib.hid h1
  have H2 := Lib.hid h2
  have HF := Lib.hid hf
  have HG := Lib.hid hg
  have HE := Lib.hid he
  clear h1 h2 hf hg he hx hy
  obtain ⟨rb, hrb⟩ : ∃ rb, rowsB l m = rb := ⟨_, rfl⟩
  rw [hrb]
  have HRB := Lib.hid hrb
  clear hrb
  go_enter Tryd.func28, Tryd.ntmps28
  go_wp2_with fail
  go_loopw [13] (fun i wr => ∃ k : Nat, k ≤ l.length ∧ i = .int .i64 k ∧ Below w.heap.size w wr ∧ rb = rowsB (l.drop k) (m.drop k)) (fun i _ => l.length - (intOf i).toNat)
  case atStart => exact ⟨0, Nat.zero_le _, rfl, Below.refl _ _, HRB.out.symm⟩
  case round =>
    obtain ⟨k, hk, rfl, hb, hs⟩ := hrel
    have HS := Lib.hid hs
    have HB := Lib.hid hb
    clear hs hb
    by_cases hlt : k < l.length
    · have hlt2 : k < m.length := by rw [HE.out]; exact hlt
      obtain ⟨b1, o1, a, rfl, e1, s1⟩ := H1.out k hlt
      obtain ⟨b2, o2, a', rfl, e2, s2⟩ := H2.out k hlt2
      have d1 : wr.cell? ⟨b1, o1 + k, none⟩ = some a := by rw [HB.out.cell (Ap.cell_lt e1)]; exact e1
      have d2 : wr.cell? ⟨b2, o2 + k, none⟩ = some a' := by rw [HB.out.cell (Ap.cell_lt e2)]; exact e2
      have S1 := Lib.hid s1
      have S2 := Lib.hid s2
      have HA := Lib.hid (HS.out.trans (rowsB_at l m k hlt hlt2))
      have L1 := Lib.hid (HF.out _ (List.getElem_mem hlt))
      have L2 := Lib.hid (HG.out _ (List.getElem_mem hlt2))
      generalize l[k] = p at *
      generalize m[k] = q at *
      clear s1 s2 e1 e2
      cases hc : row p q == 0 with
      | true =>
        have hcn : (row p q != 0) = false := by rw [bne, hc]; rfl
        go_wp2_with fail
        go_still_tail 8, (by kernel_rfl)
        change wpList _ _ _ _ _ wr.drew
        go_wp2_with fail
        refine (row_any _ _ p q _ (S1.out.below HB.out.drew) (S2.out.below HB.out.drew) L1.out L2.out).mono ?_
        rintro e w' ⟨rfl, n, rfl⟩
        go_wp2_with fail
        go_roundw
        case rel => exact ⟨k + 1, by omega, by go_num, HB.out.trans (Below.drewN _ _ _), by rw [HA.out, hc]; rfl⟩
        case measure => simp [intOf]; omega
      | false =>
        have hcn : (row p q != 0) = true := by rw [bne, hc]; rfl
        go_wp2_with fail
        go_still_tail 8, (by kernel_rfl)
        change wpList _ _ _ _ _ wr.drew
        go_wp2_with fail
        refine (row_any _ _ p q _ (S1.out.below HB.out.drew) (S2.out.below HB.out.drew) L1.out L2.out).mono ?_
        rintro e w' ⟨rfl, n, rfl⟩
        go_wp2_with fail
        go_ret
        exact ⟨ret_bool (by rw [HA.out, hc]; rfl), HB.out.trans (Below.drewN _ _ _)⟩
    · go_wp2_with fail
      go_ret
      refine ⟨ret_bool ?_, HB.out⟩
      rw [HS.out, List.drop_eq_nil_of_le (by omega), List.drop_eq_nil_of_le (by rw [HE.out]; omega)]
      rfl
set_option maxHeartbeats 400000 in
theorem rows_other (a1 a2 : Option Addr) (c1 c2 n m : Nat) (w : World) (h : n ≠ m) :
    Calls Tryd.prog 28 #[.slice a1 n c1, .slice a2 m c2] w fun e w' => e = .returned (.bool false) ∧ Below w.heap.size w w' := by
  have hne : ((n : Int) == (m : Int)) = false := by rw [beq_eq_false_iff_ne]; omega
  have hne' : ((n : Int) != (m : Int)) = true := by rw [bne_iff_ne]; omega
  go_enter Tryd.func28, Tryd.ntmps28
  go_wp2_with fail
  go_ret
  exact ⟨rfl, Below.refl _ _⟩
theorem rows_any (x y : Value) (l m : List (List ByteArray)) (w : World) (hx : Rws w x l) (hy : Rws w y m) (hlen : l.length ≤ 1000000) (hf : ∀ r ∈ l, r.length ≤ 1000000) (hg : ∀ r ∈ m, r.length ≤ 1000000) :
    Calls Tryd.prog 28 #[x, y] w fun e w' => e = .returned (.bool (rowsB l m)) ∧ Below w.heap.size w w' := by
  by_cases he : l.length = m.length
  · exact rows_same x y l m w hx hy he.symm hlen hf hg
  · rw [rowsB_len he]
    obtain ⟨_, ⟨_, a, cap, rfl, _⟩, _⟩ := hx
    obtain ⟨_, ⟨_, a', cap', rfl, _⟩, _⟩ := hy
    exact rows_other a a' cap cap' l.length m.length w he

/-- Are the actions of one row those of another, in order, some left out? -/
def sub : List ByteArray → List ByteArray → Bool
  | [], _ => true
  | _ :: _, [] => false
  | x :: a, y :: b => if x = y then sub a b else sub (x :: a) b
theorem sub_nil (b : List ByteArray) : sub [] b = true := by cases b <;> rfl
theorem sub_end (a : List ByteArray) (k : Nat) (hk : k ≤ a.length) : sub (a.drop k) [] = ((k : Int) == (a.length : Int)) := by
  by_cases h : k < a.length
  · rw [List.drop_eq_getElem_cons h]
    symm
    rw [beq_eq_false_iff_ne.2 (by omega)]
    rfl
  · rw [List.drop_eq_nil_of_le (by omega), beq_iff_eq.2 (by omega)]
    rfl

set_option maxHeartbeats 2000000 in
theorem within_any (x y : Value) (a b : List ByteArray) (w : World) (hx : Strs w x a) (hy : Strs w y b) (ha : a.length ≤ 1000000) (hb : b.length ≤ 1000000) :
    Calls Tryd.prog 30 #[x, y] w fun e w' => e = .returned (.bool (sub a b)) ∧ Below w.heap.size w w' := by
  have hx' : ∃ a1 c1, x = .slice a1 a.length c1 ∧ ∀ k, (h : k < a.length) → ∃ b o, a1 = some ⟨b, o, none⟩ ∧ w.cell? ⟨b, o + k, none⟩ = some (.string a[k]) := by
    obtain ⟨_, a1, c1, rfl, _, _, hc⟩ := hx
    refine ⟨a1, c1, rfl, fun k hk => ?_⟩
    obtain ⟨b, o, rfl, hj⟩ := hc (by omega)
    exact ⟨b, o, rfl, hj k _ (by simp [hk])⟩
  have hy' : ∃ a1 c1, y = .slice a1 b.length c1 ∧ ∀ k, (h : k < b.length) → ∃ b' o, a1 = some ⟨b', o, none⟩ ∧ w.cell? ⟨b', o + k, none⟩ = some (.string b[k]) := by
    obtain ⟨_, a1, c1, rfl, _, _, hc⟩ := hy
    refine ⟨a1, c1, rfl, fun k hk => ?_⟩
    obtain ⟨b, o, rfl, hj⟩ := hc (by omega)
    exact ⟨b, o, rfl, hj k _ (by simp [hk])⟩
  obtain ⟨a1, c1, rfl, h1⟩ := hx'
  obtain ⟨a2, c2, rfl, h2⟩ := hy'
  have H1 := Lib.hid h1
  have H2 := Lib.hid h2
  clear h1 h2 hx hy
  obtain ⟨sb, hsb⟩ : ∃ sb, sub a b = sb := ⟨_, rfl⟩
  rw [hsb]
  have HSB := Lib.hid hsb
  clear hsb
  go_enter Tryd.func30, Tryd.ntmps30
  go_wp2_with fail
  go_loop [5, 10] (fun i j => ∃ p k : Nat, p ≤ a.length ∧ k ≤ b.length ∧ i = .int .i64 p ∧ j = .int .i64 k ∧ sb = sub (a.drop p) (b.drop k)) (fun _ j => b.length - (intOf j).toNat)
  case atStart => exact ⟨0, 0, Nat.zero_le _, Nat.zero_le _, rfl, rfl, HSB.out.symm⟩
  case round =>
    obtain ⟨p, k, hp, hk, rfl, rfl, hs⟩ := hrel
    have HS := Lib.hid hs
    clear hs
    by_cases hlt : k < b.length
    · obtain ⟨b2, o2, rfl, e2⟩ := H2.out k hlt
      have HD := Lib.hid (List.drop_eq_getElem_cons hlt)
      generalize b[k] = y at *
      by_cases hlt1 : p < a.length
      · obtain ⟨b1, o1, rfl, e1⟩ := H1.out p hlt1
        have HD1 := Lib.hid (List.drop_eq_getElem_cons hlt1)
        generalize a[p] = x at *
        have g1 : decide (p < a.length) = true := by simpa using hlt1
        by_cases hxy : x = y
        · have gq : (x.toList == y.toList) = true := by rw [hxy]; simp
          have HXY := Lib.hid hxy
          clear hxy
          go_wp2_with fail
          go_round
          case rel => exact ⟨p + 1, k + 1, by omega, by omega, by go_num, by go_num, by rw [HS.out, HD.out, HD1.out, sub, if_pos HXY.out]⟩
          case measure => simp [intOf]; omega
        · have gq : (x.toList == y.toList) = false := by rw [beq_eq_false_iff_ne]; exact fun h => hxy (toList_inj h)
          have HXY := Lib.hid hxy
          clear hxy
          go_wp2_with fail
          go_round
          case rel => exact ⟨p, k + 1, by omega, by omega, by go_num, by go_num, by rw [HS.out, HD.out, HD1.out, sub, if_neg HXY.out]⟩
          case measure => simp [intOf]; omega
      · have g1 : decide (p < a.length) = false := by simpa using hlt1
        have HE := Lib.hid (show a.drop p = [] from List.drop_eq_nil_of_le (by omega))
        go_wp2_with fail
        go_round
        case rel => exact ⟨p, k + 1, by omega, by omega, by go_num, by go_num, by rw [HS.out, HE.out, sub_nil, sub_nil]⟩
        case measure => simp [intOf]; omega
    · have HE := Lib.hid (show b.drop k = [] from List.drop_eq_nil_of_le (by omega))
      go_wp2_with fail
      go_ret
      exact ⟨ret_bool (by rw [HS.out, HE.out, sub_end a p hp]), Below.refl _ _⟩
end Go.Proofs.YtmhmfnjjdcdkcaaDoor.Tr
