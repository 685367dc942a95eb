/- Numbers out of bytes: the document's Get and Same; the program's Get. -/
import Derived.Test.YtgdhgicofobebaaCrd
namespace Go.Proofs.Ytgdhgicofobebaa.Cr
open Go Go.RowKit
set_option maxRecDepth 20000

theorem ge_drop (l : By) {p : Nat} (h : p < l.length) : ge (l.drop p) = l[p].toNat + 256 * ge (l.drop (p + 1)) := by rw [List.drop_eq_getElem_cons h]; rfl
theorem ge_end (l : By) {p : Nat} (h : l.length ≤ p) : ge (l.drop p) = 0 := by rw [List.drop_eq_nil_of_le h]; rfl
theorem ge_bd (l : By) (hl : l.length ≤ 8) (p : Nat) : ge (l.drop (p + 1)) < 72057594037927936 := by
  have h := ge_lt (l.drop (p + 1))
  have : (l.drop (p + 1)).length ≤ 7 := by rw [List.length_drop]; omega
  have h2 : 256 ^ (l.drop (p + 1)).length ≤ 256 ^ 7 := Nat.pow_le_pow_right (by decide) this
  omega
theorem take_at (l : By) {p : Nat} (h : p < (l.take 8).length) : (l.take 8)[p] = l[p]'(by rw [List.length_take] at h; omega) := List.getElem_take
set_option maxHeartbeats 2000000 in
theorem getR_any (v : Value) (l : By) (w : World) (hv : Bys w v l) (hl : l.length ≤ 4398046511104) :
    Calls Try.prog 18 #[v] w fun e w' => e = .returned (.int .u64 (ge (l.take 8) : Int)) ∧ w = w' := by
  obtain ⟨a, m, cap, rfl, hm⟩ := hv.split
  have HV := Lib.hid hv
  have HMM := Lib.hid hm
  rw [hm] at hl
  clear hv hm
  go_enter Try.func18, Try.ntmps18
  go_wp2_with fail
  go_loop [3, 4] (fun nv iv => ∃ (p x : Nat), p ≤ 8 ∧ nv = .int .u64 (x : Int) ∧ Hid (x = ge ((l.take 8).drop p)) ∧ ((p = 0 ∧ iv = .int .i64 (-1)) ∨ ∃ q : Nat, p = q + 1 ∧ iv = .int .i64 q)) (fun _ iv => (intOf iv + 1).toNat)
  case atStart => exact ⟨8, 0, by omega, rfl, Lib.hid (ge_end _ (by rw [List.length_take]; omega)).symm, Or.inr ⟨7, rfl, rfl⟩⟩
  case round =>
    obtain ⟨p, x, hp, rfl, HX, ⟨rfl, rfl⟩ | ⟨q, rfl, rfl⟩⟩ := hrel
    · have HE : Hid (x = ge (l.take 8)) := HX
      go_wp2_with fail
      go_ret
      exact ⟨by rw [HE.out]; rfl, rfl⟩
    · have hx : x < 72057594037927936 := by rw [HX.out]; exact ge_bd _ (by rw [List.length_take]; omega) q
      by_cases hlt : q < m
      · have hq : q < (l.take 8).length := by have := HMM.out; rw [List.length_take]; omega
        have hql : q < l.length := by have := HMM.out; omega
        obtain ⟨b, off, rfl, c0⟩ := HV.out.at hql
        have HN : Hid ((l[q].toNat + 256 * x : Nat) = ge ((l.take 8).drop q)) := by have := ge_drop _ hq; rw [take_at l hq, ← HX.out] at this; exact this.symm
        have hb := l[q].isLt
        obtain ⟨y, hy⟩ : ∃ y, l[q].toNat = y := ⟨_, rfl⟩
        rw [hy] at HN hb c0
        clear hy
        go_wp2_with fail
        go_round
        case rel =>
          refine ⟨q, y + 256 * x, by omega, by go_num, HN, ?_⟩
          cases q with
          | zero => exact Or.inl ⟨rfl, rfl⟩
          | succ j => exact Or.inr ⟨j, rfl, by go_num⟩
        case measure => first | (simp [intOf]; done) | (simp [intOf]; omega)
      · have HN : Hid ((256 * x : Nat) = ge ((l.take 8).drop q)) := by
          have h1 := ge_end (l.take 8) (p := q) (by have := HMM.out; rw [List.length_take]; omega)
          have h2 := ge_end (l.take 8) (p := q + 1) (by have := HMM.out; rw [List.length_take]; omega)
          have := HX.out
          show _ = _
          omega
        go_wp2_with fail
        go_round
        case rel =>
          refine ⟨q, 256 * x, by omega, by go_num, HN, ?_⟩
          cases q with
          | zero => exact Or.inl ⟨rfl, rfl⟩
          | succ j => exact Or.inr ⟨j, rfl, by go_num⟩
        case measure => first | (simp [intOf]; done) | (simp [intOf]; omega)
theorem same_take {l m : By} {k : Nat} (hk : k < l.length) (hk' : k < m.length) (h : l.take k = m.take k) (he : l[k] = m[k]) : l.take (k + 1) = m.take (k + 1) := by
  rw [List.take_succ_eq_append_getElem hk, List.take_succ_eq_append_getElem hk', h, he]
set_option maxHeartbeats 2000000 in
theorem sameR_any (v x : Value) (l m : By) (w : World) (hv : Bys w v l) (hx : Bys w x m) (hl : l.length ≤ 4398046511104) (hm : m.length ≤ 4398046511104) :
    Calls Try.prog 15 #[v, x] w fun e w' => e = .returned (.bool (decide (l = m))) ∧ Below w.heap.size w w' := by
  obtain ⟨a, n, c, rfl, hn⟩ := hv.split
  obtain ⟨a', n', c', rfl, hn'⟩ := hx.split
  have HV := Lib.hid hv
  have HX := Lib.hid hx
  have HN := Lib.hid hn
  have HN' := Lib.hid hn'
  rw [hn] at hl
  rw [hn'] at hm
  clear hv hx hn hn'
  by_cases hnn : n = n'
  · subst hnn
    go_enter Try.func15, Try.ntmps15
    go_wp2_with fail
    go_loopw [5] (fun iv wr => ∃ k : Nat, k ≤ n ∧ iv = .int .i64 k ∧ Hid (l.take k = m.take k) ∧ Hid (Below w.heap.size w wr)) (fun iv _ => n - (intOf iv).toNat)
    case atStart => exact ⟨0, Nat.zero_le _, rfl, Lib.hid rfl, Lib.hid (Below.refl _ _)⟩
    case round =>
      obtain ⟨k, hk, rfl, HT, HB⟩ := hrel
      by_cases hlt : k < n
      · have hk1 : k < l.length := by have := HN.out; omega
        have hk2 : k < m.length := by have := HN'.out; omega
        obtain ⟨b, off, rfl, c0⟩ := HV.out.at hk1
        obtain ⟨b', off', rfl, c1⟩ := HX.out.at hk2
        have d0 : wr.cell? ⟨b, off + k, none⟩ = some (.int .u8 (l[k].toNat : Int)) := by rw [HB.out.cell (Ap.cell_lt c0)]; exact c0
        have d1 : wr.cell? ⟨b', off' + k, none⟩ = some (.int .u8 (m[k].toNat : Int)) := by rw [HB.out.cell (Ap.cell_lt c1)]; exact c1
        clear c0 c1
        by_cases he : l[k] = m[k]
        · have HT2 := Lib.hid (same_take hk1 hk2 HT.out he)
          rw [he] at d0
          clear he
          go_wp2_with fail
          go_quiet (fail)
          go_wp2_with fail
          go_roundw
          case rel => exact ⟨k + 1, by omega, by go_num, HT2, Lib.hid (HB.out.trans (Below.drewN _ _ _))⟩
          case measure => simp [intOf]; omega
        · have HF : Hid (decide (l = m) = false) := by
            have h := decide_eq_false (p := l = m) (fun e => he (by subst e; rfl))
            exact h
          have g1 : ((l[k].toNat : Int) != (m[k].toNat : Int)) = true := by
            rw [bne_iff_ne]
            intro e
            exact he (BitVec.eq_of_toNat_eq (by omega))
          obtain ⟨y, hy⟩ : ∃ y, l[k].toNat = y := ⟨_, rfl⟩
          obtain ⟨z, hz⟩ : ∃ z, m[k].toNat = z := ⟨_, rfl⟩
          rw [hy] at d0 g1
          rw [hz] at d1 g1
          clear hy hz he
          go_wp2_with fail
          go_quiet (fail)
          go_wp2_with fail
          go_ret
          exact ⟨by rw [HF.out]; rfl, HB.out.trans (Below.drewN _ _ _)⟩
      · have HF : Hid (decide (l = m) = true) := by
          have h := HT.out
          have h1 := HN.out
          have h2 := HN'.out
          rw [List.take_of_length_le (by omega), List.take_of_length_le (by omega)] at h
          exact decide_eq_true h
        go_wp2_with fail
        go_ret
        exact ⟨by rw [HF.out]; rfl, HB.out⟩
  · have HF : Hid (decide (l = m) = false) := by
      have h := decide_eq_false (p := l = m) (fun e => hnn (by rw [← HN.out, ← HN'.out, e]))
      exact h
    have g1 : ((n : Int) != (n' : Int)) = true := by rw [bne_iff_ne]; omega
    rw [HF.out]
    clear hnn
    go_enter Try.func15, Try.ntmps15
    go_wp2_with fail
    go_ret
    exact ⟨rfl, Below.refl _ _⟩
end Go.Proofs.Ytgdhgicofobebaa.Cr
