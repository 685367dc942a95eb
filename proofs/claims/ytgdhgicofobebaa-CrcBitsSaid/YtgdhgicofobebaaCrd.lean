/- Numbers as bytes: the document's Put, Get, Same; the program's Get. -/
import Derived.Test.YtgdhgicofobebaaCrc
import Derived.OwnWalk
namespace Go.Proofs.Ytgdhgicofobebaa.Cr
open Go Go.RowKit
set_option maxRecDepth 20000

theorem infoB : (Try.prog.info? 5).map (fun i => (i.zero, i.size, i.bytes)) = some (some (.int .u8 0), 1, 1) := by kernel_rfl
theorem info_parts {t : TypeId} {z : Value} {s b : Nat} (h : (Try.prog.info? t).map (fun i => (i.zero, i.size, i.bytes)) = some (some z, s, b)) : ∃ i, Try.prog.info? t = some i ∧ i.zero = some z ∧ i.size = s ∧ i.bytes = b := by
  cases hi : Try.prog.info? t with
  | none => rw [hi] at h; cases h
  | some i =>
    rw [hi] at h
    simp only [Option.map_some, Option.some.injEq, Prod.mk.injEq] at h
    exact ⟨i, rfl, h.1, h.2.1, h.2.2⟩
/-- A row of bytes in a block of the call's own, from base on. -/
abbrev OwB (w : World) (base : Nat) (v : Value) (l : By) : Prop := w.ownsRow base 5 1 v l.length (bc l)
theorem OwB.bys {w : World} {base : Nat} {v : Value} {l : By} (h : OwB w base v l) : Bys w v l := Ap.Rd.owned h
theorem OwB.start (w : World) (base : Nat) : OwB w base (.slice none 0 0) [] := ⟨rfl, .inl ⟨rfl, rfl⟩⟩
/-- append of one byte onto a row of the call's own; of the bytes of any row. -/
theorem OwB.one {w : World} {base : Nat} {v : Value} {l : By} (h : OwB w base v l) (hb : base ≤ w.heap.size) (x : BitVec 8) (hl : l.length ≤ 4398046511104) :
    ∃ v' w', (Builtin.append_ #[23, 23] 23 #[v, .slice (some ⟨w.heap.size, 0, none⟩) 1 1]).run Try.prog (w.alloc (.cells #[.int .u8 (x.toNat : Int)] 5)) = .ok v' w' ∧ OwB w' base v' (l ++ [x]) ∧ w.grownBy w' v.ownBlock ∧ Below base w w' ∧ Ap.Fresh w v v' := by
  obtain ⟨i0, hi, hz, hs1, hb8⟩ := info_parts infoB
  have := Ap.run_append_one (P := Try.prog) (ty := 23) Try.underlying23 hi hz hs1 hb8 (by rfl) (by omega) h hb #[.int .u8 (x.toNat : Int)] rfl (by intro u hu; simp at hu; subst hu; rfl) (by unfold maxLen; omega) (by omega)
  obtain ⟨v', w', h1, h2, h3, h4, h5⟩ := this
  refine ⟨v', w', h1, ?_, h3, h4, h5⟩
  unfold OwB
  rw [bc_append, List.length_append]
  exact h2
theorem OwB.row {w : World} {base : Nat} {v x : Value} {l m : By} (h : OwB w base v l) (hb : base ≤ w.heap.size) (hx : Bys w x m) (hl : l.length + m.length ≤ 4398046511104) :
    ∃ v' w', (Builtin.append_ #[23, 23] 23 #[v, x]).run Try.prog w = .ok v' w' ∧ OwB w' base v' (l ++ m) ∧ w.grownBy w' v.ownBlock ∧ Below base w w' ∧ Ap.Fresh w v v' := by
  obtain ⟨i0, hi, hz, hs1, hb8⟩ := info_parts infoB
  have := Ap.run_append_rd (P := Try.prog) (ty := 23) Try.underlying23 hi hz hs1 hb8 (by rfl) (by omega) h hb hx (bc_one m) (by unfold maxLen; omega) (by omega)
  obtain ⟨v', w', h1, h2, h3, h4, h5⟩ := this
  refine ⟨v', w', h1, ?_, h3, h4, h5⟩
  unfold OwB
  rw [bc_append, List.length_append]
  exact h2
/-- How many bytes Put tells. -/
def pm (k : Int) : Nat := min k.toNat 8
theorem pm_le (k : Int) : pm k ≤ 8 := by unfold pm; omega
theorem pu_snoc : ∀ (k n : Nat), pu (k + 1) n = pu k n ++ [BitVec.ofNat 8 (n / 256 ^ k)]
  | 0, n => by simp [pu]
  | k + 1, n => by
    rw [pu, pu_snoc k (n / 256), pu, List.cons_append, Nat.div_div_eq_div_mul, Nat.pow_succ, Nat.mul_comm 256]
set_option maxHeartbeats 2000000 in
theorem putR_any (n : Nat) (k : Int) (w : World) (hn : n < 18446744073709551616) : Calls Try.prog 16 #[.int .u64 (n : Int), .int .i64 k] w fun e w' => ∃ v, e = .returned v ∧ OwB w' w.heap.size v (pu (pm k) n) ∧ Below w.heap.size w w' := by
  go_enter Try.func16, Try.ntmps16
  go_wp2_with fail
  go_loopw [0, 5, 6] (fun nv ov iv wr => ∃ (j x c : Nat) (a : Option Addr), j ≤ pm k ∧ x < 18446744073709551616 ∧ iv = .int .i64 j ∧ nv = .int .u64 (x : Int) ∧ ov = .slice a j c ∧ Hid (x = n / 256 ^ j) ∧ Hid (OwB wr w.heap.size (.slice a j c) (pu j n)) ∧ Hid (Below w.heap.size w wr)) (fun _ _ iv _ => 8 - (intOf iv).toNat)
  case atStart => exact ⟨0, n, _, _, Nat.zero_le _, hn, rfl, rfl, rfl, Lib.hid (by simp), Lib.hid (OwB.start w _), Lib.hid (Below.refl _ _)⟩
  case round =>
    obtain ⟨j, x, c, a, hj, hx, rfl, rfl, rfl, HX, HO, HB⟩ := hrel
    have hp := pm_le k
    by_cases hlt : j < pm k
    · have g1 : decide ((j : Int) < k) = true := decide_eq_true (by unfold pm at hlt; omega)
      have g2 : decide ((j : Int) < 8) = true := decide_eq_true (by omega)
      obtain ⟨v2, w2, hrun, hown, _, hb2, _⟩ := HO.out.one HB.out.size (BitVec.ofNat 8 x) (by rw [pu_len]; omega)
      have hb3 := HB.out.trans hb2
      rw [HX.out, ← pu_snoc] at hown
      rw [show (((BitVec.ofNat 8 x).toNat : Nat) : Int) = (x : Int) % 256 by rw [BitVec.toNat_ofNat]; omega] at hrun
      obtain ⟨a2, m2, c2, rfl, hm2⟩ := hown.bys.split
      rw [pu_len] at hm2
      subst hm2
      have R := Lib.hid hrun
      have HO2 := Lib.hid hown
      have HB2 := Lib.hid hb3
      have HX2 : Hid (x / 256 = n / 256 ^ (j + 1)) := by show _ = _; rw [HX.out, Nat.div_div_eq_div_mul, Nat.pow_succ]
      clear hrun hown hb2 hb3
      go_wp2_with (at_builtin; refine Ap.wpList_append_run (by rfl) (.tmp 16) (.tmp 20) _ _ rfl _ _ rfl rfl _ w2 R.out ?_)
      go_roundw
      case rel => exact ⟨j + 1, x / 256, c2, a2, by omega, by omega, by go_num, by go_num, rfl, HX2, HO2, HB2⟩
      case measure => simp [intOf]; omega
    · have hj8 : j = pm k := by omega
      have HO2 : Hid (OwB wr w.heap.size (.slice a j c) (pu (pm k) n)) := by rw [← hj8]; exact HO
      by_cases h8 : j = 8
      · have g2 : decide ((j : Int) < 8) = false := decide_eq_false (by omega)
        clear hj8 h8
        by_cases g1 : (j : Int) < k
        · go_wp2_with fail
          go_ret
          exact ⟨_, rfl, HO2.out, HB.out⟩
        · go_wp2_with fail
          go_ret
          exact ⟨_, rfl, HO2.out, HB.out⟩
      · have g1 : decide ((j : Int) < k) = false := decide_eq_false (by unfold pm at hj8; omega)
        clear hj8 h8
        go_wp2_with fail
        go_ret
        exact ⟨_, rfl, HO2.out, HB.out⟩
end Go.Proofs.Ytgdhgicofobebaa.Cr
