/- The sums over bytes: the program's More (a goto back to a label) and Sum. -/
import Derived.Test.YtgdhgicofobebaaCra
import Derived.WalkMore
import Derived.ScopeJumps
import Derived.Deep.Upon
namespace Go.Proofs.Ytgdhgicofobebaa.Cr
open Go Go.RowKit
set_option maxRecDepth 20000

/-- How many elements a slice has. -/
def slen : Value → Nat
  | .slice _ n _ => n
  | _ => 0
theorem xor_wide (s : BitVec 32) (b : BitVec 8) : bits .xor .u32 (s.toNat : Int) (b.toNat : Int) = ((s ^^^ b.setWidth 32).toNat : Int) := by
  have hs := s.isLt
  have hb := b.isLt
  rw [BitVec.toNat_xor, BitVec.toNat_setWidth, Nat.mod_eq_of_lt (by omega)]
  exact u32_xor_nat s.toNat b.toNat (by omega) (by omega)
theorem not_u32 (s : BitVec 32) : (~~~s).toNat = 4294967295 - s.toNat := by rw [BitVec.toNat_not]
theorem xor_not (s : BitVec 32) : bits .xor .u32 (s.toNat : Int) 4294967295 = ((~~~s).toNat : Int) := by
  have hs := s.isLt
  have h := u32_xor_nat s.toNat 4294967295 (by omega) (by omega)
  have e : s.toNat ^^^ 4294967295 = (~~~s).toNat := by
    have : ~~~s = s ^^^ 4294967295#32 := by
      apply BitVec.eq_of_getLsbD_eq
      intro i hi
      rw [BitVec.getLsbD_not, BitVec.getLsbD_xor, show (4294967295#32) = BitVec.allOnes 32 from rfl, BitVec.getLsbD_allOnes]
      simp [hi]
    rw [this, BitVec.toNat_xor]
    rfl
  rw [e] at h
  exact h
theorem not_max (s : BitVec 32) : bits .xor .u32 IntKind.u32.max (s.toNat : Int) = ((~~~s).toNat : Int) := by
  have e : bits .xor .u32 IntKind.u32.max (s.toNat : Int) = bits .xor .u32 (s.toNat : Int) 4294967295 := by
    show IntKind.u32.wrap ((BitVec.ofInt 32 _ ^^^ BitVec.ofInt 32 _).toNat : Int) = IntKind.u32.wrap ((BitVec.ofInt 32 _ ^^^ BitVec.ofInt 32 _).toNat : Int)
    rw [BitVec.xor_comm]
    rfl
  rw [e, xor_not]
set_option maxHeartbeats 2000000 in
theorem moreP_cells (s : BitVec 32) (b off cap : Nat) (l : By) (w : World) (hat : ∀ k, (hk : k < l.length) → w.cell? ⟨b, off + k, none⟩ = some (.int .u8 (l[k].toNat : Int))) (hc : l.length ≤ cap) (hl : l.length ≤ 4398046511104) :
    Calls Try.prog 11 #[.int .u32 (s.toNat : Int), .slice (some ⟨b, off, none⟩) l.length cap] w fun e w' => e = .returned (.int .u32 ((more s l).toNat : Int)) ∧ w = w' := by
  have HA := Lib.hid hat
  clear hat
  have hsg : IntKind.u32.signed = false := rfl
  have HM0 := Lib.hid (not_max s)
  rw [show more s l = ~~~ (go (~~~s) l) from rfl]
  obtain ⟨q, hq⟩ : ∃ q, ~~~s = q := ⟨_, rfl⟩
  rw [hq] at HM0 ⊢
  obtain ⟨r, hr⟩ : ∃ r, ~~~ (go q l) = r := ⟨_, rfl⟩
  have HR := Lib.hid hr
  rw [hr]
  clear hq hr
  go_enter Try.func11, Try.ntmps11
  go_wp2_with fail
  refine wp_scope_jumps 0 (fun a' wr => ∃ (t : BitVec 32) (k o m c : Nat) (u5 u6 u7 u8 u9 u10 u11 u12 u13 u14 u15 u16 u17 u18 u19 u20 : Value), w = wr ∧ a' = { tmps := #[.int .u32 (t.toNat : Int), .slice (some ⟨b, o, none⟩) m c, undef, undef, .int .u32 0, u5, u6, u7, u8, u9, u10, u11, u12, u13, u14, u15, u16, u17, u18, u19, u20], defers := [] } ∧ k + m = l.length ∧ m ≤ c ∧ Hid (0 < m → o = off + k) ∧ Hid (go t (l.drop k) = go q l)) (fun a' _ => slen (a'.tmps.getD 1 undef)) rfl ?_ ?_
  · obtain ⟨m, hm⟩ : ∃ m, l.length = m := ⟨_, rfl⟩
    have HO : Hid (0 < m → off = off + 0) := Lib.hid fun _ => rfl
    have HG : Hid (go q (l.drop 0) = go q l) := Lib.hid rfl
    rw [hm] at hc hl ⊢
    have HMM := Lib.hid hm
    clear hm
    go_wp2_with fail
    go_step3
    rw [HM0.out]
    have hm := HMM.out
    by_cases h0 : m = 0
    · have HE : Hid (q = go q l) := by have := HG.out; rw [List.drop_eq_nil_of_le (by omega)] at this; exact this
      have g0 : ((m : Int) == 0) = true := by rw [h0]; rfl
      have HM : Hid (bits .xor .u32 IntKind.u32.max (q.toNat : Int) = (r.toNat : Int)) := by have := not_max q; rw [HE.out, HR.out] at this; rw [HE.out]; exact this
      clear h0
      go_wp2_with fail
      simp only [Exit.jump]
      go_ret
      refine ⟨?_, rfl⟩
      show Ending.returned _ = _
      rw [← HM.out]
      rfl
    · have hkl : 0 < l.length := by omega
      have c0 := HA.out 0 hkl
      rw [Nat.add_zero] at c0
      have HX := Lib.hid (xor_wide q l[0])
      have HN : Hid (go (b8 (q ^^^ l[0].setWidth 32)) (l.drop (0 + 1)) = go q l) := by have := HG.out; rw [List.drop_eq_getElem_cons hkl] at this; exact this
      have hc1 : 0 < cap := by omega
      have g0 : ((m : Int) == 0) = false := by rw [beq_eq_false_iff_ne]; omega
      have HC := Lib.hid (movedP (q ^^^ l[0].setWidth 32) w)
      rw [← HX.out] at HC
      clear hm
      by_cases hc2 : cap = 1
      · have hm1 : m = 1 := by have := HMM.out; omega
        subst hc2 hm1
        go_wp2_with fail
        refine HC.out.mono ?_
        rintro e w' ⟨rfl, rfl⟩
        go_wp2_with fail
        go_step3
        have hm := HMM.out
        exact ⟨rfl, ⟨b8 (q ^^^ l[0].setWidth 32), 0 + 1, off, 0, 0, _, _, _, _, _, _, _, _, _, _, _, _, _, _, _, _, rfl, rfl, by omega, by omega, Lib.hid (fun h => absurd h (by omega)), HN⟩⟩
      · have hc3 : 1 < cap := by omega
        go_wp2_with fail
        refine HC.out.mono ?_
        rintro e w' ⟨rfl, rfl⟩
        go_wp2_with fail
        go_step3
        have hm := HMM.out
        exact ⟨rfl, ⟨b8 (q ^^^ l[0].setWidth 32), 0 + 1, off + 1, m - 1, cap - 1, _, _, _, _, _, _, _, _, _, _, _, _, _, _, _, _, rfl, rfl, by omega, by omega, Lib.hid (fun _ => by omega), HN⟩⟩
  · rintro a' wr ⟨t, k, o, m, c, u5, u6, u7, u8, u9, u10, u11, u12, u13, u14, u15, u16, u17, u18, u19, u20, rfl, rfl, hk, hm, HO, HG⟩
    by_cases h0 : m = 0
    · have HE : Hid (t = go q l) := by have := HG.out; rw [List.drop_eq_nil_of_le (by omega)] at this; exact this
      have g0 : ((m : Int) == 0) = true := by rw [h0]; rfl
      have HM : Hid (bits .xor .u32 IntKind.u32.max (t.toNat : Int) = (r.toNat : Int)) := by have := not_max t; rw [HE.out, HR.out] at this; rw [HE.out]; exact this
      clear h0
      go_wp2_with fail
      simp only [Exit.jump]
      go_ret
      refine ⟨?_, rfl⟩
      show Ending.returned _ = _
      rw [← HM.out]
      rfl
    ·
      have ho := HO.out (by omega)
      subst ho
      have hkl : k < l.length := by omega
      have c0 := HA.out k hkl
      have HX := Lib.hid (xor_wide t l[k])
      have HN : Hid (go (b8 (t ^^^ l[k].setWidth 32)) (l.drop (k + 1)) = go q l) := by have := HG.out; rw [List.drop_eq_getElem_cons hkl] at this; exact this
      have hc1 : 0 < c := by omega
      have g0 : ((m : Int) == 0) = false := by rw [beq_eq_false_iff_ne]; omega
      have HC := Lib.hid (movedP (t ^^^ l[k].setWidth 32) w)
      rw [← HX.out] at HC
      by_cases hc2 : c = 1
      · have hm1 : m = 1 := by omega
        subst hc2 hm1
        go_wp2_with fail
        refine HC.out.mono ?_
        rintro e w' ⟨rfl, rfl⟩
        go_wp2_with fail
        go_step3
        refine ⟨rfl, ⟨b8 (t ^^^ l[k].setWidth 32), k + 1, (off + k), 0, 0, _, _, _, _, _, _, _, _, _, _, _, _, _, _, _, _, rfl, rfl, by omega, by omega, Lib.hid (fun h => absurd h (by omega)), HN⟩, ?_⟩
        first
          | (simp [slen]; done)
          | (simp [slen]; omega)
      · have hc3 : 1 < c := by omega
        go_wp2_with fail
        refine HC.out.mono ?_
        rintro e w' ⟨rfl, rfl⟩
        go_wp2_with fail
        go_step3
        refine ⟨rfl, ⟨b8 (t ^^^ l[k].setWidth 32), k + 1, (off + k) + 1, m - 1, c - 1, _, _, _, _, _, _, _, _, _, _, _, _, _, _, _, _, rfl, rfl, by omega, by omega, Lib.hid (fun _ => by omega), HN⟩, ?_⟩
        first
          | (simp [slen]; done)
          | (simp [slen]; omega)
theorem moreP_any (s : BitVec 32) (v : Value) (l : By) (w : World) (hv : Bys w v l) (hl : l.length ≤ 4398046511104) :
    Calls Try.prog 11 #[.int .u32 (s.toNat : Int), v] w fun e w' => e = .returned (.int .u32 ((more s l).toNat : Int)) ∧ w = w' := by
  rcases hv.form with ⟨rfl, a, cap, rfl⟩ | ⟨b, off, cap, rfl, hc, hat⟩
  · have hsg : IntKind.u32.signed = false := rfl
    have HM0 := Lib.hid (not_max s)
    have HM1 := Lib.hid (not_max (~~~s))
    have hr : more s [] = ~~~(~~~s) := rfl
    rw [hr]
    obtain ⟨q, hq⟩ : ∃ q, ~~~s = q := ⟨_, rfl⟩
    rw [hq] at HM0 HM1 ⊢
    obtain ⟨r, hr⟩ : ∃ r, ~~~q = r := ⟨_, rfl⟩
    rw [hr] at HM1 ⊢
    clear hq hr hv hl
    go_enter Try.func11, Try.ntmps11
    go_wp2_with fail
    go_step3
    go_wp2_with fail
    go_step3
    go_wp2_with fail
    rw [HM0.out, HM1.out]
    rw [Exit.noGoto_ret]
    go_ret
    exact ⟨rfl, rfl⟩
  · exact moreP_cells s b off cap l w hat hc hl
set_option maxHeartbeats 1000000 in
theorem sumP_any (v : Value) (l : By) (w : World) (hv : Bys w v l) (hl : l.length ≤ 4398046511104) :
    Calls Try.prog 13 #[v] w fun e w' => e = .returned (.int .u32 ((more 0 l).toNat : Int)) ∧ w = w' := by
  have HC := Lib.hid (moreP_any 0 v l w hv hl)
  rw [show (((0 : BitVec 32).toNat : Nat) : Int) = 0 from rfl] at HC
  obtain ⟨_, a, c, rfl, -⟩ := id hv
  clear hv hl
  generalize more 0 l = r at HC ⊢
  go_enter Try.func13, Try.ntmps13
  go_wp2_with fail
  refine HC.out.mono ?_
  rintro e w' ⟨rfl, rfl⟩
  go_wp2_with fail
  go_ret
  exact ⟨rfl, rfl⟩
end Go.Proofs.Ytgdhgicofobebaa.Cr
