/- The laws of traces, walked from the contracts: TraceMix. -/
import Derived.Test.YtmhmfnjjdcdkcaaDoorTrg
namespace Go.Proofs.YtmhmfnjjdcdkcaaDoor.Tr
open Go Go.RowKit
set_option maxRecDepth 20000

set_option maxHeartbeats 4000000 in
theorem mix_law (C : Con) (x y : Value) (a b : List ByteArray) (w : World) (h : Sg.Tab w) (hx : Strs w x a) (hy : Strs w y b) (hl1 : a.length ≤ 1125899906842624) (hl2 : b.length ≤ 1125899906842624) :
    Calls Tryd.prog 6 #[x, y] w fun e w' => e = .returned (.bool true) ∧ Below w.heap.size w w' := by
  have HX := Lib.hid hx
  have HY := Lib.hid hy
  obtain ⟨_, a1, c1, rfl, -⟩ := hx
  obtain ⟨_, a2, c2, rfl, -⟩ := hy
  by_cases hlt : 9 < a.length + b.length
  · have g : decide (9 < a.length + b.length) = true := by simpa using hlt
    go_enter Tryd.func6, Tryd.ntmps6
    go_wp2_with fail
    refine (alive_any C _ h).mono ?_
    rintro e w2 ⟨rfl, hb2⟩
    have B2 := Lib.hid hb2
    clear hb2
    go_wp2_with fail
    go_ret
    exact ⟨rfl, B2.out⟩
  · have g : decide (9 < a.length + b.length) = false := by simpa using hlt
    have hlen : a.length + b.length ≤ 9 := by omega
    have MC := Lib.hid (mix_comm a b (by omega))
    have HR : Hid (∀ r ∈ mix a b, r.length = a.length + b.length ∧ sub a r = true ∧ sub b r = true) := fun r hr => ⟨mix_row hr, (sub_mix (by omega) hr).1, (sub_mix (by omega) hr).2⟩
    have hln := mix_len a b
    have hsame : rowsB (mix a b) (mix a b) = true := (rowsB_iff _ _).2 rfl
    obtain ⟨rs, hrs⟩ : ∃ rs, mix a b = rs := ⟨_, rfl⟩
    rw [hrs] at hln hsame HR MC
    have HRS := Lib.hid hrs
    clear hrs
    have RB : Hid (∀ r ∈ rs, r.length ≤ 1000000) := fun r hr => by rw [(HR.out r hr).1]; omega
    go_enter Tryd.func6, Tryd.ntmps6
    go_wp2_with fail
    refine (C.cMix _ _ a b _ h HX.out HY.out hlen).mono ?_
    rw [HRS.out]
    rintro e w1 ⟨v1, rfl, hr1, hb1⟩
    have R1 := Lib.hid hr1
    have B1 := Lib.hid hb1
    clear hr1 hb1
    go_wp2_with fail
    refine (mix_any _ _ a b _ (HX.out.below B1.out) (HY.out.below B1.out) (by omega)).mono ?_
    rw [HRS.out]
    rintro e w2 ⟨v2, rfl, hr2, hb2⟩
    have R2 := Lib.hid hr2
    have R12 := Lib.hid (R1.out.below hb2)
    have B2 := Lib.hid (B1.out.trans (hb2.mono B1.out.size))
    clear hr2 hb2 R1
    go_wp2_with fail
    refine (rows_any _ _ rs rs _ R12.out R2.out (by omega) RB.out RB.out).mono ?_
    rw [hsame]
    rintro e w3 ⟨rfl, hb3⟩
    have R13 := Lib.hid (R12.out.below hb3)
    have B3 := Lib.hid (B2.out.trans (hb3.mono B2.out.size))
    clear hb3 R12 R2
    go_wp2_with fail
    refine (C.cMix _ _ b a _ (Tab.below h B3.out) (HY.out.below B3.out) (HX.out.below B3.out) (by omega)).mono ?_
    rw [← MC.out]
    rintro e w4 ⟨v4, rfl, hr4, hb4⟩
    have R4 := Lib.hid hr4
    have R14 := Lib.hid (R13.out.below hb4)
    have B4 := Lib.hid (B3.out.trans (hb4.mono B3.out.size))
    clear hr4 hb4 R13
    go_wp2_with fail
    refine (rows_any _ _ rs rs _ R14.out R4.out (by omega) RB.out RB.out).mono ?_
    rw [hsame]
    rintro e w5 ⟨rfl, hb5⟩
    have R15 := Lib.hid (R14.out.below hb5)
    have B5 := Lib.hid (B4.out.trans (hb5.mono B4.out.size))
    clear hb5 R14 R4
    obtain ⟨a5, d5, rfl, _, h5⟩ := R15.out.val
    have H5 := Lib.hid h5
    clear h5
    go_wp2_with fail
    go_loopw [34] (fun i wr => ∃ k : Nat, k ≤ rs.length ∧ i = .int .i64 k ∧ Below w5.heap.size w5 wr) (fun i _ => rs.length - (intOf i).toNat)
    case atStart => exact ⟨0, Nat.zero_le _, rfl, Below.refl _ _⟩
    case round =>
      obtain ⟨k, hk, rfl, hb⟩ := hrel
      have HB := Lib.hid hb
      clear hb
      by_cases hlt : k < rs.length
      · obtain ⟨b1, o1, x1, rfl, e1, hs1⟩ := H5.out k hlt
        have f1 : wr.cell? ⟨b1, o1 + k, none⟩ = some x1 := by rw [HB.out.cell (Ap.cell_lt e1)]; exact e1
        have S1 := Lib.hid (hs1.below HB.out)
        obtain ⟨q1, q2, q3⟩ := HR.out _ (List.getElem_mem hlt)
        generalize rs[k] = r at *
        have Q1 := Lib.hid q1
        obtain ⟨_, av, cv, rfl, -⟩ := hs1
        clear e1
        have hq : ((r.length : Int) != ((a.length : Int) + (b.length : Int))) = false := by rw [bne, Bool.not_eq_false', beq_iff_eq]; omega
        clear q1
        go_wp2_with fail
        refine (within_any _ _ a r _ ((HX.out.below B5.out).below HB.out) S1.out (by omega) (by have := Q1.out; omega)).mono ?_
        rw [q2]
        rintro e w6 ⟨rfl, hb6⟩
        have B6 := Lib.hid (HB.out.trans (hb6.mono HB.out.size))
        have S6 := Lib.hid (S1.out.below hb6)
        clear hb6
        go_wp2_with fail
        refine (within_any _ _ b r _ ((HY.out.below B5.out).below B6.out) S6.out (by omega) (by have := Q1.out; omega)).mono ?_
        rw [q3]
        rintro e w7 ⟨rfl, hb7⟩
        have B7 := Lib.hid (B6.out.trans (hb7.mono B6.out.size))
        clear hb7
        go_wp2_with fail
        go_roundw
        case rel => exact ⟨k + 1, by omega, by go_num, B7.out⟩
        case measure => simp [intOf]; omega
      · go_wp2_with fail
        refine (alive_any C _ (Tab.below h (B5.out.trans (HB.out.mono B5.out.size)))).mono ?_
        rintro e w8 ⟨rfl, hb8⟩
        have B8 := Lib.hid ((B5.out.trans (HB.out.mono B5.out.size)).trans (hb8.mono (Nat.le_trans B5.out.size HB.out.size)))
        clear hb8
        go_wp2_with fail
        go_ret
        exact ⟨rfl, B8.out⟩
end Go.Proofs.YtmhmfnjjdcdkcaaDoor.Tr
