/- SortOne from the contracts. -/
import Derived.Test.YtcgbbhnhpkkomaaSon
namespace Go.Proofs.Ytcgbbhnhpkkomaa.So
open Go Go.RowKit Go.Proofs.Ytcgbbhnhpkkomaa.Rw
set_option maxRecDepth 20000

theorem onB_of (l : List Nd) (z : Nat) (h : of l = z) (p : Bool) : onB l p = if p then z == 2 || z == 4 else z == 1 || z == 3 := by
  unfold onB
  rw [h]
set_option maxHeartbeats 8000000 in
theorem one_law (C : Con) (v : Value) (l : List Nd) (w : World) (hv : Nds w v l) (hm : Nms l) :
    Calls Try.prog 5 #[v] w fun e w' => e = .returned (.bool true) ∧ Below w.heap.size w w' := by
  have I := Lib.hid (Kp.start hv)
  have HM := Lib.hid hm
  obtain ⟨_, a, cap, rfl, -⟩ := hv
  clear hm
  go_enter Try.func5, Try.ntmps5
  go_wp2_with fail
  refine (few_any _ l _ I.out.nds).mono ?_
  cases hf : fewB l with
  | false =>
    rintro e w' ⟨rfl, rfl⟩
    go_wp2_with fail
    refine (alive_any C _).mono ?_
    rintro e wn ⟨rfl, hb⟩
    go_wp2_with fail
    go_ret
    exact ⟨rfl, hb⟩
  | true =>
    have hl := few_len hf
    clear hf
    rintro e w' ⟨rfl, rfl⟩
    have hz := of_cases l
    have hon := on_of l
    obtain ⟨z, hzz⟩ : ∃ z, of l = z := ⟨_, rfl⟩
    have HP := Lib.hid (onB_of l z hzz false)
    have HQ := Lib.hid (onB_of l z hzz true)
    have HZ := Lib.hid hzz
    rw [hzz] at hz hon
    obtain ⟨n, hn⟩ : ∃ n, on l = n := ⟨_, rfl⟩
    rw [hn] at hon
    have HC : Hid (cnt l [11, 12, 13, 14] = n) := hn
    have HNI := Lib.hid (fun (v : World) => ints_new v [11, 12, 13, 14] 3)
    have HB1 := Lib.hid (fun (v : World) => (Below.refl v.heap.size v).alloc (Nat.le_refl _) (.cells #[.int .i64 11, .int .i64 12, .int .i64 13, .int .i64 14] 3))
    clear hzz hn
    rcases hz with rfl | rfl | rfl | rfl | rfl
    · clear hon
      have HP' : Hid (onB l false = false) := HP.out
      have HQ' : Hid (onB l true = false) := HQ.out
      clear HP HQ
      go_wp2_with fail
      refine (C.cCount _ _ l [11, 12, 13, 14] _ (I.out.nds.below (HB1.out _)) (HNI.out _) (by omega) (by simp)).mono ?_
      rw [HC.out]
      rintro e wn ⟨rfl, hb⟩
      replace I := Lib.hid ((I.out.below (HB1.out _)).below hb)
      clear hb
      go_wp2_with fail
      refine (C.cOf _ l _ I.out.nds (by omega) HM.out).mono ?_
      rw [HZ.out]
      rintro e wn ⟨rfl, hb⟩
      replace I := Lib.hid (I.out.below hb)
      clear hb
      go_wp2_with fail
      refine (alive_any C _).mono ?_
      rintro e wn ⟨rfl, hb⟩
      replace I := Lib.hid (I.out.below hb)
      clear hb
      go_wp2_with fail
      refine (C.cOn _ l false _ I.out.nds (by omega) HM.out).mono ?_
      rw [HP'.out]
      rintro e wn ⟨rfl, hb⟩
      replace I := Lib.hid (I.out.below hb)
      clear hb
      go_wp2_with fail
      refine (C.cOn _ l false _ I.out.nds (by omega) HM.out).mono ?_
      rw [HP'.out]
      rintro e wn ⟨rfl, hb⟩
      replace I := Lib.hid (I.out.below hb)
      clear hb
      go_wp2_with fail
      refine (C.cOn _ l true _ I.out.nds (by omega) HM.out).mono ?_
      rw [HQ'.out]
      rintro e wn ⟨rfl, hb⟩
      replace I := Lib.hid (I.out.below hb)
      clear hb
      go_wp2_with fail
      go_ret
      exact ⟨rfl, I.out.bel⟩
    · obtain rfl : n = 0 := hon.1 (by simp)
      clear hon
      have HP' : Hid (onB l false = true) := HP.out
      have HQ' : Hid (onB l true = false) := HQ.out
      clear HP HQ
      go_wp2_with fail
      refine (C.cCount _ _ l [11, 12, 13, 14] _ (I.out.nds.below (HB1.out _)) (HNI.out _) (by omega) (by simp)).mono ?_
      rw [HC.out]
      rintro e wn ⟨rfl, hb⟩
      replace I := Lib.hid ((I.out.below (HB1.out _)).below hb)
      clear hb
      go_wp2_with fail
      refine (C.cOf _ l _ I.out.nds (by omega) HM.out).mono ?_
      rw [HZ.out]
      rintro e wn ⟨rfl, hb⟩
      replace I := Lib.hid (I.out.below hb)
      clear hb
      go_wp2_with fail
      refine (alive_any C _).mono ?_
      rintro e wn ⟨rfl, hb⟩
      replace I := Lib.hid (I.out.below hb)
      clear hb
      go_wp2_with fail
      refine (C.cOn _ l false _ I.out.nds (by omega) HM.out).mono ?_
      rw [HP'.out]
      rintro e wn ⟨rfl, hb⟩
      replace I := Lib.hid (I.out.below hb)
      clear hb
      go_wp2_with fail
      refine (C.cOn _ l true _ I.out.nds (by omega) HM.out).mono ?_
      rw [HQ'.out]
      rintro e wn ⟨rfl, hb⟩
      replace I := Lib.hid (I.out.below hb)
      clear hb
      go_wp2_with fail
      refine (C.cOn _ l false _ I.out.nds (by omega) HM.out).mono ?_
      rw [HP'.out]
      rintro e wn ⟨rfl, hb⟩
      replace I := Lib.hid (I.out.below hb)
      clear hb
      go_wp2_with fail
      go_ret
      exact ⟨rfl, I.out.bel⟩
    · obtain rfl : n = 0 := hon.1 (by simp)
      clear hon
      have HP' : Hid (onB l false = false) := HP.out
      have HQ' : Hid (onB l true = true) := HQ.out
      clear HP HQ
      go_wp2_with fail
      refine (C.cCount _ _ l [11, 12, 13, 14] _ (I.out.nds.below (HB1.out _)) (HNI.out _) (by omega) (by simp)).mono ?_
      rw [HC.out]
      rintro e wn ⟨rfl, hb⟩
      replace I := Lib.hid ((I.out.below (HB1.out _)).below hb)
      clear hb
      go_wp2_with fail
      refine (C.cOf _ l _ I.out.nds (by omega) HM.out).mono ?_
      rw [HZ.out]
      rintro e wn ⟨rfl, hb⟩
      replace I := Lib.hid (I.out.below hb)
      clear hb
      go_wp2_with fail
      refine (alive_any C _).mono ?_
      rintro e wn ⟨rfl, hb⟩
      replace I := Lib.hid (I.out.below hb)
      clear hb
      go_wp2_with fail
      refine (C.cOn _ l false _ I.out.nds (by omega) HM.out).mono ?_
      rw [HP'.out]
      rintro e wn ⟨rfl, hb⟩
      replace I := Lib.hid (I.out.below hb)
      clear hb
      go_wp2_with fail
      refine (C.cOn _ l false _ I.out.nds (by omega) HM.out).mono ?_
      rw [HP'.out]
      rintro e wn ⟨rfl, hb⟩
      replace I := Lib.hid (I.out.below hb)
      clear hb
      go_wp2_with fail
      refine (C.cOn _ l true _ I.out.nds (by omega) HM.out).mono ?_
      rw [HQ'.out]
      rintro e wn ⟨rfl, hb⟩
      replace I := Lib.hid (I.out.below hb)
      clear hb
      go_wp2_with fail
      go_ret
      exact ⟨rfl, I.out.bel⟩
    · have hpos : 0 < n := hon.2 (by simp)
      clear hon
      have HP' : Hid (onB l false = true) := HP.out
      have HQ' : Hid (onB l true = false) := HQ.out
      clear HP HQ
      go_wp2_with fail
      refine (C.cCount _ _ l [11, 12, 13, 14] _ (I.out.nds.below (HB1.out _)) (HNI.out _) (by omega) (by simp)).mono ?_
      rw [HC.out]
      rintro e wn ⟨rfl, hb⟩
      replace I := Lib.hid ((I.out.below (HB1.out _)).below hb)
      clear hb
      go_wp2_with fail
      refine (C.cOf _ l _ I.out.nds (by omega) HM.out).mono ?_
      rw [HZ.out]
      rintro e wn ⟨rfl, hb⟩
      replace I := Lib.hid (I.out.below hb)
      clear hb
      go_wp2_with fail
      refine (alive_any C _).mono ?_
      rintro e wn ⟨rfl, hb⟩
      replace I := Lib.hid (I.out.below hb)
      clear hb
      go_wp2_with fail
      refine (C.cOn _ l false _ I.out.nds (by omega) HM.out).mono ?_
      rw [HP'.out]
      rintro e wn ⟨rfl, hb⟩
      replace I := Lib.hid (I.out.below hb)
      clear hb
      go_wp2_with fail
      refine (C.cOn _ l true _ I.out.nds (by omega) HM.out).mono ?_
      rw [HQ'.out]
      rintro e wn ⟨rfl, hb⟩
      replace I := Lib.hid (I.out.below hb)
      clear hb
      go_wp2_with fail
      refine (C.cOn _ l false _ I.out.nds (by omega) HM.out).mono ?_
      rw [HP'.out]
      rintro e wn ⟨rfl, hb⟩
      replace I := Lib.hid (I.out.below hb)
      clear hb
      go_wp2_with fail
      go_ret
      exact ⟨rfl, I.out.bel⟩
    · have hpos : 0 < n := hon.2 (by simp)
      clear hon
      have HP' : Hid (onB l false = false) := HP.out
      have HQ' : Hid (onB l true = true) := HQ.out
      clear HP HQ
      go_wp2_with fail
      refine (C.cCount _ _ l [11, 12, 13, 14] _ (I.out.nds.below (HB1.out _)) (HNI.out _) (by omega) (by simp)).mono ?_
      rw [HC.out]
      rintro e wn ⟨rfl, hb⟩
      replace I := Lib.hid ((I.out.below (HB1.out _)).below hb)
      clear hb
      go_wp2_with fail
      refine (C.cOf _ l _ I.out.nds (by omega) HM.out).mono ?_
      rw [HZ.out]
      rintro e wn ⟨rfl, hb⟩
      replace I := Lib.hid (I.out.below hb)
      clear hb
      go_wp2_with fail
      refine (alive_any C _).mono ?_
      rintro e wn ⟨rfl, hb⟩
      replace I := Lib.hid (I.out.below hb)
      clear hb
      go_wp2_with fail
      refine (C.cOn _ l false _ I.out.nds (by omega) HM.out).mono ?_
      rw [HP'.out]
      rintro e wn ⟨rfl, hb⟩
      replace I := Lib.hid (I.out.below hb)
      clear hb
      go_wp2_with fail
      refine (C.cOn _ l false _ I.out.nds (by omega) HM.out).mono ?_
      rw [HP'.out]
      rintro e wn ⟨rfl, hb⟩
      replace I := Lib.hid (I.out.below hb)
      clear hb
      go_wp2_with fail
      refine (C.cOn _ l true _ I.out.nds (by omega) HM.out).mono ?_
      rw [HQ'.out]
      rintro e wn ⟨rfl, hb⟩
      replace I := Lib.hid (I.out.below hb)
      clear hb
      go_wp2_with fail
      go_ret
      exact ⟨rfl, I.out.bel⟩
end Go.Proofs.Ytcgbbhnhpkkomaa.So
