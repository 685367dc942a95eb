/- RefuseSorts. -/
import Derived.Test.YtpkbpooiaddcaaaRfp
namespace Go.Proofs.Ytpkbpooiaddcaaa.Rf
open Go Go.RowKit Go.Proofs.Ytpkbpooiaddcaaa.Rw
set_option maxRecDepth 20000

set_option maxHeartbeats 4000000 in
theorem sorts_law (v vn : Value) (l : List Nd) (names : List ByteArray) (w : World) (hv : Nds w v l) (hm : Nms l) (hn : Strs w vn names) (hns : ∀ s ∈ names, s.size ≤ maxLen) :
    Calls Try.prog 6 #[v, vn] w fun e w' => e = .returned (.bool true) ∧ Below w.heap.size w w' := by
  have I := Lib.hid (Kn.start hv hn)
  have HM := Lib.hid hm
  have HNS := Lib.hid hns
  obtain ⟨_, a, cap, rfl, -⟩ := hv
  obtain ⟨_, na, nc, rfl, -⟩ := hn
  clear hm hns
  go_enter Try.func6, Try.ntmps6
  go_wp2_with fail
  refine (few_any _ l _ I.out.nds).mono ?_
  cases hf : fewB l with
  | false =>
    rintro e w' ⟨rfl, rfl⟩
    go_wp2_with fail
    refine (alive_any _).mono ?_
    rintro e wn ⟨rfl, hb⟩
    go_wp2_with fail
    go_ret
    exact ⟨rfl, hb⟩
  | true =>
    have hl := few_len hf
    clear hf
    rintro e w' ⟨rfl, rfl⟩
    by_cases hnl : names.length ≤ 50
    · have hg : decide ((50 : Int) < (names.length : Int)) = false := by simp; omega
      go_wp2_with fail
      refine (rewP_any _ _ l names _ I.out.nds (by omega) HM.out I.out.strs (by omega) HNS.out).mono ?_
      rintro e w1 ⟨y1, rfl, hy1, hb⟩
      replace I := Lib.hid (I.out.below hb)
      have HY := Lib.hid hy1
      obtain ⟨_, ya, yc, rfl, -⟩ := hy1
      clear hb
      have hs3 := sub_len_le (f := inN names) hl
      have HSM := Lib.hid (sub_nms (f := inN names) HM.out)
      have HOF := Lib.hid (fun h => of_sub (inN names) l h)
      have HAC := Lib.hid (sub_acts (inN names) l)
      obtain ⟨q, hq⟩ : ∃ q, sub (inN names) l = q := ⟨_, rfl⟩
      rw [hq] at HY HSM HOF HAC hs3
      rw [hq]
      clear hq
      by_cases h2 : q.length ≤ 200
      · have HO := Lib.hid (HOF.out h2)
        obtain ⟨z, hz⟩ : ∃ z, So.of l = z := ⟨_, rfl⟩
        obtain ⟨c, hc⟩ : ∃ c, cnt l [1] = c := ⟨_, rfl⟩
        have HZ := Lib.hid hz
        have HC := Lib.hid hc
        rw [hz] at HO
        rw [hc] at HAC
        clear hz hc
        have g2 : decide ((200 : Int) < (q.length : Int)) = false := by simp; omega
        go_wp2_with fail
        refine (alive_any _).mono ?_
        rintro e wn ⟨rfl, hb⟩
        replace I := Lib.hid (I.out.below hb)
        replace HY := Lib.hid (HY.out.below hb)
        clear hb
        go_wp2_with fail
        refine (Sx.ofP_any q _ _ HY.out (by omega) HSM.out).mono ?_
        rw [HO.out]
        rintro e wn ⟨rfl, hb⟩
        replace I := Lib.hid (I.out.below hb)
        replace HY := Lib.hid (HY.out.below hb)
        clear hb
        go_wp2_with fail
        refine (Sx.ofP_any l _ _ I.out.nds (by omega) HM.out).mono ?_
        rw [HZ.out]
        rintro e w5 ⟨rfl, hb⟩
        replace I := Lib.hid (I.out.below hb)
        replace HY := Lib.hid (HY.out.below hb)
        clear hb
        have HI := Lib.hid (ints_new w5 [1] 3)
        have HB := Lib.hid (below1 w5 (.cells #[.int .i64 1] 3))
        go_wp2_with fail
        refine (Rx.countP_any _ _ q [1] _ (HY.out.below HB.out) HI.out (by omega) (by decide)).mono ?_
        rw [HAC.out]
        rintro e w6 ⟨rfl, hb⟩
        replace I := Lib.hid ((I.out.below HB.out).below hb)
        clear hb HI HB HY
        have HI := Lib.hid (ints_new w6 [1] 3)
        have HB := Lib.hid (below1 w6 (.cells #[.int .i64 1] 3))
        go_wp2_with fail
        refine (Rx.countP_any _ _ l [1] _ (I.out.nds.below HB.out) HI.out (by omega) (by decide)).mono ?_
        rw [HC.out]
        rintro e w7 ⟨rfl, hb⟩
        replace I := Lib.hid ((I.out.below HB.out).below hb)
        clear hb HI HB
        go_wp2_with fail
        go_ret
        exact ⟨ret_bool (by simp), I.out.bel⟩
      · have g2 : decide ((200 : Int) < (q.length : Int)) = true := by simp; omega
        go_wp2_with fail
        refine (alive_any _).mono ?_
        rintro e wn ⟨rfl, hb⟩
        go_wp2_with fail
        go_ret
        exact ⟨rfl, (I.out.below hb).bel⟩
    · have hg : decide ((50 : Int) < (names.length : Int)) = true := by simp; omega
      go_wp2_with fail
      refine (alive_any _).mono ?_
      rintro e wn ⟨rfl, hb⟩
      go_wp2_with fail
      go_ret
      exact ⟨rfl, (I.out.below hb).bel⟩
end Go.Proofs.Ytpkbpooiaddcaaa.Rf
