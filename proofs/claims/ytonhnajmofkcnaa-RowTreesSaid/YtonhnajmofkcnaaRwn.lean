/- RowCounts from the contracts: of all kinds there are as many as nodes. -/
import Derived.Test.YtonhnajmofkcnaaRwd
namespace Go.Proofs.Ytonhnajmofkcnaa.Rw
open Go Go.RowKit
set_option maxRecDepth 20000

def lowK (l : List Nd) (k : Int) : Nat := l.countP fun x => decide (1 ≤ x.k ∧ x.k < k)
def oddK (l : List Nd) : Nat := l.countP fun x => decide (x.k < 1 ∨ 14 < x.k)
theorem lowK_one : ∀ l : List Nd, lowK l 1 = 0
  | [] => rfl
  | x :: l => by
    have := lowK_one l
    unfold lowK at this ⊢
    rw [List.countP_cons, this, decide_eq_false (by omega)]
    rfl
theorem lowK_next {k : Int} (hk : 1 ≤ k) : ∀ l : List Nd, lowK l (k + 1) = lowK l k + cnt l [k]
  | [] => rfl
  | x :: l => by
    have := lowK_next hk l
    unfold lowK cnt at this ⊢
    rw [List.countP_cons, List.countP_cons, List.countP_cons, this]
    by_cases h1 : x.k = k
    · rw [decide_eq_true (show 1 ≤ x.k ∧ x.k < k + 1 by omega), decide_eq_false (show ¬ (1 ≤ x.k ∧ x.k < k) by omega), decide_eq_true (show x.k ∈ [k] by simp [h1])]
      simp
      omega
    · by_cases h2 : 1 ≤ x.k ∧ x.k < k
      · rw [decide_eq_true (show 1 ≤ x.k ∧ x.k < k + 1 by omega), decide_eq_true h2, decide_eq_false (show ¬ x.k ∈ [k] by simp [h1])]
        simp
        omega
      · rw [decide_eq_false (show ¬ (1 ≤ x.k ∧ x.k < k + 1) by omega), decide_eq_false h2, decide_eq_false (show ¬ x.k ∈ [k] by simp [h1])]
        simp
theorem all_kinds : ∀ l : List Nd, lowK l 15 + oddK l = l.length
  | [] => rfl
  | x :: l => by
    have := all_kinds l
    unfold lowK oddK at this ⊢
    rw [List.countP_cons, List.countP_cons, List.length_cons]
    by_cases h : 1 ≤ x.k ∧ x.k < 15
    · rw [decide_eq_true h, decide_eq_false (show ¬ (x.k < 1 ∨ 14 < x.k) by omega)]
      simp only [if_true, Bool.false_eq_true, if_false]
      omega
    · rw [decide_eq_false h, decide_eq_true (show x.k < 1 ∨ 14 < x.k by omega)]
      simp only [if_true, Bool.false_eq_true, if_false]
      omega
theorem lowK_le (l : List Nd) (k : Int) : lowK l k ≤ l.length := List.countP_le_length
theorem oddK_le (l : List Nd) : oddK l ≤ l.length := List.countP_le_length
theorem odd_yes (l : List Nd) (k : Nat) (h : k < l.length) (hm : l[k].k < 1 ∨ 14 < l[k].k) : oddK (l.take (k + 1)) = oddK (l.take k) + 1 := by
  unfold oddK
  rw [List.take_succ_eq_append_getElem h, List.countP_append]
  simp [hm]
theorem odd_no (l : List Nd) (k : Nat) (h : k < l.length) (hm : ¬ (l[k].k < 1 ∨ 14 < l[k].k)) : oddK (l.take (k + 1)) = oddK (l.take k) := by
  unfold oddK
  rw [List.take_succ_eq_append_getElem h, List.countP_append]
  simp only [List.countP_cons, List.countP_nil, decide_eq_false hm]
  rfl
/-- Two rows of nodes and some kinds, below which all is as it was. -/
structure Kc (w0 : World) (v u y : Value) (l m : List Nd) (ks : List Int) (w : World) : Prop where
  bel : Below w0.heap.size w0 w
  l : Nds w v l
  m : Nds w u m
  ks : Ints w y ks
theorem Kc.below {w0 w w' : World} {v u y : Value} {l m : List Nd} {ks : List Int} (h : Kc w0 v u y l m ks w) (hb : Below w.heap.size w w') : Kc w0 v u y l m ks w' :=
  ⟨h.bel.trans (hb.mono h.bel.size), h.l.below hb, h.m.below hb, h.ks.below hb⟩
theorem sameN_self (l : List Nd) : sameN l l = true := decide_eq_true rfl

set_option maxHeartbeats 8000000 in
theorem counts_law (C : Con) (v u y : Value) (l m : List Nd) (ks : List Int) (w : World) (hv : Nds w v l) (hu : Nds w u m) (hy : Ints w y ks) :
    Calls Try.prog 7 #[v, u, y] w fun e w' => e = .returned (.bool true) ∧ Below w.heap.size w w' := by
  have I : Hid (Kc w v u y l m ks w) := ⟨Below.refl _ _, hv, hu, hy⟩
  obtain ⟨_, a, cap, rfl, -⟩ := hv
  obtain ⟨_, a1, cap1, rfl, -⟩ := hu
  obtain ⟨_, a2, cap2, rfl, -⟩ := hy
  by_cases hf : l.length ≤ 250 ∧ m.length ≤ 250 ∧ ks.length ≤ 50
  case neg =>
    go_enter Try.func7, Try.ntmps7
    go_wp2_with fail
    refine (few_any _ l _ I.out.l).mono ?_
    rintro e w' ⟨rfl, rfl⟩
    by_cases h1 : l.length ≤ 250
    · rw [decide_eq_true h1]
      go_wp2_with fail
      refine (few_any _ m _ I.out.m).mono ?_
      rintro e w' ⟨rfl, rfl⟩
      by_cases h2 : m.length ≤ 250
      · rw [decide_eq_true h2]
        have h3 : 50 < ks.length := by omega
        go_wp2_with fail
        refine (alive_any C _).mono ?_
        rintro e wn ⟨rfl, hb⟩
        go_wp2_with fail
        go_ret
        exact ⟨rfl, hb⟩
      · rw [decide_eq_false h2]
        go_wp2_with fail
        refine (alive_any C _).mono ?_
        rintro e wn ⟨rfl, hb⟩
        go_wp2_with fail
        go_ret
        exact ⟨rfl, hb⟩
    · rw [decide_eq_false h1]
      go_wp2_with fail
      refine (alive_any C _).mono ?_
      rintro e wn ⟨rfl, hb⟩
      go_wp2_with fail
      go_ret
      exact ⟨rfl, hb⟩
  obtain ⟨h1, h2, h3⟩ := hf
  go_enter Try.func7, Try.ntmps7
  go_wp2_with fail
  refine (few_any _ l _ I.out.l).mono ?_
  rintro e w' ⟨rfl, rfl⟩
  rw [decide_eq_true h1]
  go_wp2_with fail
  refine (few_any _ m _ I.out.m).mono ?_
  rintro e w' ⟨rfl, rfl⟩
  rw [decide_eq_true h2]
  go_wp2_with fail
  have HNI := Lib.hid (fun (v : World) (k : Int) => ints_new v [k] 3)
  have HB1 := Lib.hid (fun (v : World) (k : Int) => below1 v (.cells #[.int .i64 k] 3))
  go_loopw [7, 8] (fun n i wr => ∃ (k : Int) (M : Nat), 1 ≤ k ∧ k ≤ 15 ∧ M ≤ 250 ∧ i = .int .i64 k ∧ n = .int .i64 M ∧ Hid (lowK l k = M) ∧ Hid (Kc w (.slice a l.length cap) (.slice a1 m.length cap1) (.slice a2 ks.length cap2) l m ks wr)) (fun _ i _ => (15 - intOf i).toNat)
  case atStart => exact ⟨1, 0, by omega, by omega, by omega, rfl, rfl, Lib.hid (lowK_one l), I⟩
  case round =>
    clear I
    obtain ⟨k, M, hk1, hk2, hM, rfl, rfl, HK, I⟩ := hrel
    by_cases hlt : k ≤ 14
    · have hn := lowK_next hk1 l
      have hle := lowK_le l (k + 1)
      rw [HK.out] at hn
      obtain ⟨c, hc⟩ : ∃ c, cnt l [k] = c := ⟨_, rfl⟩
      rw [hc] at hn
      rw [hn] at hle
      have HC := Lib.hid hc
      have HN := Lib.hid hn
      clear hc hn
      go_wp2_with fail
      refine (C.cCount _ _ l [k] _ (I.out.l.below (HB1.out _ k)) (HNI.out _ k) (by omega) (by simp)).mono ?_
      rw [HC.out]
      rintro e wn ⟨rfl, hb⟩
      replace I := Lib.hid ((I.out.below (HB1.out _ k)).below hb)
      clear hb
      go_wp2_with fail
      go_roundw
      case rel => exact ⟨k + 1, M + c, by omega, by omega, by omega, by go_num, by go_num, HN, I⟩
      case measure => simp [intOf]; omega
    · obtain rfl : k = 15 := by omega
      have HZ := Lib.hid (all_kinds l)
      go_wp2_with fail
      obtain ⟨wo, hwo⟩ : ∃ wo : World, wo = wr := ⟨_, rfl⟩
      subst hwo
      go_loopw [9, 11, 38] (fun n _ i wr => ∃ (j O : Nat), j ≤ l.length ∧ O ≤ j ∧ i = .int .i64 j ∧ n = .int .i64 O ∧ Hid (oddK (l.take j) = O) ∧ Hid (Kc w (.slice a l.length cap) (.slice a1 m.length cap1) (.slice a2 ks.length cap2) l m ks wr)) (fun _ _ i _ => l.length - (intOf i).toNat)
      case atStart => exact ⟨0, 0, Nat.zero_le _, Nat.le_refl _, rfl, rfl, Lib.hid rfl, I⟩
      case round =>
        clear I
        obtain ⟨j, O, hj, hO, rfl, rfl, HO, I⟩ := hrel
        by_cases hlt2 : j < l.length
        · have HY := Lib.hid (odd_yes l j hlt2)
          have HN := Lib.hid (odd_no l j hlt2)
          rcases I.out.l.form with ⟨hl0, _⟩ | ⟨b, o, c, he, hcap, hat⟩
          · rw [hl0] at hlt2
            exact absurd hlt2 (Nat.not_lt_zero j)
          · obtain ⟨e1, e2, e3⟩ := hat j hlt2
            have hea : a = some ⟨b, o, none⟩ := by injection he
            obtain ⟨x, hx⟩ : ∃ x, l[j] = x := ⟨_, rfl⟩
            rw [hx] at e1 e2 e3 HY HN
            have HBN := Lib.hid (fun v => below1 v (nb x))
            clear hat he hx hcap
            by_cases q1 : x.k < 1
            · have HF := Lib.hid (HY.out (Or.inl q1))
              go_wp2_with fail
              go_roundw
              case rel => exact ⟨j + 1, O + 1, by omega, by omega, by go_num, by go_num, Lib.hid (by rw [HF.out, HO.out]), Lib.hid (I.out.below (HBN.out wr))⟩
              case measure => simp [intOf]; omega
            · by_cases q2 : 14 < x.k
              · have HF := Lib.hid (HY.out (Or.inr q2))
                go_wp2_with fail
                go_roundw
                case rel => exact ⟨j + 1, O + 1, by omega, by omega, by go_num, by go_num, Lib.hid (by rw [HF.out, HO.out]), Lib.hid (I.out.below (HBN.out wr))⟩
                case measure => simp [intOf]; omega
              · have HF := Lib.hid (HN.out (by omega))
                go_wp2_with fail
                go_roundw
                case rel => exact ⟨j + 1, O, by omega, by omega, by go_num, rfl, Lib.hid (by rw [HF.out, HO.out]), Lib.hid (I.out.below (HBN.out wr))⟩
                case measure => simp [intOf]; omega
        · have hje : j = l.length := by omega
          have hO' := HO.out
          rw [hje, List.take_length] at hO'
          have hz := HZ.out
          rw [HK.out, hO'] at hz
          clear hO' hje
          obtain ⟨q, hq⟩ : ∃ q, cnt l ks = q := ⟨_, rfl⟩
          obtain ⟨sm, hsm⟩ : ∃ sm, sameN l m = sm := ⟨_, rfl⟩
          have HQ := Lib.hid hq
          have HSM := Lib.hid hsm
          have hs1 : ((M : Int) + (O : Int) == (l.length : Int)) = true := by rw [beq_iff_eq]; omega
          have HZZ := Lib.hid hz
          clear hq hsm hz
          go_wp2_with fail
          refine (alive_any C _).mono ?_
          rintro e wn ⟨rfl, hb⟩
          replace I := Lib.hid (I.out.below hb)
          clear hb
          go_wp2_with fail
          refine (C.cCount _ _ l ks _ I.out.l I.out.ks (by omega) (by omega)).mono ?_
          rw [HQ.out]
          rintro e wn ⟨rfl, hb⟩
          replace I := Lib.hid (I.out.below hb)
          clear hb
          go_wp2_with fail
          refine (cntR_any _ _ l ks _ I.out.l I.out.ks (by omega) (by omega)).mono ?_
          rw [HQ.out]
          rintro e wn ⟨rfl, hb⟩
          replace I := Lib.hid (I.out.below hb)
          clear hb
          go_wp2_with fail
          refine (C.cSame _ _ l m _ I.out.l I.out.m (by omega) (by omega)).mono ?_
          rw [HSM.out]
          rintro e wn ⟨rfl, hb⟩
          replace I := Lib.hid (I.out.below hb)
          clear hb
          go_wp2_with fail
          refine (sameR_any _ _ l m _ I.out.l I.out.m (by omega)).mono ?_
          rw [HSM.out]
          rintro e wn ⟨rfl, hb⟩
          replace I := Lib.hid (I.out.below hb)
          clear hb
          go_wp2_with fail
          refine (C.cSame _ _ l l _ I.out.l I.out.l (by omega) (by omega)).mono ?_
          rw [sameN_self]
          rintro e wn ⟨rfl, hb⟩
          replace I := Lib.hid (I.out.below hb)
          clear hb
          go_wp2_with fail
          go_ret
          exact ⟨ret_bool (by simp), I.out.bel⟩
end Go.Proofs.Ytonhnajmofkcnaa.Rw
