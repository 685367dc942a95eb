/- TokenHead: the walk. -/
import Derived.Test.YthfcclheephokaaTk2
namespace Go.Proofs.Ythfcclheephokaa.To
open Go Go.RowKit
set_option maxRecDepth 20000

theorem ext0 (s : ByteArray) (n : Nat) : (s.extract 0 n).data.toList = s.data.toList.take n := by
  rw [ext_take]
  simp
theorem app_list (a b : ByteArray) : (a ++ b).data.toList = a.data.toList ++ b.data.toList := by simp
theorem head_cut {s : ByteArray} {a : Nat} (h : F s.data.toList 0 = .bad a 50) (hs : s.size ≤ 1000) : a < s.size ∧ (∃ ts, lexR (s.extract 0 a) = .ok ts) ∧ (s.extract 0 a).size = a ∧ ∀ more : ByteArray, a + 1 + more.size ≤ 1000 → lexR (s.extract 0 (a + 1) ++ more) = .bad a 50 := by
  obtain ⟨i, hi, hlt, ⟨ts, hts⟩, hm⟩ := F_head _ _ _ _ (Nat.le_refl _) h
  obtain rfl : a = i := by omega
  have hlt' : a < s.size := by simpa using hlt
  have hsz : (s.extract 0 a).size = a := by simp; omega
  refine ⟨hlt', ⟨ts, ?_⟩, hsz, fun more hmore => ?_⟩
  · unfold lexR
    rw [if_neg (by omega), ext0, hts]
  · have h1 : (s.extract 0 (a + 1) ++ more).size = a + 1 + more.size := by simp; omega
    unfold lexR
    rw [if_neg (by omega), app_list, ext0, hm]
set_option maxHeartbeats 1000000 in
theorem head_law (con : Con) (s more : ByteArray) (w : World) (hs : s.size ≤ 140737488355328) (hm : more.size ≤ 140737488355328) : Calls Try.prog 7 #[.string s, .string more] w fun e w' => e = .returned (.bool true) ∧ Below w.heap.size w w' := by
  have CON := Lib.hid con
  by_cases h : 900 < s.size + more.size
  · go_enter Try.func7, Try.ntmps7
    go_wp2_with fail
    refine (alive_any CON.out _).mono ?_
    rintro e w' ⟨rfl, hb⟩
    have HB := Lib.hid hb
    clear hb
    go_wp2_with fail
    go_ret
    exact ⟨rfl, HB.out⟩
  · have HS := Lib.hid hs
    have h1 : s.size + more.size ≤ 900 := by omega
    have L1 := Lib.hid (fun w' => CON.out.lex s w' HS.out)
    have hl : lexR s = F s.data.toList 0 := if_neg (by omega)
    rw [hl] at L1
    clear hs hm hl h
    cases hf : F s.data.toList 0 with
    | ok ts =>
      rw [hf, lp_ok] at L1
      go_enter Try.func7, Try.ntmps7
      go_wp2_with fail
      refine (L1.out _).mono ?_
      rintro e wa ⟨ya, rfl, -, hb⟩
      have HB := Lib.hid hb
      clear hb
      go_wp2_with fail
      refine (alive_any CON.out _).mono ?_
      rintro e w' ⟨rfl, hb⟩
      have HB2 := Lib.hid (HB.out.trans (hb.mono HB.out.size))
      clear hb
      go_wp2_with fail
      go_ret
      exact ⟨rfl, HB2.out⟩
    | bad a e0 =>
      rw [hf, lp_bad] at L1
      obtain ⟨-, hlt, he⟩ := F_bad _ _ _ _ _ (Nat.le_refl _) hf
      rcases he with rfl | rfl
      · obtain ⟨q1, ⟨ts, q2⟩, q3, q4⟩ := head_cut hf (by omega)
        have L2 := Lib.hid (fun w' => CON.out.lex (s.extract 0 (a + 1) ++ more) w' (by have := q4 more (by omega); simp; omega))
        rw [q4 more (by omega), lp_bad] at L2
        have L3 := Lib.hid (fun w' => CON.out.lex (s.extract 0 a) w' (by omega))
        rw [q2, lp_ok, q3] at L3
        clear hf hlt q2 q3 q4
        go_enter Try.func7, Try.ntmps7
        go_wp2_with fail
        refine (L1.out _).mono ?_
        rintro e wa ⟨ya, rfl, -, hb⟩
        have HB := Lib.hid hb
        clear hb
        go_wp2_with fail
        refine (L2.out _).mono ?_
        rintro e wb ⟨yb, rfl, -, hb⟩
        have HB2 := Lib.hid (HB.out.trans (hb.mono HB.out.size))
        clear hb
        go_wp2_with fail
        refine (L3.out _).mono ?_
        rintro e wc ⟨yc, rfl, -, hb⟩
        have HB3 := Lib.hid (HB2.out.trans (hb.mono HB2.out.size))
        clear hb
        go_wp2_with fail
        refine (alive_any CON.out _).mono ?_
        rintro e w' ⟨rfl, hb⟩
        have HB4 := Lib.hid (HB3.out.trans (hb.mono HB3.out.size))
        clear hb
        go_wp2_with fail
        go_ret
        exact ⟨rfl, HB4.out⟩
      · clear hf hlt
        go_enter Try.func7, Try.ntmps7
        go_wp2_with fail
        refine (L1.out _).mono ?_
        rintro e wa ⟨ya, rfl, -, hb⟩
        have HB := Lib.hid hb
        clear hb
        go_wp2_with fail
        refine (alive_any CON.out _).mono ?_
        rintro e w' ⟨rfl, hb⟩
        have HB2 := Lib.hid (HB.out.trans (hb.mono HB.out.size))
        clear hb
        go_wp2_with fail
        go_ret
        exact ⟨rfl, HB2.out⟩
end Go.Proofs.Ythfcclheephokaa.To
