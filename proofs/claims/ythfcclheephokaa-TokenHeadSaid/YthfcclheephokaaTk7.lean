/- TokenAgain: the walk. -/
import Derived.Test.YthfcclheephokaaTk6
import Derived.Test.YthfcclheephokaaTk4
namespace Go.Proofs.Ythfcclheephokaa.To
open Go Go.RowKit
set_option maxRecDepth 20000

set_option maxHeartbeats 1000000 in
theorem again_short (con : Con) (s : ByteArray) (w : World) (ts : List Tk) (h4 : s.size ≤ 400) (hl : lexR s = .ok ts) (h0 : ts ≠ []) (hp : ∀ t ∈ ts, (prt t).isSome = true) (hn : lenS ts ≤ 400) : Calls Try.prog 6 #[.string s] w fun e w' => e = .returned (.bool true) ∧ Below w.heap.size w w' := by
  have CON := Lib.hid con
  have HP := Lib.hid hp
  have hlen : ts.length ≤ 400 := Nat.le_trans (len_lenS ts hp) hn
  have L1 := Lib.hid (fun w' => CON.out.lex s w' (by omega))
  rw [hl] at L1
  clear hl hp
  go_enter Try.func6, Try.ntmps6
  go_wp2_with fail
  refine (L1.out _).mono ?_
  intro e wa hpa
  obtain ⟨b, off, cap, rfl, hc, hat, hb⟩ := hpa.ok h0
  have HA := Lib.hid hat
  have HB := Lib.hid hb
  clear hpa hat hb
  go_wp2_with fail
  go_loopw [6, 31] (fun tv iv wr => ∃ (k : Nat) (S : ByteArray), k ≤ ts.length ∧ iv = .int .i64 k ∧ tv = .string S ∧ S.size ≤ 800 ∧ Hid (S.data.toList = outL (ts.take k)) ∧ Hid (Below w.heap.size w wr)  ∧ Hid (At wr b off ts)) (fun _ i _ => ts.length - (intOf i).toNat)
  case atStart => exact ⟨0, ⟨#[]⟩, Nat.zero_le _, rfl, rfl, by decide, Lib.hid rfl, HB, HA⟩
  case round =>
    obtain ⟨k, S, hk, rfl, rfl, hS, HSL, HBW, HAT⟩ := hrel
    by_cases hlt : k < ts.length
    · obtain ⟨c1, c2, c3⟩ := HAT.out k hlt
      obtain ⟨u, hu⟩ := Option.isSome_iff_exists.1 (HP.out ts[k] (List.getElem_mem hlt))
      have hu8 := (prt_read hu [] 0 trivial).2.2
      have PT := Lib.hid (fun w' => CON.out.cPrint ts[k] w' (by have := prt_size hu; omega))
      rw [hu] at PT
      have HSL' : Hid ((S ++ (u ++ ⟨#[32]⟩)).data.toList = outL (ts.take (k + 1))) := by
        show _ = _
        rw [List.take_succ_eq_append_getElem hlt, outL_snoc, app_list, app_list, HSL.out, hu]
        rfl
      have hS' : Hid ((S ++ (u ++ ⟨#[32]⟩)).size ≤ 800) := by
        have h1 := outL_len (ts.take (k + 1)) (fun t ht => HP.out t (List.mem_of_mem_take ht))
        have h2 := lenS_take ts (k + 1)
        have h3 : (S ++ (u ++ ⟨#[32]⟩)).data.toList.length = (S ++ (u ++ ⟨#[32]⟩)).size := by simp; rfl
        rw [HSL'.out] at h3
        show _ ≤ _
        omega
      have HB1 := Lib.hid (HBW.out.alloc HBW.out.size (.cells #[.int .i64 ts[k].k, .int .i64 ts[k].a, .string ts[k].n] 37))
      have HA1 := Lib.hid (HAT.out.below (below_any wr (.cells #[.int .i64 ts[k].k, .int .i64 ts[k].a, .string ts[k].n] 37)))
      obtain ⟨x, hx⟩ : ∃ x, ts[k] = x := ⟨_, rfl⟩
      rw [hx] at c1 c2 c3 PT HB1 HA1
      clear hx hu
      go_wp2_with fail
      refine (PT.out _).mono ?_
      rintro e wb ⟨rfl, hb⟩
      have HB2 := Lib.hid (HB1.out.trans (hb.mono HB1.out.size))
      have HA2 := Lib.hid (HA1.out.below hb)
      clear hb c1 c2 c3
      go_wp2_with fail
      go_roundw
      case rel => exact ⟨k + 1, _, by omega, by go_num, rfl, hS'.out, HSL', HB2, HA2⟩
      case measure => simp [intOf]; omega
    · have HM : Hid (lexR S = .ok (moved ts 0)) := by
        have h1 := HSL.out
        rw [List.take_of_length_le (by omega)] at h1
        show _ = _
        unfold lexR
        rw [if_neg (by omega), h1, again_read ts 0 HP.out]
      have L2 := Lib.hid (fun w' => CON.out.lex S w' (by omega))
      rw [HM.out] at L2
      have hml := moved_len ts 0
      have HMA := Lib.hid (moved_at ts 0)
      obtain ⟨ms, hms⟩ : ∃ ms, moved ts 0 = ms := ⟨_, rfl⟩
      rw [hms] at L2 hml HMA
      have hm0 : ms ≠ [] := by
        intro e
        rw [e] at hml
        exact h0 (List.eq_nil_of_length_eq_zero hml.symm)
      clear hms
      go_wp2_with fail
      refine (L2.out _).mono ?_
      intro e wc hpc
      obtain ⟨b2, off2, cap2, rfl, hc2, hat2, hb2⟩ := hpc.ok hm0
      have HA3 := Lib.hid (HAT.out.below hb2)
      have HA4 := Lib.hid hat2
      have HB4 := Lib.hid (HBW.out.trans (hb2.mono HBW.out.size))
      rw [hml]
      have HML := Lib.hid hml
      clear hpc hat2 hb2 hm0
      go_wp2_with fail
      go_loopw [64] (fun iv wr => ∃ k : Nat, k ≤ ts.length ∧ iv = .int .i64 k ∧ Hid (At wr b off ts) ∧ Hid (At wr b2 off2 ms) ∧ Hid (Below w.heap.size w wr)) (fun i _ => ts.length - (intOf i).toNat)
      case atStart => exact ⟨0, Nat.zero_le _, rfl, HA3, HA4, HB4⟩
      case round =>
        obtain ⟨k2, hk2, rfl, HX, HY, HBX⟩ := hrel
        by_cases hlt2 : k2 < ts.length
        · obtain ⟨c1, _, c3⟩ := HX.out k2 hlt2
          have hlt3 : k2 < ms.length := by rw [HML.out]; exact hlt2
          obtain ⟨d1, _, d3⟩ := HY.out k2 hlt3
          obtain ⟨q1, q2⟩ := HMA.out k2 hlt2 hlt3
          rw [q1] at d1
          rw [q2] at d3
          obtain ⟨x, hx⟩ : ∃ x, ts[k2] = x := ⟨_, rfl⟩
          rw [hx] at c1 c3 d1 d3
          clear hx q1 q2
          go_wp2_with fail
          go_quiet (fail)
          go_wp2_with fail
          go_roundw
          case rel => exact ⟨k2 + 1, by omega, by go_num, Lib.hid (HX.out.below (Below.drewN _ _ _)), Lib.hid (HY.out.below (Below.drewN _ _ _)), Lib.hid (HBX.out.trans (Below.drewN _ _ _))⟩
          case measure => simp [intOf]; omega
        · go_wp2_with fail
          refine (alive_any CON.out _).mono ?_
          rintro e wd ⟨rfl, hb⟩
          have HB5 := Lib.hid (HBX.out.trans (hb.mono HBX.out.size))
          clear hb
          go_wp2_with fail
          go_ret
          exact ⟨rfl, HB5.out⟩
set_option maxHeartbeats 1000000 in
theorem again_none (con : Con) (s : ByteArray) (w : World) (h4 : s.size ≤ 400) (hl : lexR s = .ok []) : Calls Try.prog 6 #[.string s] w fun e w' => e = .returned (.bool true) ∧ Below w.heap.size w w' := by
  have CON := Lib.hid con
  have L1 := Lib.hid (fun w' => CON.out.lex s w' (by omega))
  have L2 := Lib.hid (fun w' => CON.out.lex ⟨#[]⟩ w' (by decide))
  rw [hl, lp_ok] at L1
  rw [show lexR ⟨#[]⟩ = .ok [] from by decide +kernel, lp_ok] at L2
  clear hl
  go_enter Try.func6, Try.ntmps6
  go_wp2_with fail
  refine (L1.out _).mono ?_
  rintro e wa ⟨y, rfl, hty, hb⟩
  obtain ⟨_, a, cap, rfl, -⟩ := hty
  have HB := Lib.hid hb
  clear hb
  go_wp2_with fail
  refine Go.wp_loop_rounds 1 ?_
  rw [rounds_succ]
  go_wp2_with fail
  refine (L2.out _).mono ?_
  rintro e wb ⟨y, rfl, hty, hb⟩
  obtain ⟨_, a2, cap2, rfl, -⟩ := hty
  have HB2 := Lib.hid (HB.out.trans (hb.mono HB.out.size))
  clear hb
  go_wp2_with fail
  refine Go.wp_loop_rounds 1 ?_
  rw [rounds_succ]
  go_wp2_with fail
  refine (alive_any CON.out _).mono ?_
  rintro e wd ⟨rfl, hb⟩
  have HB5 := Lib.hid (HB2.out.trans (hb.mono HB2.out.size))
  clear hb
  go_wp2_with fail
  go_ret
  exact ⟨rfl, HB5.out⟩
theorem again_law (con : Con) (s : ByteArray) (w : World) (hs : s.size ≤ 140737488355328) : Calls Try.prog 6 #[.string s] w fun e w' => e = .returned (.bool true) ∧ Below w.heap.size w w' := by
  by_cases h : 1000 < s.size
  · exact again_bad con s w hs 1000 52 (by decide) (if_pos h)
  · have hl : lexR s = F s.data.toList 0 := if_neg h
    cases hf : F s.data.toList 0 with
    | bad a e =>
      have he := (F_bad _ _ _ _ _ (Nat.le_refl _) hf).2.2
      exact again_bad con s w hs a e (by omega) (hl.trans hf)
    | ok ts =>
      by_cases h4 : 400 < s.size
      · exact again_long con s w hs ts h4 (hl.trans hf)
      · obtain ⟨hp, hn⟩ := F_prints _ _ _ _ (Nat.le_refl _) hf
        by_cases h0 : ts = []
        · subst h0
          exact again_none con s w (by omega) (hl.trans hf)
        · exact again_short con s w ts (by omega) (hl.trans hf) h0 hp (by simp at hn; omega)
end Go.Proofs.Ythfcclheephokaa.To
