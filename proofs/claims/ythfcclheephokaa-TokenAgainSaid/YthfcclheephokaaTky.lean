/- The document's Lex: the walk. -/
import Derived.Test.YthfcclheephokaaTkx
namespace Go.Proofs.Ythfcclheephokaa.To
open Go Go.RowKit
set_option maxRecDepth 20000

set_option maxHeartbeats 2000000 in
theorem lexR_short (s : ByteArray) (w : World) (h : s.size ≤ 1000) : Calls Try.prog 11 #[.string s] w (LexPost (lexR s) s.size w) := by
  have HL : Hid (lexR s = F s.data.toList 0) := if_neg (by omega)
  go_enter Try.func11, Try.ntmps11
  go_wp2_with fail
  go_loopw [5, 6] (fun ov av wr => ∃ p : Nat, p ≤ s.size ∧ av = .int .i64 p ∧ Hid (Lx w wr ov s p)) (fun _ a _ => s.size - (intOf a).toNat)
  case atStart => exact ⟨0, Nat.zero_le _, rfl, Lib.hid (Lx.start w s)⟩
  case round =>
    obtain ⟨p, hp, rfl, HD⟩ := hrel
    have HB := Lib.hid HD.out.below
    by_cases hlt : p < s.size
    · go_wp2_with fail
      go_loop [7] (fun tv => ∃ q : Nat, p ≤ q ∧ q ≤ s.size ∧ tv = .int .i64 q ∧ Hid (∀ b ∈ (s.data.toList.drop p).take (q - p), letB b = true)) (fun t => s.size - (intOf t).toNat)
      case atStart => exact ⟨p, Nat.le_refl _, hp, rfl, Lib.hid (by rw [Nat.sub_self, List.take_zero]; intro b hb; cases hb)⟩
      case round =>
        obtain ⟨q, hpq, hq, rfl, HA⟩ := hrel
        by_cases hlq : q < s.size
        · cases hb : letB s[q] with
          | true =>
            have HA' : Hid (∀ b ∈ (s.data.toList.drop p).take (q + 1 - p), letB b = true) := Lib.hid (by
              rw [take_more hpq hlq]
              intro c hc
              rcases List.mem_append.1 hc with hc | hc
              · exact HA.out c hc
              · rw [List.mem_singleton] at hc
                rw [hc]
                exact hb)
            have HQB := Lib.hid hb
            clear hb
            go_wp2_with fail
            refine (letR_any s[q] _).mono ?_
            rw [HQB.out]
            rintro e w'' ⟨rfl, rfl⟩
            go_wp2_with fail
            go_round
            case rel => exact ⟨q + 1, by omega, by omega, by go_num, HA'⟩
            case measure => simp [intOf]; omega
          | false =>
            have HW := Lib.hid (Wd.stop hpq HA.out hlq hb)
            have HQB := Lib.hid hb
            clear hb
            by_cases h8 : 8 < q - p
            · have HF := Lib.hid (HD.out.bad (HW.out.long h8))
              go_wp2_with fail
              refine (letR_any s[q] _).mono ?_
              rw [HQB.out]
              rintro e w'' ⟨rfl, rfl⟩
              go_wp2_with fail
              go_ret3
              exact HL.out.symm ▸ LexPost_bad HF.out HB.out
            · by_cases h1 : 1 ≤ q - p
              · obtain ⟨v', w', hrun, hlx⟩ := HD.out.next ⟨10, p, s.extract p q⟩ (HW.out.word h1 h8) (show p < q by omega) (by omega)
                have R := Lib.hid hrun
                have HD' := Lib.hid hlx
                clear hrun hlx
                go_wp2_with (at_builtin; refine Ap.wpList_append_run (by rfl) (.tmp 36) (.tmp 43) _ _ rfl _ _ rfl rfl v' w' R.out ?_)
                refine (letR_any s[q] _).mono ?_
                rw [HQB.out]
                rintro e w'' ⟨rfl, rfl⟩
                go_wp2_with (at_builtin; refine Ap.wpList_append_run (by rfl) (.tmp 36) (.tmp 43) _ _ rfl _ _ rfl rfl v' w' R.out ?_)
                go_roundw
                case rel => exact ⟨q, by omega, rfl, HD'⟩
                case measure => simp [intOf]; omega
              · obtain rfl : q = p := by omega
                have HNL := Lib.hid (HW.out.none hlt)
                obtain ⟨b, hb⟩ : ∃ b, s[q] = b := ⟨_, rfl⟩
                have HBB := Lib.hid hb
                rw [hb] at HNL
                obtain ⟨z, hz⟩ : ∃ z, sig b = z := ⟨_, rfl⟩
                have HZ := Lib.hid hz
                by_cases h32 : b = 32
                · have HN : Hid (s[q].toNat = 32) := by show _ = _; rw [hb, h32]; rfl
                  have HD' := Lib.hid (HD.out.skip (F_blank_at hlt (by rw [hb, h32])) (show q ≤ q + 1 by omega))
                  clear hb hz h32
                  go_wp2_with fail
                  refine (letR_any s[q] _).mono ?_
                  rw [HQB.out]
                  rintro e w'' ⟨rfl, rfl⟩
                  have hn := HN.out
                  go_wp2_with fail
                  go_roundw
                  case rel => exact ⟨q + 1, by omega, by go_num, HD'⟩
                  case measure => simp [intOf]; omega
                · have hn : ((s[q].toNat : Int) != 32) = true := by rw [bne_iff_ne, hb]; intro e; exact h32 (UInt8.toNat.inj (by show b.toNat = 32; omega))
                  by_cases h0 : z = 0
                  · have HF := Lib.hid (HD.out.bad (F_byte_at hlt (by rw [hb]; exact HNL.out) (by rw [hb]; exact h32) (by rw [hb, hz]; exact h0)))
                    subst h0
                    clear hb hz h32
                    go_wp2_with fail
                    refine (letR_any s[q] _).mono ?_
                    rw [HQB.out]
                    rintro e w'' ⟨rfl, rfl⟩
                    go_wp2_with fail
                    refine (kindR_any s[q] _).mono ?_
                    rw [HBB.out, HZ.out]
                    rintro e w'' ⟨rfl, rfl⟩
                    go_wp2_with fail
                    go_ret3
                    exact HL.out.symm ▸ LexPost_bad HF.out HB.out
                  · obtain ⟨v', w', hrun, hlx⟩ := HD.out.next ⟨(z : Nat), q, ⟨#[]⟩⟩ (by rw [← hz, ← hb]; exact F_sig_at hlt (by rw [hb]; exact HNL.out) (by rw [hb]; exact h32) (by rw [hb, hz]; exact h0)) (show q < q + 1 by omega) (by omega)
                    have R := Lib.hid hrun
                    have HD' := Lib.hid hlx
                    have gz : ((z : Int) == 0) = false := by rw [beq_eq_false_iff_ne]; omega
                    clear hb hz h32 hrun hlx h0
                    go_wp2_with fail
                    refine (letR_any s[q] _).mono ?_
                    rw [HQB.out]
                    rintro e w'' ⟨rfl, rfl⟩
                    go_wp2_with fail
                    refine (kindR_any s[q] _).mono ?_
                    rw [HBB.out, HZ.out]
                    rintro e w'' ⟨rfl, rfl⟩
                    go_wp2_with fail
                    refine (kindR_any s[q] _).mono ?_
                    rw [HBB.out, HZ.out]
                    rintro e w'' ⟨rfl, rfl⟩
                    go_wp2_with (at_builtin; refine Ap.wpList_append_run (by rfl) (.tmp 62) (.tmp 69) _ _ rfl _ _ rfl rfl v' w' R.out ?_)
                    go_roundw
                    case rel => exact ⟨q + 1, by omega, by go_num, HD'⟩
                    case measure => simp [intOf]; omega
        · have HW := Lib.hid (Wd.end hpq HA.out hlq hq)
          by_cases h8 : 8 < q - p
          · have HF := Lib.hid (HD.out.bad (HW.out.long h8))
            go_wp2_with fail
            go_ret3
            exact HL.out.symm ▸ LexPost_bad HF.out HB.out
          · by_cases h1 : 1 ≤ q - p
            · obtain ⟨v', w', hrun, hlx⟩ := HD.out.next ⟨10, p, s.extract p q⟩ (HW.out.word h1 h8) (show p < q by omega) (by omega)
              have R := Lib.hid hrun
              have HD' := Lib.hid hlx
              clear hrun hlx
              go_wp2_with (at_builtin; refine Ap.wpList_append_run (by rfl) (.tmp 36) (.tmp 43) _ _ rfl _ _ rfl rfl v' w' R.out ?_)
              go_roundw
              case rel => exact ⟨q, by omega, rfl, HD'⟩
              case measure => simp [intOf]; omega
            · exfalso
              omega
    · have HX := Lib.hid (HD.out.done hlt h)
      go_wp2_with fail
      go_ret3
      exact HX.out
theorem lexR_any (s : ByteArray) (w : World) : Calls Try.prog 11 #[.string s] w (LexPost (lexR s) s.size w) := by
  by_cases h : 1000 < s.size
  · exact lexR_long s w h
  · exact lexR_short s w (by omega)
end Go.Proofs.Ythfcclheephokaa.To
