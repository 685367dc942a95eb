/- The program's Lex: the walk; the contracts of package token. -/
import Derived.Test.YthfcclheephokaaTkt
namespace Go.Proofs.Ythfcclheephokaa.To
open Go Go.RowKit
set_option maxRecDepth 20000
theorem Lq.done {w wr : World} {v : Value} {s : ByteArray} {p q ne : Nat} (h : Lq w wr v s p q ne) (hp : ¬ p < s.size) (hl : s.size ≤ 1000) : LexNew (lexR s) s.size w (.returned (.tuple #[v, .int .i64 (s.size : Nat), .int .i64 0])) wr := by
  obtain ⟨ts, hl', hown, hf⟩ := h.own
  have hq : ¬ q < s.size := by rcases h.which with ⟨h4, _⟩ | ⟨_, h4⟩ <;> omega
  rw [List.drop_eq_nil_of_le (by simp; omega), F_nil] at hf
  have : lexR s = .ok ts := by
    unfold lexR
    rw [if_neg (by omega), hf]
    simp [Res.pre]
  rw [this]
  exact ⟨v, rfl, Ap.RdO.fresh hown, h.below⟩
theorem rdo_nil {ok : Nat → Prop} (w : World) : Ap.RdO ok w 3 (.slice none 0 0) 0 [] := ⟨rfl, none, 0, rfl, Nat.le_refl _, fun _ => ⟨rfl, rfl⟩, fun h => absurd h (Nat.lt_irrefl 0)⟩
theorem LexNew_bad {s : ByteArray} {p : Nat} {e : Int} {w w' : World} (h : F s.data.toList 0 = .bad p e) (hb : Below w.heap.size w w') : LexNew (F s.data.toList 0) s.size w (.returned (.tuple #[.slice none 0 0, .int .i64 (p : Int), .int .i64 e])) w' := by
  rw [h]
  exact ⟨_, rfl, rdo_nil _, hb⟩
set_option maxHeartbeats 400000 in
theorem lex_long (s : ByteArray) (w : World) (h : 1000 < s.size) : Calls Try.prog 10 #[.string s] w (LexNew (lexR s) s.size w) := by
  have HL : Hid (lexR s = .bad 1000 52) := if_pos h
  rw [HL.out]
  have d1 : decide ((s.size : Int) > 1000) = true := by simp; omega
  go_enter Try.func10, Try.ntmps10
  go_wp2_with fail
  go_ret3
  exact ⟨_, rfl, rdo_nil _, Below.refl _ _⟩
/-- The letters at a place of a text. -/
def ltrs (s : ByteArray) (p : Nat) : ByteArray := ltr (s.extract p s.size)
theorem ext_list (s : ByteArray) (p : Nat) : (s.extract p s.size).data.toList = s.data.toList.drop p := by
  rw [ext_take]
  exact List.take_of_length_le (by simp)
theorem ltrs_wd (s : ByteArray) (p : Nat) (h : p ≤ s.size) : Wd s p (p + (ltrs s p).size) ∧ ltrs s p = s.extract p (p + (ltrs s p).size) := by
  have hl : (ltrs s p).size = ((s.data.toList.drop p).takeWhile letB).length := by
    unfold ltrs ltr
    rw [ext_list]
    exact List.size_toArray
  have hle := tw_le (s.data.toList.drop p)
  have ht : (s.data.toList.drop p).takeWhile letB = (s.data.toList.drop p).take ((s.data.toList.drop p).takeWhile letB).length := by
    have h1 := tw_split (s.data.toList.drop p)
    obtain ⟨m, hm⟩ : ∃ m, (s.data.toList.drop p).takeWhile letB = m := ⟨_, rfl⟩
    rw [hm] at h1 ⊢
    rw [← h1, List.take_left' rfl]
  have hs : (s.data.toList.drop p).length = s.size - p := by simp
  refine ⟨⟨by rw [hl, Nat.add_sub_cancel_left]; exact ht, by omega⟩, ?_⟩
  rw [ext_take, Nat.add_sub_cancel_left, hl, ← ht]
  unfold ltrs ltr
  rw [ext_list]
theorem Wd.lets {s : ByteArray} {p q : Nat} (h : Wd s p q) : ∀ k, p ≤ k → k < q → ∃ h : k < s.size, letB s[k] = true := by
  intro k h1 h2
  have hq := h.2
  refine ⟨by omega, ?_⟩
  have hall := tw_all (s.data.toList.drop p)
  rw [h.1] at hall
  refine hall _ ?_
  rw [List.mem_take_iff_getElem]
  refine ⟨k - p, by simp; omega, ?_⟩
  rw [List.getElem_drop]
  simp only [show p + (k - p) = k by omega]
  simp
  rfl
set_option maxHeartbeats 2000000 in
theorem lex_short (s : ByteArray) (w : World) (h : s.size ≤ 1000) : Calls Try.prog 10 #[.string s] w (LexNew (lexR s) s.size w) := by
  have HL : Hid (lexR s = F s.data.toList 0) := if_neg (by omega)
  go_enter Try.func10, Try.ntmps10
  go_wp2_with fail
  go_loopw [5, 6] (fun ov nv wr => ∃ p q ne : Nat, nv = .int .i64 ne ∧ Hid (Lq w wr ov s p q ne)) (fun _ _ wr => s.size - wr.iterPos w.heap.size)
  case atStart => exact ⟨0, 0, 0, rfl, Lib.hid (Lq.start w s)⟩
  case round =>
    obtain ⟨p, q, ne, rfl, HD⟩ := hrel
    have HB := Lib.hid HD.out.below
    have hip := iterPos_of HD.out.it
    have HIP := Lib.hid hip
    clear hip
    have hps := HD.out.ins
    have hqs := HD.out.le
    by_cases hlt : p < s.size
    · by_cases ha : (s[p]'hlt).toNat < 128
      · have hnx : ∀ ty, (Instr.next (.pointer (some ⟨w.heap.size, 0, none⟩)) true ty).run Try.prog wr = _ := fun ty => Lib.run_next_ascii_at wr w.heap.size s p ty HD.out.it hlt ha
        obtain ⟨c, hc⟩ : ∃ c, (s[p]'hlt).toNat = c := ⟨_, rfl⟩
        rw [hc] at hnx
        by_cases hpn : p < ne
        · have HD' := Lib.hid (HD.out.within hpn)
          obtain ⟨W, hW⟩ : ∃ W, wr.iterAt w.heap.size s (p + 1) = W := ⟨_, rfl⟩
          rw [hW] at hnx HD'
          have HIQ := Lib.hid (iterPos_of HD'.out.it)
          clear hc ha hW
          go_wp2_with fail
          go_roundw
          case rel => exact ⟨p + 1, q, ne, rfl, HD'⟩
          case measure => rw [HIP.out, HIQ.out]; omega
        · by_cases h32 : c = 32
          · have HD' := Lib.hid (HD.out.blank (by omega) hlt (UInt8.toNat.inj (by rw [hc, h32]; rfl)))
            obtain ⟨W, hW⟩ : ∃ W, wr.iterAt w.heap.size s (p + 1) = W := ⟨_, rfl⟩
            rw [hW] at hnx HD'
            have HIQ := Lib.hid (iterPos_of HD'.out.it)
            subst h32
            clear hc ha hW
            go_wp2_with fail
            go_roundw
            case rel => exact ⟨p + 1, p + 1, ne, rfl, HD'⟩
            case measure => rw [HIP.out, HIQ.out]; omega
          · have e32 : ((c : Int) == 32) = false := by rw [beq_eq_false_iff_ne]; omega
            have hn32 : ¬ s[p] = 32 := fun e => h32 (by rw [← hc, e]; rfl)
            obtain ⟨W, hW⟩ : ∃ W, wr.iterAt w.heap.size s (p + 1) = W := ⟨_, rfl⟩
            have hbw := Lib.below_iterAt HB.out (k := w.heap.size) (Nat.le_refl _) s (p + 1)
            rw [hW] at hnx hbw
            have HW := Lib.hid hbw
            have hit := Lib.iterAt_heap wr w.heap.size s p (p + 1) HD.out.it
            rw [hW] at hit
            have hszW : w.heap.size < W.heap.size := (Array.getElem?_eq_some_iff.1 hit).1
            clear hbw hit
            cases hb0 : letB (s[p]'hlt) with
            | false =>
              have HK : Hid (kdI (c : Int) = sig (s[p]'hlt)) := Lib.hid (by rw [← hc]; exact kd_sig _ hb0)
              obtain ⟨z, hz⟩ : ∃ z, sig (s[p]'hlt) = z := ⟨_, rfl⟩
              rw [hz] at HK
              by_cases h0 : z = 0
              · have HF := Lib.hid (HD.out.bad (by omega) (F_byte_at hlt hb0 hn32 (by rw [hz]; exact h0)))
                subst h0
                clear hc ha hW hb0 hz hn32 h32
                go_wp2_with fail
                refine (kind_any _ _).mono ?_
                rw [HK.out]
                rintro e w' ⟨rfl, hb⟩
                have HW' := Lib.hid (HW.out.trans (hb.mono HW.out.size))
                clear hb
                go_wp2_with fail
                go_ret3
                exact HL.out.symm ▸ LexNew_bad HF.out (HW'.out.alloc HW'.out.size _)
              · have HF := Lib.hid (F_sig_at hlt hb0 hn32 (by rw [hz]; exact h0))
                have HW0 := Lib.hid hW
                have hz9 := sig_le (s[p]'hlt)
                rw [hz] at HF hz9
                have gz : ((z : Int) == 0) = false := by rw [beq_eq_false_iff_ne]; omega
                have gz10 : ((z : Int) == 10) = false := by rw [beq_eq_false_iff_ne]; omega
                clear hc ha hW hb0 hz hn32 h32 h0 hz9
                go_wp2_with fail
                refine (kind_any _ _).mono ?_
                rw [HK.out]
                rintro e w' ⟨rfl, hb⟩
                obtain ⟨v', w2, hrun, hlx⟩ := HD.out.next (by omega) hlt h W HW0.out (hb.alloc hb.size (.cells #[.int .i64 (z : Nat), .int .i64 (p : Int), .string ⟨#[]⟩] 37)) (w'.heap.size + 1) (by simp) ⟨(z : Nat), p, ⟨#[]⟩⟩ (p + 1) ne HF.out (by omega) (fun k h1 h2 => absurd h2 (by omega)) (Or.inr ⟨by omega, rfl⟩)
                have R := Lib.hid hrun
                have HD' := Lib.hid hlx
                have HIQ := Lib.hid (iterPos_of HD'.out.it)
                have HW' := Lib.hid hb
                clear hb hrun hlx
                go_wp2_with (at_builtin; refine Ap.wpList_append_run (by rfl) (.tmp 52) (.tmp 54) _ _ rfl _ _ rfl rfl v' w2 R.out ?_)
                go_roundw
                case rel => exact ⟨p + 1, p + 1, ne, rfl, HD'⟩
                case measure => rw [HIP.out, HIQ.out]; omega
            | true =>
              have HK : Hid (kdI (c : Int) = 10) := Lib.hid (by rw [← hc]; exact kd_let _ hb0)
              obtain ⟨hwd, hte⟩ := ltrs_wd s p (by omega)
              have HLT := Lib.hid (letters_any (s.extract p s.size))
              have HLN : Hid (ltr (s.extract p s.size) = ltrs s p) := Lib.hid rfl
              rw [HLN.out] at HLT
              obtain ⟨u, hu⟩ : ∃ u, ltrs s p = u := ⟨_, rfl⟩
              rw [hu] at hwd hte HLT
              have hn1 : 1 ≤ u.size := by
                rcases Nat.eq_zero_or_pos u.size with h0 | h0
                · rw [h0] at hwd
                  have := hwd.none hlt
                  rw [hb0] at this
                  cases this
                · exact h0
              have hps2 := hwd.2
              by_cases h8 : 8 < u.size
              · have HF := Lib.hid (HD.out.bad (by omega) (hwd.long (by omega)))
                have d8 : decide ((u.size : Int) > 8) = true := by simp; omega
                clear hc ha hW hb0 hn32 h32 hwd hte hu hn1 hps2
                go_wp2_with fail
                refine (kind_any _ _).mono ?_
                rw [HK.out]
                rintro e w' ⟨rfl, hb⟩
                have HW' := Lib.hid (HW.out.trans (hb.mono HW.out.size))
                clear hb
                go_wp2_with fail
                refine (HLT.out _).mono ?_
                rintro e w'' ⟨rfl, hb⟩
                have HW2 := Lib.hid ((HW'.out.alloc HW'.out.size (.cells #[.int .i64 10, .int .i64 (p : Int), .string ⟨#[]⟩] 37)).trans (hb.mono (by have := HW'.out.size; simp; omega)))
                have hc0 : w''.cell? ⟨w'.heap.size, 0, none⟩ = some (.int .i64 10) := by rw [hb.cell (by simp)]; simp
                have hc1 : w''.cell? ⟨w'.heap.size, 1, none⟩ = some (.int .i64 p) := by rw [hb.cell (by simp)]; simp
                have hc2 : w''.cell? ⟨w'.heap.size, 2, none⟩ = some (.string ⟨#[]⟩) := by rw [hb.cell (by simp)]; simp
                have hf2 : w''.frozen? ⟨w'.heap.size, 2, none⟩ = false := by rw [hb.frozen (by simp)]; simp
                have hle := HW'.out.size
                clear hb
                go_wp2_with fail
                go_ret3
                exact HL.out.symm ▸ LexNew_bad HF.out (HW2.out.setCell hle _)
              · have HF := Lib.hid (hwd.word (by omega) (by omega))
                have HLE := Lib.hid hwd.lets
                have HTE := Lib.hid hte
                have HW0 := Lib.hid hW
                have d8 : decide ((u.size : Int) > 8) = false := by simp; omega
                rw [← hte] at HF
                clear hc ha hW hb0 hn32 h32 hwd hte hu
                go_wp2_with fail
                refine (kind_any _ _).mono ?_
                rw [HK.out]
                rintro e w' ⟨rfl, hb⟩
                have HW' := Lib.hid hb
                have hszw := hb.size
                clear hb
                go_wp2_with fail
                refine (HLT.out _).mono ?_
                rintro e w'' ⟨rfl, hb⟩
                have hc0 : w''.cell? ⟨w'.heap.size, 0, none⟩ = some (.int .i64 10) := by rw [hb.cell (by simp)]; simp
                have hc1 : w''.cell? ⟨w'.heap.size, 1, none⟩ = some (.int .i64 p) := by rw [hb.cell (by simp)]; simp
                have hc2 : w''.cell? ⟨w'.heap.size, 2, none⟩ = some (.string ⟨#[]⟩) := by rw [hb.cell (by simp)]; simp
                have hf2 : w''.frozen? ⟨w'.heap.size, 2, none⟩ = false := by rw [hb.frozen (by simp)]; simp
                have HW2 := Lib.hid ((HW'.out.alloc HW'.out.size (.cells #[.int .i64 10, .int .i64 (p : Int), .string ⟨#[]⟩] 37)).trans (hb.mono (by have := HW'.out.size; simp; omega)))
                obtain ⟨v', w2, hrun, hlx⟩ := HD.out.next (by omega) hlt h W HW0.out (HW2.out.setCell (p := ⟨w'.heap.size, 2, none⟩) hszw (.string u)) w''.heap.size (by simp) ⟨10, p, u⟩ (p + u.size) (p + u.size) HF.out (by omega) (fun k h1 h2 => HLE.out k (by omega) h2) (by omega)
                have R := Lib.hid hrun
                have HD' := Lib.hid hlx
                have HIQ := Lib.hid (iterPos_of HD'.out.it)
                clear hb hrun hlx hszw
                go_wp2_with (at_builtin; refine Ap.wpList_append_run (by rfl) (.tmp 52) (.tmp 54) _ _ rfl _ _ rfl rfl v' w2 R.out ?_)
                go_roundw
                case rel => exact ⟨p + 1, p + u.size, p + u.size, by go_num, HD'⟩
                case measure => rw [HIP.out, HIQ.out]; omega
      · have hnx : ∀ ty, (Instr.next (.pointer (some ⟨w.heap.size, 0, none⟩)) true ty).run Try.prog wr = _ := fun ty => Lib.run_next_any_at wr w.heap.size s p ty HD.out.it hlt
        have hh := (decode_high s p hlt (by omega)).1
        have hpn : ¬ p < ne := fun h4 => by
          obtain ⟨h5, h6⟩ := HD.out.lets p (Nat.le_refl _) h4
          unfold letB at h6
          simp at h6
          omega
        have HF := Lib.hid (HD.out.bad (by omega) (F_byte_at hlt (by unfold letB; simp; omega) (fun e => ha (by rw [e]; decide)) (by
          unfold sig
          repeat' split
          all_goals first | rfl | (rename_i e; exact absurd (by rw [e]; decide) ha))))
        obtain ⟨c, hc⟩ : ∃ c, (Utf8.decode s p).1 = c := ⟨_, rfl⟩
        obtain ⟨K, hK⟩ : ∃ K, p + (Utf8.decode s p).2 = K := ⟨_, rfl⟩
        have hbw := Lib.below_iterAt HB.out (k := w.heap.size) (Nat.le_refl _) s K
        rw [hc] at hh
        rw [hc, hK] at hnx
        have HK := Lib.hid (kd_high (r := (c : Int)) (by omega))
        have e32 : ((c : Int) == 32) = false := by rw [beq_eq_false_iff_ne]; omega
        obtain ⟨W, hW⟩ : ∃ W, wr.iterAt w.heap.size s K = W := ⟨_, rfl⟩
        rw [hW] at hnx hbw
        have HW := Lib.hid hbw
        clear hc hK ha hh hW hbw
        go_wp2_with fail
        refine (kind_any _ _).mono ?_
        rw [HK.out]
        rintro e w' ⟨rfl, hb⟩
        have HW' := Lib.hid (HW.out.trans (hb.mono HW.out.size))
        clear hb
        go_wp2_with fail
        go_ret3
        exact HL.out.symm ▸ LexNew_bad HF.out (HW'.out.alloc HW'.out.size _)
    · have hnx : ∀ ty, (Instr.next (.pointer (some ⟨w.heap.size, 0, none⟩)) true ty).run Try.prog wr = _ := fun ty => Lib.run_next_end_at wr w.heap.size s p ty HD.out.it hlt
      have HX := Lib.hid (HD.out.done hlt h)
      go_wp2_with fail
      go_ret3
      exact HX.out
theorem lex_any (s : ByteArray) (w : World) : Calls Try.prog 10 #[.string s] w (LexNew (lexR s) s.size w) := by
  by_cases h : 1000 < s.size
  · exact lex_long s w h
  · exact lex_short s w (by omega)
theorem con : Con := ⟨fun s w _ => lex_any s w, fun t w hs => print_any t w hs, words_any⟩
end Go.Proofs.Ythfcclheephokaa.To
