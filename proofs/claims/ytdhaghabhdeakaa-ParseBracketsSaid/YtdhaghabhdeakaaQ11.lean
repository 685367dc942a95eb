/- The program's Lex: the walk. Plain: the sort of a tree out of those of its kids, as the program makes it. The program's Whole: IndexFunc, ContainsFunc over Right. The program's Depth. -/
import Derived.Test.YtdhaghabhdeakaaQ08

namespace Go.Proofs.Ytdhaghabhdeakaa.To
open Go Go.RowKit
set_option maxRecDepth 20000
theorem Lq.done {w wr : World} {v : Value} {s : ByteArray} {p q ne : Nat} (h : Lq w wr v s p q ne) (hp : ¬ p < s.size) (hl : s.size ≤ 1000) : LexOwn (lexR s) s.size w (.returned (.tuple #[v, .int .i64 (s.size : Nat), .int .i64 0])) wr := by
  obtain ⟨ts, hl', hown, hf⟩ := h.own
  have hq : ¬ q < s.size := by rcases h.which with ⟨h4, _⟩ | ⟨_, h4⟩ <;> omega
  rw [List.drop_eq_nil_of_le (by simp; omega), F_nil] at hf
  have : lexR s = .ok ts := by
    unfold lexR
    rw [if_neg (by omega), hf]
    simp [Res.pre]
  rw [this]
  exact ⟨v, rfl, hown, h.below⟩
theorem own_nil (B : Nat) (w : World) : w.ownsRow B 64 3 (.slice none 0 0) 0 [] := ⟨rfl, .inl ⟨rfl, rfl⟩⟩
theorem LexOwn_bad {s : ByteArray} {p : Nat} {e : Int} {w w' : World} (h : F s.data.toList 0 = .bad p e) (hb : Below w.heap.size w w') : LexOwn (F s.data.toList 0) s.size w (.returned (.tuple #[.slice none 0 0, .int .i64 (p : Int), .int .i64 e])) w' := by
  rw [h]
  exact ⟨_, rfl, own_nil _ _, hb⟩
set_option maxHeartbeats 400000 in
theorem lex_long (s : ByteArray) (w : World) (h : 1000 < s.size) : Calls Try.prog 25 #[.string s] w (LexOwn (lexR s) s.size w) := by
  have HL : Hid (lexR s = .bad 1000 52) := if_pos h
  rw [HL.out]
  have d1 : decide ((s.size : Int) > 1000) = true := by simp; omega
  go_enter Try.func25, Try.ntmps25
  go_wp2_with fail
  go_ret3
  exact ⟨_, rfl, own_nil _ _, Below.refl _ _⟩
/-- The letters at a place of a text. -/
def ltrs (s : ByteArray) (p : Nat) : ByteArray := ltr (s.extract p s.size)
theorem ext_list (s : ByteArray) (p : Nat) : (s.extract p s.size).data.toList = s.data.toList.drop p := by
  rw [ext_take]
  exact List.take_of_length_le (by simp)
theorem ltrs_wd (s : ByteArray) (p : Nat) (h : p ≤ s.size) : Wd s p (p + (ltrs s p).size) ∧ ltrs s p = s.extract p (p + (ltrs s p).size) := by
  have hl : (ltrs s p).size = ((s.data.toList.drop p).takeWhile letB).length := by
    unfold ltrs ltr
    rw [ext_list]
    exact List.size_toArray
  have hle := tw_le (s.data.toList.drop p)
  have ht : (s.data.toList.drop p).takeWhile letB = (s.data.toList.drop p).take ((s.data.toList.drop p).takeWhile letB).length := by
    have h1 := tw_split (s.data.toList.drop p)
    obtain ⟨m, hm⟩ : ∃ m, (s.data.toList.drop p).takeWhile letB = m := ⟨_, rfl⟩
    rw [hm] at h1 ⊢
    rw [← h1, List.take_left' rfl]
  have hs : (s.data.toList.drop p).length = s.size - p := by simp
  refine ⟨⟨by rw [hl, Nat.add_sub_cancel_left]; exact ht, by omega⟩, ?_⟩
  rw [ext_take, Nat.add_sub_cancel_left, hl, ← ht]
  unfold ltrs ltr
  rw [ext_list]
theorem Wd.lets {s : ByteArray} {p q : Nat} (h : Wd s p q) : ∀ k, p ≤ k → k < q → ∃ h : k < s.size, letB s[k] = true := by
  intro k h1 h2
  have hq := h.2
  refine ⟨by omega, ?_⟩
  have hall := tw_all (s.data.toList.drop p)
  rw [h.1] at hall
  refine hall _ ?_
  rw [List.mem_take_iff_getElem]
  refine ⟨k - p, by simp; omega, ?_⟩
  rw [List.getElem_drop]
  simp only [show p + (k - p) = k by omega]
  simp
  rfl
set_option maxHeartbeats 2000000 in
theorem lex_short (s : ByteArray) (w : World) (h : s.size ≤ 1000) : Calls Try.prog 25 #[.string s] w (LexOwn (lexR s) s.size w) := by
  have HL : Hid (lexR s = F s.data.toList 0) := if_neg (by omega)
  go_enter Try.func25, Try.ntmps25
  go_wp2_with fail
  go_loopw [5, 6] (fun ov nv wr => ∃ p q ne : Nat, nv = .int .i64 ne ∧ Hid (Lq w wr ov s p q ne)) (fun _ _ wr => s.size - wr.iterPos w.heap.size)
  case atStart => exact ⟨0, 0, 0, rfl, Lib.hid (Lq.start w s)⟩
  case round =>
    obtain ⟨p, q, ne, rfl, HD⟩ := hrel
    have HB := Lib.hid HD.out.below
    have hip := iterPos_of HD.out.it
    have HIP := Lib.hid hip
    clear hip
    have hps := HD.out.ins
    have hqs := HD.out.le
    by_cases hlt : p < s.size
    · by_cases ha : (s[p]'hlt).toNat < 128
      · have hnx : ∀ ty, (Instr.next (.pointer (some ⟨w.heap.size, 0, none⟩)) true ty).run Try.prog wr = _ := fun ty => Lib.run_next_ascii_at wr w.heap.size s p ty HD.out.it hlt ha
        obtain ⟨c, hc⟩ : ∃ c, (s[p]'hlt).toNat = c := ⟨_, rfl⟩
        rw [hc] at hnx
        by_cases hpn : p < ne
        · have HD' := Lib.hid (HD.out.within hpn)
          obtain ⟨W, hW⟩ : ∃ W, wr.iterAt w.heap.size s (p + 1) = W := ⟨_, rfl⟩
          rw [hW] at hnx HD'
          have HIQ := Lib.hid (iterPos_of HD'.out.it)
          clear hc ha hW
          go_wp2_with fail
          go_roundw
          case rel => exact ⟨p + 1, q, ne, rfl, HD'⟩
          case measure => rw [HIP.out, HIQ.out]; omega
        · by_cases h32 : c = 32
          · have HD' := Lib.hid (HD.out.blank (by omega) hlt (UInt8.toNat.inj (by rw [hc, h32]; rfl)))
            obtain ⟨W, hW⟩ : ∃ W, wr.iterAt w.heap.size s (p + 1) = W := ⟨_, rfl⟩
            rw [hW] at hnx HD'
            have HIQ := Lib.hid (iterPos_of HD'.out.it)
            subst h32
            clear hc ha hW
            go_wp2_with fail
            go_roundw
            case rel => exact ⟨p + 1, p + 1, ne, rfl, HD'⟩
            case measure => rw [HIP.out, HIQ.out]; omega
          · have e32 : ((c : Int) == 32) = false := by rw [beq_eq_false_iff_ne]; omega
            have hn32 : ¬ s[p] = 32 := fun e => h32 (by rw [← hc, e]; rfl)
            obtain ⟨W, hW⟩ : ∃ W, wr.iterAt w.heap.size s (p + 1) = W := ⟨_, rfl⟩
            have hbw := Lib.below_iterAt HB.out (k := w.heap.size) (Nat.le_refl _) s (p + 1)
            rw [hW] at hnx hbw
            have HW := Lib.hid hbw
            have hit := Lib.iterAt_heap wr w.heap.size s p (p + 1) HD.out.it
            rw [hW] at hit
            have hszW : w.heap.size < W.heap.size := (Array.getElem?_eq_some_iff.1 hit).1
            clear hbw hit
            cases hb0 : letB (s[p]'hlt) with
            | false =>
              have HK : Hid (kdI (c : Int) = sig (s[p]'hlt)) := Lib.hid (by rw [← hc]; exact kd_sig _ hb0)
              obtain ⟨z, hz⟩ : ∃ z, sig (s[p]'hlt) = z := ⟨_, rfl⟩
              rw [hz] at HK
              by_cases h0 : z = 0
              · have HF := Lib.hid (HD.out.bad (by omega) (F_byte_at hlt hb0 hn32 (by rw [hz]; exact h0)))
                subst h0
                clear hc ha hW hb0 hz hn32 h32
                go_wp2_with fail
                refine (kind_any _ _).mono ?_
                rw [HK.out]
                rintro e w' ⟨rfl, hb⟩
                have HW' := Lib.hid (HW.out.trans (hb.mono HW.out.size))
                clear hb
                go_wp2_with fail
                go_ret3
                exact HL.out.symm ▸ LexOwn_bad HF.out (HW'.out.alloc HW'.out.size _)
              · have HF := Lib.hid (F_sig_at hlt hb0 hn32 (by rw [hz]; exact h0))
                have HW0 := Lib.hid hW
                have hz9 := sig_le (s[p]'hlt)
                rw [hz] at HF hz9
                have gz : ((z : Int) == 0) = false := by rw [beq_eq_false_iff_ne]; omega
                have gz10 : ((z : Int) == 10) = false := by rw [beq_eq_false_iff_ne]; omega
                clear hc ha hW hb0 hz hn32 h32 h0 hz9
                go_wp2_with fail
                refine (kind_any _ _).mono ?_
                rw [HK.out]
                rintro e w' ⟨rfl, hb⟩
                obtain ⟨v', w2, hrun, hlx⟩ := HD.out.next (by omega) hlt h W HW0.out (hb.alloc hb.size (.cells #[.int .i64 (z : Nat), .int .i64 (p : Int), .string ⟨#[]⟩] 64)) (w'.heap.size + 1) (by simp) ⟨(z : Nat), p, ⟨#[]⟩⟩ (p + 1) ne HF.out (by omega) (fun k h1 h2 => absurd h2 (by omega)) (Or.inr ⟨by omega, rfl⟩)
                have R := Lib.hid hrun
                have HD' := Lib.hid hlx
                have HIQ := Lib.hid (iterPos_of HD'.out.it)
                have HW' := Lib.hid hb
                clear hb hrun hlx
                go_wp2_with (at_builtin; refine Ap.wpList_append_run (by rfl) (.tmp 52) (.tmp 54) _ _ rfl _ _ rfl rfl v' w2 R.out ?_)
                go_roundw
                case rel => exact ⟨p + 1, p + 1, ne, rfl, HD'⟩
                case measure => rw [HIP.out, HIQ.out]; omega
            | true =>
              have HK : Hid (kdI (c : Int) = 10) := Lib.hid (by rw [← hc]; exact kd_let _ hb0)
              obtain ⟨hwd, hte⟩ := ltrs_wd s p (by omega)
              have HLT := Lib.hid (letters_any (s.extract p s.size))
              have HLN : Hid (ltr (s.extract p s.size) = ltrs s p) := Lib.hid rfl
              rw [HLN.out] at HLT
              obtain ⟨u, hu⟩ : ∃ u, ltrs s p = u := ⟨_, rfl⟩
              rw [hu] at hwd hte HLT
              have hn1 : 1 ≤ u.size := by
                rcases Nat.eq_zero_or_pos u.size with h0 | h0
                · rw [h0] at hwd
                  have := hwd.none hlt
                  rw [hb0] at this
                  cases this
                · exact h0
              have hps2 := hwd.2
              by_cases h8 : 8 < u.size
              · have HF := Lib.hid (HD.out.bad (by omega) (hwd.long (by omega)))
                have d8 : decide ((u.size : Int) > 8) = true := by simp; omega
                clear hc ha hW hb0 hn32 h32 hwd hte hu hn1 hps2
                go_wp2_with fail
                refine (kind_any _ _).mono ?_
                rw [HK.out]
                rintro e w' ⟨rfl, hb⟩
                have HW' := Lib.hid (HW.out.trans (hb.mono HW.out.size))
                clear hb
                go_wp2_with fail
                refine (HLT.out _).mono ?_
                rintro e w'' ⟨rfl, hb⟩
                have HW2 := Lib.hid ((HW'.out.alloc HW'.out.size (.cells #[.int .i64 10, .int .i64 (p : Int), .string ⟨#[]⟩] 64)).trans (hb.mono (by have := HW'.out.size; simp; omega)))
                have hc0 : w''.cell? ⟨w'.heap.size, 0, none⟩ = some (.int .i64 10) := by rw [hb.cell (by simp)]; simp
                have hc1 : w''.cell? ⟨w'.heap.size, 1, none⟩ = some (.int .i64 p) := by rw [hb.cell (by simp)]; simp
                have hc2 : w''.cell? ⟨w'.heap.size, 2, none⟩ = some (.string ⟨#[]⟩) := by rw [hb.cell (by simp)]; simp
                have hf2 : w''.frozen? ⟨w'.heap.size, 2, none⟩ = false := by rw [hb.frozen (by simp)]; simp
                have hle := HW'.out.size
                clear hb
                go_wp2_with fail
                go_ret3
                exact HL.out.symm ▸ LexOwn_bad HF.out (HW2.out.setCell hle _)
              · have HF := Lib.hid (hwd.word (by omega) (by omega))
                have HLE := Lib.hid hwd.lets
                have HTE := Lib.hid hte
                have HW0 := Lib.hid hW
                have d8 : decide ((u.size : Int) > 8) = false := by simp; omega
                rw [← hte] at HF
                clear hc ha hW hb0 hn32 h32 hwd hte hu
                go_wp2_with fail
                refine (kind_any _ _).mono ?_
                rw [HK.out]
                rintro e w' ⟨rfl, hb⟩
                have HW' := Lib.hid hb
                have hszw := hb.size
                clear hb
                go_wp2_with fail
                refine (HLT.out _).mono ?_
                rintro e w'' ⟨rfl, hb⟩
                have hc0 : w''.cell? ⟨w'.heap.size, 0, none⟩ = some (.int .i64 10) := by rw [hb.cell (by simp)]; simp
                have hc1 : w''.cell? ⟨w'.heap.size, 1, none⟩ = some (.int .i64 p) := by rw [hb.cell (by simp)]; simp
                have hc2 : w''.cell? ⟨w'.heap.size, 2, none⟩ = some (.string ⟨#[]⟩) := by rw [hb.cell (by simp)]; simp
                have hf2 : w''.frozen? ⟨w'.heap.size, 2, none⟩ = false := by rw [hb.frozen (by simp)]; simp
                have HW2 := Lib.hid ((HW'.out.alloc HW'.out.size (.cells #[.int .i64 10, .int .i64 (p : Int), .string ⟨#[]⟩] 64)).trans (hb.mono (by have := HW'.out.size; simp; omega)))
                obtain ⟨v', w2, hrun, hlx⟩ := HD.out.next (by omega) hlt h W HW0.out (HW2.out.setCell (p := ⟨w'.heap.size, 2, none⟩) hszw (.string u)) w''.heap.size (by simp) ⟨10, p, u⟩ (p + u.size) (p + u.size) HF.out (by omega) (fun k h1 h2 => HLE.out k (by omega) h2) (by omega)
                have R := Lib.hid hrun
                have HD' := Lib.hid hlx
                have HIQ := Lib.hid (iterPos_of HD'.out.it)
                clear hb hrun hlx hszw
                go_wp2_with (at_builtin; refine Ap.wpList_append_run (by rfl) (.tmp 52) (.tmp 54) _ _ rfl _ _ rfl rfl v' w2 R.out ?_)
                go_roundw
                case rel => exact ⟨p + 1, p + u.size, p + u.size, by go_num, HD'⟩
                case measure => rw [HIP.out, HIQ.out]; omega
      · have hnx : ∀ ty, (Instr.next (.pointer (some ⟨w.heap.size, 0, none⟩)) true ty).run Try.prog wr = _ := fun ty => Lib.run_next_any_at wr w.heap.size s p ty HD.out.it hlt
        have hh := (decode_high s p hlt (by omega)).1
        have hpn : ¬ p < ne := fun h4 => by
          obtain ⟨h5, h6⟩ := HD.out.lets p (Nat.le_refl _) h4
          unfold letB at h6
          simp at h6
          omega
        have HF := Lib.hid (HD.out.bad (by omega) (F_byte_at hlt (by unfold letB; simp; omega) (fun e => ha (by rw [e]; decide)) (by
          unfold sig
          repeat' split
          all_goals first | rfl | (rename_i e; exact absurd (by rw [e]; decide) ha))))
        obtain ⟨c, hc⟩ : ∃ c, (Utf8.decode s p).1 = c := ⟨_, rfl⟩
        obtain ⟨K, hK⟩ : ∃ K, p + (Utf8.decode s p).2 = K := ⟨_, rfl⟩
        have hbw := Lib.below_iterAt HB.out (k := w.heap.size) (Nat.le_refl _) s K
        rw [hc] at hh
        rw [hc, hK] at hnx
        have HK := Lib.hid (kd_high (r := (c : Int)) (by omega))
        have e32 : ((c : Int) == 32) = false := by rw [beq_eq_false_iff_ne]; omega
        obtain ⟨W, hW⟩ : ∃ W, wr.iterAt w.heap.size s K = W := ⟨_, rfl⟩
        rw [hW] at hnx hbw
        have HW := Lib.hid hbw
        clear hc hK ha hh hW hbw
        go_wp2_with fail
        refine (kind_any _ _).mono ?_
        rw [HK.out]
        rintro e w' ⟨rfl, hb⟩
        have HW' := Lib.hid (HW.out.trans (hb.mono HW.out.size))
        clear hb
        go_wp2_with fail
        go_ret3
        exact HL.out.symm ▸ LexOwn_bad HF.out (HW'.out.alloc HW'.out.size _)
    · have hnx : ∀ ty, (Instr.next (.pointer (some ⟨w.heap.size, 0, none⟩)) true ty).run Try.prog wr = _ := fun ty => Lib.run_next_end_at wr w.heap.size s p ty HD.out.it hlt
      have HX := Lib.hid (HD.out.done hlt h)
      go_wp2_with fail
      go_ret3
      exact HX.out
theorem lex_any (s : ByteArray) (w : World) : Calls Try.prog 25 #[.string s] w (LexOwn (lexR s) s.size w) := by
  by_cases h : 1000 < s.size
  · exact lex_long s w h
  · exact lex_short s w (by omega)
end Go.Proofs.Ytdhaghabhdeakaa.To

namespace Go.Proofs.Ytdhaghabhdeakaa.Sx
open Go.Proofs.Ytdhaghabhdeakaa.Rw Go.Proofs.Ytdhaghabhdeakaa.So

def pl (s : Nat) : Bool := s == 1 || s == 3
def pd (s : Nat) : Bool := s == 2 || s == 4
def on (s : Nat) : Bool := s == 3 || s == 4
/-- May a node of a kind have kids of these sorts? -/
def fit (k : Int) (a b : Nat) : Bool :=
  if k = 9 then pd a else if k = 14 then a == 1 else if k = 13 then pd a && b == 1
  else if k = 10 then !on a && (pl a && b == 1) else if k = 8 ∨ k = 12 then pl a && b == 1
  else if k = 6 then !on a && (!on b && (pl a && pl b || pd a && pd b)) else if k = 5 then !on b && (pl a && pl b || pd a && pd b)
  else if k = 7 then pl a && pl b || pd a && pd b else true
/-- The sort that it then is of. -/
def made (k : Int) (a b : Nat) : Nat :=
  if k = 5 ∨ k = 6 ∨ k = 7 ∨ k = 8 then max a b else if k = 9 then (if a = 4 then 3 else 1) else if k = 11 then 3
  else if k = 10 then 2 else if k = 12 ∨ k = 13 ∨ k = 14 then 4 else 1
def comb (k : Int) (a b : Nat) : Nat := if fit k a b then made k a b else 0
theorem first_le (l : List Nd) : first l ≤ 4 := by
  unfold first
  repeat' split
  all_goals omega
theorem apart_of (l : List Nd) : ¬ (Is 3 l = true ∧ Is 4 l = true) := apart l.length l (Nat.le_refl _)
theorem is_first (l : List Nd) : Is 1 l = (first l == 1) ∧ Is 2 l = (first l == 2) ∧ Is 3 l = pl (first l) ∧ Is 4 l = pd (first l) := by
  have h := apart_of l
  have h1 := @one_three l
  have h2 := @two_four l
  unfold first
  cases e1 : Is 1 l <;> cases e2 : Is 2 l <;> cases e3 : Is 3 l <;> cases e4 : Is 4 l <;> simp [e1, e2, e3, e4, pl, pd] at h h1 h2 ⊢
/-- The document's steps, with the sorts of the kids. -/
def p1 (k : Int) (a b : Nat) : Bool := if k = 1 ∨ k = 2 ∨ k = 3 ∨ k = 4 then true else if k = 5 ∨ k = 6 ∨ k = 7 ∨ k = 8 then a == 1 && b == 1 else if k = 9 then a == 2 else false
def p2 (k : Int) (a b : Nat) : Bool := if k = 10 then a == 1 && b == 1 else if k = 5 ∨ k = 6 ∨ k = 7 then a == 2 && b == 2 else false
def p3 (k : Int) (a b : Nat) : Bool := if k = 11 then true else if k = 5 ∨ k = 8 then pl a && b == 1 else if k = 7 then pl a && pl b else if k = 9 then pd a else false
def p4 (k : Int) (a b : Nat) : Bool := if k = 12 then pl a && b == 1 else if k = 5 then pd a && b == 2 else if k = 7 then pd a && pd b else if k = 13 then pd a && b == 1 else if k = 14 then a == 1 else false
def step (k : Int) (a b : Nat) : Nat := if p1 k a b then 1 else if p2 k a b then 2 else if p1 k a b || p3 k a b then 3 else if p2 k a b || p4 k a b then 4 else 0
theorem first_step (l : List Nd) : first l = step (hd l) (first (k0 l)) (first (k1 l)) := by
  obtain ⟨a1, a2, a3, a4⟩ := is_first (k0 l)
  obtain ⟨b1, b2, b3, b4⟩ := is_first (k1 l)
  have h1 : Is 1 l = p1 (hd l) (first (k0 l)) (first (k1 l)) := by
    rw [Is_one]; unfold plainB p1; rw [a1, a2, b1]
  have h2 : Is 2 l = p2 (hd l) (first (k0 l)) (first (k1 l)) := by
    rw [Is_two]; unfold pairedB p2; rw [a1, a2, b1, b2]
  have h3 : Is 3 l = (p1 (hd l) (first (k0 l)) (first (k1 l)) || p3 (hd l) (first (k0 l)) (first (k1 l))) := by
    rw [Is_three, ← Is_one, h1]; unfold plainOnB p3; rw [a3, a4, b1, b3]
  have h4 : Is 4 l = (p2 (hd l) (first (k0 l)) (first (k1 l)) || p4 (hd l) (first (k0 l)) (first (k1 l))) := by
    rw [Is_four, ← Is_two, h2]; unfold pairedOnB p4; rw [a1, a3, a4, b1, b2, b4]
  rw [first, h1, h2, h3, h4]
  rfl
theorem steps : ∀ k ∈ ([1, 2, 3, 4, 5, 6, 7, 8, 9, 10, 11, 12, 13, 14] : List Int), ∀ a ∈ ([0, 1, 2, 3, 4] : List Nat), ∀ b ∈ ([0, 1, 2, 3, 4] : List Nat), step k a b = comb k a b := by decide +kernel
theorem mem5 {a : Nat} (h : a ≤ 4) : a ∈ ([0, 1, 2, 3, 4] : List Nat) := by
  simp only [List.mem_cons, List.not_mem_nil, or_false]
  omega
theorem first_comb {l : List Nd} (h : 0 ≤ Rw.ar (hd l)) : first l = comb (hd l) (first (k0 l)) (first (k1 l)) := by
  rw [first_step]
  refine steps _ ?_ _ (mem5 (first_le _)) _ (mem5 (first_le _))
  simp only [List.mem_cons, List.not_mem_nil, or_false]
  exact kinds h
theorem first_nil : first [] = 0 := by decide +kernel
/-- A tree is its first node and its kids. -/
theorem parts {l : List Nd} (h : Tre l) : ∃ n, hd l = n.k ∧ l = n :: (kids l).flatten := by
  have hs : Rw.size l ≠ 0 := by rw [h.size]; have := h.pos; omega
  cases l with
  | nil => exact absurd h.pos (Nat.lt_irrefl 0)
  | cons n r =>
    have := kids_flat hs
    rw [h.size, List.take_length] at this
    exact ⟨n, rfl, this.symm⟩
theorem parts0 {l : List Nd} (h : Tre l) (h0 : Rw.ar (hd l) = 0) : ∃ n, hd l = n.k ∧ l = [n] ∧ first l = comb n.k 0 0 := by
  obtain ⟨n, hn, hl⟩ := parts h
  have hk : kids l = [] := by
    have := h.kids.1
    rw [h0] at this
    exact List.eq_nil_of_length_eq_zero this
  refine ⟨n, hn, by rw [hl, hk]; rfl, ?_⟩
  rw [first_comb (by omega), hn, show k0 l = [] by unfold k0; rw [hk]; rfl, show k1 l = [] by unfold k1; rw [hk]; rfl, first_nil]
theorem parts1 {l : List Nd} (h : Tre l) (h0 : Rw.ar (hd l) = 1) : ∃ n a, hd l = n.k ∧ l = n :: a ∧ Tre a ∧ first l = comb n.k (first a) 0 := by
  obtain ⟨n, hn, hl⟩ := parts h
  obtain ⟨a, hk, ha, _⟩ := h.one h0
  refine ⟨n, a, hn, by rw [hl, hk]; simp, ha, ?_⟩
  rw [first_comb (by omega), hn, show k0 l = a by unfold k0; rw [hk]; rfl, show k1 l = [] by unfold k1; rw [hk]; rfl, first_nil]
theorem parts2 {l : List Nd} (h : Tre l) (h0 : Rw.ar (hd l) = 2) : ∃ n a b, hd l = n.k ∧ l = n :: (a ++ b) ∧ Tre a ∧ Tre b ∧ first l = comb n.k (first a) (first b) := by
  obtain ⟨n, hn, hl⟩ := parts h
  obtain ⟨a, b, hk, ha, hb, _⟩ := h.two h0
  refine ⟨n, a, b, hn, by rw [hl, hk]; simp, ha, hb, ?_⟩
  rw [first_comb (by omega), hn, show k0 l = a by unfold k0; rw [hk]; rfl, show k1 l = b by unfold k1; rw [hk]; rfl]
end Go.Proofs.Ytdhaghabhdeakaa.Sx

namespace Go.Proofs.Ytdhaghabhdeakaa.Rx
open Go Go.RowKit Rw
set_option maxRecDepth 20000

set_option maxHeartbeats 400000 in
theorem not_any (x : Nd) (w : World) (hn : x.n.size ≤ 140737488355328) : Calls Try.prog 76 #[.agg #[.int .i64 x.k, .string x.n, .int .i64 x.s]] w fun e w' => e = .returned (.bool (!rgt x)) ∧ Below w.heap.size w w' := by
  obtain ⟨r, hr⟩ : ∃ r, rgt x = r := ⟨_, rfl⟩
  have HR := Lib.hid hr
  rw [hr]
  clear hr
  go_enter Try.func76, Try.ntmps76
  go_wp2_with fail
  refine (rgtP_any x _ hn).mono ?_
  rw [HR.out]
  rintro e w' ⟨rfl, hb⟩
  have HB := Lib.hid hb
  clear hb
  go_wp2_with fail
  go_ret
  exact ⟨rfl, (below_any w _).trans (HB.out.mono (below_any w _).size)⟩
/-- Where the first node stands that may not be. -/
def badAt : List Nd → Nat → Int
  | [], _ => -1
  | x :: l, k => if rgt x then badAt l (k + 1) else k
theorem badAt_neg (l : List Nd) (k : Nat) : decide (0 ≤ badAt l k) = !l.all rgt := by
  induction l generalizing k with
  | nil => rfl
  | cons x l ih =>
    unfold badAt
    cases hr : rgt x with
    | true => simp only [if_true, ih, List.all_cons, hr, Bool.true_and]
    | false => simp only [List.all_cons, hr, Bool.false_and]; simp
theorem badAt_end {l : List Nd} {k : Nat} (h : ¬ k < l.length) : badAt (l.drop k) k = -1 := by rw [List.drop_eq_nil_of_le (by omega)]; rfl
theorem badAt_at {l : List Nd} {k : Nat} (h : k < l.length) : badAt (l.drop k) k = if rgt l[k] then badAt (l.drop (k + 1)) (k + 1) else (k : Int) := by
  rw [List.drop_eq_getElem_cons h, badAt]

set_option maxHeartbeats 800000 in
theorem index_empty (a : Option Addr) (cap : Nat) (w : World) :
    Calls Try.prog 81 #[.slice a 0 cap, .func (.func 76) #[] #[]] w fun e w' => e = .returned (.int .i64 (-1)) ∧ Below w.heap.size w w' := by
  go_enter Try.func81, Try.ntmps81
  go_wp2_with fail
  refine Go.wp_loop_rounds 1 ?_
  rw [rounds_succ]
  go_wp2_with fail
  go_ret
  exact ⟨rfl, Below.refl _ _⟩
set_option maxHeartbeats 800000 in
theorem index_cells (b off cap : Nat) (l : List Nd) (w : World) (hat : At w b off l) (hl : l.length ≤ 1000000) (hm : Nms l) :
    Calls Try.prog 81 #[.slice (some ⟨b, off, none⟩) l.length cap, .func (.func 76) #[] #[]] w fun e w' => e = .returned (.int .i64 (badAt l 0)) ∧ Below w.heap.size w w' := by
  have HA := Lib.hid hat
  have HM := Lib.hid hm
  clear hat hm
  go_enter Try.func81, Try.ntmps81
  go_wp2_with fail
  go_loopw [8] (fun i wr => ∃ k : Nat, k ≤ l.length ∧ i = .int .i64 k ∧ Below w.heap.size w wr ∧ Hid (badAt l 0 = badAt (l.drop k) k)) (fun i _ => l.length - (intOf i).toNat)
  case atStart => exact ⟨0, Nat.zero_le _, rfl, Below.refl _ _, Lib.hid rfl⟩
  case round =>
    obtain ⟨k, hk, rfl, hb, HK⟩ := hrel
    have HB := Lib.hid hb
    clear hb
    by_cases hlt : k < l.length
    · obtain ⟨e1, e2, e3⟩ := HA.out k hlt
      have c1 : wr.cell? ⟨b, off + k * 3, none⟩ = some (.int .i64 l[k].k) := by rw [HB.out.cell (Ap.cell_lt e1)]; exact e1
      have c2 : wr.cell? ⟨b, off + k * 3 + 1, none⟩ = some (.string l[k].n) := by rw [HB.out.cell (Ap.cell_lt e2)]; exact e2
      have c3 : wr.cell? ⟨b, off + k * 3 + 2, none⟩ = some (.int .i64 l[k].s) := by rw [HB.out.cell (Ap.cell_lt e3)]; exact e3
      have HX := Lib.hid (HK.out.trans (badAt_at hlt))
      have hxm : (l[k]).n.size ≤ 140737488355328 := HM.out _ (List.getElem_mem hlt)
      obtain ⟨x, hx⟩ : ∃ x, l[k] = x := ⟨_, rfl⟩
      rw [hx] at c1 c2 c3 HX hxm
      have HXM := Lib.hid hxm
      clear hx e1 e2 e3 hxm
      cases hr : rgt x with
      | false =>
        rw [hr] at HX
        have HR := Lib.hid hr
        clear hr
        go_wp2_with fail
        refine (not_any x _ HXM.out).mono ?_
        rw [HR.out]
        rintro e w' ⟨rfl, hb'⟩
        have HB' := Lib.hid hb'
        clear hb'
        go_wp2_with fail
        go_ret
        exact ⟨ret_int HX.out.symm, HB.out.trans (HB'.out.mono HB.out.size)⟩
      | true =>
        rw [hr] at HX
        have HR := Lib.hid hr
        clear hr
        go_wp2_with fail
        refine (not_any x _ HXM.out).mono ?_
        rw [HR.out]
        rintro e w' ⟨rfl, hb'⟩
        have HB' := Lib.hid hb'
        clear hb'
        go_wp2_with fail
        go_roundw
        case rel => exact ⟨k + 1, by omega, by go_num, HB.out.trans (HB'.out.mono HB.out.size), HX⟩
        case measure => simp [intOf]; omega
    · go_wp2_with fail
      go_ret
      exact ⟨ret_int (by rw [HK.out, badAt_end hlt]), HB.out⟩
theorem index_any (v : Value) (l : List Nd) (w : World) (h : Nds w v l) (hl : l.length ≤ 1000000) (hm : Nms l) :
    Calls Try.prog 81 #[v, .func (.func 76) #[] #[]] w fun e w' => e = .returned (.int .i64 (badAt l 0)) ∧ Below w.heap.size w w' := by
  rcases h.form with ⟨rfl, a, cap, rfl⟩ | ⟨b, off, cap, rfl, _, hat⟩
  · exact index_empty a cap w
  · exact index_cells b off cap l w hat hl hm
theorem badAt_bd (l : List Nd) (k : Nat) : -1 ≤ badAt l k ∧ badAt l k < k + l.length := by
  induction l generalizing k with
  | nil => simp [badAt]; omega
  | cons x l ih =>
    unfold badAt
    have := ih (k + 1)
    split <;> simp <;> omega
set_option maxHeartbeats 400000 in
theorem contains_any (v : Value) (l : List Nd) (w : World) (h : Nds w v l) (hl : l.length ≤ 1000000) (hm : Nms l) :
    Calls Try.prog 75 #[v, .func (.func 76) #[] #[]] w fun e w' => e = .returned (.bool (!l.all rgt)) ∧ Below w.heap.size w w' := by
  have H := Lib.hid h
  have HM := Lib.hid hm
  have HQ := Lib.hid (badAt_neg l 0)
  obtain ⟨q, hq⟩ : ∃ q, badAt l 0 = q := ⟨_, rfl⟩
  rw [hq] at HQ
  have HC := Lib.hid hq
  clear h hm hq
  go_enter Try.func75, Try.ntmps75
  go_wp2_with fail
  refine (index_any v l _ H.out hl HM.out).mono ?_
  rw [HC.out]
  rintro e w' ⟨rfl, hb⟩
  have HB := Lib.hid hb
  clear hb
  go_wp2_with fail
  go_ret
  exact ⟨ret_bool HQ.out, HB.out⟩

set_option maxHeartbeats 2000000 in
/-- The program's Whole. -/
theorem wholeP_any (v : Value) (l : List Nd) (w : World) (h : Nds w v l) (hl : l.length ≤ 1000) (hm : Nms l) :
    Calls Try.prog 65 #[v] w fun e w' => e = .returned (.bool (whole l)) ∧ Below w.heap.size w w' := by
  have H := Lib.hid h
  have HM := Lib.hid hm
  obtain ⟨_, a, cap, rfl, -⟩ := h
  clear hm
  by_cases q1 : 1 ≤ l.length
  · by_cases q2 : l.length ≤ 200
    · have hz := size_le l
      obtain ⟨z, hzz⟩ : ∃ z, size l = z := ⟨_, rfl⟩
      have HZ := Lib.hid hzz
      rw [hzz] at hz
      by_cases q3 : z = l.length
      · have HW : Hid (whole l = l.all rgt) := by
          show _ = _
          unfold whole
          rw [decide_eq_true q1, decide_eq_true q2, hzz, decide_eq_true q3]
          simp
        have g0 : ((z : Int) != (l.length : Int)) = false := by rw [bne_eq_false_iff_eq]; omega
        have g1 : ((l.length : Int) == 0) = false := by rw [beq_eq_false_iff_ne]; omega
        obtain ⟨r, hr⟩ : ∃ r, l.all rgt = r := ⟨_, rfl⟩
        rw [hr] at HW
        have HR := Lib.hid hr
        have HQ3 := Lib.hid q3
        clear hzz hr q3
        go_enter Try.func65, Try.ntmps65
        go_wp2_with fail
        refine (sizeP_any _ l _ H.out (by omega)).mono ?_
        rw [HZ.out]
        rintro e w' ⟨rfl, hb⟩
        have HB := Lib.hid hb
        clear hb
        go_wp2_with fail
        refine (contains_any _ l _ (H.out.below HB.out) (by omega) HM.out).mono ?_
        rw [HR.out]
        rintro e w'' ⟨rfl, hb⟩
        have HB2 := Lib.hid hb
        clear hb
        go_wp2_with fail
        go_ret
        exact ⟨ret_bool HW.out.symm, HB.out.trans (HB2.out.mono HB.out.size)⟩
      · have HW : Hid (whole l = false) := by
          show _ = _
          unfold whole
          rw [hzz, decide_eq_false q3, Bool.and_false]
        have g0 : ((z : Int) != (l.length : Int)) = true := by rw [bne_iff_ne]; omega
        have g1 : ((l.length : Int) == 0) = false := by rw [beq_eq_false_iff_ne]; omega
        clear hzz q3
        go_enter Try.func65, Try.ntmps65
        go_wp2_with fail
        refine (sizeP_any _ l _ H.out (by omega)).mono ?_
        rw [HZ.out]
        rintro e w' ⟨rfl, hb⟩
        have HB := Lib.hid hb
        clear hb
        go_wp2_with fail
        go_ret
        exact ⟨ret_bool HW.out.symm, HB.out⟩
    · have HW : Hid (whole l = false) := by
        show _ = _
        unfold whole
        rw [decide_eq_false q2, Bool.and_false, Bool.and_false]
        rfl
      have g1 : ((l.length : Int) == 0) = false := by rw [beq_eq_false_iff_ne]; omega
      go_enter Try.func65, Try.ntmps65
      go_wp2_with fail
      go_ret
      exact ⟨ret_bool HW.out.symm, Below.refl _ _⟩
  · have HW : Hid (whole l = false) := by
      show _ = _
      unfold whole
      rw [decide_eq_false q1, Bool.false_and, Bool.and_false]
      rfl
    have g1 : ((l.length : Int) == 0) = true := by rw [beq_iff_eq]; omega
    go_enter Try.func65, Try.ntmps65
    go_wp2_with fail
    go_ret
    exact ⟨ret_bool HW.out.symm, Below.refl _ _⟩
end Go.Proofs.Ytdhaghabhdeakaa.Rx

namespace Go.Proofs.Ytdhaghabhdeakaa.Rx
open Go Go.RowKit Rw
set_option maxRecDepth 20000
set_option maxHeartbeats 400000 in
theorem depthP_any (v : Value) (l : List Nd) (w : World) (h : Nds w v l) (hl : l.length ≤ 1000000) :
    Calls Try.prog 20 #[v] w fun e w' => e = .returned (.int .i64 (depth l)) ∧ Below w.heap.size w w' := by
  have H := Lib.hid h
  clear h
  go_enter Try.func20, Try.ntmps20
  go_wp2_with fail
  refine (measure_any v l _ H.out hl).mono ?_
  rintro e w' ⟨rfl, hb⟩
  have HB := Lib.hid hb
  clear hb
  go_wp2_with fail
  go_ret
  exact ⟨rfl, HB.out⟩
end Go.Proofs.Ytdhaghabhdeakaa.Rx
