/- TokenLexes: the walk. -/
import Derived.Test.YthfcclheephokaaTko
namespace Go.Proofs.Ythfcclheephokaa.To
open Go Go.RowKit
set_option maxRecDepth 20000

theorem F_len : ∀ (m : Nat) (l : List UInt8) (p : Nat) (ts : List Tk), l.length ≤ m → F l p = .ok ts → ts.length ≤ l.length
  | _, [], p, ts, _, h => by rw [F_nil] at h; cases h; exact Nat.zero_le _
  | 0, b :: r, p, ts, hm, _ => by simp at hm
  | m + 1, b :: r, p, ts, hm, h => by
    have hr : r.length ≤ m := by simpa using hm
    by_cases hb : letB b = true
    · have h1 := tw_pos (r := r) hb
      have hle := tw_le (b :: r)
      rw [F_let hb] at h
      split at h
      · cases h
      · cases hf : F ((b :: r).drop ((b :: r).takeWhile letB).length) (p + ((b :: r).takeWhile letB).length) with
        | bad a e => rw [hf] at h; cases h
        | ok l' =>
          rw [hf] at h
          obtain rfl := Res.ok.inj h
          have hl : ((b :: r).drop ((b :: r).takeWhile letB).length).length ≤ m := by rw [List.length_drop, List.length_cons]; omega
          have := F_len m _ _ _ hl hf
          rw [List.length_drop] at this
          rw [List.length_cons]
          omega
    · have hb := Bool.eq_false_iff.2 hb
      by_cases h2 : b = 32
      · subst h2
        rw [F_blank] at h
        have := F_len m r _ _ hr h
        rw [List.length_cons]
        omega
      · by_cases h0 : sig b = 0
        · rw [F_byte r p hb h2 h0] at h
          cases h
        · rw [F_sig r p hb h2 h0] at h
          cases hf : F r (p + 1) with
          | bad a e => rw [hf] at h; cases h
          | ok l' =>
            rw [hf] at h
            obtain rfl := Res.ok.inj h
            have := F_len m r _ _ hr hf
            rw [List.length_cons, List.length_cons]
            omega
theorem toks_len (s : ByteArray) : (lexR s).toks.length ≤ 1000 := by
  unfold lexR
  split
  · exact Nat.zero_le _
  · cases hf : F s.data.toList 0 with
    | bad a e => exact Nat.zero_le _
    | ok ts =>
      have := F_len _ _ _ _ (Nat.le_refl _) hf
      simp at this
      show ts.length ≤ 1000
      omega
theorem place_le (s : ByteArray) : (lexR s).place s.size ≤ s.size := by
  unfold lexR
  split
  · show 1000 ≤ s.size
    omega
  · cases hf : F s.data.toList 0 with
    | bad a e =>
      have := (F_bad _ _ _ _ _ (Nat.le_refl _) hf).2.1
      simp at this
      show a ≤ s.size
      omega
    | ok ts => exact Nat.le_refl _

set_option maxHeartbeats 400000 in
theorem lexes_law (con : Con) (s : ByteArray) (w : World) (hs : s.size ≤ 140737488355328) : Calls Try.prog 3 #[.string s] w fun e w' => e = .returned (.bool true) ∧ Below w.heap.size w w' := by
  have CON := Lib.hid con
  have HS := Lib.hid hs
  by_cases h : 1100 < s.size
  · clear hs
    go_enter Try.func3, Try.ntmps3
    go_wp2_with fail
    refine (alive_any CON.out _).mono ?_
    rintro e w' ⟨rfl, hb⟩
    have HB := Lib.hid hb
    clear hb
    go_wp2_with fail
    go_ret
    exact ⟨rfl, HB.out⟩
  · have HP := Lib.hid (place_le s)
    clear hs
    go_enter Try.func3, Try.ntmps3
    go_wp2_with fail
    refine (CON.out.lex s _ HS.out).mono ?_
    rintro e wa ⟨ya, rfl, hta, hba⟩
    have TA := Lib.hid hta
    have BA := Lib.hid hba
    clear hta hba
    go_wp2_with fail
    refine (lexR_any s _).mono ?_
    rintro e wb ⟨yb, rfl, htb, hbb⟩
    have TA2 := Lib.hid (TA.out.below hbb)
    have TB := Lib.hid htb
    have BB := Lib.hid (BA.out.trans (hbb.mono BA.out.size))
    clear htb hbb
    obtain ⟨z, hz⟩ : ∃ z, (lexR s).place s.size = z := ⟨_, rfl⟩
    obtain ⟨er, her⟩ : ∃ er, (lexR s).err = er := ⟨_, rfl⟩
    have HPZ : z ≤ s.size := by rw [← hz]; exact HP.out
    rw [hz, her]
    clear hz her
    go_wp2_with fail
    refine (alive_any CON.out _).mono ?_
    rintro e wc ⟨rfl, hbc⟩
    have BC := Lib.hid (BB.out.trans (hbc.mono BB.out.size))
    have TA3 := Lib.hid (TA2.out.below hbc)
    have TB3 := Lib.hid (TB.out.below hbc)
    clear hbc
    go_wp2_with fail
    refine (olds_any ya _ _ TA3.out (Nat.le_trans (toks_len s) (by omega))).mono ?_
    rintro e wd ⟨yd, rfl, htd, hbd⟩
    have BD := Lib.hid (BC.out.trans (hbd.mono BC.out.size))
    have TD := Lib.hid htd
    have TB4 := Lib.hid (TB3.out.below hbd)
    clear htd hbd
    go_wp2_with fail
    refine (sameR_any yd yb _ _ _ TD.out TB4.out (Nat.le_trans (toks_len s) (by omega))).mono ?_
    rw [show sameN (lexR s).toks (lexR s).toks = true from decide_eq_true rfl]
    rintro e we ⟨rfl, hbe⟩
    have BE := Lib.hid (BD.out.trans (hbe.mono BD.out.size))
    clear hbe
    go_wp2_with fail
    go_ret
    exact ⟨rfl, BE.out⟩
end Go.Proofs.Ythfcclheephokaa.To
