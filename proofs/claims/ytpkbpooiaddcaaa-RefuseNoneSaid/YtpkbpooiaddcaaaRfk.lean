/- The program's Strip: a loop with a goto. -/
import Derived.Test.YtpkbpooiaddcaaaRfj
import Derived.WalkMore
import Derived.ScopeJumps
import Derived.Deep.Upon
namespace Go.Proofs.Ytpkbpooiaddcaaa.Rf
open Go Go.RowKit Go.Proofs.Ytpkbpooiaddcaaa.Rw
set_option maxRecDepth 20000

def lenOf : Value → Nat
  | .slice _ n _ => n
  | _ => 0
theorem pat_len {l : List Nd} (h : patB l = true) : 3 ≤ l.length := by
  match l, h with
  | a :: x :: c :: r, _ => simp
theorem strip_yes {l : List Nd} (h : patB l = true) : strip l = (l.getD 1 alt) :: strip (l.drop 3) := by
  match l, h with
  | a :: x :: c :: r, h =>
    simp only [patB, Bool.and_eq_true, decide_eq_true_eq] at h
    obtain ⟨⟨rfl, h1⟩, rfl⟩ := h
    exact strip_pat x h1 r
theorem strip_no {l : List Nd} (h : patB l = false) (h0 : 0 < l.length) : strip l = l[0] :: strip (l.drop 1) := by
  match l, h0 with
  | a :: r, _ => exact strip_not fun hp => by rw [patB_iff.2 hp] at h; cases h
set_option maxHeartbeats 8000000 in
theorem stripP_any (v : Value) (l : List Nd) (w : World) (hv : Nds w v l) (hl : l.length ≤ 1000000) :
    Calls Try.prog 17 #[v] w fun e w' => ∃ y, e = .returned y ∧ Nds w' y (strip l) ∧ Below w.heap.size w w' := by
  have HV0 := Lib.hid hv
  obtain ⟨_, a0, c0, rfl, hmc0, -⟩ := hv
  obtain ⟨m, hm⟩ : ∃ m, l.length = m := ⟨_, rfl⟩
  rw [hm] at HV0 hmc0 hl ⊢
  have HM0 := Lib.hid hm
  obtain ⟨sl, hsl⟩ : ∃ sl, strip l = sl := ⟨_, rfl⟩
  rw [hsl]
  have HSL := Lib.hid hsl
  obtain ⟨M, hM⟩ : ∃ M, m = M := ⟨_, rfl⟩
  have hl2 : M ≤ 1000000 := by omega
  have hmM : m + 0 ≤ M := by omega
  clear hm hsl hM
  go_enter Try.func17, Try.ntmps17
  go_wp2_with fail
  refine wp_scope_jumps 0 (fun a' wr => ∃ (r S : List Nd) (a0 : Option Addr) (m c0 : Nat) (a : Option Addr) (n c : Nat) (u4 u5 u6 u7 u8 u9 u10 u11 u12 u13 u14 u15 u16 u17 u18 u19 u20 u21 u22 u23 u24 u25 : Value), m + n ≤ M ∧ m ≤ c0 ∧ a' = { tmps := #[.slice a0 m c0, undef, .slice none 0 0, .slice a n c, u4, u5, u6, u7, u8, u9, u10, u11, u12, u13, u14, u15, u16, u17, u18, u19, u20, u21, u22, u23, u24, u25], defers := [] } ∧ Hid (r.length = m) ∧ Hid (Nds w (.slice a0 m c0) r) ∧ Hid (S ++ strip r = sl) ∧ Hid (S.length = n) ∧ Hid (Got w wr (.slice a n c) S)) (fun a' _ => lenOf (a'.tmps.getD 0 undef)) rfl ?_ ?_
  · go_wp2_with fail
    go_step3
    have HR := HM0
    have HV := HV0
    have HS : Hid ([] ++ strip l = sl) := HSL
    have HL : Hid (([] : List Nd).length = 0) := Lib.hid rfl
    have HG : Hid (Got w w (.slice none 0 0) []) := Lib.hid (Got.start w)
    by_cases hz : m = 0
    · have g0 : ((m : Int) == 0) = true := by rw [beq_iff_eq]; omega
      have HZ : Hid (sl = ([] : List Nd)) := by
        show _ = _
        rw [← HS.out]
        have : l = [] := List.eq_nil_of_length_eq_zero (by rw [HR.out]; exact hz)
        rw [this]
        exact List.append_nil _
      clear hz
      go_wp2_with fail
      simp only [Exit.jump]
      go_ret
      exact ⟨_, rfl, by rw [HZ.out]; exact HG.out.nds, HG.out.2⟩
    · have g0 : ((m : Int) == 0) = false := by rw [beq_eq_false_iff_ne]; omega
      rcases HV.out.form with ⟨h0, _⟩ | ⟨b, off, cc, he, _, hat⟩
      · exact absurd (by rw [← HR.out, h0]; rfl) hz
      · have ha0 : a0 = some ⟨b, off, none⟩ := by injection he
        clear he
        subst ha0
        have HATW := Lib.hid hat
        obtain ⟨p, hp⟩ : ∃ p, patB l = p := ⟨_, rfl⟩
        have HP := Lib.hid hp
        have HCM := Lib.hid (mayP_any _ l w (HV.out.below HG.out.2) (by rw [HR.out]; omega))
        clear hp hat
        rw [HP.out] at HCM
        go_wp2_with fail
        refine HCM.out.mono ?_
        rintro e w1 ⟨rfl, hb1⟩
        replace HG := Lib.hid (HG.out.below hb1)
        have HAT := Lib.hid (At.below HATW.out HG.out.2)
        clear hb1 HCM
        cases p with
        | true =>
          have hp3 : 3 ≤ m := by
            have := pat_len HP.out
            rwa [HR.out] at this
          obtain ⟨e1, e2, e3⟩ := HAT.out 1 (by rw [HR.out]; omega)
          have c1 : w1.cell? ⟨b, off + 3, none⟩ = some (.int .i64 (l[1]'(by rw [HR.out]; omega)).k) := by simpa using e1
          have c2 : w1.cell? ⟨b, off + 3 + 1, none⟩ = some (.string (l[1]'(by rw [HR.out]; omega)).n) := by simpa using e2
          have c3 : w1.cell? ⟨b, off + 3 + 2, none⟩ = some (.int .i64 (l[1]'(by rw [HR.out]; omega)).s) := by simpa using e3
          have hst : strip l = (l[1]'(by rw [HR.out]; omega)) :: strip (l.drop 3) := (strip_yes HP.out).trans (by rw [List.getD_eq_getElem?_getD, List.getElem?_eq_getElem (by rw [HR.out]; omega)]; rfl)
          have hdn := drop_nds HATW.out (by rw [HR.out]; exact hmc0) 3 (by rw [HR.out]; omega)
          rw [HR.out] at hdn
          have HR' : Hid ((l.drop 3).length = m - 3) := by
            show _ = _
            rw [List.length_drop, HR.out]
          obtain ⟨x, hx⟩ : ∃ x, l[1]'(by rw [HR.out]; omega) = x := ⟨_, rfl⟩
          rw [hx] at c1 c2 c3 hst
          clear e1 e2 e3 hx
          have HS' : Hid ((([] : List Nd) ++ [x]) ++ strip (l.drop 3) = sl) := by
            show _ = _
            rw [← HS.out, hst]
            simp
          clear hst
          obtain ⟨v', w3, hrun, hgot⟩ := HG.out.one x (by rw [HL.out]; omega)
          obtain ⟨a', c', rfl⟩ := hgot.slice
          have HL' : Hid ((([] : List Nd) ++ [x]).length = 0 + 1) := by
            show _ = _
            rw [List.length_append, HL.out]
            rfl
          rw [HL'.out] at hrun hgot
          have R := Lib.hid hrun
          have HG' := Lib.hid hgot
          have HDN := Lib.hid hdn
          clear hrun hgot hdn
          have hdd : (3 : Int) ≤ (m : Int) := by omega
          by_cases hcd : c0 = 3
          · have HV' : Hid (Nds w (.slice (some ⟨b, off, none⟩) (m - 3) 0) (l.drop 3)) := Lib.hid (by
              have e : l.drop 3 = [] := List.drop_eq_nil_of_le (by rw [HR.out]; omega)
              rw [e, show m - 3 = 0 by omega]
              exact empty_nds _ _ _ _)
            go_wp2_with (at_builtin; refine Ap.wpList_append_run (by rfl) (.tmp 10) (.tmp 14) _ _ rfl _ _ rfl rfl _ w3 R.out ?_)
            go_step3
            exact ⟨rfl, ⟨l.drop 3, ([] : List Nd) ++ [x], _, m - 3, 0, a', 0 + 1, c', _, _, _, _, _, _, _, _, _, _, _, _, _, _, _, _, _, _, _, _, _, _, by omega, by omega, rfl, HR', HV', HS', HL', HG'⟩⟩
          · have HV' := HDN
            go_wp2_with (at_builtin; refine Ap.wpList_append_run (by rfl) (.tmp 10) (.tmp 14) _ _ rfl _ _ rfl rfl _ w3 R.out ?_)
            go_step3
            exact ⟨rfl, ⟨l.drop 3, ([] : List Nd) ++ [x], _, m - 3, c0 - 3, a', 0 + 1, c', _, _, _, _, _, _, _, _, _, _, _, _, _, _, _, _, _, _, _, _, _, _, by omega, by omega, rfl, HR', HV', HS', HL', HG'⟩⟩
        | false =>
          obtain ⟨e1, e2, e3⟩ := HAT.out 0 (by rw [HR.out]; omega)
          have c1 : w1.cell? ⟨b, off, none⟩ = some (.int .i64 (l[0]'(by rw [HR.out]; omega)).k) := by simpa using e1
          have c2 : w1.cell? ⟨b, off + 1, none⟩ = some (.string (l[0]'(by rw [HR.out]; omega)).n) := by simpa using e2
          have c3 : w1.cell? ⟨b, off + 2, none⟩ = some (.int .i64 (l[0]'(by rw [HR.out]; omega)).s) := by simpa using e3
          have hst : strip l = (l[0]'(by rw [HR.out]; omega)) :: strip (l.drop 1) := strip_no HP.out (by rw [HR.out]; omega)
          have hdn := drop_nds HATW.out (by rw [HR.out]; exact hmc0) 1 (by rw [HR.out]; omega)
          rw [HR.out] at hdn
          have HR' : Hid ((l.drop 1).length = m - 1) := by
            show _ = _
            rw [List.length_drop, HR.out]
          obtain ⟨x, hx⟩ : ∃ x, l[0]'(by rw [HR.out]; omega) = x := ⟨_, rfl⟩
          rw [hx] at c1 c2 c3 hst
          clear e1 e2 e3 hx
          have HS' : Hid ((([] : List Nd) ++ [x]) ++ strip (l.drop 1) = sl) := by
            show _ = _
            rw [← HS.out, hst]
            simp
          clear hst
          obtain ⟨v', w3, hrun, hgot⟩ := HG.out.one x (by rw [HL.out]; omega)
          obtain ⟨a', c', rfl⟩ := hgot.slice
          have HL' : Hid ((([] : List Nd) ++ [x]).length = 0 + 1) := by
            show _ = _
            rw [List.length_append, HL.out]
            rfl
          rw [HL'.out] at hrun hgot
          have R := Lib.hid hrun
          have HG' := Lib.hid hgot
          have HDN := Lib.hid hdn
          clear hrun hgot hdn
          have hdd : (1 : Int) ≤ (m : Int) := by omega
          by_cases hcd : c0 = 1
          · have HV' : Hid (Nds w (.slice (some ⟨b, off, none⟩) (m - 1) 0) (l.drop 1)) := Lib.hid (by
              have e : l.drop 1 = [] := List.drop_eq_nil_of_le (by rw [HR.out]; omega)
              rw [e, show m - 1 = 0 by omega]
              exact empty_nds _ _ _ _)
            go_wp2_with (at_builtin; refine Ap.wpList_append_run (by rfl) (.tmp 18) (.tmp 22) _ _ rfl _ _ rfl rfl _ w3 R.out ?_)
            go_step3
            exact ⟨rfl, ⟨l.drop 1, ([] : List Nd) ++ [x], _, m - 1, 0, a', 0 + 1, c', _, _, _, _, _, _, _, _, _, _, _, _, _, _, _, _, _, _, _, _, _, _, by omega, by omega, rfl, HR', HV', HS', HL', HG'⟩⟩
          · have HV' := HDN
            go_wp2_with (at_builtin; refine Ap.wpList_append_run (by rfl) (.tmp 18) (.tmp 22) _ _ rfl _ _ rfl rfl _ w3 R.out ?_)
            go_step3
            exact ⟨rfl, ⟨l.drop 1, ([] : List Nd) ++ [x], _, m - 1, c0 - 1, a', 0 + 1, c', _, _, _, _, _, _, _, _, _, _, _, _, _, _, _, _, _, _, _, _, _, _, by omega, by omega, rfl, HR', HV', HS', HL', HG'⟩⟩
  · rintro a' wr ⟨r, S, a0, m, c0, a, n, c, u4, u5, u6, u7, u8, u9, u10, u11, u12, u13, u14, u15, u16, u17, u18, u19, u20, u21, u22, u23, u24, u25, hmM, hmc0, rfl, HR, HV, HS, HL, HG⟩
    by_cases hz : m = 0
    · have g0 : ((m : Int) == 0) = true := by rw [beq_iff_eq]; omega
      have HZ : Hid (sl = S) := by
        show _ = _
        rw [← HS.out]
        have : r = [] := List.eq_nil_of_length_eq_zero (by rw [HR.out]; exact hz)
        rw [this]
        exact List.append_nil _
      clear hz
      go_wp2_with fail
      simp only [Exit.jump]
      go_ret
      exact ⟨_, rfl, by rw [HZ.out]; exact HG.out.nds, HG.out.2⟩
    · have g0 : ((m : Int) == 0) = false := by rw [beq_eq_false_iff_ne]; omega
      rcases HV.out.form with ⟨h0, _⟩ | ⟨b, off, cc, he, _, hat⟩
      · exact absurd (by rw [← HR.out, h0]; rfl) hz
      · have ha0 : a0 = some ⟨b, off, none⟩ := by injection he
        clear he
        subst ha0
        have HATW := Lib.hid hat
        obtain ⟨p, hp⟩ : ∃ p, patB r = p := ⟨_, rfl⟩
        have HP := Lib.hid hp
        have HCM := Lib.hid (mayP_any _ r wr (HV.out.below HG.out.2) (by rw [HR.out]; omega))
        clear hp hat
        rw [HP.out] at HCM
        go_wp2_with fail
        refine HCM.out.mono ?_
        rintro e w1 ⟨rfl, hb1⟩
        replace HG := Lib.hid (HG.out.below hb1)
        have HAT := Lib.hid (At.below HATW.out HG.out.2)
        clear hb1 HCM
        cases p with
        | true =>
          have hp3 : 3 ≤ m := by
            have := pat_len HP.out
            rwa [HR.out] at this
          obtain ⟨e1, e2, e3⟩ := HAT.out 1 (by rw [HR.out]; omega)
          have c1 : w1.cell? ⟨b, off + 3, none⟩ = some (.int .i64 (r[1]'(by rw [HR.out]; omega)).k) := by simpa using e1
          have c2 : w1.cell? ⟨b, off + 3 + 1, none⟩ = some (.string (r[1]'(by rw [HR.out]; omega)).n) := by simpa using e2
          have c3 : w1.cell? ⟨b, off + 3 + 2, none⟩ = some (.int .i64 (r[1]'(by rw [HR.out]; omega)).s) := by simpa using e3
          have hst : strip r = (r[1]'(by rw [HR.out]; omega)) :: strip (r.drop 3) := (strip_yes HP.out).trans (by rw [List.getD_eq_getElem?_getD, List.getElem?_eq_getElem (by rw [HR.out]; omega)]; rfl)
          have hdn := drop_nds HATW.out (by rw [HR.out]; exact hmc0) 3 (by rw [HR.out]; omega)
          rw [HR.out] at hdn
          have HR' : Hid ((r.drop 3).length = m - 3) := by
            show _ = _
            rw [List.length_drop, HR.out]
          obtain ⟨x, hx⟩ : ∃ x, r[1]'(by rw [HR.out]; omega) = x := ⟨_, rfl⟩
          rw [hx] at c1 c2 c3 hst
          clear e1 e2 e3 hx
          have HS' : Hid ((S ++ [x]) ++ strip (r.drop 3) = sl) := by
            show _ = _
            rw [← HS.out, hst]
            simp
          clear hst
          obtain ⟨v', w3, hrun, hgot⟩ := HG.out.one x (by rw [HL.out]; omega)
          obtain ⟨a', c', rfl⟩ := hgot.slice
          have HL' : Hid ((S ++ [x]).length = n + 1) := by
            show _ = _
            rw [List.length_append, HL.out]
            rfl
          rw [HL'.out] at hrun hgot
          have R := Lib.hid hrun
          have HG' := Lib.hid hgot
          have HDN := Lib.hid hdn
          clear hrun hgot hdn
          have hdd : (3 : Int) ≤ (m : Int) := by omega
          by_cases hcd : c0 = 3
          · have HV' : Hid (Nds w (.slice (some ⟨b, off, none⟩) (m - 3) 0) (r.drop 3)) := Lib.hid (by
              have e : r.drop 3 = [] := List.drop_eq_nil_of_le (by rw [HR.out]; omega)
              rw [e, show m - 3 = 0 by omega]
              exact empty_nds _ _ _ _)
            go_wp2_with (at_builtin; refine Ap.wpList_append_run (by rfl) (.tmp 10) (.tmp 14) _ _ rfl _ _ rfl rfl _ w3 R.out ?_)
            go_step3
            refine ⟨rfl, ⟨r.drop 3, S ++ [x], _, m - 3, 0, a', n + 1, c', _, _, _, _, _, _, _, _, _, _, _, _, _, _, _, _, _, _, _, _, _, _, by omega, by omega, rfl, HR', HV', HS', HL', HG'⟩, ?_⟩
            simp [lenOf]
            omega
          · have HV' := HDN
            go_wp2_with (at_builtin; refine Ap.wpList_append_run (by rfl) (.tmp 10) (.tmp 14) _ _ rfl _ _ rfl rfl _ w3 R.out ?_)
            go_step3
            refine ⟨rfl, ⟨r.drop 3, S ++ [x], _, m - 3, c0 - 3, a', n + 1, c', _, _, _, _, _, _, _, _, _, _, _, _, _, _, _, _, _, _, _, _, _, _, by omega, by omega, rfl, HR', HV', HS', HL', HG'⟩, ?_⟩
            simp [lenOf]
            omega
        | false =>
          obtain ⟨e1, e2, e3⟩ := HAT.out 0 (by rw [HR.out]; omega)
          have c1 : w1.cell? ⟨b, off, none⟩ = some (.int .i64 (r[0]'(by rw [HR.out]; omega)).k) := by simpa using e1
          have c2 : w1.cell? ⟨b, off + 1, none⟩ = some (.string (r[0]'(by rw [HR.out]; omega)).n) := by simpa using e2
          have c3 : w1.cell? ⟨b, off + 2, none⟩ = some (.int .i64 (r[0]'(by rw [HR.out]; omega)).s) := by simpa using e3
          have hst : strip r = (r[0]'(by rw [HR.out]; omega)) :: strip (r.drop 1) := strip_no HP.out (by rw [HR.out]; omega)
          have hdn := drop_nds HATW.out (by rw [HR.out]; exact hmc0) 1 (by rw [HR.out]; omega)
          rw [HR.out] at hdn
          have HR' : Hid ((r.drop 1).length = m - 1) := by
            show _ = _
            rw [List.length_drop, HR.out]
          obtain ⟨x, hx⟩ : ∃ x, r[0]'(by rw [HR.out]; omega) = x := ⟨_, rfl⟩
          rw [hx] at c1 c2 c3 hst
          clear e1 e2 e3 hx
          have HS' : Hid ((S ++ [x]) ++ strip (r.drop 1) = sl) := by
            show _ = _
            rw [← HS.out, hst]
            simp
          clear hst
          obtain ⟨v', w3, hrun, hgot⟩ := HG.out.one x (by rw [HL.out]; omega)
          obtain ⟨a', c', rfl⟩ := hgot.slice
          have HL' : Hid ((S ++ [x]).length = n + 1) := by
            show _ = _
            rw [List.length_append, HL.out]
            rfl
          rw [HL'.out] at hrun hgot
          have R := Lib.hid hrun
          have HG' := Lib.hid hgot
          have HDN := Lib.hid hdn
          clear hrun hgot hdn
          have hdd : (1 : Int) ≤ (m : Int) := by omega
          by_cases hcd : c0 = 1
          · have HV' : Hid (Nds w (.slice (some ⟨b, off, none⟩) (m - 1) 0) (r.drop 1)) := Lib.hid (by
              have e : r.drop 1 = [] := List.drop_eq_nil_of_le (by rw [HR.out]; omega)
              rw [e, show m - 1 = 0 by omega]
              exact empty_nds _ _ _ _)
            go_wp2_with (at_builtin; refine Ap.wpList_append_run (by rfl) (.tmp 18) (.tmp 22) _ _ rfl _ _ rfl rfl _ w3 R.out ?_)
            go_step3
            refine ⟨rfl, ⟨r.drop 1, S ++ [x], _, m - 1, 0, a', n + 1, c', _, _, _, _, _, _, _, _, _, _, _, _, _, _, _, _, _, _, _, _, _, _, by omega, by omega, rfl, HR', HV', HS', HL', HG'⟩, ?_⟩
            simp [lenOf]
            omega
          · have HV' := HDN
            go_wp2_with (at_builtin; refine Ap.wpList_append_run (by rfl) (.tmp 18) (.tmp 22) _ _ rfl _ _ rfl rfl _ w3 R.out ?_)
            go_step3
            refine ⟨rfl, ⟨r.drop 1, S ++ [x], _, m - 1, c0 - 1, a', n + 1, c', _, _, _, _, _, _, _, _, _, _, _, _, _, _, _, _, _, _, _, _, _, _, by omega, by omega, rfl, HR', HV', HS', HL', HG'⟩, ?_⟩
            simp [lenOf]
            omega
end Go.Proofs.Ytpkbpooiaddcaaa.Rf
