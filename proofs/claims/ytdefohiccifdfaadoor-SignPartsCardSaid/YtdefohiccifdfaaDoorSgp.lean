/- The law of two parts, walked: all of a row in two parts is both of the parts. -/
import Derived.Test.YtdefohiccifdfaaDoorSgl
import Derived.Test.YtdefohiccifdfaaDoorAp
namespace Go.Proofs.YtdefohiccifdfaaDoor.Sg
open Go Go.RowKit

theorem info3 : (Tryd.prog.info? 3).map (fun i => (i.zero, i.size, i.bytes)) = some (some (.int .i64 0), 1, 8) := by kernel_rfl

theorem Row.rd {w : World} {a : Option Addr} {cap : Nat} {l : List Int} (h : Row w (.slice a l.length cap) l) (hc : l.length ≤ cap) (hn : a = none → cap = 0) : Ap.Rd w 1 (.slice a l.length cap) l.length (l.map (.int .i64)) := by
  refine ⟨by simp, a, cap, rfl, hc, fun ha => ⟨by have := hn ha; omega, hn ha⟩, fun h0 => ?_⟩
  rcases h with ⟨rfl, _⟩ | ⟨b, off, cap', hv, hcell⟩
  · simp at h0
  · cases hv
    refine ⟨b, off, rfl, fun j u hu => ?_⟩
    rw [List.getElem?_map, Option.map_eq_some_iff] at hu
    obtain ⟨x, hx, rfl⟩ := hu
    obtain ⟨hj, rfl⟩ := List.getElem?_eq_some_iff.1 hx
    exact hcell j hj

theorem Row.of_rd {w : World} {v : Value} {l : List Int} (h : Ap.Rd w 1 v l.length (l.map (.int .i64))) : Row w v l := by
  obtain ⟨_, a, cap, rfl, _, _, hcell⟩ := h
  by_cases h0 : 0 < l.length
  · obtain ⟨b, off, rfl, hj⟩ := hcell h0
    exact Or.inr ⟨b, off, cap, rfl, fun k hk => hj k _ (by simp [hk])⟩
  · have : l = [] := List.eq_nil_of_length_eq_zero (by omega)
    subst this
    exact Or.inl ⟨rfl, a, cap, rfl⟩

set_option maxHeartbeats 1000000 in
theorem signParts_few (a0 a1 : Option Addr) (c0 c1 : Nat) (l m : List Int) (w : World) (h : Tab w) (hr0 : Row w (.slice a0 l.length c0) l) (hr1 : Row w (.slice a1 m.length c1) m) (hl0 : l.length ≤ c0) (hl1 : m.length ≤ c1)
    (hn0 : a0 = none → c0 = 0) (hn1 : a1 = none → c1 = 0) (h0 : ¬ 1000 < l.length) (h1 : ¬ 1000 < m.length) :
    Calls Tryd.prog 8 #[.slice a0 l.length c0, .slice a1 m.length c1] w fun e w' => e = .returned (.bool true) ∧ Below w.heap.size w w' := by
  obtain ⟨i0, hi, hz, hs1, hb8⟩ := info_parts info3
  have HI := Lib.hid (show Tryd.prog.info? 3 = some i0 ∧ i0.zero = some (.int .i64 0) ∧ i0.size = 1 ∧ i0.bytes = 8 from ⟨hi, hz, hs1, hb8⟩)
  have HR0 := Lib.hid hr0
  have HR1 := Lib.hid hr1
  have HN0 := Lib.hid hn0
  have HN1 := Lib.hid hn1
  have he : (all 1 (l ++ m) == both (all 1 l) (all 1 m)) = true := by rw [beq_iff_eq]; exact all_parts l m
  clear hr0 hr1 hn0 hn1 hi hz hs1 hb8
  have g0 : decide (1000 < l.length) = false := by simpa using h0
  have g1 : decide (1000 < m.length) = false := by simpa using h1
  go_enter Tryd.func8, Tryd.ntmps8
  go_wp2_with fail
  refine (alive_any _ h).mono ?_
  rintro e w1 ⟨rfl, hb1⟩
  have hcut : Row w1 (.slice a0 l.length l.length) l := by
    rcases HR0.out.below hb1 with ⟨hl, _⟩ | ⟨b, off, cap, hv, hc⟩
    · exact Or.inl ⟨hl, a0, l.length, by rw [hl]; rfl⟩
    · cases hv
      exact Or.inr ⟨b, off, _, rfl, hc⟩
  obtain ⟨v2, w2, hrun, hrd, hb2⟩ := Ap.run_append_full (P := Tryd.prog) (ty := 32) Tryd.underlying32 HI.out.1 HI.out.2.1 HI.out.2.2.1 HI.out.2.2.2 (by rfl) (by omega) (hcut.rd (Nat.le_refl _) (fun ha => by have := HN0.out ha; omega)) ((HR1.out.below hb1).rd hl1 HN1.out)
    (fun u hu => by obtain ⟨x, _, rfl⟩ := List.mem_map.1 hu; rfl) (by unfold maxLen; omega) (by omega)
  have HRD := Lib.hid (Row.of_rd (l := l ++ m) (by simpa using hrd))
  have HB2 := Lib.hid (hb1.trans (hb2.mono hb1.size))
  clear hcut hrd hb2
  have HRUN := Lib.hid hrun
  clear hrun
  cases a0 with
  | none =>
    go_wp2_with (at_builtin; refine Ap.wpList_append_run (by rfl) _ _ _ _ rfl _ _ rfl rfl v2 w2 HRUN.out ?_)
    refine (all_any v2 (l ++ m) w2 (by simp; omega) HRD.out).mono ?_
    rintro e w' ⟨rfl, rfl⟩
    go_wp2_with fail
    refine (all_any _ l _ (by omega) (HR0.out.below HB2.out)).mono ?_
    rintro e w' ⟨rfl, rfl⟩
    go_wp2_with fail
    refine (all_any _ m _ (by omega) (HR1.out.below HB2.out)).mono ?_
    rintro e w' ⟨rfl, rfl⟩
    go_wp2_with (go_at_call 16; refine (both_any _ _ _).mono ?_; rintro e w' ⟨rfl, rfl⟩)
    go_ret
    exact ⟨rfl, HB2.out⟩
  | some ad =>
    go_wp2_with (at_builtin; refine Ap.wpList_append_run (by rfl) _ _ _ _ rfl _ _ rfl rfl v2 w2 HRUN.out ?_)
    refine (all_any v2 (l ++ m) w2 (by simp; omega) HRD.out).mono ?_
    rintro e w' ⟨rfl, rfl⟩
    go_wp2_with fail
    refine (all_any _ l _ (by omega) (HR0.out.below HB2.out)).mono ?_
    rintro e w' ⟨rfl, rfl⟩
    go_wp2_with fail
    refine (all_any _ m _ (by omega) (HR1.out.below HB2.out)).mono ?_
    rintro e w' ⟨rfl, rfl⟩
    go_wp2_with (go_at_call 16; refine (both_any _ _ _).mono ?_; rintro e w' ⟨rfl, rfl⟩)
    go_ret
    exact ⟨rfl, HB2.out⟩

set_option maxHeartbeats 1000000 in
theorem signParts_any (a0 a1 : Option Addr) (c0 c1 : Nat) (l m : List Int) (w : World) (h : Tab w) (hr0 : Row w (.slice a0 l.length c0) l) (hr1 : Row w (.slice a1 m.length c1) m) (hl0 : l.length ≤ c0) (hl1 : m.length ≤ c1) (hm0 : c0 ≤ maxLen) (hm1 : c1 ≤ maxLen)
    (hn0 : a0 = none → c0 = 0) (hn1 : a1 = none → c1 = 0) :
    Calls Tryd.prog 8 #[.slice a0 l.length c0, .slice a1 m.length c1] w fun e w' => e = .returned (.bool true) ∧ Below w.heap.size w w' := by
  by_cases h0 : 1000 < l.length
  · have g0 : decide (1000 < l.length) = true := by simpa using h0
    clear hr0 hr1 hn0 hn1
    have b0 := Nat.le_trans hl0 hm0
    have b1 := Nat.le_trans hl1 hm1
    unfold maxLen at b0 b1
    go_enter Tryd.func8, Tryd.ntmps8
    go_wp2_with fail
    refine (alive_any _ h).mono ?_
    rintro e w1 ⟨rfl, hb1⟩
    go_wp2_with fail
    go_ret
    exact ⟨rfl, hb1⟩
  · by_cases h1 : 1000 < m.length
    · have g0 : decide (1000 < l.length) = false := by simpa using h0
      have g1 : decide (1000 < m.length) = true := by simpa using h1
      clear hr0 hr1 hn0 hn1
      have b0 := Nat.le_trans hl0 hm0
      have b1 := Nat.le_trans hl1 hm1
      unfold maxLen at b0 b1
      go_enter Tryd.func8, Tryd.ntmps8
      go_wp2_with fail
      refine (alive_any _ h).mono ?_
      rintro e w1 ⟨rfl, hb1⟩
      go_wp2_with fail
      go_ret
      exact ⟨rfl, hb1⟩
    · exact signParts_few a0 a1 c0 c1 l m w h hr0 hr1 hl0 hl1 hn0 hn1 h0 h1
end Go.Proofs.YtdefohiccifdfaaDoor.Sg
