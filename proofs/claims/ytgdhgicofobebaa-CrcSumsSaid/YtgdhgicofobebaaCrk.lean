/- The document's Frame and Open. -/
import Derived.Test.YtgdhgicofobebaaCrj
import Derived.Deep.Upon
namespace Go.Proofs.Ytgdhgicofobebaa.Cr
open Go Go.RowKit
set_option maxRecDepth 20000

set_option maxHeartbeats 1000000 in
theorem frameR_long (n : Nat) (v : Value) (data : By) (w : World) (hv : Bys w v data) (hl : data.length > 2048) :
    Calls Try.prog 20 #[.int .u64 (n : Int), v] w fun e w' => e = .returned (.tuple #[.slice none 0 0, .bool false]) ∧ w = w' := by
  obtain ⟨a, m, c, rfl, hm⟩ := hv.split
  rw [hm] at hl
  clear hv hm
  go_enter Try.func20, Try.ntmps20
  go_wp2_with fail
  go_ret2
  exact ⟨rfl, rfl⟩
set_option maxHeartbeats 4000000 in
theorem frameR_any (n : Nat) (v : Value) (data : By) (w : World) (hv : Bys w v data) (hl : data.length ≤ 2048) (hn : n < 18446744073709551616) :
    Calls Try.prog 20 #[.int .u64 (n : Int), v] w fun e w' => ∃ y, e = .returned (.tuple #[y, .bool true]) ∧ OwB w' w.heap.size y (frame n data) ∧ Below w.heap.size w w' := by
  obtain ⟨a, m, c, rfl, hm⟩ := hv.split
  have HV := Lib.hid hv
  have HM := Lib.hid hm
  rw [hm] at hl
  have HP8 := Lib.hid (fun w1 => putR_any n 8 w1 hn)
  rw [show pm 8 = 8 from rfl] at HP8
  have HP4 := Lib.hid (fun w1 => putR_any m 4 w1 (by omega))
  rw [show pm 4 = 4 from rfl] at HP4
  have hwm : IntKind.u64.wrap (m : Int) = (m : Int) := IntWalk.u64_in _ ⟨by omega, by omega⟩
  clear hv hm hn
  go_enter Try.func20, Try.ntmps20
  go_wp2_with fail
  refine (HP8.out _).mono ?_
  rintro e w1 ⟨x1, rfl, ho1, hb1⟩
  obtain ⟨a1, m1, c1, rfl, hm1⟩ := ho1.bys.split
  rw [pu_len] at hm1
  subst hm1
  have O1 := Lib.hid ho1
  have D1 := Lib.hid hb1
  clear ho1 hb1
  go_wp2_with fail
  refine (HP4.out _).mono ?_
  rintro e w2 ⟨x2, rfl, ho2, hb2⟩
  obtain ⟨a2, m2, c2, rfl, hm2⟩ := ho2.bys.split
  rw [pu_len] at hm2
  subst hm2
  have D2 := D1.out.trans (hb2.mono D1.out.size)
  obtain ⟨v3, w3, r3, o3, _, b3, _⟩ := OwB.row (Ap.own_below O1.out hb2) D2.size ho2.bys (by rw [pu_len, pu_len]; omega)
  have R3 := Lib.hid r3
  have D3 := Lib.hid (D2.trans b3)
  have hh : pu 8 n ++ pu 4 m = hd n data := by unfold hd; rw [HM.out]
  unfold OwB at o3
  rw [hh] at o3
  change OwB w3 w.heap.size v3 (hd n data) at o3
  obtain ⟨a3, m3, c3, rfl, hm3⟩ := o3.bys.split
  rw [hd_len] at hm3
  subst hm3
  have O3 := Lib.hid o3
  have HS1 := Lib.hid (moreR_any 0 _ _ w3 o3.bys (by rw [hd_len]; omega))
  have HS2 := Lib.hid (moreR_any (more 0 (hd n data)) _ data w3 (HV.out.below D3.out) (by rw [HM.out]; omega))
  rw [show (((0 : BitVec 32).toNat : Nat) : Int) = 0 from rfl] at HS1
  rw [sm_two] at HS2
  obtain ⟨q, hq⟩ : ∃ q, (more 0 (hd n data)).toNat = q := ⟨_, rfl⟩
  rw [hq] at HS1 HS2
  obtain ⟨t, ht⟩ : ∃ t, (sm n data).toNat = t := ⟨_, rfl⟩
  have ht32 : t < 4294967296 := by rw [← ht]; exact (sm n data).isLt
  rw [ht] at HS2
  have HT := Lib.hid ht
  have HPS := Lib.hid (fun w1 => putR_any t 4 w1 (by omega))
  rw [show pm 4 = 4 from rfl] at HPS
  have hwt : IntKind.u64.wrap (t : Int) = (t : Int) := IntWalk.u64_in _ ⟨by omega, by omega⟩
  clear hq ht r3 o3 b3 ho2 hb2 D2 hh
  go_wp2_with (at_builtin; refine Ap.wpList_append_run (by rfl) (.tmp 12) (.tmp 16) _ _ rfl _ _ rfl rfl _ w3 R3.out ?_)
  refine HS1.out.mono ?_
  rintro e w' ⟨rfl, rfl⟩
  go_wp2_with fail
  refine HS2.out.mono ?_
  rintro e w' ⟨rfl, rfl⟩
  go_wp2_with fail
  refine (HPS.out _).mono ?_
  rintro e w4 ⟨x4, rfl, ho4, hb4⟩
  obtain ⟨a4, m4, c4, rfl, hm4⟩ := ho4.bys.split
  rw [pu_len] at hm4
  subst hm4
  have D4 := D3.out.trans (hb4.mono D3.out.size)
  obtain ⟨v5, w5, r5, o5, _, b5, _⟩ := OwB.row (Ap.own_below O3.out hb4) D4.size ho4.bys (by rw [hd_len, pu_len]; omega)
  have D5 := D4.trans b5
  obtain ⟨v6, w6, r6, o6, _, b6, _⟩ := OwB.row o5 D5.size (HV.out.below D5) (by rw [List.length_append, hd_len, pu_len, HM.out]; omega)
  have D6 := Lib.hid (D5.trans b6)
  obtain ⟨a5, m5, c5, rfl, hm5⟩ := o5.bys.split
  rw [List.length_append, hd_len, pu_len] at hm5
  subst hm5
  obtain ⟨a6, m6, c6, rfl, hm6⟩ := o6.bys.split
  have R5 := Lib.hid r5
  have R6 := Lib.hid r6
  have O6 : Hid (OwB w6 w.heap.size (.slice a6 m6 c6) (frame n data)) := by
    rw [show frame n data = (hd n data ++ pu 4 t) ++ data by rw [frame, HT.out, List.append_assoc]]
    exact o6
  clear ho4 hb4 D4 r5 o5 b5 D5 r6 o6 b6 hm6
  go_wp2_with (first
    | (at_builtin; refine Ap.wpList_append_run (by rfl) (.tmp 22) (.tmp 25) _ _ rfl _ _ rfl rfl _ w5 R5.out ?_)
    | (at_builtin; refine Ap.wpList_append_run (by rfl) (.tmp 27) (.tmp 28) _ _ rfl _ _ rfl rfl _ w6 R6.out ?_))
  go_ret2
  exact ⟨_, rfl, O6.out, D6.out⟩
set_option maxHeartbeats 1000000 in
theorem openR_short (v : Value) (b : By) (w : World) (hv : Bys w v b) (hl : b.length < 16) :
    Calls Try.prog 22 #[v] w fun e w' => e = .returned (.tuple #[.int .u64 0, .slice none 0 0, .bool false]) ∧ Below w.heap.size w w' := by
  obtain ⟨a, m, c, rfl, hm⟩ := hv.split
  rw [hm] at hl
  clear hv hm
  go_enter Try.func22, Try.ntmps22
  go_wp2_with fail
  go_ret3
  exact ⟨rfl, Below.refl _ _⟩
set_option maxHeartbeats 4000000 in
theorem openR_any (v : Value) (b : By) (w : World) (hv : Bys w v b) (hl : b.length ≤ 4398046511104) (h16 : 16 ≤ b.length) :
    Calls Try.prog 22 #[v] w fun e w' => (openF b = none ∧ e = .returned (.tuple #[.int .u64 0, .slice none 0 0, .bool false]) ∨ ∃ n d y, openF b = some (n, d) ∧ e = .returned (.tuple #[.int .u64 (n : Int), y, .bool true]) ∧ Bys w' y d) ∧ Below w.heap.size w w' := by
  obtain ⟨a, m, c, rfl, hm⟩ := hv.split
  have hcap := hv.cap
  obtain ⟨bk, off, rfl, -⟩ := hv.at (k := 0) (by omega)
  rw [hm] at hl h16
  have hk8 : ¬ c = 8 := by omega
  have i8 : (8 : Int) ≤ (m : Int) := by omega
  have V1 := hv.take (k := 8) (by omega)
  have V2 := (hv.take (k := 12) (by omega)).drop (k := 8) (a' := some ⟨bk, off + 8, none⟩) (by omega) (fun b o h _ => by cases h; rfl) (fun h => by cases h)
  have HG1 := Lib.hid (fun w' (hb : Below w.heap.size w w') => getR_any _ _ w' (V1.below hb) (by rw [List.length_take]; omega))
  have HG2 := Lib.hid (getR_any _ _ w V2 (by rw [List.length_drop, List.length_take]; omega))
  rw [List.take_take, Nat.min_self] at HG1
  rw [List.drop_take, List.take_take, show min 8 (12 - 8) = 4 from rfl] at HG2
  obtain ⟨n, hn⟩ : ∃ n, ge (b.take 8) = n := ⟨_, rfl⟩
  obtain ⟨L, hL⟩ : ∃ L, ge ((b.drop 8).take 4) = L := ⟨_, rfl⟩
  rw [hn] at HG1
  rw [hL] at HG2
  have hL32 : L < 4294967296 := by
    have h := ge_lt ((b.drop 8).take 4)
    rw [List.length_take, List.length_drop, Nat.min_eq_left (by omega), hL] at h
    exact h
  have hn64 : n < 18446744073709551616 := by
    have h := ge_lt (b.take 8)
    rw [List.length_take, Nat.min_eq_left (by omega), hn] at h
    exact h
  have HB := Lib.hid hm
  have HN := Lib.hid hn
  have HL := Lib.hid hL
  have V := Lib.hid hv
  have V16 := Lib.hid (fun dp h1 h2 => (hv.take (k := 16 + L) · |>.drop (k := 16) (a' := dp) (by omega) h1 h2))
  clear V1 V2 hm hn hL hv
  have ewL : IntKind.i64.wrap (L : Int) = (L : Int) := by rw [IntKind.wrap_i64]; omega
  by_cases hbig : L > 2048
  · have HF : Hid (openF b = none) := by
      unfold openF
      rw [HL.out, HB.out, if_neg (by omega), if_pos (by omega)]
      exact Lib.hid rfl
    have g1 : decide ((L : Int) > 2048) = true := decide_eq_true (by omega)
    go_enter Try.func22, Try.ntmps22
    go_wp2_with fail
    refine HG2.out.mono ?_
    rintro e w' ⟨rfl, rfl⟩
    go_wp2_with fail
    go_ret3
    exact ⟨Or.inl ⟨HF.out, rfl⟩, Below.refl _ _⟩
  have g1 : decide ((L : Int) > 2048) = false := decide_eq_false (by omega)
  by_cases hbig2 : L + 16 > m
  · have HF : Hid (openF b = none) := by
      unfold openF
      rw [HL.out, HB.out, if_neg (by omega), if_pos (by omega)]
      exact Lib.hid rfl
    have g2 : decide ((L : Int) + 16 > (m : Int)) = true := decide_eq_true (by omega)
    go_enter Try.func22, Try.ntmps22
    go_wp2_with fail
    refine HG2.out.mono ?_
    rintro e w' ⟨rfl, rfl⟩
    go_wp2_with fail
    go_ret3
    exact ⟨Or.inl ⟨HF.out, rfl⟩, Below.refl _ _⟩
  have g2 : decide ((L : Int) + 16 > (m : Int)) = false := decide_eq_false (by omega)
  obtain ⟨dp, hdp⟩ : ∃ dp : Option Addr, (if c = 16 then some ⟨bk, off, none⟩ else some ⟨bk, off + 16, none⟩) = dp := ⟨_, rfl⟩
  have VD : Bys w (.slice dp L (c - 16)) ((b.drop 16).take L) := by
    have h := V16.out dp (fun b' o h hlt => by cases h; rw [← hdp, if_neg (by omega)]) (fun h => by rw [← hdp] at h; split at h <;> cases h) (by omega)
    rw [List.drop_take, Nat.add_sub_cancel_left] at h
    exact h
  have hdl : ((b.drop 16).take L).length = L := by rw [List.length_take, List.length_drop, HB.out]; omega
  have HO : Hid (openF b = if frame n ((b.drop 16).take L) = b.take (16 + L) then some (n, (b.drop 16).take L) else none) := by
    show _ = _
    unfold openF
    rw [HL.out, HN.out, HB.out, if_neg (by omega), if_neg (by omega)]
  have V0 := V.out.take (k := 16 + L) (by omega)
  have HT := Lib.hid (fun w' (hb : Below w.heap.size w w') => V0.below hb)
  generalize (b.drop 16).take L = d at VD hdl HO
  have HDL := Lib.hid hdl
  obtain ⟨M, hM⟩ : ∃ M, 16 + L = M := ⟨_, rfl⟩
  have hM16 : M - 16 = L := by omega
  rw [← hM16] at VD
  rw [hM] at HO HT
  have HF := Lib.hid (fun w' (hb : Below w.heap.size w w') => frameR_any n _ d w' (VD.below hb) (by omega) hn64)
  have e17 : IntKind.i64.wrap (16 + (L : Int)) = (M : Int) := by rw [IntKind.wrap_i64]; omega
  have j1 : M ≤ c := by omega
  have j2 : (16 : Int) ≤ (M : Int) := by omega
  have j3 : (M : Int) ≤ (c : Int) := by omega
  have e18 : (16 : Int) + (L : Int) = (M : Int) := by omega
  have e19 : IntKind.i64.wrap (M : Int) = (M : Int) := by rw [IntKind.wrap_i64]; omega
  have HM := Lib.hid hM
  have j4 : 16 ≤ M := by omega
  have j5 : (8 : Int) ≤ (c : Int) := by omega
  have j6 : (0 : Int) ≤ (M : Int) := by omega
  clear V16 VD hdl V0 hM16 hM
  go_enter Try.func22, Try.ntmps22
  go_wp2_with fail
  refine HG2.out.mono ?_
  rintro e w' ⟨rfl, rfl⟩
  go_wp2_with fail
  have R0 := Lib.hid (Below.refl w.heap.size w)
  go_region_held3 (fun _ => True) (exact trivial) (first
    | (go_at_call 18
       (with_reducible refine (HG1.out _ R0.out.drew).mono ?_)
       rintro e w' ⟨rfl, rfl⟩)
    | (go_at_call 20
       (with_reducible refine (HF.out _ R0.out.drew).mono ?_)
       rintro e w1 ⟨y, rfl, hy, hb1⟩
       obtain ⟨ay, my, cy, rfl, hmy⟩ := hy.bys.split
       have hfl : M = my := by rw [← hmy, frame_len, HDL.out]; exact HM.out.symm
       subst hfl
       have HY := Lib.hid hy
       have D1 := Lib.hid (R0.out.drew.trans hb1)
       clear hy hb1 hmy)
    | fail)
  have HS := Lib.hid (sameR_any _ _ (frame n d) (b.take M) w1 HY.out.bys (HT.out _ D1.out) (by rw [frame_len, HDL.out]; omega) (by rw [List.length_take]; omega))
  by_cases he : frame n d = b.take M
  · rw [decide_eq_true he] at HS
    have HE : Hid (openF b = some (n, d)) := by have := HO.out; rw [if_pos he] at this; exact this
    clear he
    go_wp2_with fail
    refine HS.out.mono ?_
    rintro e w2 ⟨rfl, hb2⟩
    go_wp2_with fail
    have hO : OwB w1 w.drew.heap.size (.slice ay M cy) ((hd n d ++ pu 4 (sm n d).toNat) ++ d) := by
      have h := HY.out
      rw [show frame n d = (hd n d ++ pu 4 (sm n d).toNat) ++ d by rw [frame, List.append_assoc]] at h
      exact h
    have hx16 : (hd n d ++ pu 4 (sm n d).toNat).length = 16 := by rw [List.length_append, hd_len, pu_len]
    obtain ⟨g, _, hag, -, -, -⟩ := hO.parts (by rw [List.length_append]; omega)
    subst hag
    have hcy : M ≤ cy := hO.bys.cap
    obtain ⟨dq, hdq⟩ : ∃ dq : Option Addr, (if cy = 16 then some ⟨g, 0, none⟩ else some ⟨g, 16, none⟩) = dq := ⟨_, rfl⟩
    have HW : Hid (Bys w2 (.slice dq (M - 16) (cy - 16)) d) := by
      have h := hO.behind (a' := dq) (by omega) (fun g' hg' => by
        cases hg'
        rw [hx16]
        exact ⟨fun h0 => by rw [← hdq, if_neg (by have := HDL.out; omega)], fun h0 => by rw [← hdq] at h0; split at h0 <;> cases h0⟩)
      rw [hx16] at h
      exact h.bys.below hb2
    have D2 := Lib.hid (D1.out.trans (hb2.mono D1.out.size))
    have HGQ := Lib.hid (fun j => HG1.out (w2.drewN j) (D2.out.trans (Below.drewN _ _ _)))
    have HDW := Lib.hid (fun j => D2.out.trans (Below.drewN _ j w2))
    clear hO hx16 hb2
    go_quiet (with_reducible refine Calls.quiet_of_same ((HGQ.out _).mono fun _ _ h => ⟨h.1, h.2.symm⟩))
    go_wp2_with fail
    go_ret3
    exact ⟨Or.inr ⟨n, d, _, HE.out, rfl, HW.out.below (Below.drewN _ _ _)⟩, HDW.out _⟩
  · rw [decide_eq_false he] at HS
    have HE : Hid (openF b = none) := by have := HO.out; rw [if_neg he] at this; exact this
    clear he
    go_wp2_with fail
    refine HS.out.mono ?_
    rintro e w2 ⟨rfl, hb2⟩
    go_wp2_with fail
    go_ret3
    exact ⟨Or.inl ⟨HE.out, rfl⟩, D1.out.trans (hb2.mono D1.out.size)⟩
/-- What the program's Open tells. -/
def OpP (w : World) (b : By) (e : Ending) (w' : World) : Prop := (openF b = none ∧ e = .returned (.tuple #[.int .u64 0, .slice none 0 0, .bool false]) ∨ ∃ n d y, openF b = some (n, d) ∧ e = .returned (.tuple #[.int .u64 (n : Int), y, .bool true]) ∧ Wr w' w.heap.size y d) ∧ Below w.heap.size w w'
theorem openP_all (v : Value) (b : By) (w : World) (hv : Bys w v b) (hl : b.length ≤ 4398046511104) : Calls Try.prog 21 #[v] w (OpP w b) := by
  rcases Nat.lt_or_ge b.length 16 with h | h
  · exact (openP_short v b w hv h).mono fun e w' ⟨h1, h2⟩ => ⟨.inl ⟨by unfold openF; rw [if_pos h], h1⟩, h2⟩
  · exact openP_any v b w hv hl h
/-- What the document's Open tells. -/
def OpR (w : World) (b : By) (e : Ending) (w' : World) : Prop := (openF b = none ∧ e = .returned (.tuple #[.int .u64 0, .slice none 0 0, .bool false]) ∨ ∃ n d y, openF b = some (n, d) ∧ e = .returned (.tuple #[.int .u64 (n : Int), y, .bool true]) ∧ Bys w' y d) ∧ Below w.heap.size w w'
theorem openR_all (v : Value) (b : By) (w : World) (hv : Bys w v b) (hl : b.length ≤ 4398046511104) : Calls Try.prog 22 #[v] w (OpR w b) := by
  rcases Nat.lt_or_ge b.length 16 with h | h
  · exact (openR_short v b w hv h).mono fun e w' ⟨h1, h2⟩ => ⟨.inl ⟨by unfold openF; rw [if_pos h], h1⟩, h2⟩
  · exact openR_any v b w hv hl h
end Go.Proofs.Ytgdhgicofobebaa.Cr
