/- SettleBegins: the walk. The program's Ended at any row; SettleBegins. -/
import Derived.Test.YtgaediondmdnbaaQ22
import Derived.Test.YtgaediondmdnbaaQ08
import Derived.Test.YtgaediondmdnbaaQ15
import Derived.Deep.RegionHeld3

namespace Go.Proofs.Ytgaediondmdnbaa.Se
open Go Go.RowKit Go.Proofs.Ytgaediondmdnbaa.Rw Go.Proofs.Ytgaediondmdnbaa.So
set_option maxRecDepth 20000

/-- What comes of a term. -/
noncomputable def bg (l : List Nd) : List Nd := if rightB l then st l else []
theorem right_of {l : List Nd} (h : rightB l = true) : of l ≠ 0 := by
  unfold rightB at h
  simp only [Bool.and_eq_true, beq_iff_eq] at h
  omega
theorem bg_len (l : List Nd) : (bg l).length ≤ l.length := by
  unfold bg
  split
  · exact st_len l
  · exact Nat.zero_le _
theorem beginP_any (v : Value) (l : List Nd) (w : World) (hv : Nds w v l) (hl : l.length ≤ 1000) (hm : Nms l) : Calls Try.prog 15 #[v] w (OutL (bg l) w) := by
  unfold bg
  cases h : rightB l with
  | false => exact beginP_no v l w hv hl hm h
  | true =>
    obtain ⟨t, rfl, hg⟩ := goes_of (right_of h)
    rw [if_pos rfl, st_go hg]
    exact beginP_go v t w hv hm hg h
set_option maxHeartbeats 1000000 in
theorem beginR_any (v : Value) (l : List Nd) (w : World) (hv : Nds w v l) (hl : l.length ≤ 1000) (hm : Nms l) : Calls Try.prog 16 #[v] w (OutL (bg l) w) := by
  have HO := Lib.hid (rightSR_any l v w hv hl hm)
  have HS := Lib.hid (fun w1 (hb : Below w.heap.size w w1) => settleR_any v l w1 (hv.below hb) hl hm)
  unfold OutL at HS
  unfold bg OutL
  obtain ⟨_, a, c, rfl, -⟩ := id hv
  cases h : rightB l with
  | false =>
    rw [h] at HO
    clear hv hm h
    go_enter Try.func16, Try.ntmps16
    go_wp2_with fail
    refine HO.out.mono ?_
    rintro e w1 ⟨rfl, hb⟩
    have B1 := Lib.hid hb
    clear hb
    go_wp2_with fail
    go_ret
    exact ⟨_, rfl, nds_nil _, B1.out⟩
  | true =>
    rw [h] at HO
    rw [if_pos rfl]
    clear hv hm h
    go_enter Try.func16, Try.ntmps16
    go_wp2_with fail
    refine HO.out.mono ?_
    rintro e w1 ⟨rfl, hb⟩
    have B1 := Lib.hid hb
    clear hb
    go_wp2_with fail
    refine (HS.out _ B1.out).mono ?_
    rintro e w2 ⟨y, rfl, hn, hb⟩
    have B2 := Lib.hid (B1.out.trans (hb.mono B1.out.size))
    have N2 := Lib.hid hn
    clear hb hn
    go_wp2_with fail
    go_ret
    exact ⟨_, rfl, N2.out, B2.out⟩
set_option maxHeartbeats 1000000 in
theorem begins_far (v : Value) (l : List Nd) (w0 : World) (hv : Nds w0 v l) (hf : fewB l = false) : Calls Try.prog 4 #[v] w0 fun e w' => e = .returned (.bool true) ∧ Below w0.heap.size w0 w' := by
  have V := Lib.hid hv
  obtain ⟨_, a, cap, rfl, -⟩ := hv
  go_enter Try.func4, Try.ntmps4
  go_wp2_with fail
  refine (few_any _ l _ V.out).mono ?_
  rw [hf]
  rintro e w' ⟨rfl, rfl⟩
  go_wp2_with fail
  refine (alive_any _).mono ?_
  rintro e wn ⟨rfl, hb⟩
  go_wp2_with fail
  go_ret
  exact ⟨rfl, hb⟩
set_option maxHeartbeats 4000000 in
theorem begins_none (a : Option Addr) (cap : Nat) (m : List Nd) (w0 : World) (hv : Nds w0 (.slice a 0 cap) []) (hE : ∀ v w1, Nds w1 v [] → Calls Try.prog 14 #[v] w1 fun e w' => e = .returned (.tuple #[.int .i64 0, .bool false]) ∧ Below w1.heap.size w1 w')
    (hP : ∀ v w1, Nds w1 v [] → Calls Try.prog 15 #[v] w1 (OutL m w1))
    (hR : ∀ v w1, Nds w1 v [] → Calls Try.prog 16 #[v] w1 (OutL m w1))
    (hQ : ∀ u z w1, Nds w1 u m → Nds w1 z m → Calls Try.prog 12 #[u, z] w1 fun e w' => e = .returned (.bool true) ∧ Below w1.heap.size w1 w')
    (hS : ∀ v w1, Nds w1 v [] → Calls Try.prog 17 #[v] w1 fun e w' => e = .returned (.bool false) ∧ Below w1.heap.size w1 w') :
    Calls Try.prog 4 #[.slice a 0 cap] w0 fun e w' => e = .returned (.bool true) ∧ Below w0.heap.size w0 w' := by
  have hf : fewB [] = true := by decide +kernel
  have V := Lib.hid hv
  have D := Lib.hid (Below.refl w0.heap.size w0)
  have HEN := Lib.hid hE
  have HBP := Lib.hid hP
  have HBR := Lib.hid hR
  have HSQ := Lib.hid hS
  have HQ := Lib.hid hQ
  clear hv hE hP hR hS hQ
  go_enter Try.func4, Try.ntmps4
  go_wp2_with fail
  refine (few_any _ [] _ V.out).mono ?_
  rw [hf]
  rintro e w' ⟨rfl, rfl⟩
  go_wp2_with fail
  refine (HEN.out _ _ V.out).mono ?_
  rintro e w1 ⟨rfl, hb⟩
  replace V := Lib.hid (V.out.below hb)
  replace D := Lib.hid (D.out.trans (hb.mono D.out.size))
  clear hb
  go_wp2_with fail
  refine (alive_any w1).mono ?_
  rintro e w2 ⟨rfl, hb⟩
  replace V := Lib.hid (V.out.below hb)
  replace D := Lib.hid (D.out.trans (hb.mono D.out.size))
  clear hb
  go_wp2_with fail
  refine (HBP.out _ _ V.out).mono ?_
  rintro e w3 ⟨yP, rfl, hn, hb⟩
  obtain ⟨_, aP, cP, rfl, -⟩ := id hn
  replace V := Lib.hid (V.out.below hb)
  replace D := Lib.hid (D.out.trans (hb.mono D.out.size))
  have P := Lib.hid hn
  clear hn
  clear hb
  go_wp2_with fail
  refine (HBR.out _ _ V.out).mono ?_
  rintro e w4 ⟨yR, rfl, hn, hb⟩
  obtain ⟨_, aR, cR, rfl, -⟩ := id hn
  replace V := Lib.hid (V.out.below hb)
  replace P := Lib.hid (P.out.below hb)
  replace D := Lib.hid (D.out.trans (hb.mono D.out.size))
  have R := Lib.hid hn
  clear hn
  clear hb
  go_wp2_with fail
  refine (HQ.out _ _ _ P.out R.out).mono ?_
  rintro e w5 ⟨rfl, hb⟩
  replace V := Lib.hid (V.out.below hb)
  replace P := Lib.hid (P.out.below hb)
  replace R := Lib.hid (R.out.below hb)
  replace D := Lib.hid (D.out.trans (hb.mono D.out.size))
  clear hb
  go_wp2_with fail
  refine (HSQ.out _ _ V.out).mono ?_
  rintro e w6 ⟨rfl, hb⟩
  replace V := Lib.hid (V.out.below hb)
  replace P := Lib.hid (P.out.below hb)
  replace R := Lib.hid (R.out.below hb)
  replace D := Lib.hid (D.out.trans (hb.mono D.out.size))
  clear hb
  go_wp2_with fail
  go_ret
  exact ⟨rfl, D.out⟩
set_option maxHeartbeats 4000000 in
theorem begins_more (a : Option Addr) (n cap : Nat) (l m k : List Nd) (q : Bool) (w0 : World) (hf : fewB l = true) (h2 : 2 ≤ n) (hv : Nds w0 (.slice a n cap) l) (hE : ∀ v w1, Nds w1 v l → Calls Try.prog 14 #[v] w1 fun e w' => e = .returned (.tuple #[.int .i64 0, .bool false]) ∧ Below w1.heap.size w1 w')
    (hP : ∀ v w1, Nds w1 v l → Calls Try.prog 15 #[v] w1 (OutL m w1))
    (hR : ∀ v w1, Nds w1 v l → Calls Try.prog 16 #[v] w1 (OutL m w1))
    (hQ : ∀ u z w1, Nds w1 u m → Nds w1 z m → Calls Try.prog 12 #[u, z] w1 fun e w' => e = .returned (.bool true) ∧ Below w1.heap.size w1 w')
    (hS : ∀ v w1, Nds w1 v l → Calls Try.prog 17 #[v] w1 fun e w' => e = .returned (.bool q) ∧ Below w1.heap.size w1 w')
    (hS2 : ∀ v w1, Nds w1 v l → Calls Try.prog 13 #[v] w1 (OutL k w1))
    (hQ2 : ∀ u z w1, Nds w1 u k → Nds w1 z l → Calls Try.prog 12 #[u, z] w1 fun e w' => e = .returned (.bool q) ∧ Below w1.heap.size w1 w') :
    Calls Try.prog 4 #[.slice a n cap] w0 fun e w' => e = .returned (.bool true) ∧ Below w0.heap.size w0 w' := by
  have g1 : ((n : Int) == 1) = false := by rw [beq_eq_false_iff_ne]; omega
  have gp : decide ((n : Int) > 0) = true := decide_eq_true (by omega)
  have gp2 : decide (0 < n) = true := decide_eq_true (by omega)
  have gp3 : decide ((0 : Int) < (n : Int)) = true := decide_eq_true (by omega)
  have gq : (q == q) = true := by cases q <;> rfl
  have V := Lib.hid hv
  have D := Lib.hid (Below.refl w0.heap.size w0)
  have HEN := Lib.hid hE
  have HBP := Lib.hid hP
  have HBR := Lib.hid hR
  have HSQ := Lib.hid hS
  have HQ := Lib.hid hQ
  have HSR := Lib.hid hS2
  have HQ2 := Lib.hid hQ2
  clear hv hE hP hR hS hQ hS2 hQ2 h2
  go_enter Try.func4, Try.ntmps4
  go_wp2_with fail
  refine (few_any _ l _ V.out).mono ?_
  rw [hf]
  rintro e w' ⟨rfl, rfl⟩
  clear hf
  go_wp2_with fail
  refine (HEN.out _ _ V.out).mono ?_
  rintro e w1 ⟨rfl, hb⟩
  replace V := Lib.hid (V.out.below hb)
  replace D := Lib.hid (D.out.trans (hb.mono D.out.size))
  clear hb
  go_wp2_with fail
  refine (alive_any w1).mono ?_
  rintro e w2 ⟨rfl, hb⟩
  replace V := Lib.hid (V.out.below hb)
  replace D := Lib.hid (D.out.trans (hb.mono D.out.size))
  clear hb
  go_wp2_with fail
  refine (HBP.out _ _ V.out).mono ?_
  rintro e w3 ⟨yP, rfl, hn, hb⟩
  obtain ⟨_, aP, cP, rfl, -⟩ := id hn
  replace V := Lib.hid (V.out.below hb)
  replace D := Lib.hid (D.out.trans (hb.mono D.out.size))
  have P := Lib.hid hn
  clear hn
  clear hb
  go_wp2_with fail
  refine (HBR.out _ _ V.out).mono ?_
  rintro e w4 ⟨yR, rfl, hn, hb⟩
  obtain ⟨_, aR, cR, rfl, -⟩ := id hn
  replace V := Lib.hid (V.out.below hb)
  replace P := Lib.hid (P.out.below hb)
  replace D := Lib.hid (D.out.trans (hb.mono D.out.size))
  have R := Lib.hid hn
  clear hn
  clear hb
  go_wp2_with fail
  refine (HQ.out _ _ _ P.out R.out).mono ?_
  rintro e w5 ⟨rfl, hb⟩
  replace V := Lib.hid (V.out.below hb)
  replace P := Lib.hid (P.out.below hb)
  replace R := Lib.hid (R.out.below hb)
  replace D := Lib.hid (D.out.trans (hb.mono D.out.size))
  clear hb
  go_wp2_with fail
  refine (HSQ.out _ _ V.out).mono ?_
  rintro e w6 ⟨rfl, hb⟩
  replace V := Lib.hid (V.out.below hb)
  replace P := Lib.hid (P.out.below hb)
  replace R := Lib.hid (R.out.below hb)
  replace D := Lib.hid (D.out.trans (hb.mono D.out.size))
  clear hb
  go_wp2_with fail
  refine (HSR.out _ _ V.out).mono ?_
  rintro e w7 ⟨yT, rfl, hn, hb⟩
  obtain ⟨_, aT, cT, rfl, -⟩ := id hn
  replace V := Lib.hid (V.out.below hb)
  replace P := Lib.hid (P.out.below hb)
  replace R := Lib.hid (R.out.below hb)
  replace D := Lib.hid (D.out.trans (hb.mono D.out.size))
  have T := Lib.hid hn
  clear hn
  clear hb
  go_wp2_with fail
  refine (HQ2.out _ _ _ T.out V.out).mono ?_
  rintro e w8 ⟨rfl, hb⟩
  replace V := Lib.hid (V.out.below hb)
  replace P := Lib.hid (P.out.below hb)
  replace R := Lib.hid (R.out.below hb)
  replace T := Lib.hid (T.out.below hb)
  replace D := Lib.hid (D.out.trans (hb.mono D.out.size))
  clear hb
  go_wp2_with fail
  go_ret
  exact ⟨rfl, D.out⟩
set_option maxHeartbeats 4000000 in
theorem begins_over (x : Nd) (b o cap : Nat) (m k : List Nd) (q : Bool) (w0 : World) (hf : fewB [x] = true) (gk : (x.k == 11) = true) (e0 : w0.cell? ⟨b, o, none⟩ = some (.int .i64 x.k)) (e2 : w0.cell? ⟨b, o + 2, none⟩ = some (.int .i64 x.s)) (hv : Nds w0 (.slice (some ⟨b, o, none⟩) 1 cap) [x]) (hE : ∀ v w1, Nds w1 v [x] → Calls Try.prog 14 #[v] w1 fun e w' => e = .returned (.tuple #[.int .i64 x.s, .bool true]) ∧ Below w1.heap.size w1 w')
    (hP : ∀ v w1, Nds w1 v [x] → Calls Try.prog 15 #[v] w1 (OutL m w1))
    (hR : ∀ v w1, Nds w1 v [x] → Calls Try.prog 16 #[v] w1 (OutL m w1))
    (hQ : ∀ u z w1, Nds w1 u m → Nds w1 z m → Calls Try.prog 12 #[u, z] w1 fun e w' => e = .returned (.bool true) ∧ Below w1.heap.size w1 w')
    (hS : ∀ v w1, Nds w1 v [x] → Calls Try.prog 17 #[v] w1 fun e w' => e = .returned (.bool q) ∧ Below w1.heap.size w1 w')
    (hS2 : ∀ v w1, Nds w1 v [x] → Calls Try.prog 13 #[v] w1 (OutL k w1))
    (hQ2 : ∀ u z w1, Nds w1 u k → Nds w1 z [x] → Calls Try.prog 12 #[u, z] w1 fun e w' => e = .returned (.bool q) ∧ Below w1.heap.size w1 w') :
    Calls Try.prog 4 #[.slice (some ⟨b, o, none⟩) 1 cap] w0 fun e w' => e = .returned (.bool true) ∧ Below w0.heap.size w0 w' := by
  have hlt : b < w0.heap.size := Ap.cell_lt e0
  have SW : Hid (∀ w', Below w0.heap.size w0 w' → w'.cell? ⟨b, o, none⟩ = some (.int .i64 x.k) ∧ w'.cell? ⟨b, o + 2, none⟩ = some (.int .i64 x.s)) := Lib.hid fun w' hb => by
    rw [hb.cell (p := ⟨b, o, none⟩) hlt, hb.cell (p := ⟨b, o + 2, none⟩) hlt]
    exact ⟨e0, e2⟩
  have gq : (q == q) = true := by cases q <;> rfl
  obtain ⟨xk, hxk⟩ : ∃ z, x.k = z := ⟨_, rfl⟩
  obtain ⟨xs, hxs⟩ : ∃ z, x.s = z := ⟨_, rfl⟩
  rw [hxk] at gk SW
  rw [hxs] at SW hE
  have gs : (xs == xs) = true := beq_self_eq_true xs
  have V := Lib.hid hv
  have D := Lib.hid (Below.refl w0.heap.size w0)
  have HEN := Lib.hid hE
  have HBP := Lib.hid hP
  have HBR := Lib.hid hR
  have HSQ := Lib.hid hS
  have HQ := Lib.hid hQ
  have HSR := Lib.hid hS2
  have HQ2 := Lib.hid hQ2
  clear hv hE hP hR hS hQ hS2 hQ2 e0 e2 hxk hxs hlt
  go_enter Try.func4, Try.ntmps4
  go_wp2_with fail
  refine (few_any _ [x] _ V.out).mono ?_
  rw [hf]
  rintro e w' ⟨rfl, rfl⟩
  clear hf
  obtain ⟨c0, c2⟩ := SW.out _ D.out
  go_wp2_with fail
  clear c0 c2
  refine (HEN.out _ _ V.out).mono ?_
  rintro e w1 ⟨rfl, hb⟩
  replace V := Lib.hid (V.out.below hb)
  replace D := Lib.hid (D.out.trans (hb.mono D.out.size))
  clear hb
  obtain ⟨c0, c2⟩ := SW.out _ D.out
  go_wp2_with fail
  clear c0 c2
  refine (alive_any w1).mono ?_
  rintro e w2 ⟨rfl, hb⟩
  replace V := Lib.hid (V.out.below hb)
  replace D := Lib.hid (D.out.trans (hb.mono D.out.size))
  clear hb
  obtain ⟨c0, c2⟩ := SW.out _ D.out
  go_wp2_with fail
  clear c0 c2
  refine (HBP.out _ _ V.out).mono ?_
  rintro e w3 ⟨yP, rfl, hn, hb⟩
  obtain ⟨_, aP, cP, rfl, -⟩ := id hn
  replace V := Lib.hid (V.out.below hb)
  replace D := Lib.hid (D.out.trans (hb.mono D.out.size))
  have P := Lib.hid hn
  clear hn
  clear hb
  obtain ⟨c0, c2⟩ := SW.out _ D.out
  go_wp2_with fail
  clear c0 c2
  refine (HBR.out _ _ V.out).mono ?_
  rintro e w4 ⟨yR, rfl, hn, hb⟩
  obtain ⟨_, aR, cR, rfl, -⟩ := id hn
  replace V := Lib.hid (V.out.below hb)
  replace P := Lib.hid (P.out.below hb)
  replace D := Lib.hid (D.out.trans (hb.mono D.out.size))
  have R := Lib.hid hn
  clear hn
  clear hb
  obtain ⟨c0, c2⟩ := SW.out _ D.out
  go_wp2_with fail
  clear c0 c2
  refine (HQ.out _ _ _ P.out R.out).mono ?_
  rintro e w5 ⟨rfl, hb⟩
  replace V := Lib.hid (V.out.below hb)
  replace P := Lib.hid (P.out.below hb)
  replace R := Lib.hid (R.out.below hb)
  replace D := Lib.hid (D.out.trans (hb.mono D.out.size))
  clear hb
  obtain ⟨c0, c2⟩ := SW.out _ D.out
  go_wp2_with fail
  clear c0 c2
  refine (HSQ.out _ _ V.out).mono ?_
  rintro e w6 ⟨rfl, hb⟩
  replace V := Lib.hid (V.out.below hb)
  replace P := Lib.hid (P.out.below hb)
  replace R := Lib.hid (R.out.below hb)
  replace D := Lib.hid (D.out.trans (hb.mono D.out.size))
  clear hb
  obtain ⟨c0, c2⟩ := SW.out _ D.out
  go_wp2_with fail
  clear c0 c2
  refine (HSR.out _ _ V.out).mono ?_
  rintro e w7 ⟨yT, rfl, hn, hb⟩
  obtain ⟨_, aT, cT, rfl, -⟩ := id hn
  replace V := Lib.hid (V.out.below hb)
  replace P := Lib.hid (P.out.below hb)
  replace R := Lib.hid (R.out.below hb)
  replace D := Lib.hid (D.out.trans (hb.mono D.out.size))
  have T := Lib.hid hn
  clear hn
  clear hb
  obtain ⟨c0, c2⟩ := SW.out _ D.out
  go_wp2_with fail
  clear c0 c2
  refine (HQ2.out _ _ _ T.out V.out).mono ?_
  rintro e w8 ⟨rfl, hb⟩
  replace V := Lib.hid (V.out.below hb)
  replace P := Lib.hid (P.out.below hb)
  replace R := Lib.hid (R.out.below hb)
  replace T := Lib.hid (T.out.below hb)
  replace D := Lib.hid (D.out.trans (hb.mono D.out.size))
  clear hb
  obtain ⟨c0, c2⟩ := SW.out _ D.out
  go_wp2_with fail
  clear c0 c2
  go_ret
  exact ⟨rfl, D.out⟩
set_option maxHeartbeats 4000000 in
theorem begins_other (x : Nd) (b o cap : Nat) (m k : List Nd) (q : Bool) (w0 : World) (hf : fewB [x] = true) (gk : (x.k == 11) = false) (e0 : w0.cell? ⟨b, o, none⟩ = some (.int .i64 x.k)) (e2 : w0.cell? ⟨b, o + 2, none⟩ = some (.int .i64 x.s)) (hv : Nds w0 (.slice (some ⟨b, o, none⟩) 1 cap) [x]) (hE : ∀ v w1, Nds w1 v [x] → Calls Try.prog 14 #[v] w1 fun e w' => e = .returned (.tuple #[.int .i64 0, .bool false]) ∧ Below w1.heap.size w1 w')
    (hP : ∀ v w1, Nds w1 v [x] → Calls Try.prog 15 #[v] w1 (OutL m w1))
    (hR : ∀ v w1, Nds w1 v [x] → Calls Try.prog 16 #[v] w1 (OutL m w1))
    (hQ : ∀ u z w1, Nds w1 u m → Nds w1 z m → Calls Try.prog 12 #[u, z] w1 fun e w' => e = .returned (.bool true) ∧ Below w1.heap.size w1 w')
    (hS : ∀ v w1, Nds w1 v [x] → Calls Try.prog 17 #[v] w1 fun e w' => e = .returned (.bool q) ∧ Below w1.heap.size w1 w')
    (hS2 : ∀ v w1, Nds w1 v [x] → Calls Try.prog 13 #[v] w1 (OutL k w1))
    (hQ2 : ∀ u z w1, Nds w1 u k → Nds w1 z [x] → Calls Try.prog 12 #[u, z] w1 fun e w' => e = .returned (.bool q) ∧ Below w1.heap.size w1 w') :
    Calls Try.prog 4 #[.slice (some ⟨b, o, none⟩) 1 cap] w0 fun e w' => e = .returned (.bool true) ∧ Below w0.heap.size w0 w' := by
  have hlt : b < w0.heap.size := Ap.cell_lt e0
  have SW : Hid (∀ w', Below w0.heap.size w0 w' → w'.cell? ⟨b, o, none⟩ = some (.int .i64 x.k) ∧ w'.cell? ⟨b, o + 2, none⟩ = some (.int .i64 x.s)) := Lib.hid fun w' hb => by
    rw [hb.cell (p := ⟨b, o, none⟩) hlt, hb.cell (p := ⟨b, o + 2, none⟩) hlt]
    exact ⟨e0, e2⟩
  have gq : (q == q) = true := by cases q <;> rfl
  obtain ⟨xk, hxk⟩ : ∃ z, x.k = z := ⟨_, rfl⟩
  obtain ⟨xs, hxs⟩ : ∃ z, x.s = z := ⟨_, rfl⟩
  rw [hxk] at gk SW
  rw [hxs] at SW
  have gs : (xs == xs) = true := beq_self_eq_true xs
  have V := Lib.hid hv
  have D := Lib.hid (Below.refl w0.heap.size w0)
  have HEN := Lib.hid hE
  have HBP := Lib.hid hP
  have HBR := Lib.hid hR
  have HSQ := Lib.hid hS
  have HQ := Lib.hid hQ
  have HSR := Lib.hid hS2
  have HQ2 := Lib.hid hQ2
  clear hv hE hP hR hS hQ hS2 hQ2 e0 e2 hxk hxs hlt
  go_enter Try.func4, Try.ntmps4
  go_wp2_with fail
  refine (few_any _ [x] _ V.out).mono ?_
  rw [hf]
  rintro e w' ⟨rfl, rfl⟩
  clear hf
  obtain ⟨c0, c2⟩ := SW.out _ D.out
  go_wp2_with fail
  clear c0 c2
  refine (HEN.out _ _ V.out).mono ?_
  rintro e w1 ⟨rfl, hb⟩
  replace V := Lib.hid (V.out.below hb)
  replace D := Lib.hid (D.out.trans (hb.mono D.out.size))
  clear hb
  obtain ⟨c0, c2⟩ := SW.out _ D.out
  go_wp2_with fail
  clear c0 c2
  refine (alive_any w1).mono ?_
  rintro e w2 ⟨rfl, hb⟩
  replace V := Lib.hid (V.out.below hb)
  replace D := Lib.hid (D.out.trans (hb.mono D.out.size))
  clear hb
  obtain ⟨c0, c2⟩ := SW.out _ D.out
  go_wp2_with fail
  clear c0 c2
  refine (HBP.out _ _ V.out).mono ?_
  rintro e w3 ⟨yP, rfl, hn, hb⟩
  obtain ⟨_, aP, cP, rfl, -⟩ := id hn
  replace V := Lib.hid (V.out.below hb)
  replace D := Lib.hid (D.out.trans (hb.mono D.out.size))
  have P := Lib.hid hn
  clear hn
  clear hb
  obtain ⟨c0, c2⟩ := SW.out _ D.out
  go_wp2_with fail
  clear c0 c2
  refine (HBR.out _ _ V.out).mono ?_
  rintro e w4 ⟨yR, rfl, hn, hb⟩
  obtain ⟨_, aR, cR, rfl, -⟩ := id hn
  replace V := Lib.hid (V.out.below hb)
  replace P := Lib.hid (P.out.below hb)
  replace D := Lib.hid (D.out.trans (hb.mono D.out.size))
  have R := Lib.hid hn
  clear hn
  clear hb
  obtain ⟨c0, c2⟩ := SW.out _ D.out
  go_wp2_with fail
  clear c0 c2
  refine (HQ.out _ _ _ P.out R.out).mono ?_
  rintro e w5 ⟨rfl, hb⟩
  replace V := Lib.hid (V.out.below hb)
  replace P := Lib.hid (P.out.below hb)
  replace R := Lib.hid (R.out.below hb)
  replace D := Lib.hid (D.out.trans (hb.mono D.out.size))
  clear hb
  obtain ⟨c0, c2⟩ := SW.out _ D.out
  go_wp2_with fail
  clear c0 c2
  refine (HSQ.out _ _ V.out).mono ?_
  rintro e w6 ⟨rfl, hb⟩
  replace V := Lib.hid (V.out.below hb)
  replace P := Lib.hid (P.out.below hb)
  replace R := Lib.hid (R.out.below hb)
  replace D := Lib.hid (D.out.trans (hb.mono D.out.size))
  clear hb
  obtain ⟨c0, c2⟩ := SW.out _ D.out
  go_wp2_with fail
  clear c0 c2
  refine (HSR.out _ _ V.out).mono ?_
  rintro e w7 ⟨yT, rfl, hn, hb⟩
  obtain ⟨_, aT, cT, rfl, -⟩ := id hn
  replace V := Lib.hid (V.out.below hb)
  replace P := Lib.hid (P.out.below hb)
  replace R := Lib.hid (R.out.below hb)
  replace D := Lib.hid (D.out.trans (hb.mono D.out.size))
  have T := Lib.hid hn
  clear hn
  clear hb
  obtain ⟨c0, c2⟩ := SW.out _ D.out
  go_wp2_with fail
  clear c0 c2
  refine (HQ2.out _ _ _ T.out V.out).mono ?_
  rintro e w8 ⟨rfl, hb⟩
  replace V := Lib.hid (V.out.below hb)
  replace P := Lib.hid (P.out.below hb)
  replace R := Lib.hid (R.out.below hb)
  replace T := Lib.hid (T.out.below hb)
  replace D := Lib.hid (D.out.trans (hb.mono D.out.size))
  clear hb
  obtain ⟨c0, c2⟩ := SW.out _ D.out
  go_wp2_with fail
  clear c0 c2
  go_ret
  exact ⟨rfl, D.out⟩
theorem begins_law' (v : Value) (l : List Nd) (w0 : World) (hv : Nds w0 v l) (hm : Nms l)
    (hE : ∀ v w1, Nds w1 v l → l.length ≤ 1000 → Calls Try.prog 14 #[v] w1 fun e w' => e = .returned (.tuple #[.int .i64 (overS l), .bool (overB l)]) ∧ Below w1.heap.size w1 w') :
    Calls Try.prog 4 #[v] w0 fun e w' => e = .returned (.bool true) ∧ Below w0.heap.size w0 w' := by
  cases hf : fewB l with
  | false => exact begins_far v l w0 hv hf
  | true =>
    have hl := few_len hf
    have h1 := fun v w1 h => hE v w1 h (by omega)
    have h2 := fun v w1 (h : Nds w1 v l) => beginP_any v l w1 h (by omega) hm
    have h3 := fun v w1 (h : Nds w1 v l) => beginR_any v l w1 h (by omega) hm
    have h4 : ∀ x y w1, Nds w1 x (bg l) → Nds w1 y (bg l) → Calls Try.prog 12 #[x, y] w1 fun e w' => e = .returned (.bool true) ∧ Below w1.heap.size w1 w' := fun x y w1 h1 h2 => (sameR_any x y (bg l) (bg l) w1 h1 h2 (by have := bg_len l; omega)).mono fun _ _ h => ⟨h.1.trans (ret_bool (same_self _)), h.2⟩
    have h5 := fun v w1 (h : Nds w1 v l) => settledQ_any v l w1 h (by omega) hm
    have h6 := fun v w1 (h : Nds w1 v l) => settleR_any v l w1 h (by omega) hm
    have h7 := fun x y w1 (h1 : Nds w1 x (st l)) (h2 : Nds w1 y l) => sameR_any x y (st l) l w1 h1 h2 (by have := st_len l; omega)
    match l, hv, hf, h1, h2, h3, h4, h5, h6, h7 with
    | [], hv, hf, h1, h2, h3, h4, h5, h6, h7 =>
      obtain ⟨_, a, cap, rfl, -⟩ := id hv
      exact begins_none a cap (bg []) w0 hv h1 h2 h3 h4 h5
    | [x], hv, hf, h1, h2, h3, h4, h5, h6, h7 =>
      rcases hv.form with ⟨h0, _⟩ | ⟨b, o, c, rfl, hc, hat⟩
      · cases h0
      obtain ⟨e0, e1, e2⟩ := hat 0 (by simp)
      simp only [List.getElem_cons_zero, Nat.zero_mul, Nat.add_zero] at e0 e1 e2
      cases hk : (x.k == 11) with
      | true => exact begins_over x b o c (bg [x]) (st [x]) _ w0 hf hk e0 e2 hv (by simpa only [overS, overB, hk, if_true] using h1) h2 h3 h4 h5 h6 h7
      | false => exact begins_other x b o c (bg [x]) (st [x]) _ w0 hf hk e0 e2 hv (by simpa only [overS, overB, hk, Bool.false_eq_true, if_false] using h1) h2 h3 h4 h5 h6 h7
    | x :: y :: t, hv, hf, h1, h2, h3, h4, h5, h6, h7 =>
      obtain ⟨_, a, cap, rfl, -⟩ := id hv
      exact begins_more a (x :: y :: t).length cap (x :: y :: t) (bg (x :: y :: t)) (st (x :: y :: t)) _ w0 hf (by simp only [List.length_cons]; omega) hv h1 h2 h3 h4 h5 h6 h7
end Go.Proofs.Ytgaediondmdnbaa.Se

namespace Go.Proofs.Ytgaediondmdnbaa.Se
open Go Go.RowKit Go.Proofs.Ytgaediondmdnbaa.Rw Go.Proofs.Ytgaediondmdnbaa.So
set_option maxRecDepth 20000

theorem begins_law (v : Value) (l : List Nd) (w0 : World) (hv : Nds w0 v l) (hm : Nms l) :
    Calls Try.prog 4 #[v] w0 fun e w' => e = .returned (.bool true) ∧ Below w0.heap.size w0 w' :=
  begins_law' v l w0 hv hm (fun v w1 h _ => endedP_any v l w1 h)
end Go.Proofs.Ytgaediondmdnbaa.Se
