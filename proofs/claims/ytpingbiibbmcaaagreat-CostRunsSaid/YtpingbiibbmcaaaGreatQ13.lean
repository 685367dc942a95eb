/- The document's node, over, end; trees in memory. Rows of texts, and nodes appended in a call's own row: what the walks of layer 8 need. The document's Par: the walk. The document's first: the walks. The document's 'in' and 'may' of layer 8. All traces of two, and all rows of two: what they are. -/
import Derived.Test.YtpingbiibbmcaaaGreatQ12
import Derived.Test.YtpingbiibbmcaaaGreatQ05
import Derived.Test.YtpingbiibbmcaaaGreatQ03
import Derived.Deep.RegionHeld3
import Derived.Deep.QuietTactic
import Derived.BigQuiet

namespace Go.Proofs.YtpingbiibbmcaaaGreat.Se
open Go Go.RowKit Go.Proofs.YtpingbiibbmcaaaGreat.Rw Go.Proofs.YtpingbiibbmcaaaGreat.So
set_option maxRecDepth 20000

/-- A call that tells a row which is this tree. -/
def OutN (t : Tm) (w : World) (e : Ending) (w' : World) : Prop := ∃ y, e = .returned y ∧ Nds w' y (flat t) ∧ Below w.heap.size w w'
/-- The kind, and the sign, of a tree's first node. -/
def kd (t : Tm) : Int := hd (flat t)
def sgl : List Nd → Int
  | [] => 0
  | n :: _ => n.s
def sg (t : Tm) : Int := sgl (flat t)
theorem at0 {l : List Nd} (h : 0 < l.length) : l[0].k = hd l ∧ l[0].s = sgl l := by
  cases l with
  | nil => simp at h
  | cons n r => exact ⟨rfl, rfl⟩
theorem form {w : World} {v : Value} {t : Tm} (hv : Nds w v (flat t)) : ∃ b o c, v = .slice (some ⟨b, o, none⟩) (sz t) c ∧ sz t ≤ c ∧ b < w.heap.size ∧ (∀ w', Below w.heap.size w w' → w'.cell? ⟨b, o, none⟩ = some (.int .i64 (kd t)) ∧ w'.cell? ⟨b, o + 2, none⟩ = some (.int .i64 (sg t))) ∧ At w b o (flat t) := by
  rcases hv.form with ⟨_, hl⟩ | ⟨b, o, c, rfl, hc, hat⟩
  · exact absurd (by simp_all) (flat_ne t)
  · rw [flat_len] at hc ⊢
    have hp := sz_pos t
    have hl := flat_len t
    obtain ⟨h1, _, h3⟩ := hat 0 (by omega)
    rw [Nat.zero_mul, Nat.add_zero] at h1 h3
    have lt := Ap.cell_lt h1
    refine ⟨b, o, c, rfl, hc, lt, fun w' hb => ?_, hat⟩
    obtain ⟨g1, g2⟩ := at0 (l := flat t) (by omega)
    rw [hb.cell (p := ⟨b, o, none⟩) lt, hb.cell (p := ⟨b, o + 2, none⟩) lt, h1, h3, g1, g2]
    exact ⟨rfl, rfl⟩
/-- What is behind the first node. -/
theorem tail_fin {w : World} {b o c : Nat} {s : Int} {t : Tm} (hat : At w b o (flat (.fin s t))) (hc : sz (.fin s t) ≤ c) : Nds w (.slice (some ⟨b, o + 3, none⟩) (sz t) (c - 1)) (flat t) := by
  have h := part_nds hat 1 (sz t) (c - 1) (by rw [flat_len]; simp [sz]; omega) (by simp [sz] at hc; omega)
  have e : ((flat (.fin s t)).drop 1).take (sz t) = flat t := by
    show ((nEnd s :: flat t).drop 1).take (sz t) = _
    rw [List.drop_succ_cons, List.drop_zero, ← flat_len t, List.take_length]
  rw [e] at h
  exact h
theorem nodeR_any (k s : Int) (w : World) : Calls Tryz.prog 51 #[.int .i64 k, .int .i64 s] w fun e w' => e = .returned (.agg #[.int .i64 k, .string ⟨#[]⟩, .int .i64 s]) ∧ Below w.heap.size w w' := by
  go_enter Tryz.func51, Tryz.ntmps51
  go_wp2_with fail
  refine bodyPost_ret (v := .agg #[.int .i64 k, .string ⟨#[]⟩, .int .i64 s]) (by simp [results, Tryz.results51, go_sem]) rfl ⟨rfl, ?_⟩
  exact below1 w _
/-- A row of one node that the call made. -/
theorem nds_one (w : World) (x : Nd) (ty : TypeId) : Nds (w.alloc (.cells #[.int .i64 x.k, .string x.n, .int .i64 x.s] ty)) (.slice (some ⟨w.heap.size, 0, none⟩) 1 1) [x] := by
  refine ⟨rfl, _, 1, rfl, Nat.le_refl _, fun h => (by cases h), fun _ => ⟨w.heap.size, 0, rfl, fun j u hu => ?_⟩⟩
  match j, hu with
  | 0, hu => simp [cls, cl] at hu; subst hu; simp
  | 1, hu => simp [cls, cl] at hu; subst hu; simp
  | 2, hu => simp [cls, cl] at hu; subst hu; simp
  | j + 3, hu => simp [cls, cl] at hu
theorem overR_any (s : Int) (w : World) : Calls Tryz.prog 29 #[.int .i64 s] w (OutN (.over s) w) := by
  unfold OutN
  go_enter Tryz.func29, Tryz.ntmps29
  go_wp2_with fail
  refine (nodeR_any 11 s _).mono ?_
  rintro e w1 ⟨rfl, hb1⟩
  have B1 := Lib.hid hb1
  clear hb1
  go_wp2_with fail
  go_ret
  exact ⟨_, rfl, nds_one w1 (nOver s) _, B1.out.alloc B1.out.size _⟩
theorem endR_any (s : Int) (v : Value) (c : Tm) (w : World) (hv : Nds w v (flat c)) (hl : sz c ≤ 1000) : Calls Tryz.prog 52 #[.int .i64 s, v] w (OutN (.fin s c) w) := by
  unfold OutN
  have HV := Lib.hid hv
  clear hv
  go_enter Tryz.func52, Tryz.ntmps52
  go_wp2_with fail
  refine (nodeR_any 14 s _).mono ?_
  rintro e w1 ⟨rfl, hb1⟩
  have B1 := Lib.hid hb1
  clear hb1
  go_wp2_with fail
  refine (oneR_any (nEnd s) v (flat c) w1 (HV.out.below B1.out) (by rw [flat_len]; omega)).mono ?_
  rintro e w2 ⟨y, rfl, hown, hb2⟩
  have O2 := Lib.hid hown
  have B2 := Lib.hid hb2
  clear hown hb2
  go_wp2_with fail
  go_ret
  exact ⟨_, rfl, Ap.Rd.owned O2.out, B1.out.trans (B2.out.mono B1.out.size)⟩
/-- A node of two, and a node of one. -/
theorem mk2R (k : Int) (mk : Tm → Tm → Tm) (h : ∀ a b, flat (mk a b) = nOf k :: (flat a ++ flat b)) (va vb : Value) (a b : Tm) (w : World) (ha : Nds w va (flat a)) (hb : Nds w vb (flat b)) (hl : sz a + sz b ≤ 100000) :
    Calls Tryz.prog 53 #[.agg #[.int .i64 k, .string ⟨#[]⟩, .int .i64 0], va, vb] w (OutN (mk a b) w) := by
  refine (twoR_any (nOf k) va vb (flat a) (flat b) w ha hb (by rw [flat_len]; omega) (by rw [flat_len]; omega)).mono ?_
  rintro e w1 ⟨y, rfl, hn, hb⟩
  exact ⟨y, rfl, by rw [h]; exact hn, hb⟩
theorem mk1R (va : Value) (a : Tm) (w : World) (ha : Nds w va (flat a)) (hl : sz a ≤ 100000) :
    Calls Tryz.prog 55 #[.agg #[.int .i64 9, .string ⟨#[]⟩, .int .i64 0], va] w (OutN (.block a) w) := by
  refine (oneR_any (nOf 9) va (flat a) w ha (by rw [flat_len]; omega)).mono ?_
  rintro e w1 ⟨y, rfl, hn, hb⟩
  exact ⟨y, rfl, Ap.Rd.owned hn, hb⟩
/-- A Skip by itself, in a block. -/
theorem nds_skip (w : World) (ty : TypeId) : Nds (w.alloc (.cells #[.int .i64 2, .string ⟨#[]⟩, .int .i64 0] ty)) (.slice (some ⟨w.heap.size, 0, none⟩) 1 1) (flat .skip) := nds_one w (nOf 2) ty
end Go.Proofs.YtpingbiibbmcaaaGreat.Se

namespace Go.Proofs.YtpingbiibbmcaaaGreat.Rf
open Go Go.RowKit Go.Proofs.YtpingbiibbmcaaaGreat.Rw
set_option maxRecDepth 20000

/-- A slice of texts that reads as these. -/
def Strs (w : World) (v : Value) (l : List ByteArray) : Prop := Ap.Rd w 1 v l.length (l.map .string)
end Go.Proofs.YtpingbiibbmcaaaGreat.Rf

namespace Go.Proofs.YtpingbiibbmcaaaGreat.Tr
open Go Go.RowKit
set_option maxRecDepth 20000

theorem below2 (w : World) (x y : Obj) : Below w.heap.size w ((w.alloc x).alloc y) := ((Below.refl _ _).alloc (Nat.le_refl _) x).alloc (by simp) y
end Go.Proofs.YtpingbiibbmcaaaGreat.Tr

namespace Go.Proofs.YtpingbiibbmcaaaGreat.Se
open Go Go.RowKit Go.Proofs.YtpingbiibbmcaaaGreat.Rw Go.Proofs.YtpingbiibbmcaaaGreat.So
set_option maxRecDepth 20000

set_option maxHeartbeats 1000000 in
theorem first13_fin (s : Int) (c : Tm) (d : Tm) (va vd : Value) (w : World) (ha : Nds w va (flat (.fin s c))) (hd : Nds w vd (flat d)) (hl : sz (.fin s c) + sz d ≤ 900) :
    Calls Tryz.prog 30 #[.int .i64 13, va, vd] w (OutN (.fin s (.seq c d)) w) := by
  have AA := Lib.hid (fun w1 (hb : Below w.heap.size w w1) => ha.below hb)
  have DD := Lib.hid (fun w1 (hb : Below w.heap.size w w1) => hd.below hb)
  obtain ⟨b, o, cp, rfl, hc, hlt, hw, hat⟩ := form ha
  have HL : Hid (sz (.fin s c) + sz d ≤ 900) := Lib.hid hl
  have hp := sz_pos (.fin s c)
  have TT := Lib.hid (fun w1 (hb : Below w.heap.size w w1) => (tail_fin hat hc).below hb)
  have hz : sz (.fin s c) = sz c + 1 := rfl
  rw [hz] at hc AA hp ⊢
  obtain ⟨n, hn⟩ : ∃ n, sz c = n := ⟨_, rfl⟩
  have hp2 := sz_pos c
  rw [hn] at hc TT AA hp hp2 ⊢
  have g2 : ¬ cp = 1 := by omega
  have g3 : (1 : Int) ≤ (n : Int) + 1 := by omega
  clear hn hz
  rw [show kd (.fin s c) = 14 from rfl, show sg (.fin s c) = s from rfl] at hw
  have SW := Lib.hid hw
  obtain ⟨e0, e2⟩ := hw w (Below.refl _ _)
  unfold OutN
  clear hat ha hd hw hl
  go_enter Tryz.func30, Tryz.ntmps30
  go_wp2_with fail
  go_region_held3 (fun w' => w'.cell? ⟨b, o, none⟩ = some (.int .i64 14)) (first | exact e0 | exact (SW.out _ D1.out).1 | exact (SW.out _ D2.out).1 | exact (SW.out _ D3.out).1 | fail) (first
    | (go_at_call 51
       (with_reducible refine (nodeR_any 5 0 _).mono ?_)
       rintro e w1 ⟨rfl, hb1⟩
       have D1 := Lib.hid ((Below.refl w.heap.size w).drew.trans hb1)
       clear hb1)
    | (go_at_call 53
       (with_reducible refine (mk2R 5 .seq (fun _ _ => rfl) _ _ c d _ (TT.out _ D1.out) (DD.out _ D1.out) (by have := HL.out; simp only [sz] at this; omega)).mono ?_)
       rintro e w2 ⟨y2, rfl, hn2, hb2⟩
       have D2 := Lib.hid (D1.out.trans (hb2.mono D1.out.size))
       have N2 := Lib.hid hn2
       clear hb2 hn2)
    | (go_at_call 52
       (with_reducible refine (endR_any s y2 (.seq c d) _ N2.out (by have := HL.out; simp only [sz] at this ⊢; omega)).mono ?_)
       rintro e w3 ⟨y3, rfl, hn3, hb3⟩
       have D3 := Lib.hid (D2.out.trans (hb3.mono D2.out.size))
       have N3 := Lib.hid hn3
       clear hb3 hn3)
    | fail)
  go_wp2_with fail
  go_ret
  exact ⟨_, rfl, N3.out, D3.out⟩
set_option maxHeartbeats 1000000 in
theorem first13_other (a : Tm) (d : Tm) (va vd : Value) (w : World) (ha : Nds w va (flat a)) (hd : Nds w vd (flat d)) (h11 : kd a ≠ 11) (h14 : kd a ≠ 14) (hl : sz a + sz d ≤ 900) :
    Calls Tryz.prog 30 #[.int .i64 13, va, vd] w (OutN (.stack a d) w) := by
  have AA := Lib.hid (fun w1 (hb : Below w.heap.size w w1) => ha.below hb)
  have DD := Lib.hid (fun w1 (hb : Below w.heap.size w w1) => hd.below hb)
  obtain ⟨b, o, cp, rfl, hc, hlt, hw, hat⟩ := form ha
  have HL : Hid (sz a + sz d ≤ 900) := Lib.hid hl
  have hp := sz_pos a
  obtain ⟨n, hn⟩ : ∃ n, sz a = n := ⟨_, rfl⟩
  rw [hn] at hc AA hp ⊢
  have g3 : (1 : Int) ≤ (n : Int) := by omega
  have g4 : (0 : Int) < (n : Int) := by omega
  clear hn
  have f1 : (kd a == 11) = false := by rw [beq_eq_false_iff_ne]; exact h11
  have f2 : (kd a == 14) = false := by rw [beq_eq_false_iff_ne]; exact h14
  obtain ⟨k, hk⟩ : ∃ k, kd a = k := ⟨_, rfl⟩
  obtain ⟨s, hs⟩ : ∃ s, sg a = s := ⟨_, rfl⟩
  rw [hk] at hw f1 f2
  rw [hs] at hw
  clear hk hs h11 h14
  have SW := Lib.hid hw
  obtain ⟨e0, e2⟩ := hw w (Below.refl _ _)
  unfold OutN
  clear hat ha hd hw hl
  go_enter Tryz.func30, Tryz.ntmps30
  go_wp2_with fail
  refine (nodeR_any 13 0 _).mono ?_
  rintro e w1 ⟨rfl, hb1⟩
  have D1 := Lib.hid hb1
  clear hb1
  go_wp2_with fail
  refine (mk2R 13 .stack (fun _ _ => rfl) _ _ a d _ (AA.out _ D1.out) (DD.out _ D1.out) (by have := HL.out; omega)).mono ?_
  rintro e w2 ⟨y, rfl, hn, hb⟩
  have N2 := Lib.hid hn
  have D2 := Lib.hid (D1.out.trans (hb.mono D1.out.size))
  clear hn hb
  go_wp2_with fail
  go_ret
  exact ⟨_, rfl, N2.out, D2.out⟩
theorem kd14 {a : Tm} (h : kd a = 14) : ∃ s c, a = .fin s c := by
  cases a <;> first | exact ⟨_, _, rfl⟩ | simp [kd, flat, hd, nOf] at h
theorem kd11 {a : Tm} (h : kd a = 11) : ∃ s, a = .over s := by
  cases a <;> first | exact ⟨_, rfl⟩ | simp [kd, flat, hd, nOf] at h
theorem stk_other {a d : Tm} (h : kd a ≠ 14) : stk a d = .stack a d := by
  cases a <;> first | rfl | exact absurd rfl h
theorem first13_any (a d : Tm) (va vd : Value) (w : World) (ha : Nds w va (flat a)) (hd : Nds w vd (flat d)) (h11 : kd a ≠ 11) (hl : sz a + sz d ≤ 900) :
    Calls Tryz.prog 30 #[.int .i64 13, va, vd] w (OutN (stk a d) w) := by
  by_cases h14 : kd a = 14
  · obtain ⟨s, c, rfl⟩ := kd14 h14
    exact first13_fin s c d va vd w ha hd hl
  · rw [stk_other h14]
    exact first13_other a d va vd w ha hd h11 h14 hl
/-- What the walk of Tree is asked of shorter trees. -/
abbrev RS (t : Tm) : Prop := ∀ (v : Value) (w : World), Nds w v (flat t) → Calls Tryz.prog 13 #[v] w (OutN (S t) w)
set_option maxHeartbeats 1000000 in
theorem first5_tick  (d : Tm) (va vd : Value) (w : World) (ha : Nds w va (flat (.over 1))) (hd : Nds w vd (flat d)) (RB : Hid (RS d)) (hl : sz (.over 1) + sz d ≤ 900) :
    Calls Tryz.prog 30 #[.int .i64 5, va, vd] w (OutN (S d) w) := by
  have AA := Lib.hid (fun w1 (hb : Below w.heap.size w w1) => ha.below hb)
  have DD := Lib.hid (fun w1 (hb : Below w.heap.size w w1) => hd.below hb)
  obtain ⟨b, o, cp, rfl, hc, hlt, hw, hat⟩ := form ha
  have HL : Hid (sz (.over 1) + sz d ≤ 900) := Lib.hid hl
  have hp := sz_pos (.over 1)
  obtain ⟨n, hn⟩ : ∃ n, sz (.over 1) = n := ⟨_, rfl⟩
  rw [hn] at hc AA hp ⊢
  have g3 : (1 : Int) ≤ (n : Int) := by omega
  have g4 : (0 : Int) < (n : Int) := by omega
  clear hn
  rw [show kd (.over 1) = 11 from rfl, show sg (.over 1) = 1 from rfl] at hw
  have SW := Lib.hid hw
  obtain ⟨e0, e2⟩ := hw w (Below.refl _ _)
  unfold OutN
  clear hat ha hd hw hl
  go_enter Tryz.func30, Tryz.ntmps30
  go_wp2_with fail
  refine (RB.out vd _ (DD.out _ (Below.refl _ _))).mono ?_
  rintro e w1 ⟨y, rfl, hn, hb⟩
  have N1 := Lib.hid hn
  have D1 := Lib.hid hb
  clear hn hb
  go_wp2_with fail
  go_ret
  exact ⟨_, rfl, N1.out, D1.out⟩
set_option maxHeartbeats 1000000 in
theorem first5_over (s : Int) (d : Tm) (va vd : Value) (w : World) (ha : Nds w va (flat (.over s))) (hd : Nds w vd (flat d)) (hs : s ≠ 1) (hl : sz (.over s) + sz d ≤ 900) :
    Calls Tryz.prog 30 #[.int .i64 5, va, vd] w (OutN (.over s) w) := by
  have AA := Lib.hid (fun w1 (hb : Below w.heap.size w w1) => ha.below hb)
  have DD := Lib.hid (fun w1 (hb : Below w.heap.size w w1) => hd.below hb)
  obtain ⟨b, o, cp, rfl, hc, hlt, hw, hat⟩ := form ha
  have HL : Hid (sz (.over s) + sz d ≤ 900) := Lib.hid hl
  have hp := sz_pos (.over s)
  obtain ⟨n, hn⟩ : ∃ n, sz (.over s) = n := ⟨_, rfl⟩
  rw [hn] at hc AA hp ⊢
  have g3 : (1 : Int) ≤ (n : Int) := by omega
  have g4 : (0 : Int) < (n : Int) := by omega
  clear hn
  rw [show kd (.over s) = 11 from rfl, show sg (.over s) = s from rfl] at hw
  have f3 : (s == 1) = false := by rw [beq_eq_false_iff_ne]; exact hs
  clear hs
  have SW := Lib.hid hw
  obtain ⟨e0, e2⟩ := hw w (Below.refl _ _)
  unfold OutN
  clear hat ha hd hw hl
  go_enter Tryz.func30, Tryz.ntmps30
  go_wp2_with fail
  go_ret
  exact ⟨_, rfl, AA.out w (Below.refl _ _), Below.refl _ _⟩
set_option maxHeartbeats 1000000 in
theorem first5_fin1 (c : Tm) (d : Tm) (va vd : Value) (w : World) (ha : Nds w va (flat (.fin 1 c))) (hd : Nds w vd (flat d)) (RB : Hid (RS d)) (h11 : kd (S d) ≠ 11) (hl : sz (.fin 1 c) + sz d ≤ 900) :
    Calls Tryz.prog 30 #[.int .i64 5, va, vd] w (OutN (stk (S d) c) w) := by
  have AA := Lib.hid (fun w1 (hb : Below w.heap.size w w1) => ha.below hb)
  have DD := Lib.hid (fun w1 (hb : Below w.heap.size w w1) => hd.below hb)
  obtain ⟨b, o, cp, rfl, hc, hlt, hw, hat⟩ := form ha
  have HL : Hid (sz (.fin 1 c) + sz d ≤ 900) := Lib.hid hl
  have hp := sz_pos (.fin 1 c)
  have TT := Lib.hid (fun w1 (hb : Below w.heap.size w w1) => (tail_fin hat hc).below hb)
  have hz : sz (.fin 1 c) = sz c + 1 := rfl
  rw [hz] at hc AA hp ⊢
  obtain ⟨n, hn⟩ : ∃ n, sz c = n := ⟨_, rfl⟩
  have hp2 := sz_pos c
  rw [hn] at hc TT AA hp hp2 ⊢
  have g2 : ¬ cp = 1 := by omega
  have g3 : (1 : Int) ≤ (n : Int) + 1 := by omega
  clear hn hz
  rw [show kd (.fin 1 c) = 14 from rfl, show sg (.fin 1 c) = 1 from rfl] at hw
  have H11 := Lib.hid h11
  clear h11
  have SW := Lib.hid hw
  obtain ⟨e0, e2⟩ := hw w (Below.refl _ _)
  unfold OutN
  clear hat ha hd hw hl
  go_enter Tryz.func30, Tryz.ntmps30
  go_wp2_with fail
  go_region_held3 (fun w' => w'.cell? ⟨b, o, none⟩ = some (.int .i64 14)) (first | exact e0 | exact (SW.out _ D1.out).1 | exact (SW.out _ D2.out).1 | fail) (first
    | (go_at_call 13
       (with_reducible refine (RB.out vd _ (DD.out _ (Below.refl _ _).drew)).mono ?_)
       rintro e w1 ⟨y1, rfl, hn1, hb1⟩
       have D1 := Lib.hid ((Below.refl w.heap.size w).drew.trans hb1)
       have N1 := Lib.hid hn1
       clear hb1 hn1)
    | (go_at_call 30
       (with_reducible refine (first13_any (S d) c _ _ _ N1.out (TT.out _ D1.out) H11.out (by have := HL.out; have := S_sz d; simp only [sz] at *; omega)).mono ?_)
       rintro e w2 ⟨y2, rfl, hn2, hb2⟩
       have D2 := Lib.hid (D1.out.trans (hb2.mono D1.out.size))
       have N2 := Lib.hid hn2
       clear hb2 hn2)
    | fail)
  go_wp2_with fail
  go_ret
  exact ⟨_, rfl, N2.out, D2.out⟩
set_option maxHeartbeats 1000000 in
theorem first5_fin (s : Int) (c : Tm) (d : Tm) (va vd : Value) (w : World) (ha : Nds w va (flat (.fin s c))) (hd : Nds w vd (flat d)) (hs : s ≠ 1) (hl : sz (.fin s c) + sz d ≤ 900) :
    Calls Tryz.prog 30 #[.int .i64 5, va, vd] w (OutN (.fin s c) w) := by
  have AA := Lib.hid (fun w1 (hb : Below w.heap.size w w1) => ha.below hb)
  have DD := Lib.hid (fun w1 (hb : Below w.heap.size w w1) => hd.below hb)
  obtain ⟨b, o, cp, rfl, hc, hlt, hw, hat⟩ := form ha
  have HL : Hid (sz (.fin s c) + sz d ≤ 900) := Lib.hid hl
  have hp := sz_pos (.fin s c)
  have TT := Lib.hid (fun w1 (hb : Below w.heap.size w w1) => (tail_fin hat hc).below hb)
  have hz : sz (.fin s c) = sz c + 1 := rfl
  rw [hz] at hc AA hp ⊢
  obtain ⟨n, hn⟩ : ∃ n, sz c = n := ⟨_, rfl⟩
  have hp2 := sz_pos c
  rw [hn] at hc TT AA hp hp2 ⊢
  have g2 : ¬ cp = 1 := by omega
  have g3 : (1 : Int) ≤ (n : Int) + 1 := by omega
  clear hn hz
  rw [show kd (.fin s c) = 14 from rfl, show sg (.fin s c) = s from rfl] at hw
  have f3 : (s == 1) = false := by rw [beq_eq_false_iff_ne]; exact hs
  clear hs
  have SW := Lib.hid hw
  obtain ⟨e0, e2⟩ := hw w (Below.refl _ _)
  unfold OutN
  clear hat ha hd hw hl
  go_enter Tryz.func30, Tryz.ntmps30
  go_wp2_with fail
  go_ret
  exact ⟨_, rfl, AA.out w (Below.refl _ _), Below.refl _ _⟩
set_option maxHeartbeats 1000000 in
theorem first5_other (a : Tm) (d : Tm) (va vd : Value) (w : World) (ha : Nds w va (flat a)) (hd : Nds w vd (flat d)) (h11 : kd a ≠ 11) (h14 : kd a ≠ 14) (hl : sz a + sz d ≤ 900) :
    Calls Tryz.prog 30 #[.int .i64 5, va, vd] w (OutN (.seq a d) w) := by
  have AA := Lib.hid (fun w1 (hb : Below w.heap.size w w1) => ha.below hb)
  have DD := Lib.hid (fun w1 (hb : Below w.heap.size w w1) => hd.below hb)
  obtain ⟨b, o, cp, rfl, hc, hlt, hw, hat⟩ := form ha
  have HL : Hid (sz a + sz d ≤ 900) := Lib.hid hl
  have hp := sz_pos a
  obtain ⟨n, hn⟩ : ∃ n, sz a = n := ⟨_, rfl⟩
  rw [hn] at hc AA hp ⊢
  have g3 : (1 : Int) ≤ (n : Int) := by omega
  have g4 : (0 : Int) < (n : Int) := by omega
  clear hn
  have f1 : (kd a == 11) = false := by rw [beq_eq_false_iff_ne]; exact h11
  have f2 : (kd a == 14) = false := by rw [beq_eq_false_iff_ne]; exact h14
  obtain ⟨k, hk⟩ : ∃ k, kd a = k := ⟨_, rfl⟩
  obtain ⟨s, hs⟩ : ∃ s, sg a = s := ⟨_, rfl⟩
  rw [hk] at hw f1 f2
  rw [hs] at hw
  clear hk hs h11 h14
  have SW := Lib.hid hw
  obtain ⟨e0, e2⟩ := hw w (Below.refl _ _)
  unfold OutN
  clear hat ha hd hw hl
  go_enter Tryz.func30, Tryz.ntmps30
  go_wp2_with fail
  refine (nodeR_any 5 0 _).mono ?_
  rintro e w1 ⟨rfl, hb1⟩
  have D1 := Lib.hid hb1
  clear hb1
  go_wp2_with fail
  refine (mk2R 5 .seq (fun _ _ => rfl) _ _ a d _ (AA.out _ D1.out) (DD.out _ D1.out) (by have := HL.out; omega)).mono ?_
  rintro e w2 ⟨y, rfl, hn, hb⟩
  have N2 := Lib.hid hn
  have D2 := Lib.hid (D1.out.trans (hb.mono D1.out.size))
  clear hn hb
  go_wp2_with fail
  go_ret
  exact ⟨_, rfl, N2.out, D2.out⟩
set_option maxHeartbeats 1000000 in
theorem first8_bang  (d : Tm) (va vd : Value) (w : World) (ha : Nds w va (flat (.over 2))) (hd : Nds w vd (flat d)) (RB : Hid (RS d)) (hl : sz (.over 2) + sz d ≤ 900) :
    Calls Tryz.prog 30 #[.int .i64 8, va, vd] w (OutN (S d) w) := by
  have AA := Lib.hid (fun w1 (hb : Below w.heap.size w w1) => ha.below hb)
  have DD := Lib.hid (fun w1 (hb : Below w.heap.size w w1) => hd.below hb)
  obtain ⟨b, o, cp, rfl, hc, hlt, hw, hat⟩ := form ha
  have HL : Hid (sz (.over 2) + sz d ≤ 900) := Lib.hid hl
  have hp := sz_pos (.over 2)
  obtain ⟨n, hn⟩ : ∃ n, sz (.over 2) = n := ⟨_, rfl⟩
  rw [hn] at hc AA hp ⊢
  have g3 : (1 : Int) ≤ (n : Int) := by omega
  have g4 : (0 : Int) < (n : Int) := by omega
  clear hn
  rw [show kd (.over 2) = 11 from rfl, show sg (.over 2) = 2 from rfl] at hw
  have SW := Lib.hid hw
  obtain ⟨e0, e2⟩ := hw w (Below.refl _ _)
  unfold OutN
  clear hat ha hd hw hl
  go_enter Tryz.func30, Tryz.ntmps30
  go_wp2_with fail
  refine (RB.out vd _ (DD.out _ (Below.refl _ _))).mono ?_
  rintro e w1 ⟨y, rfl, hn, hb⟩
  have N1 := Lib.hid hn
  have D1 := Lib.hid hb
  clear hn hb
  go_wp2_with fail
  go_ret
  exact ⟨_, rfl, N1.out, D1.out⟩
set_option maxHeartbeats 1000000 in
theorem first8_over (s : Int) (d : Tm) (va vd : Value) (w : World) (ha : Nds w va (flat (.over s))) (hd : Nds w vd (flat d)) (hs : s ≠ 2) (hl : sz (.over s) + sz d ≤ 900) :
    Calls Tryz.prog 30 #[.int .i64 8, va, vd] w (OutN (.over s) w) := by
  have AA := Lib.hid (fun w1 (hb : Below w.heap.size w w1) => ha.below hb)
  have DD := Lib.hid (fun w1 (hb : Below w.heap.size w w1) => hd.below hb)
  obtain ⟨b, o, cp, rfl, hc, hlt, hw, hat⟩ := form ha
  have HL : Hid (sz (.over s) + sz d ≤ 900) := Lib.hid hl
  have hp := sz_pos (.over s)
  obtain ⟨n, hn⟩ : ∃ n, sz (.over s) = n := ⟨_, rfl⟩
  rw [hn] at hc AA hp ⊢
  have g3 : (1 : Int) ≤ (n : Int) := by omega
  have g4 : (0 : Int) < (n : Int) := by omega
  clear hn
  rw [show kd (.over s) = 11 from rfl, show sg (.over s) = s from rfl] at hw
  have f3 : (s == 2) = false := by rw [beq_eq_false_iff_ne]; exact hs
  clear hs
  have SW := Lib.hid hw
  obtain ⟨e0, e2⟩ := hw w (Below.refl _ _)
  unfold OutN
  clear hat ha hd hw hl
  go_enter Tryz.func30, Tryz.ntmps30
  go_wp2_with fail
  go_ret
  exact ⟨_, rfl, AA.out w (Below.refl _ _), Below.refl _ _⟩
set_option maxHeartbeats 1000000 in
theorem first8_other (a : Tm) (d : Tm) (va vd : Value) (w : World) (ha : Nds w va (flat a)) (hd : Nds w vd (flat d)) (h11 : kd a ≠ 11) (h14 : kd a ≠ 14) (hl : sz a + sz d ≤ 900) :
    Calls Tryz.prog 30 #[.int .i64 8, va, vd] w (OutN (.hand a d) w) := by
  have AA := Lib.hid (fun w1 (hb : Below w.heap.size w w1) => ha.below hb)
  have DD := Lib.hid (fun w1 (hb : Below w.heap.size w w1) => hd.below hb)
  obtain ⟨b, o, cp, rfl, hc, hlt, hw, hat⟩ := form ha
  have HL : Hid (sz a + sz d ≤ 900) := Lib.hid hl
  have hp := sz_pos a
  obtain ⟨n, hn⟩ : ∃ n, sz a = n := ⟨_, rfl⟩
  rw [hn] at hc AA hp ⊢
  have g3 : (1 : Int) ≤ (n : Int) := by omega
  have g4 : (0 : Int) < (n : Int) := by omega
  clear hn
  have f1 : (kd a == 11) = false := by rw [beq_eq_false_iff_ne]; exact h11
  have f2 : (kd a == 14) = false := by rw [beq_eq_false_iff_ne]; exact h14
  obtain ⟨k, hk⟩ : ∃ k, kd a = k := ⟨_, rfl⟩
  obtain ⟨s, hs⟩ : ∃ s, sg a = s := ⟨_, rfl⟩
  rw [hk] at hw f1 f2
  rw [hs] at hw
  clear hk hs h11 h14
  have SW := Lib.hid hw
  obtain ⟨e0, e2⟩ := hw w (Below.refl _ _)
  unfold OutN
  clear hat ha hd hw hl
  go_enter Tryz.func30, Tryz.ntmps30
  go_wp2_with fail
  refine (nodeR_any 8 0 _).mono ?_
  rintro e w1 ⟨rfl, hb1⟩
  have D1 := Lib.hid hb1
  clear hb1
  go_wp2_with fail
  refine (mk2R 8 .hand (fun _ _ => rfl) _ _ a d _ (AA.out _ D1.out) (DD.out _ D1.out) (by have := HL.out; omega)).mono ?_
  rintro e w2 ⟨y, rfl, hn, hb⟩
  have N2 := Lib.hid hn
  have D2 := Lib.hid (D1.out.trans (hb.mono D1.out.size))
  clear hn hb
  go_wp2_with fail
  go_ret
  exact ⟨_, rfl, N2.out, D2.out⟩
set_option maxHeartbeats 1000000 in
theorem first12_tick  (d : Tm) (va vd : Value) (w : World) (ha : Nds w va (flat (.over 1))) (hd : Nds w vd (flat d)) (hl : sz (.over 1) + sz d ≤ 900) :
    Calls Tryz.prog 30 #[.int .i64 12, va, vd] w (OutN (.fin 1 d) w) := by
  have AA := Lib.hid (fun w1 (hb : Below w.heap.size w w1) => ha.below hb)
  have DD := Lib.hid (fun w1 (hb : Below w.heap.size w w1) => hd.below hb)
  obtain ⟨b, o, cp, rfl, hc, hlt, hw, hat⟩ := form ha
  have HL : Hid (sz (.over 1) + sz d ≤ 900) := Lib.hid hl
  have hp := sz_pos (.over 1)
  obtain ⟨n, hn⟩ : ∃ n, sz (.over 1) = n := ⟨_, rfl⟩
  rw [hn] at hc AA hp ⊢
  have g3 : (1 : Int) ≤ (n : Int) := by omega
  have g4 : (0 : Int) < (n : Int) := by omega
  clear hn
  rw [show kd (.over 1) = 11 from rfl, show sg (.over 1) = 1 from rfl] at hw
  have SW := Lib.hid hw
  obtain ⟨e0, e2⟩ := hw w (Below.refl _ _)
  unfold OutN
  clear hat ha hd hw hl
  go_enter Tryz.func30, Tryz.ntmps30
  go_wp2_with fail
  refine (endR_any 1 vd d _ (DD.out _ (Below.refl _ _)) (by have := HL.out; omega)).mono ?_
  rintro e w1 ⟨y, rfl, hn, hb⟩
  have N1 := Lib.hid hn
  have D1 := Lib.hid hb
  clear hn hb
  go_wp2_with fail
  go_ret
  exact ⟨_, rfl, N1.out, D1.out⟩
set_option maxHeartbeats 1000000 in
theorem first12_over (s : Int) (d : Tm) (va vd : Value) (w : World) (ha : Nds w va (flat (.over s))) (hd : Nds w vd (flat d)) (hs : s ≠ 1) (hl : sz (.over s) + sz d ≤ 900) :
    Calls Tryz.prog 30 #[.int .i64 12, va, vd] w (OutN (.fin s .skip) w) := by
  have AA := Lib.hid (fun w1 (hb : Below w.heap.size w w1) => ha.below hb)
  have DD := Lib.hid (fun w1 (hb : Below w.heap.size w w1) => hd.below hb)
  obtain ⟨b, o, cp, rfl, hc, hlt, hw, hat⟩ := form ha
  have HL : Hid (sz (.over s) + sz d ≤ 900) := Lib.hid hl
  have hp := sz_pos (.over s)
  obtain ⟨n, hn⟩ : ∃ n, sz (.over s) = n := ⟨_, rfl⟩
  rw [hn] at hc AA hp ⊢
  have g3 : (1 : Int) ≤ (n : Int) := by omega
  have g4 : (0 : Int) < (n : Int) := by omega
  clear hn
  rw [show kd (.over s) = 11 from rfl, show sg (.over s) = s from rfl] at hw
  have f3 : (s == 1) = false := by rw [beq_eq_false_iff_ne]; exact hs
  clear hs
  have SW := Lib.hid hw
  obtain ⟨e0, e2⟩ := hw w (Below.refl _ _)
  unfold OutN
  clear hat ha hd hw hl
  go_enter Tryz.func30, Tryz.ntmps30
  go_wp2_with fail
  refine (nodeR_any 2 0 _).mono ?_
  rintro e w1 ⟨rfl, hb1⟩
  have D1 := Lib.hid hb1
  clear hb1
  go_wp2_with fail
  have D1' := Lib.hid (D1.out.alloc D1.out.size (.cells #[.int .i64 2, .string ⟨#[]⟩, .int .i64 0] 39))
  refine (endR_any s _ .skip _ (nds_skip w1 _) (by simp [sz])).mono ?_
  rintro e w2 ⟨y, rfl, hn, hb⟩
  have N2 := Lib.hid hn
  have D2 := Lib.hid (D1'.out.trans (hb.mono D1'.out.size))
  clear hn hb
  go_wp2_with fail
  go_ret
  exact ⟨_, rfl, N2.out, D2.out⟩
set_option maxHeartbeats 1000000 in
theorem first12_other (a : Tm) (d : Tm) (va vd : Value) (w : World) (ha : Nds w va (flat a)) (hd : Nds w vd (flat d)) (h11 : kd a ≠ 11) (h14 : kd a ≠ 14) (hl : sz a + sz d ≤ 900) :
    Calls Tryz.prog 30 #[.int .i64 12, va, vd] w (OutN (.going a d) w) := by
  have AA := Lib.hid (fun w1 (hb : Below w.heap.size w w1) => ha.below hb)
  have DD := Lib.hid (fun w1 (hb : Below w.heap.size w w1) => hd.below hb)
  obtain ⟨b, o, cp, rfl, hc, hlt, hw, hat⟩ := form ha
  have HL : Hid (sz a + sz d ≤ 900) := Lib.hid hl
  have hp := sz_pos a
  obtain ⟨n, hn⟩ : ∃ n, sz a = n := ⟨_, rfl⟩
  rw [hn] at hc AA hp ⊢
  have g3 : (1 : Int) ≤ (n : Int) := by omega
  have g4 : (0 : Int) < (n : Int) := by omega
  clear hn
  have f1 : (kd a == 11) = false := by rw [beq_eq_false_iff_ne]; exact h11
  have f2 : (kd a == 14) = false := by rw [beq_eq_false_iff_ne]; exact h14
  obtain ⟨k, hk⟩ : ∃ k, kd a = k := ⟨_, rfl⟩
  obtain ⟨s, hs⟩ : ∃ s, sg a = s := ⟨_, rfl⟩
  rw [hk] at hw f1 f2
  rw [hs] at hw
  clear hk hs h11 h14
  have SW := Lib.hid hw
  obtain ⟨e0, e2⟩ := hw w (Below.refl _ _)
  unfold OutN
  clear hat ha hd hw hl
  go_enter Tryz.func30, Tryz.ntmps30
  go_wp2_with fail
  refine (nodeR_any 12 0 _).mono ?_
  rintro e w1 ⟨rfl, hb1⟩
  have D1 := Lib.hid hb1
  clear hb1
  go_wp2_with fail
  refine (mk2R 12 .going (fun _ _ => rfl) _ _ a d _ (AA.out _ D1.out) (DD.out _ D1.out) (by have := HL.out; omega)).mono ?_
  rintro e w2 ⟨y, rfl, hn, hb⟩
  have N2 := Lib.hid hn
  have D2 := Lib.hid (D1.out.trans (hb.mono D1.out.size))
  clear hn hb
  go_wp2_with fail
  go_ret
  exact ⟨_, rfl, N2.out, D2.out⟩
/-- The document's first, of kinds that go on alone. -/
theorem first5_any (a d : Tm) (va vd : Value) (w : World) (ha : Nds w va (flat a)) (hd : Nds w vd (flat d)) (RB : RS d) (h11 : kd a = 14 → kd (S d) ≠ 11) (hl : sz a + sz d ≤ 900) :
    Calls Tryz.prog 30 #[.int .i64 5, va, vd] w (OutN (sSeq S a d) w) := by
  by_cases g11 : kd a = 11
  · obtain ⟨s, rfl⟩ := kd11 g11
    by_cases hs : s = 1
    · subst hs
      exact first5_tick d va vd w ha hd (Lib.hid RB) hl
    · have e : sSeq S (.over s) d = .over s := by simp [sSeq, hs]
      rw [e]
      exact first5_over s d va vd w ha hd hs hl
  · by_cases g14 : kd a = 14
    · have h := h11 g14
      obtain ⟨s, c, rfl⟩ := kd14 g14
      by_cases hs : s = 1
      · subst hs
        exact first5_fin1 c d va vd w ha hd (Lib.hid RB) h hl
      · have e : sSeq S (.fin s c) d = .fin s c := by simp [sSeq, hs]
        rw [e]
        exact first5_fin s c d va vd w ha hd hs hl
    · have e : sSeq S a d = .seq a d := by cases a <;> first | rfl | exact absurd rfl g11 | exact absurd rfl g14
      rw [e]
      exact first5_other a d va vd w ha hd g11 g14 hl
theorem first8_any (a d : Tm) (va vd : Value) (w : World) (ha : Nds w va (flat a)) (hd : Nds w vd (flat d)) (RB : RS d) (g14 : kd a ≠ 14) (hl : sz a + sz d ≤ 900) :
    Calls Tryz.prog 30 #[.int .i64 8, va, vd] w (OutN (sHand S a d) w) := by
  by_cases g11 : kd a = 11
  · obtain ⟨s, rfl⟩ := kd11 g11
    by_cases hs : s = 2
    · subst hs
      exact first8_bang d va vd w ha hd (Lib.hid RB) hl
    · have e : sHand S (.over s) d = .over s := by simp [sHand, hs]
      rw [e]
      exact first8_over s d va vd w ha hd hs hl
  · have e : sHand S a d = .hand a d := by cases a <;> first | rfl | exact absurd rfl g11 | exact absurd rfl g14
    rw [e]
    exact first8_other a d va vd w ha hd g11 g14 hl
theorem first12_any (a d : Tm) (va vd : Value) (w : World) (ha : Nds w va (flat a)) (hd : Nds w vd (flat d)) (g14 : kd a ≠ 14) (hl : sz a + sz d ≤ 900) :
    Calls Tryz.prog 30 #[.int .i64 12, va, vd] w (OutN (sGoing a d) w) := by
  by_cases g11 : kd a = 11
  · obtain ⟨s, rfl⟩ := kd11 g11
    by_cases hs : s = 1
    · subst hs
      exact first12_tick d va vd w ha hd hl
    · have e : sGoing (.over s) d = .fin s .skip := by simp [sGoing, hs]
      rw [e]
      exact first12_over s d va vd w ha hd hs hl
  · have e : sGoing a d = .going a d := by cases a <;> first | rfl | exact absurd rfl g11 | exact absurd rfl g14
    rw [e]
    exact first12_other a d va vd w ha hd g11 g14 hl
end Go.Proofs.YtpingbiibbmcaaaGreat.Se

namespace Go.Proofs.YtpingbiibbmcaaaGreat.Rf
open Go Go.RowKit Go.Proofs.YtpingbiibbmcaaaGreat.Rw
set_option maxRecDepth 20000

end Go.Proofs.YtpingbiibbmcaaaGreat.Rf

namespace Go.Proofs.YtpingbiibbmcaaaGreat.Tr
open Go Go.RowKit
set_option maxRecDepth 20000

/-- All traces of two, side by side. -/
def pr (p q : Tr) : List Tr := norm ((mx 19 p.a q.a).map fun r => ⟨r, Sg.both p.e q.e⟩)
end Go.Proofs.YtpingbiibbmcaaaGreat.Tr
