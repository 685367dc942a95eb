/- The statements' own first look at package parse, from the contracts. The program's text of any tree, and Print. Plain: texts between brackets, and joined. ParseNames from the contracts. The contracts of package parse. Plain: two texts joined by a sign. ParseTexts from the contracts. ParsePrints from the contracts. ParseAgain from the contracts. ParseBrackets from the contracts. -/
import Derived.Test.YtdhaghabhdeakaaQ24
import Derived.Test.YtdhaghabhdeakaaQ26
import Derived.Test.YtdhaghabhdeakaaQ15
import Derived.Test.YtdhaghabhdeakaaQ25
import Derived.Test.YtdhaghabhdeakaaQ07
import Derived.Test.YtdhaghabhdeakaaQ16
import Derived.Test.YtdhaghabhdeakaaQ17

namespace Go.Proofs.Ytdhaghabhdeakaa.Pa
open Go Go.RowKit Rw So
set_option maxRecDepth 20000

theorem nds1 {w : World} {y : Value} (h : Nds w y l1) : ∃ b o c, y = .slice (some ⟨b, o, none⟩) 10 c := by
  rcases h.form with ⟨h0, _⟩ | ⟨b, o, c, rfl, _, _⟩
  · cases h0
  · exact ⟨b, o, c, rfl⟩
set_option maxHeartbeats 8000000 in
theorem alive_any (C : Con) (w : World) : Calls Try.prog 10 #[] w fun e w' => e = .returned (.bool true) ∧ Below w.heap.size w w' := by
  have A1 := Lib.hid (fun w' => C.cParse p1 w' (by decide))
  have A2 := Lib.hid (fun w' => C.cParse p2 w' (by decide))
  have A3 := Lib.hid (fun w' => C.cParse p3 w' (by decide))
  have A4 := Lib.hid (fun w' => C.cPrint (.slice none 0 0) [] w' (nds_nil _) (by decide) (fun _ h => by cases h))
  have A5 := Lib.hid (fun w' => C.cName p4 w' (by decide))
  have A6 := Lib.hid (fun w' => C.cName p5 w' (by decide))
  rw [parse1] at A1
  rw [parse2] at A2
  rw [parse3] at A3
  have N1 : Nms l1 := by
    unfold Nms
    decide +kernel
  go_enter Try.func10, Try.ntmps10
  go_wp2_with fail
  refine (A1.out _).mono ?_
  rintro e w1 ⟨y, rfl, hy, hb1⟩
  have HY1 := Lib.hid hy
  obtain ⟨b, o, c, rfl⟩ := nds1 hy
  have B1 := Lib.hid hb1
  clear hy hb1
  go_wp2_with fail
  refine (A2.out _).mono ?_
  rintro e w2 ⟨y2, rfl, -, hb⟩
  have B2 := Lib.hid (B1.out.trans (hb.mono B1.out.size))
  have HY2 := Lib.hid (HY1.out.below hb)
  clear hb B1 HY1
  go_wp2_with fail
  refine (A3.out _).mono ?_
  rintro e w3 ⟨y3, rfl, -, hb⟩
  have B3 := Lib.hid (B2.out.trans (hb.mono B2.out.size))
  have HY3 := Lib.hid (HY2.out.below hb)
  clear hb B2 HY2
  go_wp2_with fail
  refine (C.cPrint _ l1 _ HY3.out (by decide) N1).mono ?_
  rintro e w4 ⟨u, rfl, -, hu, hb⟩
  obtain rfl := (print1 hu).trans (show p1 = ⟨#[91, 97, 47, 98, 32, 59, 32, 99, 47, 100, 93, 32, 124, 32, 101]⟩ from rfl)
  rw [right1]
  have B4 := Lib.hid (B3.out.trans (hb.mono B3.out.size))
  have HY4 := Lib.hid (HY3.out.below hb)
  clear hb hu B3 HY3
  go_wp2_with fail
  refine (A4.out _).mono ?_
  rintro e w5 ⟨u, rfl, -, -, hb⟩
  rw [right_nil]
  have B5 := Lib.hid (B4.out.trans (hb.mono B4.out.size))
  have HY5 := Lib.hid (HY4.out.below hb)
  clear hb B4 HY4
  go_wp2_with fail
  refine (C.cSize _ l1 _ HY5.out (by decide)).mono ?_
  rw [size1]
  rintro e w6 ⟨rfl, hb⟩
  have B6 := Lib.hid (B5.out.trans (hb.mono B5.out.size))
  clear hb B5 HY5
  go_wp2_with fail
  refine (A5.out _).mono ?_
  rintro e w7 ⟨y7, rfl, h7, hb⟩
  have B7 := Lib.hid (B6.out.trans (hb.mono B6.out.size))
  obtain ⟨_, a7, c7, rfl, -⟩ := h7
  rw [name4]
  clear hb B6
  go_wp2_with fail
  refine (A6.out _).mono ?_
  rintro e w8 ⟨y8, rfl, h8, hb⟩
  have B8 := Lib.hid (B7.out.trans (hb.mono B7.out.size))
  rw [name5] at h8
  rcases h8.form with ⟨h0, _⟩ | ⟨b8, o8, c8, rfl, _, hat⟩
  · cases h0
  obtain ⟨e1, e2, e3⟩ := hat 0 (by simp)
  rw [Nat.zero_mul, Nat.add_zero] at e1 e2 e3
  simp only [List.getElem_cons_zero, c1] at e1 e2 e3
  clear hb B7 hat h8
  go_wp2_with fail
  go_ret
  exact ⟨rfl, B8.out⟩
end Go.Proofs.Ytdhaghabhdeakaa.Pa

namespace Go.Proofs.Ytdhaghabhdeakaa.Pa
open Go Go.RowKit Rw So
set_option maxRecDepth 20000

/-- No pair within a pair, as its first tree. -/
def Tm.fit : Tm → Prop
  | .leaf _ => True
  | .blk a => a.fit
  | .bin k a b => (k = 10 → a.rank ≠ 4) ∧ a.fit ∧ b.fit
theorem textP_any : ∀ t : Tm, t.ok → t.nam → t.fit → TextP t
  | .leaf x, _, _, _ => textP_leaf x
  | .blk a, ho, hn, hf => textP_blk (textP_any a ho hn hf) hn
  | .bin k a b, ho, hn, hf => by
    have ha := textP_any a ho.2.1 hn.1 hf.2.1
    have hb := textP_any b ho.2.2 hn.2 hf.2.2
    rcases ho.1 with h | h | h | h | h <;> subst h
    · exact textP_5 ha hb hn.1 hn.2
    · exact textP_6 ha hb hn.1 hn.2
    · exact textP_7 ha hb hn.1 hn.2
    · exact textP_8 ha hb hn.1 hn.2
    · exact textP_10 ha hb hn.1 hn.2 (hf.1 rfl)
theorem plain_rank {t : Tm} {m : List Nd} (hc : Cv t m) (h : Is 1 m = true) : t.rank ≠ 4 := by
  rw [← hc.rank]
  rw [Is_one] at h
  unfold plainB at h
  intro h4
  have h10 : So.hd m = 10 := by
    unfold rankK at h4
    repeat' split at h4
    all_goals first | (cases h4; done) | assumption
  rw [h10] at h
  simp at h
theorem fit_of : ∀ (t : Tm) (l : List Nd), Cv t l → t.ok → (Is 1 l = true ∨ Is 2 l = true) → t.fit
  | .leaf _, _, _, _, _ => trivial
  | .blk a, l, hc, ho, hi => by
    obtain ⟨ht, hh, la, hk, hca, rfl⟩ := hc
    show a.fit
    refine fit_of a la hca ho ?_
    rw [Is_one, Is_two] at hi
    unfold plainB pairedB at hi
    have e0 : k0 (nOf 9 :: la) = la := by unfold k0; rw [hk]; rfl
    rw [hh, e0] at hi
    simp at hi
    exact Or.inr hi
  | .bin k a b, l, hc, ho, hi => by
    obtain ⟨ht, hh, la, lb, hk, hca, hcb, rfl⟩ := hc
    have e0 : k0 (nOf k :: (la ++ lb)) = la := by unfold k0; rw [hk]; rfl
    have e1 : k1 (nOf k :: (la ++ lb)) = lb := by unfold k1; rw [hk]; rfl
    rw [Is_one, Is_two] at hi
    unfold plainB pairedB at hi
    rw [hh, e0, e1] at hi
    have hall : (k = 10 → a.rank ≠ 4) ∧ (Is 1 la = true ∨ Is 2 la = true) ∧ (Is 1 lb = true ∨ Is 2 lb = true) := by
      rcases ho.1 with rfl | rfl | rfl | rfl | rfl <;> simp at hi
      case inr.inr.inr.inr => exact ⟨fun _ => plain_rank hca hi.1, Or.inl hi.1, Or.inl hi.2⟩
      case inr.inr.inr.inl => exact ⟨fun h => absurd h (by decide), Or.inl hi.1, Or.inl hi.2⟩
      all_goals
        refine ⟨fun h => absurd h (by decide), ?_, ?_⟩
        · rcases hi with hi | hi
          · exact Or.inl hi.1
          · exact Or.inr hi.1
        · rcases hi with hi | hi
          · exact Or.inl hi.2
          · exact Or.inr hi.2
    exact ⟨hall.1, fit_of a la hca ho.2.1 hall.2.1, fit_of b lb hcb ho.2.2 hall.2.2⟩
theorem right_is {l : List Nd} (h : rightB l = true) : Is 1 l = true := by
  unfold rightB at h
  simp only [Bool.and_eq_true, beq_iff_eq, decide_eq_true_eq] at h
  obtain ⟨h1, _, _⟩ := h
  unfold of first at h1
  cases hw : whole l with
  | false =>
    rw [hw, if_neg (by decide)] at h1
    cases h1
  | true =>
    rw [hw, if_pos rfl] at h1
    cases hi : Is 1 l with
    | true => rfl
    | false =>
      rw [hi, if_neg (by decide)] at h1
      repeat' split at h1
      all_goals cases h1
set_option maxHeartbeats 800000 in
theorem printP_any (l : List Nd) (v : Value) (w : World) (hv : Nds w v l) (hl : l.length ≤ 1000) (hm : Nms l) : Calls Try.prog 16 #[v] w (PrintPost l w) := by
  have HR := Lib.hid (Sx.rightP_any l v w hv hl hm)
  have HV := Lib.hid hv
  cases hr : rightB l with
  | false =>
    rw [hr] at HR
    have HF := Lib.hid hr
    clear hr
    go_enter Try.func16, Try.ntmps16
    go_wp2_with fail
    refine HR.out.mono ?_
    rintro e w1 ⟨rfl, hb⟩
    go_wp2_with fail
    go_ret2
    exact ⟨_, by rw [HF.out]; rfl, fun _ => rfl, fun _ _ h => (by rw [HF.out] at h; cases h), hb⟩
  | true =>
    rw [hr] at HR
    have HF := Lib.hid hr
    obtain ⟨t, hc, ho, hn⟩ := right_conv hr
    have hf := fit_of t l hc ho (Or.inl (right_is hr))
    have h60 : l.length ≤ 200 := by
      unfold rightB at hr
      simp only [Bool.and_eq_true, decide_eq_true_eq] at hr
      omega
    have HT := Lib.hid (fun w' h => textP_any t ho hn hf l v w' hc h h60)
    have HC := Lib.hid hc
    clear hr hc ho hn hf
    go_enter Try.func16, Try.ntmps16
    go_wp2_with fail
    refine HR.out.mono ?_
    rintro e w1 ⟨rfl, hb⟩
    have HB := Lib.hid hb
    clear hb
    go_wp2_with fail
    refine (HT.out _ (HV.out.below HB.out)).mono ?_
    rintro e w2 ⟨u, rfl, hu, hb2⟩
    go_wp2_with fail
    go_ret2
    refine ⟨u, by rw [HF.out]; rfl, fun h => (by rw [HF.out] at h; cases h), fun t' hc' _ => ?_, HB.out.trans (hb2.mono HB.out.size)⟩
    rw [hu, HC.out.det hc']
end Go.Proofs.Ytdhaghabhdeakaa.Pa

namespace Go.Proofs.Ytdhaghabhdeakaa.Pa
open Go Go.RowKit Rw So
set_option maxRecDepth 20000

theorem parseG_fine {g : Got} {ts : List To.Tk} {n : Nat} (h : (parseG g ts n).err = 0) (hx : g.next ≤ ts.length) : g = ⟨(parseG g ts n).L, ts.length, false⟩ := by
  by_cases h1 : g.bad = true ∨ g.next < ts.length
  · unfold parseG at h
    rw [if_pos h1] at h
    cases h
  by_cases h2 : 60 < g.L.length
  · unfold parseG at h
    rw [if_neg h1, if_pos h2] at h
    cases h
  by_cases h3 : 16 < depth g.L
  · unfold parseG at h
    rw [if_neg h1, if_neg h2, if_pos h3] at h
    cases h
  by_cases h4 : So.of g.L ≠ 1
  · unfold parseG at h
    rw [if_neg h1, if_neg h2, if_neg h3, if_pos h4] at h
    cases h
  · unfold parseG
    rw [if_neg h1, if_neg h2, if_neg h3, if_neg h4]
    simp only [not_or, Bool.not_eq_true, Nat.not_lt] at h1
    obtain ⟨gL, gn, gb⟩ := g
    obtain ⟨e1, e2⟩ := h1
    have e1 : gb = false := e1
    have e2 : ts.length ≤ gn := e2
    have hx : gn ≤ ts.length := hx
    obtain rfl : gn = ts.length := by omega
    subst e1
    rfl
/-- What a text that is parsed is read as. -/
theorem parse_fine {s : ByteArray} (h : (parseR s).err = 0) : ∃ ts, Gives s.data.toList (tkn ts) ∧ LvR (tkn ts) 0 0 ⟨(parseR s).L, (tkn ts).length, false⟩ ∧ rightB (parseR s).L = true ∧ (parseR s).place = s.size := by
  rcases parse_right s with ⟨_, hr, hp⟩ | ⟨h1, _⟩
  case inr => exact absurd h h1
  cases hl : To.lexR s with
  | bad a e =>
    have he : parseR s = ⟨[], a, e⟩ := by unfold parseR; rw [hl]
    rw [he] at hr
    rw [right_nil] at hr
    cases hr
  | ok ts =>
    refine ⟨ts, ?_, ?_, hr, hp⟩
    · have hl2 := hl
      unfold To.lexR at hl2
      split at hl2
      · cases hl2
      · intro r p hn
        exact F_app _ _ _ _ (Nat.le_refl _) hl2 r p hn
    · have he : parseR s = parseT ts s.size := by unfold parseR; rw [hl]
      obtain ⟨_, _, hx, _, _⟩ := got_facts hl
      have hg := got_is (tkn ts)
      rw [he] at h ⊢
      have e := parseG_fine h hx
      rw [tkn_len]
      show LvR (tkn ts) 0 0 ⟨(parseG (got (tkn ts)) ts s.size).L, ts.length, false⟩
      rw [← e]
      exact hg
/-- What a text that is read as a right row is parsed as. -/
theorem parse_gives {u : ByteArray} {q : List Kn} {L : List Nd} (hg : Gives u.data.toList q) (h : LvR q 0 0 ⟨L, q.length, false⟩) (hr : rightB L = true) (hs : u.size ≤ 1000) : parseR u = ⟨L, u.size, 0⟩ := by
  obtain ⟨ts, hk, hF⟩ := hg [] 0 trivial
  rw [List.append_nil, To.F_nil] at hF
  have hF2 : To.F u.data.toList 0 = .ok ts := by rw [hF]; simp [To.Res.pre]
  have hlen : ts.length = q.length := by rw [← hk]; simp [tkn]
  unfold rightB at hr
  simp only [Bool.and_eq_true, beq_iff_eq, decide_eq_true_eq] at hr
  obtain ⟨h1, h2, h3⟩ := hr
  unfold parseR To.lexR
  rw [if_neg (by omega), hF2]
  show parseG (got (tkn ts)) ts u.size = _
  rw [hk, got_of h]
  unfold parseG
  rw [if_neg (by simp [hlen]), if_neg (by simp only; omega), if_neg (by simp only; omega), if_neg (by simp only [h1]; simp)]
/-- Between brackets it is the same. -/
theorem parse_brk {s u : ByteArray} (h : (parseR s).err = 0) (hu : u.data.toList = 40 :: ((40 :: (s.data.toList ++ [41])) ++ [41])) (hs : u.size ≤ 1000) : parseR u = ⟨(parseR s).L, u.size, 0⟩ := by
  obtain ⟨ts, hg, hl, hr, _⟩ := parse_fine h
  refine parse_gives (q := (1, ⟨#[]⟩) :: (((1, ⟨#[]⟩) :: (tkn ts ++ [(2, ⟨#[]⟩)])) ++ [(2, ⟨#[]⟩)])) (by rw [hu]; exact gives_brk (c := true) (gives_brk (c := true) hg)) ?_ hr hs
  have b1 := bracketed hl
  have e1 : ((1, ⟨#[]⟩) :: (tkn ts ++ [(2, ⟨#[]⟩)]) : List Kn).length = (tkn ts).length + 2 := by simp
  have b2 := bracketed (t := (1, ⟨#[]⟩) :: (tkn ts ++ [(2, ⟨#[]⟩)])) (by rw [e1]; exact b1)
  have e2 : ((1, ⟨#[]⟩) :: (((1, ⟨#[]⟩) :: (tkn ts ++ [(2, ⟨#[]⟩)])) ++ [(2, ⟨#[]⟩)]) : List Kn).length = ((1, ⟨#[]⟩) :: (tkn ts ++ [(2, ⟨#[]⟩)]) : List Kn).length + 2 := by simp
  rw [e2]
  exact b2
end Go.Proofs.Ytdhaghabhdeakaa.Pa

namespace Go.Proofs.Ytdhaghabhdeakaa.Pa
open Go Go.RowKit Rw So
set_option maxRecDepth 20000

theorem sameN_refl (l : List Nd) : sameN l l = true := by
  unfold sameN
  simp
set_option maxHeartbeats 2000000 in
theorem names_law (C : Con) (s : ByteArray) (w : World) (hs : s.size ≤ 140737488355328) :
    Calls Try.prog 6 #[.string s] w fun e w' => e = .returned (.bool true) ∧ Below w.heap.size w w' := by
  have HS := Lib.hid hs
  have HA := Lib.hid (alive_any C)
  have HN := Lib.hid (fun w' => C.cName s w' HS.out)
  have HM := Lib.hid (fun w' => name_any s w')
  by_cases h1 : s.size ≤ 100
  · go_enter Try.func6, Try.ntmps6
    go_wp2_with fail
    refine (HA.out _).mono ?_
    rintro e w1 ⟨rfl, hb⟩
    have B1 := Lib.hid hb
    clear hb
    go_wp2_with fail
    refine (HN.out _).mono ?_
    rintro e w2 ⟨y, rfl, hy, hb⟩
    have B2 := Lib.hid (B1.out.trans (hb.mono B1.out.size))
    have HY := Lib.hid hy
    clear hb B1 hy
    go_wp2_with fail
    refine (HM.out _).mono ?_
    rintro e w3 ⟨z, rfl, hz, hb⟩
    have B3 := Lib.hid (B2.out.trans (hb.mono B2.out.size))
    have HY2 := Lib.hid (HY.out.below hb)
    have HZ := Lib.hid hz
    clear hb B2 hz
    go_wp2_with fail
    refine (sameR_any _ _ _ _ _ HY2.out HZ.out.rd (by have := name_len s; omega)).mono ?_
    rw [sameN_refl]
    rintro e w4 ⟨rfl, hb⟩
    go_wp2_with fail
    go_ret
    exact ⟨rfl, B3.out.trans (hb.mono B3.out.size)⟩
  · go_enter Try.func6, Try.ntmps6
    go_wp2_with fail
    refine (HA.out _).mono ?_
    rintro e w1 ⟨rfl, hb⟩
    go_wp2_with fail
    go_ret
    exact ⟨rfl, hb⟩
end Go.Proofs.Ytdhaghabhdeakaa.Pa

namespace Go.Proofs.Ytdhaghabhdeakaa.Pa
open Go Go.RowKit Rw So
set_option maxRecDepth 20000
theorem con : Con where
  cParse := fun s w _ => parseP_any s w
  cPrint := fun v l w hv hl hm => printP_any l v w hv hl hm
  cName := fun n w _ => (nameP_any n w).mono fun _ _ ⟨y, he, hy, hb⟩ => ⟨y, he, hy.rd, hb⟩
  cSize := fun v l w hv hl => Rx.sizeP_any v l w hv (by omega)
  cDepth := fun v l w hv hl => Rx.depthP_any v l w hv (by omega)
  cRight := fun v l w hv hl hm => Sx.rightP_any l v w hv hl hm
end Go.Proofs.Ytdhaghabhdeakaa.Pa

namespace Go.Proofs.Ytdhaghabhdeakaa.Pa
open Go Go.RowKit Rw So
set_option maxRecDepth 20000

theorem depth_mk {k : Int} {a b : List Nd} (hk : ar k = 2) (ha : Tre a) (hb : Tre b) : depth (nOf k :: (a ++ b)) = max (depth a) (depth b) + 1 := by
  obtain ⟨d1, t1⟩ := ha
  obtain ⟨d2, t2⟩ := hb
  have a1 := T_append b t1
  have s1 : S 1 (a ++ b) = some (a.length, max 0 d1) := by
    rw [show (1 : Nat) = 0 + 1 from rfl, S_succ, S_zero]
    simp only [List.drop_zero, a1, Nat.zero_add]
  have dm : (a ++ b).drop a.length = b := by simp
  have s2 : S 2 (a ++ b) = some (a.length + b.length, max (max 0 d1) d2) := by
    rw [show (2 : Nat) = 1 + 1 from rfl, S_succ, s1]
    simp only [dm, t2]
  have hT : T (nOf k :: (a ++ b)) = some (a.length + b.length + 1, max (max 0 d1) d2 + 1) := by
    rw [T_cons, if_neg (show ¬ ar (nOf k).k < 0 by show ¬ ar k < 0; omega), show (ar (nOf k).k).toNat = 2 by show (ar k).toNat = 2; rw [hk]; rfl, s2]
  unfold depth
  rw [hT, t1, t2]
  show max (max 0 d1) d2 + 1 = max d1 d2 + 1
  rw [Nat.zero_max]
theorem right_mk {j : Nat} (hj : j < 4) {a b : List Nd} (ha : rightB a = true) (hb : rightB b = true) (hl : a.length + b.length < 60) (hd : max (depth a) (depth b) < 16) : rightB (nOf (sg j) :: (a ++ b)) = true := by
  unfold rightB at ha hb
  simp only [Bool.and_eq_true, beq_iff_eq, decide_eq_true_eq] at ha hb
  have wa := whole_tre (of_one ha.1).1
  have wb := whole_tre (of_one hb.1).1
  have h4 : j = 0 ∨ j = 1 ∨ j = 2 ∨ j = 3 := by omega
  have ho : of (nOf (sg j) :: (a ++ b)) = 1 := by
    rcases h4 with rfl | rfl | rfl | rfl
    · exact mk_7_11 ha.1 hb.1 (by omega)
    · exact mk_6_11 ha.1 hb.1 (by omega)
    · exact mk_8_11 ha.1 hb.1 (by omega)
    · exact mk_5_11 ha.1 hb.1 (by omega)
  have har : ar (sg j) = 2 := by rcases h4 with rfl | rfl | rfl | rfl <;> decide
  unfold rightB
  simp only [Bool.and_eq_true, beq_iff_eq, decide_eq_true_eq]
  exact ⟨ho, by rw [List.length_cons, List.length_append]; omega, by rw [depth_mk har wa wb]; omega⟩
def jb (j : Nat) : UInt8 := if j = 0 then 124 else if j = 1 then 43 else if j = 2 then 62 else 59
theorem gives_jb {j : Nat} (hj : j < 4) {l : List UInt8} {q : List Kn} (h : Gives l q) : Gives (jb j :: l) ((sg j, ⟨#[]⟩) :: q) ∧ To.noLet (jb j :: l) := by
  have h4 : j = 0 ∨ j = 1 ∨ j = 2 ∨ j = 3 := by omega
  rcases h4 with rfl | rfl | rfl | rfl
  · exact ⟨gives_sig (b := 124) (by decide) (by decide) (by decide) h, (by decide : To.letB 124 = false)⟩
  · exact ⟨gives_sig (b := 43) (by decide) (by decide) (by decide) h, (by decide : To.letB 43 = false)⟩
  · exact ⟨gives_sig (b := 62) (by decide) (by decide) (by decide) h, (by decide : To.letB 62 = false)⟩
  · exact ⟨gives_sig (b := 59) (by decide) (by decide) (by decide) h, (by decide : To.letB 59 = false)⟩
theorem parse_joins {s t u : ByteArray} {j : Nat} (hj : j < 4) (h1 : (parseR s).err = 0) (h2 : (parseR t).err = 0) (hl : (parseR s).L.length + (parseR t).L.length < 60) (hd : max (depth (parseR s).L) (depth (parseR t).L) < 16)
    (hu : u.data.toList = (40 :: (s.data.toList ++ [41])) ++ jb j :: (40 :: (t.data.toList ++ [41]))) (hs : u.size ≤ 1000) : parseR u = ⟨nOf (sg j) :: ((parseR s).L ++ (parseR t).L), u.size, 0⟩ := by
  obtain ⟨ts1, g1, l1, r1, _⟩ := parse_fine h1
  obtain ⟨ts2, g2, l2, r2, _⟩ := parse_fine h2
  obtain ⟨gj, hn⟩ := gives_jb hj (gives_brk (c := true) g2)
  have hg := (gives_brk (c := true) g1).append gj hn
  have hj2 := joined hj l1 l2
  refine parse_gives (by rw [hu]; exact hg) ?_ (right_mk hj r1 r2 hl hd) hs
  have e : (brk true (tkn ts1) ++ (sg j, ⟨#[]⟩) :: brk true (tkn ts2) : List Kn).length = (tkn ts1).length + 2 + 1 + ((tkn ts2).length + 2) := by
    show (((1, ⟨#[]⟩) :: (tkn ts1 ++ [(2, ⟨#[]⟩)])) ++ (sg j, ⟨#[]⟩) :: ((1, ⟨#[]⟩) :: (tkn ts2 ++ [(2, ⟨#[]⟩)])) : List Kn).length = _
    simp only [List.length_append, List.length_cons, List.length_nil]
    omega
  rw [e]
  exact hj2
theorem and3 (k : Int) : ∃ j : Nat, j < 4 ∧ bits BinOp.and IntKind.i64 k 3 = (j : Int) := by
  refine ⟨(BitVec.ofInt 64 k).toNat % 4, Nat.mod_lt _ (by decide), ?_⟩
  show IntKind.i64.wrap ((BitVec.ofInt 64 k &&& BitVec.ofInt 64 3).toNat : Int) = _
  rw [BitVec.toNat_and, show (BitVec.ofInt 64 3).toNat = 2 ^ 2 - 1 by decide, Nat.and_two_pow_sub_one_eq_mod, IntKind.wrap_i64]
  omega
end Go.Proofs.Ytdhaghabhdeakaa.Pa

namespace Go.Proofs.Ytdhaghabhdeakaa.Pa
open Go Go.RowKit Rw So
set_option maxRecDepth 20000

set_option maxHeartbeats 2000000 in
theorem texts_law (C : Con) (s : ByteArray) (w : World) (hs : s.size ≤ 140737488355328) :
    Calls Try.prog 3 #[.string s] w fun e w' => e = .returned (.bool true) ∧ Below w.heap.size w w' := by
  have HS := Lib.hid hs
  have HA := Lib.hid (alive_any C)
  have HP := Lib.hid (fun w' => C.cParse s w' HS.out)
  have HR := Lib.hid (fun w' => parseR_any s w')
  obtain ⟨p1, p2⟩ := place_in s
  obtain ⟨hf1, hf2⟩ := parse_few s
  have hrt : Hid (rightB (parseR s).L = decide ((parseR s).err = 0)) := by
    show _ = _
    rcases parse_right s with ⟨h1, h2, _⟩ | ⟨h1, h2⟩
    · rw [h2, decide_eq_true h1]
    · rw [h2, right_nil, decide_eq_false h1]
  have HF1 := Lib.hid hf1
  have HF2 := Lib.hid hf2
  clear hf1 hf2
  obtain ⟨r, hr⟩ : ∃ r, parseR s = r := ⟨_, rfl⟩
  rw [hr] at HP HR p1 p2 HF1 HF2 hrt
  clear hr
  obtain ⟨L, at1, er⟩ := r
  by_cases h1 : s.size ≤ 1100
  · go_enter Try.func3, Try.ntmps3
    go_wp2_with fail
    refine (HP.out _).mono ?_
    rintro e w1 ⟨y, rfl, hy, hb⟩
    have B1 := Lib.hid hb
    have Y1 := Lib.hid hy
    clear hb hy
    go_wp2_with fail
    refine (HR.out _).mono ?_
    rintro e w2 ⟨z, rfl, hz, hb⟩
    have B2 := Lib.hid (B1.out.trans (hb.mono B1.out.size))
    have Y2 := Lib.hid (Y1.out.below hb)
    have Z2 := Lib.hid hz
    clear hb B1 Y1 hz
    go_wp2_with fail
    refine (HA.out _).mono ?_
    rintro e w3 ⟨rfl, hb⟩
    have B3 := Lib.hid (B2.out.trans (hb.mono B2.out.size))
    have Y3 := Lib.hid (Y2.out.below hb)
    have Z3 := Lib.hid (Z2.out.below hb)
    clear hb B2 Y2 Z2
    go_wp2_with fail
    refine (sameR_any _ _ _ _ _ Y3.out Z3.out (by have := HF1.out; omega)).mono ?_
    rw [sameN_refl]
    rintro e w4 ⟨rfl, hb⟩
    have B4 := Lib.hid (B3.out.trans (hb.mono B3.out.size))
    have Y4 := Lib.hid (Y3.out.below hb)
    clear hb B3 Y3 Z3
    go_wp2_with fail
    refine (C.cRight _ _ _ Y4.out (by have := HF1.out; omega) HF2.out).mono ?_
    rw [hrt.out]
    rintro e w5 ⟨rfl, hb⟩
    go_wp2_with fail
    go_ret
    exact ⟨by simp; rfl, B4.out.trans (hb.mono B4.out.size)⟩
  · go_enter Try.func3, Try.ntmps3
    go_wp2_with fail
    refine (HA.out _).mono ?_
    rintro e w1 ⟨rfl, hb⟩
    go_wp2_with fail
    go_ret
    exact ⟨rfl, hb⟩
end Go.Proofs.Ytdhaghabhdeakaa.Pa

namespace Go.Proofs.Ytdhaghabhdeakaa.Pa
open Go Go.RowKit Rw So
set_option maxRecDepth 20000

/-- Few nodes, and not deep. -/
def fewP (l : List Nd) : Bool := decide (l.length ≤ 120) && decide (depth l ≤ 24)
set_option maxHeartbeats 1000000 in
theorem fewP_any (l : List Nd) (v : Value) (w : World) (hv : Nds w v l) :
    Calls Try.prog 15 #[v] w fun e w' => e = .returned (.bool (fewP l)) ∧ w = w' := by
  have HV := Lib.hid hv
  obtain ⟨_, a, cap, rfl, -⟩ := hv
  unfold fewP
  obtain ⟨d, hd⟩ : ∃ d, depth l = d := ⟨_, rfl⟩
  have HD := Lib.hid hd
  rw [hd]
  clear hd
  by_cases h1 : l.length ≤ 120
  · rw [decide_eq_true h1, Bool.true_and]
    have HR := Lib.hid (fun w' h => depthR_any (.slice a l.length cap) l w' h (by omega))
    go_enter Try.func15, Try.ntmps15
    go_wp2_with fail
    refine (HR.out _ HV.out).mono ?_
    rw [HD.out]
    rintro e w' ⟨rfl, rfl⟩
    go_wp2_with fail
    go_ret
    exact ⟨ret_bool (decide_eq_decide.2 (by omega)), rfl⟩
  · rw [decide_eq_false h1, Bool.false_and]
    go_enter Try.func15, Try.ntmps15
    go_wp2_with fail
    go_ret
    exact ⟨rfl, rfl⟩
theorem bytes_eq {u v : ByteArray} (h : u.data.toList = v.data.toList) : u = v := by
  have e2 := Array.toList_inj.1 h
  cases u
  exact congrArg ByteArray.mk e2
set_option maxHeartbeats 2000000 in
theorem prints_law (C : Con) (v : Value) (l : List Nd) (w : World) (hv : Nds w v l) (hm : Nms l) :
    Calls Try.prog 4 #[v] w fun e w' => e = .returned (.bool true) ∧ Below w.heap.size w w' := by
  have HV := Lib.hid hv
  have HM := Lib.hid hm
  have HA := Lib.hid (alive_any C)
  have HF := Lib.hid (fewP_any l v w hv)
  cases hf : fewP l with
  | false =>
    rw [hf] at HF
    clear hf
    obtain ⟨_, a, cap, rfl, -⟩ := hv
    go_enter Try.func4, Try.ntmps4
    go_wp2_with fail
    refine HF.out.mono ?_
    rintro e w1 ⟨rfl, rfl⟩
    go_wp2_with fail
    refine (HA.out _).mono ?_
    rintro e w1 ⟨rfl, hb⟩
    go_wp2_with fail
    go_ret
    exact ⟨rfl, hb⟩
  | true =>
    rw [hf] at HF
    have hl : l.length ≤ 120 := by
      unfold fewP at hf
      simp only [Bool.and_eq_true, decide_eq_true_eq] at hf
      exact hf.1
    have HP := Lib.hid (fun w' h => C.cPrint v l w' h (by omega) HM.out)
    have HR := Lib.hid (fun w' h => printR_any l v w' h (by omega) HM.out)
    have HL := Lib.hid hl
    clear hf hl
    cases hr : rightB l with
    | false =>
      have HRB := Lib.hid hr
      clear hr
      obtain ⟨_, a, cap, rfl, -⟩ := hv
      go_enter Try.func4, Try.ntmps4
      go_wp2_with fail
      refine HF.out.mono ?_
      rintro e w1 ⟨rfl, rfl⟩
      go_wp2_with fail
      refine (HP.out _ HV.out).mono ?_
      rintro e w1 ⟨u, rfl, hu, -, hb⟩
      rw [HRB.out]
      obtain rfl := hu HRB.out
      have B1 := Lib.hid hb
      clear hb hu
      go_wp2_with fail
      refine (HR.out _ (HV.out.below B1.out)).mono ?_
      rintro e w2 ⟨u, rfl, hu, -, hb⟩
      rw [HRB.out]
      obtain rfl := hu HRB.out
      have B2 := Lib.hid (B1.out.trans (hb.mono B1.out.size))
      clear hb hu B1
      go_wp2_with fail
      refine (HA.out _).mono ?_
      rintro e w3 ⟨rfl, hb⟩
      go_wp2_with fail
      go_ret
      exact ⟨rfl, B2.out.trans (hb.mono B2.out.size)⟩
    | true =>
      obtain ⟨t, hc, ho, hn⟩ := right_conv hr
      have HPP : Hid (∀ u : ByteArray, u.data.toList = t.txt true → u.size ≤ 1000 → parseR u = ⟨l, u.size, 0⟩) := fun u hu hs => parse_print hr hc ho hn hu hs
      have HLEN : Hid (∀ u : ByteArray, u.data.toList = t.txt true → u.size ≤ 1000000) := fun u hu => by
        have h1 := txt_len true t hn
        rw [hc.row] at h1
        have := HL.out
        rw [← bytes_len, hu]
        omega
      have HC := Lib.hid hc
      have HRB := Lib.hid hr
      clear hr hc ho hn
      obtain ⟨_, a, cap, rfl, -⟩ := hv
      go_enter Try.func4, Try.ntmps4
      go_wp2_with fail
      refine HF.out.mono ?_
      rintro e w1 ⟨rfl, rfl⟩
      go_wp2_with fail
      refine (HP.out _ HV.out).mono ?_
      rintro e w1 ⟨u, rfl, -, hu, hb⟩
      rw [HRB.out]
      have hu := hu t HC.out HRB.out
      have HU := Lib.hid hu
      have B1 := Lib.hid hb
      clear hb hu
      go_wp2_with fail
      refine (HR.out _ (HV.out.below B1.out)).mono ?_
      rintro e w2 ⟨u2, rfl, -, hu2, hb⟩
      rw [HRB.out]
      obtain rfl : u = u2 := bytes_eq (HU.out.trans (hu2 t HC.out HRB.out).symm)
      have B2 := Lib.hid (B1.out.trans (hb.mono B1.out.size))
      have hsz := HLEN.out u HU.out
      clear hb hu2 B1
      by_cases hk : u.size ≤ 1000
      · have hp := HPP.out u HU.out hk
        have HPA := Lib.hid (fun w' => C.cParse u w' (by omega))
        rw [hp] at HPA
        clear hp
        go_wp2_with fail
        refine (HPA.out _).mono ?_
        rintro e w3 ⟨y, rfl, hy, hb⟩
        have B3 := Lib.hid (B2.out.trans (hb.mono B2.out.size))
        have HY := Lib.hid hy
        clear hb hy
        go_wp2_with fail
        refine (HA.out _).mono ?_
        rintro e w4 ⟨rfl, hb⟩
        have B4 := Lib.hid (B3.out.trans (hb.mono B3.out.size))
        have HY4 := Lib.hid (HY.out.below hb)
        clear hb B3 HY
        go_wp2_with fail
        refine (sameR_any _ _ _ _ _ HY4.out (HV.out.below B4.out) (by have := HL.out; omega)).mono ?_
        rw [sameN_refl]
        rintro e w5 ⟨rfl, hb⟩
        go_wp2_with fail
        go_ret
        exact ⟨rfl, B4.out.trans (hb.mono B4.out.size)⟩
      · go_wp2_with fail
        refine (HA.out _).mono ?_
        rintro e w3 ⟨rfl, hb⟩
        go_wp2_with fail
        go_ret
        exact ⟨rfl, B2.out.trans (hb.mono B2.out.size)⟩
end Go.Proofs.Ytdhaghabhdeakaa.Pa

namespace Go.Proofs.Ytdhaghabhdeakaa.Pa
open Go Go.RowKit Rw So
set_option maxRecDepth 20000

set_option maxHeartbeats 2000000 in
theorem again_law (C : Con) (s : ByteArray) (w : World) (hs : s.size ≤ 140737488355328) :
    Calls Try.prog 5 #[.string s] w fun e w' => e = .returned (.bool true) ∧ Below w.heap.size w w' := by
  have HS := Lib.hid hs
  have HA := Lib.hid (alive_any C)
  have HP := Lib.hid (fun w' => C.cParse s w' HS.out)
  obtain ⟨hf1, hf2⟩ := parse_few s
  have hpr := parse_right s
  have HF1 := Lib.hid hf1
  have HF2 := Lib.hid hf2
  clear hf1 hf2
  obtain ⟨r, hr⟩ : ∃ r, parseR s = r := ⟨_, rfl⟩
  rw [hr] at HP HF1 HF2 hpr
  clear hr
  obtain ⟨L, at1, er⟩ := r
  by_cases h1 : s.size ≤ 1100
  case neg =>
    clear hpr
    go_enter Try.func5, Try.ntmps5
    go_wp2_with fail
    refine (HA.out _).mono ?_
    rintro e w1 ⟨rfl, hb⟩
    go_wp2_with fail
    go_ret
    exact ⟨rfl, hb⟩
  rcases hpr with ⟨h2, hr, _⟩ | ⟨h2, h3⟩
  · have h2 : er = 0 := h2
    have hr : rightB L = true := hr
    subst h2
    obtain ⟨t, hc, ho, hn⟩ := right_conv hr
    have hc : Cv t L := hc
    have HPP : Hid (∀ u : ByteArray, u.data.toList = t.txt true → u.size ≤ 1000 → parseR u = ⟨L, u.size, 0⟩) := fun u hu hs => parse_print hr hc ho hn hu hs
    have HLEN : Hid (∀ u : ByteArray, u.data.toList = t.txt true → u.size ≤ 1000000) := fun u hu => by
      have h1 := txt_len true t hn
      rw [hc.row] at h1
      have h2 : L.length ≤ 60 := HF1.out
      rw [← bytes_len, hu]
      omega
    have HC := Lib.hid hc
    have HRB := Lib.hid hr
    have HPR := Lib.hid (fun v w' h => C.cPrint v L w' h (by have h2 : L.length ≤ 60 := HF1.out; omega) HF2.out)
    clear hr hc ho hn
    go_enter Try.func5, Try.ntmps5
    go_wp2_with fail
    refine (HP.out _).mono ?_
    rintro e w1 ⟨y, rfl, hy, hb⟩
    have B1 := Lib.hid hb
    have Y1 := Lib.hid hy
    clear hb hy
    go_wp2_with fail
    refine (HPR.out _ _ Y1.out).mono ?_
    rintro e w2 ⟨u, rfl, -, hu, hb⟩
    rw [HRB.out]
    have hu := hu t HC.out HRB.out
    have HU := Lib.hid hu
    have B2 := Lib.hid (B1.out.trans (hb.mono B1.out.size))
    have Y2 := Lib.hid (Y1.out.below hb)
    have hsz := HLEN.out u HU.out
    clear hb hu B1 Y1
    by_cases hk : u.size ≤ 1000
    · have hp := HPP.out u HU.out hk
      have HPA := Lib.hid (fun w' => C.cParse u w' (by omega))
      rw [hp] at HPA
      clear hp
      go_wp2_with fail
      refine (HPA.out _).mono ?_
      rintro e w3 ⟨z, rfl, hz, hb⟩
      have B3 := Lib.hid (B2.out.trans (hb.mono B2.out.size))
      have Y3 := Lib.hid (Y2.out.below hb)
      have Z3 := Lib.hid hz
      clear hb hz B2 Y2
      go_wp2_with fail
      refine (HPR.out _ _ Z3.out).mono ?_
      rintro e w4 ⟨u2, rfl, -, hu2, hb⟩
      rw [HRB.out]
      obtain rfl : u = u2 := bytes_eq (HU.out.trans (hu2 t HC.out HRB.out).symm)
      have B4 := Lib.hid (B3.out.trans (hb.mono B3.out.size))
      have Y4 := Lib.hid (Y3.out.below hb)
      have Z4 := Lib.hid (Z3.out.below hb)
      clear hb hu2 B3 Y3 Z3
      go_wp2_with fail
      refine (HA.out _).mono ?_
      rintro e w5 ⟨rfl, hb⟩
      have B5 := Lib.hid (B4.out.trans (hb.mono B4.out.size))
      have Y5 := Lib.hid (Y4.out.below hb)
      have Z5 := Lib.hid (Z4.out.below hb)
      clear hb B4 Y4 Z4
      go_wp2_with fail
      refine (sameR_any _ _ _ _ _ Z5.out Y5.out (by have h2 : L.length ≤ 60 := HF1.out; omega)).mono ?_
      rw [sameN_refl]
      rintro e w6 ⟨rfl, hb⟩
      go_wp2_with fail
      go_ret
      exact ⟨rfl, B5.out.trans (hb.mono B5.out.size)⟩
    · go_wp2_with fail
      refine (HA.out _).mono ?_
      rintro e w3 ⟨rfl, hb⟩
      go_wp2_with fail
      go_ret
      exact ⟨rfl, B2.out.trans (hb.mono B2.out.size)⟩
  · have h3 : L = [] := h3
    subst h3
    have h2 : er ≠ 0 := h2
    have h4 : (er != 0) = true := by simp [h2]
    go_enter Try.func5, Try.ntmps5
    go_wp2_with fail
    refine (HP.out _).mono ?_
    rintro e w1 ⟨y, rfl, hy, hb⟩
    have B1 := Lib.hid hb
    obtain ⟨_, a, cap, rfl, -⟩ := hy
    clear hb
    go_wp2_with fail
    refine (HA.out _).mono ?_
    rintro e w2 ⟨rfl, hb⟩
    go_wp2_with fail
    go_ret
    exact ⟨rfl, B1.out.trans (hb.mono B1.out.size)⟩
end Go.Proofs.Ytdhaghabhdeakaa.Pa

namespace Go.Proofs.Ytdhaghabhdeakaa.Pa
open Go Go.RowKit Rw So
set_option maxRecDepth 20000

set_option maxHeartbeats 2000000 in
theorem brackets_law (C : Con) (s : ByteArray) (w : World) (hs : s.size ≤ 140737488355328) :
    Calls Try.prog 7 #[.string s] w fun e w' => e = .returned (.bool true) ∧ Below w.heap.size w w' := by
  have HS := Lib.hid hs
  have HA := Lib.hid (alive_any C)
  by_cases h1 : s.size ≤ 900
  case neg =>
    go_enter Try.func7, Try.ntmps7
    go_wp2_with fail
    refine (HA.out _).mono ?_
    rintro e w1 ⟨rfl, hb⟩
    go_wp2_with fail
    go_ret
    exact ⟨rfl, hb⟩
  have hz : ((⟨#[40, 40]⟩ : ByteArray) ++ s ++ ⟨#[41, 41]⟩).size ≤ 1000 := by
    have : ((⟨#[40, 40]⟩ : ByteArray) ++ s ++ ⟨#[41, 41]⟩).size = 2 + s.size + 2 := by
      rw [← bytes_len, bytes_app, bytes_app]
      simp only [List.length_append, bytes_len]
      rfl
    omega
  have HQ : Hid ((parseR s).err = 0 → parseR ((⟨#[40, 40]⟩ : ByteArray) ++ s ++ ⟨#[41, 41]⟩) = ⟨(parseR s).L, (((⟨#[40, 40]⟩ : ByteArray) ++ s ++ ⟨#[41, 41]⟩).size : Nat), 0⟩) := fun h => parse_brk h (by rw [bytes_app, bytes_app]; simp) hz
  have HP := Lib.hid (fun w' => C.cParse s w' HS.out)
  have HP2 := Lib.hid (fun w' => C.cParse ((⟨#[40, 40]⟩ : ByteArray) ++ s ++ ⟨#[41, 41]⟩) w' (by omega))
  obtain ⟨hf1, hf2⟩ := parse_few s
  have HF1 := Lib.hid hf1
  clear hf1 hf2
  obtain ⟨r2, hr2⟩ : ∃ r, parseR ((⟨#[40, 40]⟩ : ByteArray) ++ s ++ ⟨#[41, 41]⟩) = r := ⟨_, rfl⟩
  obtain ⟨r, hr⟩ : ∃ r, parseR s = r := ⟨_, rfl⟩
  rw [hr2] at HP2 HQ
  rw [hr] at HP HF1 HQ
  generalize hN : (((⟨#[40, 40]⟩ : ByteArray) ++ s ++ ⟨#[41, 41]⟩).size : Nat) = N at HQ hz
  clear hr hr2 hN hz
  obtain ⟨L, at1, er⟩ := r
  obtain ⟨L2, at2, er2⟩ := r2
  by_cases he : er = 0
  · subst he
    have h2 := HQ.out rfl
    cases h2
    go_enter Try.func7, Try.ntmps7
    go_wp2_with fail
    refine (HP.out _).mono ?_
    rintro e w1 ⟨y, rfl, hy, hb⟩
    have B1 := Lib.hid hb
    have Y1 := Lib.hid hy
    clear hb hy
    go_wp2_with fail
    refine (HP2.out _).mono ?_
    rintro e w2 ⟨z, rfl, hz, hb⟩
    have B2 := Lib.hid (B1.out.trans (hb.mono B1.out.size))
    have Y2 := Lib.hid (Y1.out.below hb)
    have Z2 := Lib.hid hz
    clear hb hz B1 Y1
    go_wp2_with fail
    refine (HA.out _).mono ?_
    rintro e w3 ⟨rfl, hb⟩
    have B3 := Lib.hid (B2.out.trans (hb.mono B2.out.size))
    have Y3 := Lib.hid (Y2.out.below hb)
    have Z3 := Lib.hid (Z2.out.below hb)
    clear hb B2 Y2 Z2
    go_wp2_with fail
    refine (sameR_any _ _ _ _ _ Z3.out Y3.out (by have h2 : L.length ≤ 60 := HF1.out; omega)).mono ?_
    rw [sameN_refl]
    rintro e w6 ⟨rfl, hb⟩
    go_wp2_with fail
    go_ret
    exact ⟨rfl, B3.out.trans (hb.mono B3.out.size)⟩
  · have h4 : (er != 0) = true := by simp [he]
    clear HQ
    go_enter Try.func7, Try.ntmps7
    go_wp2_with fail
    refine (HP.out _).mono ?_
    rintro e w1 ⟨y, rfl, hy, hb⟩
    have B1 := Lib.hid hb
    clear hb hy
    go_wp2_with fail
    refine (HP2.out _).mono ?_
    rintro e w2 ⟨z, rfl, hz, hb⟩
    have B2 := Lib.hid (B1.out.trans (hb.mono B1.out.size))
    clear hb hz B1
    go_wp2_with fail
    refine (HA.out _).mono ?_
    rintro e w3 ⟨rfl, hb⟩
    go_wp2_with fail
    go_ret
    exact ⟨rfl, B2.out.trans (hb.mono B2.out.size)⟩
end Go.Proofs.Ytdhaghabhdeakaa.Pa
