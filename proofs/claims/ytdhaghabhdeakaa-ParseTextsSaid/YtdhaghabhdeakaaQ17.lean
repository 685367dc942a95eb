/- The document's Parse: the walk. The program's reader: how it lies in memory; take. The document's Text: leaves and blocks. The program's Name. The document's Text: between brackets where they are wanted. The program's upTo and atom. -/
import Derived.Test.YtdhaghabhdeakaaQ16
import Derived.Test.YtdhaghabhdeakaaQ07
import Derived.Deep.QuietTactic
import Derived.BigQuiet
import Derived.StillTailTactics

namespace Go.Proofs.Ytdhaghabhdeakaa.Pa
open Go Go.RowKit Rw
set_option maxRecDepth 20000

set_option maxHeartbeats 2000000 in
theorem parse_ok (s : ByteArray) (w : World) (ts : List To.Tk) (h : To.lexR s = .ok ts) : Calls Try.prog 12 #[.string s] w (ParsePost (parseR s) w) := by
  have HP : Hid (parseR s = parseT ts s.size) := by show _ = _; unfold parseR; rw [h]
  rw [HP.out]
  obtain ⟨hsh, hlen, hnx, hL, hsz⟩ := got_facts h
  have L1 := Lib.hid (To.lexR_any s)
  rw [h] at L1
  have L2 : Hid (∀ w', Calls Try.prog 28 #[.string s] w' fun e w'' => ∃ y, e = .returned (.tuple #[y, .int .i64 (s.size : Int), .int .i64 0]) ∧ To.Tks w'' y ts ∧ Below w'.heap.size w' w'') := L1
  unfold parseT
  have LV := Lib.hid (fun v w' hv' => level_any v ts w' hlen hv')
  obtain ⟨g, hg⟩ : ∃ g, got (tkn ts) = g := ⟨_, rfl⟩
  rw [hg] at LV hnx hL hsh ⊢
  have HSH := Lib.hid hsh
  have HHN := Lib.hid hnx
  clear h L1 hg HP hsh
  go_enter Try.func12, Try.ntmps12
  go_wp2_with fail
  refine (L2.out _).mono ?_
  rintro e wa ⟨v, rfl, hv, hb⟩
  have HB := Lib.hid hb
  have HV := Lib.hid hv
  obtain ⟨_, a, cap, rfl, -⟩ := hv
  clear hb
  go_wp2_with fail
  refine (LV.out _ _ HV.out).mono ?_
  rintro e wb ⟨y, rfl, hy, hb⟩
  have HB1 := Lib.hid (HB.out.trans (hb.mono HB.out.size))
  have HV1 := Lib.hid (HV.out.below hb)
  have HYB := Lib.hid hy
  obtain ⟨_, ya, yc, rfl, -⟩ := hy
  clear hb
  cases hgb : g.bad with
  | true =>
    have B2 := Lib.hid (below1 wb (.cells #[.slice ya g.L.length yc, .int .i64 (g.next : Int), .bool true] 49))
    have HY := Lib.hid ((HYB.out.below B2.out).rd)
    have HB2 := Lib.hid (HB1.out.trans (B2.out.mono HB1.out.size))
    have HV2 := Lib.hid (HV1.out.below B2.out)
    have KG := Lib.hid (Bk.mk wb (.slice ya g.L.length yc) (.int .i64 (g.next : Int)) (.bool true))
    obtain ⟨f1, f2, f3, f4, f5, f6⟩ := KG.out.cells
    have HGB := Lib.hid hgb
    clear hgb
    by_cases hlt : g.next < ts.length
    · rcases HV2.out.form with ⟨h0, _⟩ | ⟨b, off, cap', hsl, _, hat⟩
      · rw [h0] at hlt
        simp at hlt
      cases hsl
      obtain ⟨-, c2, -⟩ := hat g.next hlt
      have HPL : Hid (parseG g ts s.size = ⟨[], ts[g.next].a, 60⟩) := by
        show _ = _
        unfold parseG
        rw [if_pos (Or.inr hlt), List.getElem?_eq_getElem hlt]
      obtain ⟨pa, hpa⟩ : ∃ pa, ts[g.next].a = pa := ⟨_, rfl⟩
      rw [hpa] at c2 HPL
      clear hat hpa
      go_wp2_with fail
      go_ret3
      show ParsePost (parseG g ts s.size) w _ _
      rw [HPL.out]
      exact ⟨_, rfl, nds_nil _, HB2.out⟩
    · have HPL : Hid (parseG g ts s.size = ⟨[], (s.size : Int), 60⟩) := by
        show _ = _
        unfold parseG
        rw [if_pos (Or.inl HGB.out), List.getElem?_eq_none (by omega)]
      go_wp2_with fail
      go_ret3
      show ParsePost (parseG g ts s.size) w _ _
      rw [HPL.out]
      exact ⟨_, rfl, nds_nil _, HB2.out⟩
  | false =>
    have B2 := Lib.hid (below1 wb (.cells #[.slice ya g.L.length yc, .int .i64 (g.next : Int), .bool false] 49))
    have HY := Lib.hid ((HYB.out.below B2.out).rd)
    have HB2 := Lib.hid (HB1.out.trans (B2.out.mono HB1.out.size))
    have HV2 := Lib.hid (HV1.out.below B2.out)
    have KG := Lib.hid (Bk.mk wb (.slice ya g.L.length yc) (.int .i64 (g.next : Int)) (.bool false))
    obtain ⟨f1, f2, f3, f4, f5, f6⟩ := KG.out.cells
    have HGB := Lib.hid hgb
    clear hgb
    by_cases hlt : g.next < ts.length
    · rcases HV2.out.form with ⟨h0, _⟩ | ⟨b, off, cap', hsl, _, hat⟩
      · rw [h0] at hlt
        simp at hlt
      cases hsl
      obtain ⟨-, c2, -⟩ := hat g.next hlt
      have HPL : Hid (parseG g ts s.size = ⟨[], ts[g.next].a, 60⟩) := by
        show _ = _
        unfold parseG
        rw [if_pos (Or.inr hlt), List.getElem?_eq_getElem hlt]
      obtain ⟨pa, hpa⟩ : ∃ pa, ts[g.next].a = pa := ⟨_, rfl⟩
      rw [hpa] at c2 HPL
      clear hat hpa
      go_wp2_with fail
      go_ret3
      show ParsePost (parseG g ts s.size) w _ _
      rw [HPL.out]
      exact ⟨_, rfl, nds_nil _, HB2.out⟩
    · have HPL : Hid (parseG g ts s.size = if 60 < g.L.length then ⟨[], 0, 62⟩ else if 16 < depth g.L then ⟨[], 0, 63⟩ else if So.of g.L ≠ 1 then ⟨[], 0, 61⟩ else ⟨g.L, s.size, 0⟩) := by
        show _ = _
        unfold parseG
        rw [if_neg (by rw [HGB.out]; simp; omega)]
      by_cases h60 : 60 < g.L.length
      · go_wp2_with fail
        go_ret3
        show ParsePost (parseG g ts s.size) w _ _
        rw [HPL.out, if_pos h60]
        exact ⟨_, rfl, nds_nil _, HB2.out⟩
      · have hl60 : g.L.length ≤ 1000 := by omega
        have HDP := Lib.hid (fun v' w' hv' => depthR_any v' g.L w' hv' (by omega))
        have HOF := Lib.hid (fun v' w' hv' => So.ofR_any g.L v' w' hv' hl60 (fun x hx => Nat.le_trans (HSH.out x hx) (by decide)))
        obtain ⟨d, hd⟩ : ∃ d, depth g.L = d := ⟨_, rfl⟩
        obtain ⟨o, ho⟩ : ∃ o, So.of g.L = o := ⟨_, rfl⟩
        rw [if_neg h60] at HPL
        rw [hd, ho] at HPL
        rw [hd] at HDP
        rw [ho] at HOF
        clear hd ho
        by_cases h16 : 16 < d
        · go_wp2_with fail
          refine (HDP.out _ _ HY.out).mono ?_
          rintro e w' ⟨rfl, rfl⟩
          go_wp2_with fail
          go_ret3
          show ParsePost (parseG g ts s.size) w _ _
          rw [HPL.out, if_pos h16]
          exact ⟨_, rfl, nds_nil _, HB2.out⟩
        · rw [if_neg h16] at HPL
          by_cases ho1 : o = 1
          · subst ho1
            go_wp2_with fail
            refine (HDP.out _ _ HY.out).mono ?_
            rintro e w' ⟨rfl, rfl⟩
            go_wp2_with fail
            refine (HOF.out _ _ HY.out).mono ?_
            rintro e w5 ⟨rfl, hb5⟩
            have HY5 := Lib.hid (Nds.below HY.out hb5)
            have KG5 := Lib.hid (KG.out.below hb5)
            have HB5 := Lib.hid (HB2.out.trans (hb5.mono HB2.out.size))
            clear hb5 f1 f2 f3 f4 f5 f6
            obtain ⟨f1, f2, f3, f4, f5, f6⟩ := KG5.out.cells
            go_wp2_with fail
            go_ret3
            show ParsePost (parseG g ts s.size) w _ _
            rw [HPL.out, if_neg (by simp)]
            exact ⟨_, rfl, HY5.out, HB5.out⟩
          · have go1 : ((o : Int) != 1) = true := by rw [bne_iff_ne]; omega
            have HO1 := Lib.hid ho1
            clear ho1
            go_wp2_with fail
            refine (HDP.out _ _ HY.out).mono ?_
            rintro e w' ⟨rfl, rfl⟩
            go_wp2_with fail
            refine (HOF.out _ _ HY.out).mono ?_
            rintro e w5 ⟨rfl, hb5⟩
            have HB5 := Lib.hid (HB2.out.trans (hb5.mono HB2.out.size))
            clear hb5
            go_wp2_with fail
            go_ret3
            show ParsePost (parseG g ts s.size) w _ _
            rw [HPL.out, if_pos HO1.out]
            exact ⟨_, rfl, nds_nil _, HB5.out⟩
/-- The document's Parse. -/
theorem parseR_any (s : ByteArray) (w : World) : Calls Try.prog 12 #[.string s] w (ParsePost (parseR s) w) := by
  cases h : To.lexR s with
  | bad a e => exact parse_bad s w a e h
  | ok ts => exact parse_ok s w ts h
end Go.Proofs.Ytdhaghabhdeakaa.Pa

namespace Go.Proofs.Ytdhaghabhdeakaa.Pa
open Go Go.RowKit Rw
set_option maxRecDepth 20000

abbrev mvM (b : Nat) : Value := .func (.func 43) #[.pointer (some ⟨b, 0, none⟩)] #[]
abbrev mvO (b : Nat) : Value := .func (.func 44) #[.pointer (some ⟨b, 0, none⟩)] #[]
/-- A reader's cells: the tokens, the next one's number, the ways. -/
abbrev rdc (tv : Value) (p b : Nat) : Array Value :=
  #[tv, .int .i64 (p : Int), .int .i64 7, .int .i64 7, mvM b, .int .i64 6, .int .i64 6, mvM b, .int .i64 8, .int .i64 8, mvM b, .int .i64 5, .int .i64 5, mvM b, .int .i64 10, .int .i64 9, mvO b]
def Rb (w : World) (b : Nat) (tv : Value) (p : Nat) : Prop := w.heap[b]? = some (.cells (rdc tv p b) 72 (0, 0))
/-- The token that stands for the end. -/
def endT (en : Nat) : To.Tk := ⟨0, en, ⟨#[]⟩⟩
/-- A reader of these tokens, of which p are behind it. -/
structure Rdr (w : World) (b : Nat) (tv : Value) (ts : List To.Tk) (en p : Nat) : Prop where
  blk : Rb w b tv p
  row : Ap.RdO (fun k => k ≠ b) w 3 tv (ts.length + 1) (To.cls (ts ++ [endT en]))
  le : p ≤ ts.length
theorem Rb.lt {w : World} {b p : Nat} {tv : Value} (h : Rb w b tv p) : b < w.heap.size := Nat.lt_of_not_le fun hle => by
  unfold Rb at h
  rw [Array.getElem?_eq_none hle] at h
  cases h
/-- What only the block b may have changed in. -/
abbrev Mv (b : Nat) (w w' : World) : Prop := w.grownBy w' (some b)
theorem Mv.refl (b : Nat) (w : World) : Mv b w w := ⟨rfl, rfl, rfl, Nat.le_refl _, fun _ _ _ => rfl⟩
theorem Mv.trans {b : Nat} {w w' w'' : World} (h : Mv b w w') (k : Mv b w' w'') : Mv b w w'' :=
  ⟨k.os.trans h.os, k.tape.trans h.tape, k.output.trans h.output, Nat.le_trans h.size k.size, fun i hi hne => (k.block i (Nat.lt_of_lt_of_le hi h.size) hne).trans (h.block i hi hne)⟩
theorem Mv.of {b : Nat} {w w' : World} (h : Below w.heap.size w w') : Mv b w w' := ⟨h.os, h.tape, h.output, h.size, fun i hi _ => h.block i hi⟩
theorem Mv.below {b B : Nat} {w0 w w' : World} (h : Below B w0 w) (hm : Mv b w w') (hB : B ≤ w.heap.size) (hb : B ≤ b) : Below B w0 w' := h.grown hm hB fun k hk => by cases hk; exact hb
/-- What lies elsewhere is left. -/
theorem rdo_mv {b : Nat} {w w' : World} {size n : Nat} {v : Value} {cs : List Value} (h : Ap.RdO (fun k => k ≠ b) w size v n cs) (hm : Mv b w w') : Ap.RdO (fun k => k ≠ b) w' size v n cs := by
  obtain ⟨hl, a, cap, hv, hc, hn, hcell⟩ := h
  refine ⟨hl, a, cap, hv, hc, hn, fun h0 => ?_⟩
  obtain ⟨k, off, ha, hne, hlt, hj⟩ := hcell h0
  refine ⟨k, off, ha, hne, Nat.lt_of_lt_of_le hlt hm.size, fun j u hu => ?_⟩
  rw [World.cell?_of_block (w := w) (a := ⟨k, off + j, none⟩) (hm.block k hlt (fun e => hne (by cases e; rfl)))]
  exact hj j u hu
/-- What the call has made since is elsewhere. -/
theorem rdo_new {b : Nat} {w0 w : World} {size n : Nat} {v : Value} {cs : List Value} (h : Ap.RdO (fun k => w0.heap.size ≤ k) w size v n cs) (hb : b < w0.heap.size) : Ap.RdO (fun k => k ≠ b) w size v n cs := h.imp fun k _ hk => by omega
theorem Rb.below {w w' : World} {b p : Nat} {tv : Value} (h : Rb w b tv p) (hb : Below w.heap.size w w') : Rb w' b tv p := (hb.block b h.lt).trans h
theorem Rdr.below {w w' : World} {b p en : Nat} {tv : Value} {ts : List To.Tk} (h : Rdr w b tv ts en p) (hb : Below w.heap.size w w') : Rdr w' b tv ts en p := ⟨h.blk.below hb, h.row.below hb, h.le⟩
/-- What stands where a reader is. -/
def atOf (ts : List To.Tk) (en p : Nat) : Int := match ts[p]? with | some t => t.a | none => (en : Int)
theorem Rdr.at {w : World} {b p en : Nat} {tv : Value} {ts : List To.Tk} (h : Rdr w b tv ts en p) (i : Nat) (hi : i ≤ ts.length) : ∃ k off cap, tv = .slice (some ⟨k, off, none⟩) (ts.length + 1) cap ∧ k ≠ b ∧ k < w.heap.size ∧
    w.cell? ⟨k, off + i * 3, none⟩ = some (.int .i64 (kd (tkn ts) i)) ∧ w.cell? ⟨k, off + i * 3 + 1, none⟩ = some (.int .i64 (atOf ts en i)) ∧ w.cell? ⟨k, off + i * 3 + 2, none⟩ = some (.string (nmAt (tkn ts) i)) := by
  obtain ⟨hl, a, cap, hv, hc, hn, hcell⟩ := h.row
  obtain ⟨k, off, rfl, hne, hlt, hj⟩ := hcell (by omega)
  have hi' : i < (ts ++ [endT en]).length := by simp; omega
  obtain ⟨c1, c2, c3⟩ := To.cls_at (ts ++ [endT en]) i hi'
  refine ⟨k, off, cap, hv, hne, hlt, ?_, ?_, ?_⟩
  · rw [hj _ _ c1]
    by_cases h1 : i < ts.length
    · rw [(kd_at h1).1, List.getElem_append_left h1]
    · rw [kd_out (by rw [tkn_len]; omega), List.getElem_append_right (by omega)]
      simp [endT]
  · rw [Nat.add_assoc, hj _ _ c2]
    unfold atOf
    by_cases h1 : i < ts.length
    · rw [List.getElem_append_left h1, List.getElem?_eq_getElem h1]
    · rw [List.getElem_append_right (by omega), List.getElem?_eq_none (by omega)]
      simp [endT]
  · rw [Nat.add_assoc, hj _ _ c3]
    by_cases h1 : i < ts.length
    · rw [(kd_at h1).2, List.getElem_append_left h1]
    · rw [List.getElem_append_right (by omega)]
      unfold nmAt
      rw [List.getElem?_eq_none (by rw [tkn_len]; omega)]
      simp [endT]
theorem Rb.cells {w : World} {b p : Nat} {tv : Value} (h : Rb w b tv p) : w.cell? ⟨b, 0, none⟩ = some tv ∧ w.cell? ⟨b, 1, none⟩ = some (.int .i64 (p : Int)) ∧ w.frozen? ⟨b, 1, none⟩ = false := by
  unfold Rb at h
  simp [World.cell?, World.frozen?, h]
theorem mv_set (w : World) (b o : Nat) (v : Value) : Mv b w (w.setCell ⟨b, o, none⟩ v) :=
  ⟨rfl, rfl, rfl, by rw [size_set]; exact Nat.le_refl _, fun k _ hne => heap_set w b o v k (fun e => hne (by rw [e]))⟩
/-- The reader goes on. -/
theorem Rdr.on {w : World} {b p en : Nat} {tv : Value} {ts : List To.Tk} (h : Rdr w b tv ts en p) (hp : p + 1 ≤ ts.length) : Rdr (w.setCell ⟨b, 1, none⟩ (.int .i64 ((p : Int) + 1))) b tv ts en (p + 1) :=
  ⟨heap_set_self 1 (.int .i64 ((p : Int) + 1)) h.blk, rdo_mv h.row (mv_set w b 1 _), hp⟩
def TakePost (b : Nat) (tv : Value) (ts : List To.Tk) (en p : Nat) (k : Int) (w : World) (e : Ending) (w' : World) : Prop :=
  e = .returned (.bool (decide (kd (tkn ts) p = k))) ∧ Rdr w' b tv ts en (if kd (tkn ts) p = k then p + 1 else p) ∧ Mv b w w'
set_option maxHeartbeats 1000000 in
theorem take_any (b : Nat) (tv : Value) (ts : List To.Tk) (en p : Nat) (k : Int) (w : World) (h : Rdr w b tv ts en p) (hk : k ≠ 0) (hts : ts.length ≤ 1000) :
    Calls Try.prog 62 #[.pointer (some ⟨b, 0, none⟩), .int .i64 k] w (TakePost b tv ts en p k w) := by
  unfold TakePost
  have HD := Lib.hid h
  obtain ⟨tb, off, cap, rfl, -, -, c1, -, -⟩ := h.at p h.le
  obtain ⟨d0, d1, d2⟩ := h.blk.cells
  have hp : p ≤ ts.length := h.le
  obtain ⟨kk, hkk⟩ : ∃ kk, kd (tkn ts) p = kk := ⟨_, rfl⟩
  rw [hkk] at c1 ⊢
  by_cases hc : kk = k
  · have hlt : p + 1 ≤ ts.length := by
      apply Nat.lt_of_not_le
      intro hle
      rw [kd_out (by rw [tkn_len]; exact hle)] at hkk
      exact hk (by rw [← hc, ← hkk])
    subst hc
    rw [decide_eq_true rfl, if_pos rfl]
    have R1 := Lib.hid (fun n => (HD.out.below (Below.drewN _ n w)).on hlt)
    have B1 := Lib.hid (fun n => (Mv.of (b := b) (Below.drewN w.heap.size n w)).trans (mv_set (w.drewN n) b 1 (.int .i64 ((p : Int) + 1))))
    have hg : (kk != kk) = false := by simp
    have gi : decide ((p : Int) < (ts.length : Int) + 1) = true := by simp; omega
    clear h hkk hlt
    go_enter Try.func62, Try.ntmps62
    go_wp2_with fail
    go_quiet (fail)
    go_wp2_with fail
    go_ret
    exact ⟨rfl, R1.out _, B1.out _⟩
  · rw [decide_eq_false hc, if_neg hc]
    have R1 := Lib.hid (fun n => HD.out.below (Below.drewN _ n w))
    have B1 := Lib.hid (fun n => Mv.of (b := b) (Below.drewN w.heap.size n w))
    have hg : (kk != k) = true := by rw [bne_iff_ne]; exact hc
    have gi : decide ((p : Int) < (ts.length : Int) + 1) = true := by simp; omega
    clear h hkk hc
    go_enter Try.func62, Try.ntmps62
    go_wp2_with fail
    go_quiet (fail)
    go_wp2_with fail
    go_ret
    exact ⟨rfl, R1.out _, B1.out _⟩
end Go.Proofs.Ytdhaghabhdeakaa.Pa

namespace Go.Proofs.Ytdhaghabhdeakaa.Pa
open Go Go.RowKit Rw So
set_option maxRecDepth 20000

theorem Cv.tre : ∀ {t : Tm} {l : List Nd}, Cv t l → Tre l
  | .leaf x, l, h => by
    obtain ⟨rfl, h1, h4⟩ := h
    have h0 : ar x.k = 0 := by
      have : x.k = 1 ∨ x.k = 2 ∨ x.k = 3 ∨ x.k = 4 := by omega
      rcases this with h | h | h | h <;> rw [h] <;> decide
    exact ⟨1, by rw [T_cons, h0]; rfl⟩
  | .blk a, l, h => h.1
  | .bin k a b, l, h => h.1
theorem Cv.rank : ∀ {t : Tm} {l : List Nd}, Cv t l → rankK (So.hd l) = t.rank
  | .leaf x, l, h => by
    obtain ⟨rfl, h1, h4⟩ := h
    show rankK x.k = 5
    unfold rankK
    rw [if_neg (by omega), if_neg (by omega), if_neg (by omega), if_neg (by omega), if_neg (by omega)]
  | .blk a, l, h => by rw [h.2.1]; rfl
  | .bin k a b, l, h => by rw [h.2.1]; rfl
/-- A text. -/
def Says (l : List UInt8) (w : World) (e : Ending) (w' : World) : Prop := ∃ u : ByteArray, e = .returned (.string u) ∧ u.data.toList = l ∧ Below w.heap.size w w'
def TextC (t : Tm) : Prop := ∀ (l : List Nd) (v : Value) (w : World), Cv t l → Nds w v l → l.length ≤ 200 → Calls Try.prog 23 #[v] w (Says (t.txt true) w)
theorem txt_len (sp : Bool) : ∀ (t : Tm), t.nam → (t.txt sp).length ≤ 8 * t.row.length
  | .leaf x, h => by
    have h : To.named (word x) = true := h
    unfold To.named at h
    simp only [Bool.and_eq_true, decide_eq_true_eq] at h
    show (word x).data.toList.length ≤ 8 * 1
    simp
    omega
  | .blk a, h => by
    have := txt_len sp a h
    show (91 :: (a.txt sp ++ [93])).length ≤ 8 * (nOf 9 :: a.row).length
    simp
    omega
  | .bin k a b, h => by
    have h1 := txt_len sp a h.1
    have h2 := txt_len sp b h.2
    have hb : ∀ (c : Bool) (l : List UInt8), (brkT c l).length ≤ l.length + 2 := fun c l => by cases c <;> simp [brkT]
    have hs : (sep sp k).length ≤ 3 := by
      unfold sep
      repeat' split
      all_goals simp
    have g1 := hb (decide (a.rank < lim k)) (a.txt sp)
    have g2 := hb (decide (b.rank < limR k)) (b.txt sp)
    show (brkT _ _ ++ sep sp k ++ brkT _ _).length ≤ 8 * (nOf k :: (a.row ++ b.row)).length
    simp only [List.length_append, List.length_cons]
    omega
set_option maxHeartbeats 800000 in
theorem text_leaf (x : Nd) : TextC (.leaf x) := by
  intro l v w hc hv hl
  have HT := Lib.hid hc.tre
  obtain ⟨rfl, h1, h4⟩ := hc
  have HK := Lib.hid (fun w' v' hv' => kidsR_any v' [x] w' hv' (by simp))
  have hk : x.k = 1 ∨ x.k = 2 ∨ x.k = 3 ∨ x.k = 4 := by omega
  have HV := Lib.hid hv
  rcases hv.form with ⟨h0, _⟩ | ⟨b, off, cap, rfl, _, hat⟩
  · cases h0
  obtain ⟨e1, e2, e3⟩ := hat 0 (by simp)
  rw [Nat.zero_mul, Nat.add_zero] at e1 e2
  have E1 := Lib.hid e1
  have E2 := Lib.hid e2
  simp only [List.getElem_cons_zero] at E1 E2
  clear hat e1 e2 e3 h1 h4
  rcases hk with h | h | h | h
  all_goals
    rw [h] at E1
    have HW : Hid ((Tm.leaf x).txt true = (word x).data.toList) := rfl
    go_enter Try.func23, Try.ntmps23
    go_wp2_with fail
    refine (HK.out _ _ HV.out).mono ?_
    rintro e w1 ⟨y, rfl, hy, hb⟩
    have c1 := E1.out
    have c2 := E2.out
    rw [← hb.cell (Ap.cell_lt c1)] at c1
    rw [← hb.cell (Ap.cell_lt c2)] at c2
    have HB := Lib.hid hb
    clear hb hy
    go_wp2_with fail
    go_ret
    refine ⟨_, rfl, ?_, HB.out⟩
    rw [HW.out]
    unfold word
    rw [h]
    rfl
end Go.Proofs.Ytdhaghabhdeakaa.Pa

namespace Go.Proofs.Ytdhaghabhdeakaa.Pa
open Go Go.RowKit Rw
set_option maxRecDepth 20000

theorem heap_at_new (w : World) (o : Obj) : (w.alloc o).heap[w.heap.size]? = some o := by
  show (w.heap.push _)[w.heap.size]? = some _
  simp
/-- Two rows in a new row of rows. -/
theorem rws_two {w : World} {y1 y2 : Value} {l1 l2 : List Nd} (h1 : Nds w y1 l1) (h2 : Nds w y2 l2) (ty : TypeId) : Rws (w.alloc (.cells #[y1, y2] ty)) (.slice (some ⟨w.heap.size, 0, none⟩) 2 2) [l1, l2] := by
  have B := below1 w (.cells #[y1, y2] ty)
  refine ⟨[y1, y2], ⟨rfl, _, _, rfl, Nat.le_refl _, fun e => (by cases e), fun _ => ⟨_, _, rfl, fun j u hu => ?_⟩⟩, h1.below B, h2.below B, trivial⟩
  simp only [World.cell?, heap_at_new, Nat.zero_add]
  simpa using hu
theorem rws_one {w : World} {y1 : Value} {l1 : List Nd} (h1 : Nds w y1 l1) (ty : TypeId) : Rws (w.alloc (.cells #[y1] ty)) (.slice (some ⟨w.heap.size, 0, none⟩) 1 1) [l1] := by
  have B := below1 w (.cells #[y1] ty)
  refine ⟨[y1], ⟨rfl, _, _, rfl, Nat.le_refl _, fun e => (by cases e), fun _ => ⟨_, _, rfl, fun j u hu => ?_⟩⟩, h1.below B, trivial⟩
  simp only [World.cell?, heap_at_new, Nat.zero_add]
  simpa using hu
/-- Make of two rows, the row of them made for it. -/
theorem make_two (k : Int) {w : World} {y1 y2 : Value} {l1 l2 : List Nd} (h1 : Nds w y1 l1) (h2 : Nds w y2 l2) (hl : l1.length + l2.length ≤ 1000000) (ty : TypeId) :
    Calls Try.prog 33 #[.agg #[.int .i64 k, .string ⟨#[]⟩, .int .i64 0], .slice (some ⟨w.heap.size, 0, none⟩) 2 2] (w.alloc (.cells #[y1, y2] ty)) (NewRow (nOf k :: (l1 ++ l2)) w) := by
  refine (Rx.makeP_any (nOf k) _ [l1, l2] _ (rws_two h1 h2 ty) (by simp) (by simp; omega)).mono ?_
  rintro e w' ⟨y, rfl, hy, hb⟩
  have B := below1 w (.cells #[y1, y2] ty)
  refine ⟨y, rfl, ?_, B.trans (hb.mono B.size)⟩
  have e1 : [l1, l2].flatten = l1 ++ l2 := by simp
  rw [e1] at hy
  exact hy.imp fun g _ hg => Nat.le_trans B.size hg
theorem make_one (k : Int) {w : World} {y1 : Value} {l1 : List Nd} (h1 : Nds w y1 l1) (hl : l1.length ≤ 1000000) (ty : TypeId) :
    Calls Try.prog 33 #[.agg #[.int .i64 k, .string ⟨#[]⟩, .int .i64 0], .slice (some ⟨w.heap.size, 0, none⟩) 1 1] (w.alloc (.cells #[y1] ty)) (NewRow (nOf k :: l1) w) := by
  refine (Rx.makeP_any (nOf k) _ [l1] _ (rws_one h1 ty) (by simp) (by simp; omega)).mono ?_
  rintro e w' ⟨y, rfl, hy, hb⟩
  have B := below1 w (.cells #[y1] ty)
  refine ⟨y, rfl, ?_, B.trans (hb.mono B.size)⟩
  have e1 : [l1].flatten = l1 := by simp
  rw [e1] at hy
  exact hy.imp fun g _ hg => Nat.le_trans B.size hg
set_option maxHeartbeats 400000 in
theorem nameP_w1 (w : World) : Calls Try.prog 18 #[.string w1] w (NewRow [nOf 2] w) := by
  unfold w1
  go_enter Try.func18, Try.ntmps18
  go_wp2_with fail
  go_ret
  exact ⟨_, rfl, new_one w (nOf 2), below1 _ _⟩
set_option maxHeartbeats 400000 in
theorem nameP_w2 (w : World) : Calls Try.prog 18 #[.string w2] w (NewRow [nOf 3] w) := by
  unfold w2
  go_enter Try.func18, Try.ntmps18
  go_wp2_with fail
  go_ret
  exact ⟨_, rfl, new_one w (nOf 3), below1 _ _⟩
set_option maxHeartbeats 400000 in
theorem nameP_w3 (w : World) : Calls Try.prog 18 #[.string w3] w (NewRow [nOf 4] w) := by
  unfold w3
  go_enter Try.func18, Try.ntmps18
  go_wp2_with fail
  go_ret
  exact ⟨_, rfl, new_one w (nOf 4), below1 _ _⟩
set_option maxHeartbeats 800000 in
theorem nameP_w4 (w : World) : Calls Try.prog 18 #[.string w4] w (NewRow [nOf 10, nOf 2, nOf 2] w) := by
  have N1 := Lib.hid (fun w' => nameP_w1 w')
  have N2 := Lib.hid (fun w' => nameP_w1 w')
  unfold w4
  unfold w1 at N1
  unfold w1 at N2
  go_enter Try.func18, Try.ntmps18
  go_wp2_with fail
  refine (N1.out _).mono ?_
  rintro e wa ⟨y1, rfl, hy1, hb1⟩
  have HY1 := Lib.hid hy1.rd
  have HB1 := Lib.hid hb1
  clear hy1 hb1
  go_wp2_with fail
  refine (N2.out _).mono ?_
  rintro e wb ⟨y2, rfl, hy2, hb2⟩
  have HB2 := Lib.hid (HB1.out.trans (hb2.mono HB1.out.size))
  have HM := Lib.hid (make_two 10 (Ap.Rd.below HY1.out hb2) hy2.rd (by decide) 23)
  obtain ⟨_, a1, c1, rfl, -⟩ := HY1.out
  obtain ⟨_, a2, c2, rfl, -⟩ := hy2.rd
  clear hy2 hb2
  go_wp2_with fail
  refine HM.out.mono ?_
  rintro e wc ⟨y3, rfl, hy3, hb3⟩
  have HY3 := Lib.hid (hy3.imp fun g _ hg => Nat.le_trans HB2.out.size hg)
  have HB3 := Lib.hid (HB2.out.trans (hb3.mono HB2.out.size))
  obtain ⟨_, a3, c3, rfl, -⟩ := hy3.rd
  clear hy3 hb3
  go_wp2_with fail
  go_ret
  exact ⟨_, rfl, HY3.out, HB3.out⟩
set_option maxHeartbeats 800000 in
theorem nameP_w5 (w : World) : Calls Try.prog 18 #[.string w5] w (NewRow [nOf 10, nOf 3, nOf 2] w) := by
  have N1 := Lib.hid (fun w' => nameP_w2 w')
  have N2 := Lib.hid (fun w' => nameP_w1 w')
  unfold w5
  unfold w2 at N1
  unfold w1 at N2
  go_enter Try.func18, Try.ntmps18
  go_wp2_with fail
  refine (N1.out _).mono ?_
  rintro e wa ⟨y1, rfl, hy1, hb1⟩
  have HY1 := Lib.hid hy1.rd
  have HB1 := Lib.hid hb1
  clear hy1 hb1
  go_wp2_with fail
  refine (N2.out _).mono ?_
  rintro e wb ⟨y2, rfl, hy2, hb2⟩
  have HB2 := Lib.hid (HB1.out.trans (hb2.mono HB1.out.size))
  have HM := Lib.hid (make_two 10 (Ap.Rd.below HY1.out hb2) hy2.rd (by decide) 23)
  obtain ⟨_, a1, c1, rfl, -⟩ := HY1.out
  obtain ⟨_, a2, c2, rfl, -⟩ := hy2.rd
  clear hy2 hb2
  go_wp2_with fail
  refine HM.out.mono ?_
  rintro e wc ⟨y3, rfl, hy3, hb3⟩
  have HY3 := Lib.hid (hy3.imp fun g _ hg => Nat.le_trans HB2.out.size hg)
  have HB3 := Lib.hid (HB2.out.trans (hb3.mono HB2.out.size))
  obtain ⟨_, a3, c3, rfl, -⟩ := hy3.rd
  clear hy3 hb3
  go_wp2_with fail
  go_ret
  exact ⟨_, rfl, HY3.out, HB3.out⟩
set_option maxHeartbeats 800000 in
theorem nameP_w6 (w : World) : Calls Try.prog 18 #[.string w6] w (NewRow [nOf 10, nOf 4, nOf 2] w) := by
  have N1 := Lib.hid (fun w' => nameP_w3 w')
  have N2 := Lib.hid (fun w' => nameP_w1 w')
  unfold w6
  unfold w3 at N1
  unfold w1 at N2
  go_enter Try.func18, Try.ntmps18
  go_wp2_with fail
  refine (N1.out _).mono ?_
  rintro e wa ⟨y1, rfl, hy1, hb1⟩
  have HY1 := Lib.hid hy1.rd
  have HB1 := Lib.hid hb1
  clear hy1 hb1
  go_wp2_with fail
  refine (N2.out _).mono ?_
  rintro e wb ⟨y2, rfl, hy2, hb2⟩
  have HB2 := Lib.hid (HB1.out.trans (hb2.mono HB1.out.size))
  have HM := Lib.hid (make_two 10 (Ap.Rd.below HY1.out hb2) hy2.rd (by decide) 23)
  obtain ⟨_, a1, c1, rfl, -⟩ := HY1.out
  obtain ⟨_, a2, c2, rfl, -⟩ := hy2.rd
  clear hy2 hb2
  go_wp2_with fail
  refine HM.out.mono ?_
  rintro e wc ⟨y3, rfl, hy3, hb3⟩
  have HY3 := Lib.hid (hy3.imp fun g _ hg => Nat.le_trans HB2.out.size hg)
  have HB3 := Lib.hid (HB2.out.trans (hb3.mono HB2.out.size))
  obtain ⟨_, a3, c3, rfl, -⟩ := hy3.rd
  clear hy3 hb3
  go_wp2_with fail
  go_ret
  exact ⟨_, rfl, HY3.out, HB3.out⟩
set_option maxHeartbeats 800000 in
theorem nameP_any (n : ByteArray) (w : World) : Calls Try.prog 18 #[.string n] w (NewRow (name n) w) := by
  by_cases h1 : n = w1
  · subst h1; rw [show name w1 = [nOf 2] from by decide +kernel]; exact nameP_w1 w
  by_cases h2 : n = w2
  · subst h2; rw [show name w2 = [nOf 3] from by decide +kernel]; exact nameP_w2 w
  by_cases h3 : n = w3
  · subst h3; rw [show name w3 = [nOf 4] from by decide +kernel]; exact nameP_w3 w
  by_cases h4 : n = w4
  · subst h4; rw [show name w4 = [nOf 10, nOf 2, nOf 2] from by decide +kernel]; exact nameP_w4 w
  by_cases h5 : n = w5
  · subst h5; rw [show name w5 = [nOf 10, nOf 3, nOf 2] from by decide +kernel]; exact nameP_w5 w
  by_cases h6 : n = w6
  · subst h6; rw [show name w6 = [nOf 10, nOf 4, nOf 2] from by decide +kernel]; exact nameP_w6 w
  have HN : Hid (name n = [⟨1, n, 0⟩]) := by
    show _ = _
    unfold name
    rw [if_neg h1, if_neg h2, if_neg h3, if_neg h4, if_neg h5, if_neg h6]
  rw [HN.out]
  have e1 := To.str_ne' (l := [115, 107, 105, 112]) h1
  have e2 := To.str_ne' (l := [116, 104, 114, 111, 119]) h2
  have e3 := To.str_ne' (l := [121, 105, 101, 108, 100]) h3
  have e4 := To.str_ne' (l := [115, 107, 105, 112, 112]) h4
  have e5 := To.str_ne' (l := [116, 104, 114, 111, 119, 119]) h5
  have e6 := To.str_ne' (l := [121, 105, 101, 108, 100, 100]) h6
  clear h1 h2 h3 h4 h5 h6
  go_enter Try.func18, Try.ntmps18
  go_wp2_with fail
  go_ret
  exact ⟨_, rfl, new_one w ⟨1, n, 0⟩, below1 _ _⟩
end Go.Proofs.Ytdhaghabhdeakaa.Pa

namespace Go.Proofs.Ytdhaghabhdeakaa.Pa
open Go Go.RowKit Rw So
set_option maxRecDepth 20000

theorem bytes_put2 (a b : UInt8) (u : ByteArray) : ((⟨#[a]⟩ : ByteArray) ++ u ++ ⟨#[b]⟩).data.toList = a :: (u.data.toList ++ [b]) := by
  simp [ByteArray.data_append]
set_option maxHeartbeats 800000 in
theorem within_any {t : Tm} {l : List Nd} {v : Value} {w : World} (ht : TextC t) (hc : Cv t l) (hv : Nds w v l) (hl : l.length ≤ 200) (hn : t.nam) (c : Bool) :
    Calls Try.prog 39 #[v, .bool c] w (Says (brkT c (t.txt true)) w) := by
  have HT := Lib.hid (ht l v w hc hv hl)
  have hlen := txt_len true t hn
  rw [hc.row] at hlen
  have HV := Lib.hid hv
  cases c
  all_goals
    go_enter Try.func39, Try.ntmps39
    go_wp2_with fail
    refine HT.out.mono ?_
    rintro e w1 ⟨u, rfl, hu, hb⟩
    have hus : u.size ≤ 1600 := by
      have hz : u.data.toList.length = u.size := by cases u; exact Array.length_toList
      rw [← hz, hu]
      omega
    have HB := Lib.hid hb
    have HU := Lib.hid hu
    clear hb hu
    go_wp2_with fail
    go_ret
    first | exact ⟨_, rfl, HU.out, HB.out⟩ | exact ⟨_, rfl, by rw [bytes_put2, HU.out]; rfl, HB.out⟩
set_option maxHeartbeats 800000 in
theorem text_blk {a : Tm} (ha : TextC a) (hn : a.nam) : TextC (.blk a) := by
  intro l v w hc hv hl
  obtain ⟨ht, hh, la, hk, hca, rfl⟩ := hc
  have hl2 : la.length ≤ 200 := by simp at hl; omega
  have hlen := txt_len true a hn
  rw [hca.row] at hlen
  have HT := Lib.hid (fun w' v' hv' => ha la v' w' hca hv' hl2)
  have HK := Lib.hid (fun w' v' hv' => kidsR_any v' (nOf 9 :: la) w' hv' (by omega))
  have HV := Lib.hid hv
  have HKK := Lib.hid hk
  rcases hv.form with ⟨h0, _⟩ | ⟨b, off, cap, rfl, _, hat⟩
  · cases h0
  obtain ⟨e1, e2, e3⟩ := hat 0 (by simp)
  rw [Nat.zero_mul, Nat.add_zero] at e1 e2
  have E1 := Lib.hid e1
  have E2 := Lib.hid e2
  simp only [List.getElem_cons_zero] at E1 E2
  clear hat e1 e2 e3 ht hh hk hv
  have hN0 : 0 < (nOf 9 :: la).length := by simp
  rw [show (nOf 9).k = 9 from rfl] at E1
  generalize (nOf 9 :: la).length = N at *
  go_enter Try.func23, Try.ntmps23
  go_wp2_with fail
  refine (HK.out _ _ HV.out).mono ?_
  rintro e w1 ⟨y, rfl, hy, hb⟩
  have c1 := E1.out
  rw [← hb.cell (Ap.cell_lt c1)] at c1
  have HB := Lib.hid hb
  rw [HKK.out] at hy
  obtain ⟨b', o', c', a0, rfl, q0, n0⟩ := one_row hy
  have N0 := Lib.hid n0
  clear hb hy n0
  go_wp2_with fail
  refine (HT.out _ _ N0.out).mono ?_
  rintro e w2 ⟨u, rfl, hu, hb2⟩
  have hus : u.size ≤ 1600 := by
    have hz : u.data.toList.length = u.size := by cases u; exact Array.length_toList
    rw [← hz, hu]
    omega
  have HB2 := Lib.hid hb2
  have HU := Lib.hid hu
  clear hb2 hu
  go_wp2_with fail
  go_ret
  exact ⟨_, rfl, by rw [bytes_put2, HU.out]; rfl, HB.out.trans (HB2.out.mono HB.out.size)⟩
end Go.Proofs.Ytdhaghabhdeakaa.Pa

namespace Go.Proofs.Ytdhaghabhdeakaa.Pa
open Go Go.RowKit Rw
set_option maxRecDepth 20000

/-- What a reader's method answers: the tree, or none; the reader stands where that ends. -/
def RdPost (b : Nat) (tv : Value) (ts : List To.Tk) (en : Nat) (g : Got) (w : World) (e : Ending) (w' : World) : Prop :=
  ∃ y, e = .returned (.tuple #[y, .bool (!g.bad)]) ∧ (∃ a n c, y = .slice a n c) ∧ (g.bad = false → Ap.RdO (fun k => k ≠ b) w' 3 y g.L.length (cls g.L)) ∧ Rdr w' b tv ts en g.next ∧ Mv b w w'
theorem RdPost.no {b en : Nat} {tv : Value} {ts : List To.Tk} {g : Got} {w w' : World} {a : Option Addr} {n c : Nat} (hb : g.bad = true) (hr : Rdr w' b tv ts en g.next) (hm : Mv b w w') : RdPost b tv ts en g w (.returned (.tuple #[.slice a n c, .bool false])) w' :=
  ⟨_, by rw [hb]; rfl, ⟨_, _, _, rfl⟩, fun h => (by rw [hb] at h; cases h), hr, hm⟩
theorem RdPost.yes {b en : Nat} {tv : Value} {ts : List To.Tk} {g : Got} {w w' : World} {a : Option Addr} {n c : Nat} (hb : g.bad = false) (hy : Ap.RdO (fun k => k ≠ b) w' 3 (.slice a n c) g.L.length (cls g.L)) (hr : Rdr w' b tv ts en g.next) (hm : Mv b w w') : RdPost b tv ts en g w (.returned (.tuple #[.slice a n c, .bool true])) w' :=
  ⟨_, by rw [hb]; rfl, ⟨_, _, _, rfl⟩, fun _ => hy, hr, hm⟩
def LvP (f b : Nat) (tv : Value) (ts : List To.Tk) (en : Nat) : Prop := ∀ (p k : Nat) (g : Got) (w : World), k ≤ 4 → lv f (tkn ts) p k = some g → Rdr w b tv ts en p → Calls Try.prog 45 #[.pointer (some ⟨b, 0, none⟩), .int .i64 (k : Int)] w (RdPost b tv ts en g w)
def AtP (f b : Nat) (tv : Value) (ts : List To.Tk) (en : Nat) : Prop := ∀ (p : Nat) (g : Got) (w : World), ato f (tkn ts) p = some g → Rdr w b tv ts en p → Calls Try.prog 64 #[.pointer (some ⟨b, 0, none⟩)] w (RdPost b tv ts en g w)
/-- A tree that ends by a mark. -/
def upG (q : List Kn) (m : Int) (g : Got) : Got := if g.bad = true then g else if kd q g.next ≠ m then ⟨[], g.next, true⟩ else ⟨g.L, g.next + 1, false⟩
set_option maxHeartbeats 1000000 in
theorem up_walk {f b en : Nat} {tv : Value} {ts : List To.Tk} (hts : ts.length ≤ 1000) (ih : LvP f b tv ts en) (p : Nat) (g : Got) (m : Int) (hm : m ≠ 0) (w : World) (h : lv f (tkn ts) p 0 = some g) (hr : Rdr w b tv ts en p) :
    Calls Try.prog 74 #[.pointer (some ⟨b, 0, none⟩), .int .i64 m] w (RdPost b tv ts en (upG (tkn ts) m g) w) := by
  have IH := Lib.hid (ih p 0 g w (by omega) h hr)
  have HT := Lib.hid (fun w' h' => take_any b tv ts en g.next m w' h' hm hts)
  clear ih h hr
  cases hb : g.bad with
  | true =>
    have HU : Hid (upG (tkn ts) m g = g) := by show _ = _; unfold upG; rw [if_pos hb]
    rw [HU.out]
    have HB := Lib.hid hb
    go_enter Try.func74, Try.ntmps74
    go_wp2_with fail
    refine IH.out.mono ?_
    unfold RdPost
    rw [HB.out]
    rintro e w1 ⟨y, rfl, ⟨a, n, c, rfl⟩, -, hr1, hm1⟩
    have HR := Lib.hid hr1
    have HM := Lib.hid hm1
    clear hr1 hm1 hb
    go_wp2_with fail
    go_ret2
    exact RdPost.no HB.out HR.out HM.out
  | false =>
    by_cases hk : kd (tkn ts) g.next = m
    · have HU : Hid (upG (tkn ts) m g = ⟨g.L, g.next + 1, false⟩) := by show _ = _; unfold upG; rw [if_neg (by rw [hb]; decide), if_neg (by rw [hk]; simp)]
      rw [HU.out]
      have HB := Lib.hid hb
      have HK := Lib.hid hk
      clear hk
      go_enter Try.func74, Try.ntmps74
      go_wp2_with fail
      refine IH.out.mono ?_
      unfold RdPost
      rw [HB.out]
      rintro e w1 ⟨y, rfl, ⟨a, n, c, rfl⟩, hy, hr1, hm1⟩
      have HY := Lib.hid (hy rfl)
      have HR := Lib.hid hr1
      have HM := Lib.hid hm1
      clear hr1 hm1 hb hy
      go_wp2_with fail
      refine (HT.out _ HR.out).mono ?_
      unfold TakePost
      rw [decide_eq_true HK.out, if_pos HK.out]
      rintro e w2 ⟨rfl, hr2, hm2⟩
      have HR2 := Lib.hid hr2
      have HM2 := Lib.hid hm2
      clear hr2 hm2
      go_wp2_with fail
      go_ret2
      exact RdPost.yes rfl (rdo_mv HY.out HM2.out) HR2.out (HM.out.trans HM2.out)
    · have HU : Hid (upG (tkn ts) m g = ⟨[], g.next, true⟩) := by show _ = _; unfold upG; rw [if_neg (by rw [hb]; decide), if_pos hk]
      rw [HU.out]
      have HB := Lib.hid hb
      have HK := Lib.hid hk
      clear hk
      go_enter Try.func74, Try.ntmps74
      go_wp2_with fail
      refine IH.out.mono ?_
      unfold RdPost
      rw [HB.out]
      rintro e w1 ⟨y, rfl, ⟨a, n, c, rfl⟩, -, hr1, hm1⟩
      have HR := Lib.hid hr1
      have HM := Lib.hid hm1
      clear hr1 hm1 hb
      go_wp2_with fail
      refine (HT.out _ HR.out).mono ?_
      unfold TakePost
      rw [decide_eq_false HK.out, if_neg HK.out]
      rintro e w2 ⟨rfl, hr2, hm2⟩
      have HR2 := Lib.hid hr2
      have HM2 := Lib.hid hm2
      clear hr2 hm2
      go_wp2_with fail
      go_ret2
      exact RdPost.no rfl HR2.out (HM.out.trans HM2.out)
theorem ato_up {f : Nat} {q : List Kn} {p : Nat} {g : Got} (h : ato (f + 1) q p = some g) : (kd q p = 10 ∧ g = ⟨name (nmAt q p), p + 1, false⟩) ∨ (kd q p ≠ 10 ∧ kd q p ≠ 1 ∧ kd q p ≠ 3 ∧ g = ⟨[], p, true⟩) ∨
    (kd q p = 1 ∧ ∃ x, lv f q (p + 1) 0 = some x ∧ g = upG q 2 x) ∨ (kd q p = 3 ∧ ∃ x, lv f q (p + 1) 0 = some x ∧ ((upG q 4 x).bad = true ∧ g.bad = true ∧ g.next = (upG q 4 x).next ∨ (upG q 4 x).bad = false ∧ g = ⟨nOf 9 :: (upG q 4 x).L, (upG q 4 x).next, false⟩)) := by
  rw [ato_succ] at h
  split at h
  · rename_i h1
    exact Or.inl ⟨h1, (Option.some.inj h).symm⟩
  · rename_i h1
    split at h
    · rename_i h2
      exact Or.inr (Or.inl ⟨h1, h2.1, h2.2, (Option.some.inj h).symm⟩)
    · rename_i h2
      obtain ⟨x, hx, hm⟩ := Option.bind_eq_some_iff.1 h
      have h13 : kd q p = 1 ∨ kd q p = 3 := by omega
      rcases h13 with h3 | h3
      · refine Or.inr (Or.inr (Or.inl ⟨h3, x, hx, ?_⟩))
        rw [h3, show (1 : Int) + 1 = 2 from rfl] at hm
        unfold upG
        split at hm
        · rename_i h4
          rw [if_pos h4]
          exact (Option.some.inj hm).symm
        · rename_i h4
          rw [if_neg h4]
          split at hm
          · rename_i h5
            rw [if_pos h5]
            exact (Option.some.inj hm).symm
          · rename_i h5
            rw [if_neg h5]
            exact (Option.some.inj hm).symm
      · refine Or.inr (Or.inr (Or.inr ⟨h3, x, hx, ?_⟩))
        rw [h3, show (3 : Int) + 1 = 4 from rfl] at hm
        unfold upG
        split at hm
        · rename_i h4
          rw [if_pos h4]
          obtain rfl := Option.some.inj hm
          exact Or.inl ⟨h4, h4, rfl⟩
        · rename_i h4
          rw [if_neg h4]
          split at hm
          · rename_i h5
            rw [if_pos h5]
            obtain rfl := Option.some.inj hm
            exact Or.inl ⟨rfl, rfl, rfl⟩
          · rename_i h5
            rw [if_neg h5]
            exact Or.inr ⟨rfl, (Option.some.inj hm).symm⟩
theorem RdPost.up {b en : Nat} {tv : Value} {ts : List To.Tk} {g : Got} {w : World} {e : Ending} {w' : World} (h : RdPost b tv ts en g w e w') : ∃ a n c, e = .returned (.tuple #[.slice a n c, .bool (!g.bad)]) ∧ (g.bad = false → Ap.RdO (fun k => k ≠ b) w' 3 (.slice a n c) g.L.length (cls g.L)) ∧ Rdr w' b tv ts en g.next ∧ Mv b w w' := by
  obtain ⟨y, rfl, ⟨a, n, c, rfl⟩, h1, h2, h3⟩ := h
  exact ⟨a, n, c, rfl, h1, h2, h3⟩
set_option maxHeartbeats 1000000 in
theorem at_walk {f b en : Nat} {tv : Value} {ts : List To.Tk} (hts : ts.length ≤ 1000) (ih : LvP f b tv ts en) : AtP (f + 1) b tv ts en := by
  intro p g w h hr
  have IH := Lib.hid (fun x m hm w' h' => up_walk hts ih (p + 1) x m hm w' h')
  have T1 := Lib.hid (take_any b tv ts en p 10 w hr (by decide) hts)
  have T2 := Lib.hid (fun w' h' => take_any b tv ts en p 1 w' h' (by decide) hts)
  have T3 := Lib.hid (fun w' h' => take_any b tv ts en p 3 w' h' (by decide) hts)
  unfold TakePost at T1 T2 T3
  have hp := hr.le
  have hle := ato_up h
  have hlt := Lib.hid hr.blk.lt
  clear ih h hr
  rcases hle with ⟨hk, rfl⟩ | ⟨hk, hk1, hk3, rfl⟩ | ⟨hk, x, hx, rfl⟩ | ⟨hk, x, hx, hg⟩
  case inl =>
    rw [decide_eq_true hk, if_pos hk] at T1
    have HN := Lib.hid (nameP_any (nmAt (tkn ts) p))
    clear hk T2 T3
    go_enter Try.func64, Try.ntmps64
    go_wp2_with fail
    refine T1.out.mono ?_
    rintro e w1 ⟨rfl, hr1, hm1⟩
    have HR := Lib.hid hr1
    have HM := Lib.hid hm1
    obtain ⟨tb, off, cap, rfl, -, -, -, -, c3⟩ := hr1.at p hp
    obtain ⟨d0, d1, d2⟩ := hr1.blk.cells
    have gi : decide ((p : Int) < (ts.length : Int) + 1) = true := by simp; omega
    obtain ⟨nm, hnm⟩ : ∃ nm, nmAt (tkn ts) p = nm := ⟨_, rfl⟩
    rw [hnm] at c3 HN
    have HNM := Lib.hid hnm
    have d1 : w1.cell? ⟨b, 1, none⟩ = some (.int .i64 ((p : Int) + 1)) := d1
    have gw : IntKind.i64.wrap (p : Int) = p := IntWalk.i64_in _ (by omega)
    have gi2 : (p : Int) < (ts.length : Int) + 1 := by omega
    have gi3 : p < ts.length + 1 := by omega
    clear hr1 hm1 hnm
    go_wp2_with fail
    go_still_tail 12, (by kernel_rfl)
    change wpList _ _ _ _ _ w1.drew
    go_wp2_with fail
    refine (HN.out _).mono ?_
    rintro e w2 ⟨y, rfl, hy, hb⟩
    have HY := Lib.hid (rdo_new (b := b) hy (Nat.lt_of_lt_of_le hlt.out HM.out.size))
    have HR2 := Lib.hid ((HR.out.below (Below.refl _ _).drew).below hb)
    have HM2 := Lib.hid ((HM.out.trans (Mv.of (b := b) (Below.refl _ w1).drew)).trans (Mv.of hb))
    obtain ⟨_, a, c, rfl, -⟩ := hy.rd
    clear hy hb
    go_wp2_with fail
    go_ret2
    show RdPost b _ ts en ⟨name (nmAt (tkn ts) p), p + 1, false⟩ w _ _
    rw [HNM.out]
    exact RdPost.yes rfl HY.out HR2.out HM2.out
  case inr.inl =>
    rw [decide_eq_false hk, if_neg hk] at T1
    rw [decide_eq_false hk1, if_neg hk1] at T2
    rw [decide_eq_false hk3, if_neg hk3] at T3
    clear hk hk1 hk3
    go_enter Try.func64, Try.ntmps64
    go_wp2_with fail
    refine T1.out.mono ?_
    rintro e w1 ⟨rfl, hr1, hm1⟩
    have HR1 := Lib.hid hr1
    have HM1 := Lib.hid hm1
    clear hr1 hm1
    go_wp2_with fail
    refine (T2.out _ HR1.out).mono ?_
    rintro e w2 ⟨rfl, hr2, hm2⟩
    have HR2 := Lib.hid hr2
    have HM2 := Lib.hid (HM1.out.trans hm2)
    clear hr2 hm2
    go_wp2_with fail
    refine (T3.out _ HR2.out).mono ?_
    rintro e w3 ⟨rfl, hr3, hm3⟩
    have HR3 := Lib.hid hr3
    have HM3 := Lib.hid (HM2.out.trans hm3)
    clear hr3 hm3
    go_wp2_with fail
    go_ret2
    exact RdPost.no rfl HR3.out HM3.out
  case inr.inr.inl =>
    rw [decide_eq_false (by omega), if_neg (by omega)] at T1
    rw [decide_eq_true hk, if_pos hk] at T2
    have HU := Lib.hid (fun w' h' => IH.out x 2 (by decide) w' hx h')
    obtain ⟨g, hg⟩ : ∃ g, upG (tkn ts) 2 x = g := ⟨_, rfl⟩
    rw [hg] at HU ⊢
    clear hk hx hg T3
    go_enter Try.func64, Try.ntmps64
    go_wp2_with fail
    refine T1.out.mono ?_
    rintro e w1 ⟨rfl, hr1, hm1⟩
    have HR1 := Lib.hid hr1
    have HM1 := Lib.hid hm1
    clear hr1 hm1
    go_wp2_with fail
    refine (T2.out _ HR1.out).mono ?_
    rintro e w2 ⟨rfl, hr2, hm2⟩
    have HR2 := Lib.hid hr2
    have HM2 := Lib.hid (HM1.out.trans hm2)
    clear hr2 hm2
    go_wp2_with fail
    refine (HU.out _ HR2.out).mono ?_
    intro e w3 hpost
    obtain ⟨a, n, c, rfl, hy, hr3, hm3⟩ := hpost.up
    have HY := Lib.hid hy
    have HR3 := Lib.hid hr3
    have HM3 := Lib.hid (HM2.out.trans hm3)
    clear hr3 hm3 hpost hy
    go_wp2_with fail
    go_ret2
    exact ⟨_, rfl, ⟨_, _, _, rfl⟩, HY.out, HR3.out, HM3.out⟩
  case inr.inr.inr =>
    have hxl := (few f).1 _ _ _ _ (by rw [tkn_len]; apply Nat.lt_of_not_le; intro hle; rw [kd_out (by rw [tkn_len]; exact hle)] at hk; exact absurd hk (by decide)) hx
    have hul : (upG (tkn ts) 4 x).L.length ≤ 3000 := by
      rw [tkn_len] at hxl
      unfold upG
      repeat' split
      all_goals first | exact Nat.zero_le _ | (show x.L.length ≤ 3000; omega)
    clear hxl
    rw [decide_eq_false (by omega), if_neg (by omega)] at T1
    rw [decide_eq_false (by omega), if_neg (by omega)] at T2
    rw [decide_eq_true hk, if_pos hk] at T3
    have HU := Lib.hid (fun w' h' => IH.out x 4 (by decide) w' hx h')
    obtain ⟨u, hu⟩ : ∃ u, upG (tkn ts) 4 x = u := ⟨_, rfl⟩
    rw [hu] at HU hg hul
    clear hk hx hu
    rcases hg with ⟨hub, hgb, hgn⟩ | ⟨hub, rfl⟩
    · have HUB := Lib.hid hub
      have HGB := Lib.hid hgb
      have HGN := Lib.hid hgn
      clear hub hgb hgn
      go_enter Try.func64, Try.ntmps64
      go_wp2_with fail
      refine T1.out.mono ?_
      rintro e w1 ⟨rfl, hr1, hm1⟩
      have HR1 := Lib.hid hr1
      have HM1 := Lib.hid hm1
      clear hr1 hm1
      go_wp2_with fail
      refine (T2.out _ HR1.out).mono ?_
      rintro e w2 ⟨rfl, hr2, hm2⟩
      have HR2 := Lib.hid hr2
      have HM2 := Lib.hid (HM1.out.trans hm2)
      clear hr2 hm2
      go_wp2_with fail
      refine (T3.out _ HR2.out).mono ?_
      rintro e w3 ⟨rfl, hr3, hm3⟩
      have HR3 := Lib.hid hr3
      have HM3 := Lib.hid (HM2.out.trans hm3)
      clear hr3 hm3
      go_wp2_with fail
      refine (HU.out _ HR3.out).mono ?_
      intro e w4 hpost
      obtain ⟨a, n, c, rfl, hy, hr4, hm4⟩ := hpost.up
      rw [HUB.out]
      have HR4 := Lib.hid hr4
      have HM4 := Lib.hid (HM3.out.trans hm4)
      clear hr4 hm4 hpost hy
      go_wp2_with fail
      go_ret2
      exact RdPost.no HGB.out (HGN.out ▸ HR4.out) HM4.out
    · have HUB := Lib.hid hub
      clear hub
      go_enter Try.func64, Try.ntmps64
      go_wp2_with fail
      refine T1.out.mono ?_
      rintro e w1 ⟨rfl, hr1, hm1⟩
      have HR1 := Lib.hid hr1
      have HM1 := Lib.hid hm1
      clear hr1 hm1
      go_wp2_with fail
      refine (T2.out _ HR1.out).mono ?_
      rintro e w2 ⟨rfl, hr2, hm2⟩
      have HR2 := Lib.hid hr2
      have HM2 := Lib.hid (HM1.out.trans hm2)
      clear hr2 hm2
      go_wp2_with fail
      refine (T3.out _ HR2.out).mono ?_
      rintro e w3 ⟨rfl, hr3, hm3⟩
      have HR3 := Lib.hid hr3
      have HM3 := Lib.hid (HM2.out.trans hm3)
      clear hr3 hm3
      go_wp2_with fail
      refine (HU.out _ HR3.out).mono ?_
      intro e w4 hpost
      obtain ⟨a, n, c, rfl, hy, hr4, hm4⟩ := hpost.up
      rw [HUB.out]
      have hy4 := hy HUB.out
      have HR4 := Lib.hid hr4
      have HM4 := Lib.hid (HM3.out.trans hm4)
      have MK := Lib.hid (make_one 9 hy4.rd (by omega) 23)
      clear hr4 hm4 hpost hy hy4
      go_wp2_with fail
      refine MK.out.mono ?_
      rintro e w5 ⟨z, rfl, hz, hb⟩
      have HZ := Lib.hid (rdo_new (b := b) hz HR4.out.blk.lt)
      have HR5 := Lib.hid (HR4.out.below hb)
      have HM5 := Lib.hid (HM4.out.trans (Mv.of hb))
      obtain ⟨_, za, zc, rfl, -⟩ := hz.rd
      clear hz hb
      go_wp2_with fail
      go_ret2
      exact RdPost.yes rfl HZ.out HR5.out HM5.out
end Go.Proofs.Ytdhaghabhdeakaa.Pa
