/- The program's oneOrTwo and level; all of them, by fuel. The document's Text of any tree, and Print. The program's read. Plain: what is printed is parsed as that tree. The program's Parse. The program's bind, word, within; the text of leaves and blocks. What the program's package parse is asked to do, as contracts of its calls; the laws' first look. -/
import Derived.Test.YtdhaghabhdeakaaQ19
import Derived.Test.YtdhaghabhdeakaaQ20
import Derived.Test.YtdhaghabhdeakaaQ21
import Derived.Test.YtdhaghabhdeakaaQ22
import Derived.Test.YtdhaghabhdeakaaQ23
import Derived.Test.YtdhaghabhdeakaaQ14
import Derived.Test.YtdhaghabhdeakaaQ11
import Derived.Laws.EntriesVeiled
import Derived.Deep.QuietTactic
import Derived.Test.YtdhaghabhdeakaaQ15
import Derived.Test.YtdhaghabhdeakaaQ17
import Derived.Test.YtdhaghabhdeakaaQ12

namespace Go.Proofs.Ytdhaghabhdeakaa.Pa
open Go Go.RowKit Rw
set_option maxRecDepth 20000

def PrP (f b : Nat) (tv : Value) (ts : List To.Tk) (en : Nat) : Prop := ∀ (p : Nat) (g : Got) (w : World), pr f (tkn ts) p = some g → Rdr w b tv ts en p → Calls Try.prog 44 #[rp b, .int .i64 4] w (RdPost b tv ts en g w)
set_option maxHeartbeats 400000 in
theorem level_5 {f b en : Nat} {tv : Value} {ts : List To.Tk} (ih : AtP f b tv ts en) (p : Nat) (g : Got) (w : World) (h : ato f (tkn ts) p = some g) (hr : Rdr w b tv ts en p) : LvCall b tv ts en 5 g w := by
  have IH := Lib.hid (ih p g w h hr)
  clear ih h hr
  show Calls Try.prog 45 #[rp b, .int .i64 5] w (RdPost b tv ts en g w)
  go_enter Try.func45, Try.ntmps45
  go_wp2_with fail
  refine IH.out.mono ?_
  intro e w1 hpost
  obtain ⟨a, n, c, rfl, hz, hr, hm⟩ := hpost.up
  have HZ := Lib.hid hz
  have HR := Lib.hid hr
  have HM := Lib.hid hm
  clear hz hr hm hpost
  go_wp2_with fail
  go_ret2
  exact ⟨_, rfl, ⟨_, _, _, rfl⟩, HZ.out, HR.out, HM.out⟩
set_option maxHeartbeats 1000000 in
theorem pr_step {f b en : Nat} {tv : Value} {ts : List To.Tk} (hts : ts.length ≤ 1000) (ih : AtP f b tv ts en) : PrP (f + 1) b tv ts en := by
  intro p g w h hr
  rw [pr_succ] at h
  obtain ⟨x, hx, hm⟩ := Option.bind_eq_some_iff.1 h
  obtain ⟨q1, q2, q3⟩ := (few f).2.2.2 _ _ _ (by rw [tkn_len]; exact hr.le) hx
  rw [tkn_len] at q2
  have HC := Lib.hid (level_5 ih p x w hx hr)
  have IH := Lib.hid ih
  have HM0 := Lib.hid hm
  have TK := Lib.hid (fun w' h' => take_any b tv ts en x.next 9 w' h' (by decide) hts)
  unfold TakePost at TK
  obtain ⟨kk, hkk⟩ : ∃ kk, kd (tkn ts) x.next = kk := ⟨_, rfl⟩
  rw [hkk] at TK
  have HKK := Lib.hid hkk
  clear ih h hr hx hm
  cases hxb : x.bad with
  | true =>
    have hg : g = x := by have := HM0.out; rw [if_pos (Or.inl hxb)] at this; exact (Option.some.inj this).symm
    subst hg
    have HXB := Lib.hid hxb
    clear hxb hkk
    go_enter Try.func44, Try.ntmps44
    go_wp2_with fail
    refine HC.out.mono ?_
    intro e w1 hpost
    obtain ⟨a, n, c, rfl, -, hr, hm⟩ := hpost.up
    rw [HXB.out]
    have HR := Lib.hid hr
    have HM := Lib.hid hm
    clear hr hm hpost
    go_wp2_with fail
    go_ret2
    exact RdPost.no HXB.out HR.out HM.out
  | false =>
    by_cases h9 : kk = 9
    · have HM2 := Lib.hid (by have := HM0.out; rw [if_neg (by rw [hxb, hkk, h9]; simp)] at this; exact this)
      obtain ⟨z, hz, hzz⟩ := Option.map_eq_some_iff.1 HM2.out
      have hlt : x.next < ts.length := by
        apply Nat.lt_of_not_le
        intro hle
        rw [kd_out (by rw [tkn_len]; exact hle)] at hkk
        omega
      obtain ⟨r1, r2, r3⟩ := (few f).2.2.2 _ _ _ (by rw [tkn_len]; omega) hz
      rw [tkn_len] at r2
      have IZ := Lib.hid (fun w' hr' => level_5 IH.out (x.next + 1) z w' hz hr')
      rw [decide_eq_true h9, if_pos h9] at TK
      have HXB := Lib.hid hxb
      subst hzz
      clear hxb hkk hz h9
      go_enter Try.func44, Try.ntmps44
      go_wp2_with fail
      refine HC.out.mono ?_
      intro e w1 hpost
      obtain ⟨a, n, c, rfl, hy, hr, hm⟩ := hpost.up
      rw [HXB.out]
      have HY := Lib.hid (hy HXB.out)
      have HR := Lib.hid hr
      have HM := Lib.hid hm
      obtain ⟨d1, d2, d3⟩ := hr.blk.way4
      clear hr hm hpost hy
      go_wp2_with fail
      refine (TK.out _ HR.out).mono ?_
      rintro e w2 ⟨rfl, hr2, hmv2⟩
      have HMV2 := Lib.hid (HM.out.trans hmv2)
      have JN := Lib.hid (join_4 x z w2 _ (rdo_mv HY.out hmv2) (by omega) (IZ.out w2 hr2))
      clear hr2 hmv2 d1 d2 d3
      go_wp2_with fail
      refine JN.out.mono ?_
      intro e w3 hpost
      obtain ⟨a3, n3, c3, rfl, hz3, hr3, hm3⟩ := hpost.up
      have HZ3 := Lib.hid hz3
      have HR3 := Lib.hid hr3
      have HM3 := Lib.hid (HMV2.out.trans hm3)
      clear hz3 hr3 hm3 hpost
      go_wp2_with fail
      go_ret2
      exact ⟨_, rfl, ⟨_, _, _, rfl⟩, HZ3.out, HR3.out, HM3.out⟩
    · have hg : g = x := by have := HM0.out; rw [if_pos (Or.inr (by rw [hkk]; exact h9))] at this; exact (Option.some.inj this).symm
      subst hg
      rw [decide_eq_false h9, if_neg h9] at TK
      have HXB := Lib.hid hxb
      clear hxb hkk h9
      go_enter Try.func44, Try.ntmps44
      go_wp2_with fail
      refine HC.out.mono ?_
      intro e w1 hpost
      obtain ⟨a, n, c, rfl, hy, hr, hm⟩ := hpost.up
      rw [HXB.out]
      have HY := Lib.hid (hy HXB.out)
      have HR := Lib.hid hr
      have HM := Lib.hid hm
      obtain ⟨d1, d2, d3⟩ := hr.blk.way4
      clear hr hm hpost hy
      go_wp2_with fail
      refine (TK.out _ HR.out).mono ?_
      rintro e w2 ⟨rfl, hr2, hmv2⟩
      have HR2 := Lib.hid hr2
      have HMV2 := Lib.hid (HM.out.trans hmv2)
      have HY2 := Lib.hid (rdo_mv HY.out hmv2)
      clear hr2 hmv2 d1 d2 d3
      go_wp2_with fail
      go_ret2
      exact RdPost.yes HXB.out HY2.out HR2.out HMV2.out
set_option maxHeartbeats 400000 in
theorem level_0 {b en p : Nat} {tv : Value} {ts : List To.Tk} (g : Got) (w : World) (hr : Rdr w b tv ts en p) (hc : Calls Try.prog 43 #[rp b, .int .i64 0] w (RdPost b tv ts en g w)) : LvCall b tv ts en 0 g w := by
  have HC := Lib.hid hc
  obtain ⟨d1, d2, d3⟩ := hr.blk.way0
  clear hc hr
  show Calls Try.prog 45 #[rp b, .int .i64 0] w (RdPost b tv ts en g w)
  go_enter Try.func45, Try.ntmps45
  go_wp2_with fail
  refine HC.out.mono ?_
  intro e w1 hpost
  obtain ⟨a, n, c, rfl, hz, hr, hm⟩ := hpost.up
  have HZ := Lib.hid hz
  have HR := Lib.hid hr
  have HM := Lib.hid hm
  clear hz hr hm hpost d1 d2 d3
  go_wp2_with fail
  go_ret2
  exact ⟨_, rfl, ⟨_, _, _, rfl⟩, HZ.out, HR.out, HM.out⟩
set_option maxHeartbeats 400000 in
theorem level_1 {b en p : Nat} {tv : Value} {ts : List To.Tk} (g : Got) (w : World) (hr : Rdr w b tv ts en p) (hc : Calls Try.prog 43 #[rp b, .int .i64 1] w (RdPost b tv ts en g w)) : LvCall b tv ts en 1 g w := by
  have HC := Lib.hid hc
  obtain ⟨d1, d2, d3⟩ := hr.blk.way1
  clear hc hr
  show Calls Try.prog 45 #[rp b, .int .i64 1] w (RdPost b tv ts en g w)
  go_enter Try.func45, Try.ntmps45
  go_wp2_with fail
  refine HC.out.mono ?_
  intro e w1 hpost
  obtain ⟨a, n, c, rfl, hz, hr, hm⟩ := hpost.up
  have HZ := Lib.hid hz
  have HR := Lib.hid hr
  have HM := Lib.hid hm
  clear hz hr hm hpost d1 d2 d3
  go_wp2_with fail
  go_ret2
  exact ⟨_, rfl, ⟨_, _, _, rfl⟩, HZ.out, HR.out, HM.out⟩
set_option maxHeartbeats 400000 in
theorem level_2 {b en p : Nat} {tv : Value} {ts : List To.Tk} (g : Got) (w : World) (hr : Rdr w b tv ts en p) (hc : Calls Try.prog 43 #[rp b, .int .i64 2] w (RdPost b tv ts en g w)) : LvCall b tv ts en 2 g w := by
  have HC := Lib.hid hc
  obtain ⟨d1, d2, d3⟩ := hr.blk.way2
  clear hc hr
  show Calls Try.prog 45 #[rp b, .int .i64 2] w (RdPost b tv ts en g w)
  go_enter Try.func45, Try.ntmps45
  go_wp2_with fail
  refine HC.out.mono ?_
  intro e w1 hpost
  obtain ⟨a, n, c, rfl, hz, hr, hm⟩ := hpost.up
  have HZ := Lib.hid hz
  have HR := Lib.hid hr
  have HM := Lib.hid hm
  clear hz hr hm hpost d1 d2 d3
  go_wp2_with fail
  go_ret2
  exact ⟨_, rfl, ⟨_, _, _, rfl⟩, HZ.out, HR.out, HM.out⟩
set_option maxHeartbeats 400000 in
theorem level_3 {b en p : Nat} {tv : Value} {ts : List To.Tk} (g : Got) (w : World) (hr : Rdr w b tv ts en p) (hc : Calls Try.prog 43 #[rp b, .int .i64 3] w (RdPost b tv ts en g w)) : LvCall b tv ts en 3 g w := by
  have HC := Lib.hid hc
  obtain ⟨d1, d2, d3⟩ := hr.blk.way3
  clear hc hr
  show Calls Try.prog 45 #[rp b, .int .i64 3] w (RdPost b tv ts en g w)
  go_enter Try.func45, Try.ntmps45
  go_wp2_with fail
  refine HC.out.mono ?_
  intro e w1 hpost
  obtain ⟨a, n, c, rfl, hz, hr, hm⟩ := hpost.up
  have HZ := Lib.hid hz
  have HR := Lib.hid hr
  have HM := Lib.hid hm
  clear hz hr hm hpost d1 d2 d3
  go_wp2_with fail
  go_ret2
  exact ⟨_, rfl, ⟨_, _, _, rfl⟩, HZ.out, HR.out, HM.out⟩
set_option maxHeartbeats 400000 in
theorem level_4 {b en p : Nat} {tv : Value} {ts : List To.Tk} (g : Got) (w : World) (hr : Rdr w b tv ts en p) (hc : Calls Try.prog 44 #[rp b, .int .i64 4] w (RdPost b tv ts en g w)) : LvCall b tv ts en 4 g w := by
  have HC := Lib.hid hc
  obtain ⟨d1, d2, d3⟩ := hr.blk.way4
  clear hc hr
  show Calls Try.prog 45 #[rp b, .int .i64 4] w (RdPost b tv ts en g w)
  go_enter Try.func45, Try.ntmps45
  go_wp2_with fail
  refine HC.out.mono ?_
  intro e w1 hpost
  obtain ⟨a, n, c, rfl, hz, hr, hm⟩ := hpost.up
  have HZ := Lib.hid hz
  have HR := Lib.hid hr
  have HM := Lib.hid hm
  clear hz hr hm hpost d1 d2 d3
  go_wp2_with fail
  go_ret2
  exact ⟨_, rfl, ⟨_, _, _, rfl⟩, HZ.out, HR.out, HM.out⟩
/-- Level k, out of what is read below it. -/
theorem lv_step {f b en : Nat} {tv : Value} {ts : List To.Tk} (hts : ts.length ≤ 1000) (ih : LvP f b tv ts en) (ip : PrP f b tv ts en) : LvP (f + 1) b tv ts en := by
  intro p k g w hk h hr
  rw [lv_succ] at h
  split at h
  · rename_i h4
    subst h4
    exact level_4 g w hr (ip p g w h hr)
  · rename_i h4
    obtain ⟨x, hx, hm⟩ := Option.bind_eq_some_iff.1 h
    obtain ⟨q1, q2, q3⟩ := (few f).1 _ _ _ _ (by rw [tkn_len]; exact hr.le) hx
    rw [tkn_len] at q2
    have hc := ih p (k + 1) x w (by omega) hx hr
    have h03 : k = 0 ∨ k = 1 ∨ k = 2 ∨ k = 3 := by omega
    rcases h03 with rfl | rfl | rfl | rfl
    · exact level_0 g w hr (many_0 hts ih x g w hm q2 (by omega) hc)
    · exact level_1 g w hr (many_1 hts ih x g w hm q2 (by omega) hc)
    · exact level_2 g w hr (many_2 hts ih x g w hm q2 (by omega) hc)
    · exact level_3 g w hr (many_3 hts ih x g w hm q2 (by omega) hc)
theorem readsP {b en : Nat} {tv : Value} {ts : List To.Tk} (hts : ts.length ≤ 1000) : ∀ f, LvP f b tv ts en ∧ AtP f b tv ts en ∧ PrP f b tv ts en
  | 0 => ⟨fun _ _ _ _ _ h _ => (by rw [lv] at h; cases h), fun _ _ _ h _ => (by rw [ato] at h; cases h), fun _ _ _ h _ => (by rw [pr] at h; cases h)⟩
  | f + 1 => by
    obtain ⟨i1, i2, i3⟩ := readsP (b := b) (en := en) (tv := tv) hts f
    exact ⟨lv_step hts i1 i3, at_walk hts i1, pr_step hts i2⟩
end Go.Proofs.Ytdhaghabhdeakaa.Pa

namespace Go.Proofs.Ytdhaghabhdeakaa.Pa
open Go Go.RowKit Rw So
set_option maxRecDepth 20000

theorem text_any : ∀ t : Tm, t.ok → t.nam → TextC t
  | .leaf x, _, _ => text_leaf x
  | .blk a, ho, hn => text_blk (text_any a ho hn) hn
  | .bin k a b, ho, hn => by
    have ha := text_any a ho.2.1 hn.1
    have hb := text_any b ho.2.2 hn.2
    rcases ho.1 with h | h | h | h | h <;> subst h
    · exact text_5 ha hb hn.1 hn.2
    · exact text_6 ha hb hn.1 hn.2
    · exact text_7 ha hb hn.1 hn.2
    · exact text_8 ha hb hn.1 hn.2
    · exact text_10 ha hb hn.1 hn.2
theorem right_conv {l : List Nd} (h : rightB l = true) : ∃ t, Cv t l ∧ t.ok ∧ t.nam := by
  unfold rightB at h
  simp only [Bool.and_eq_true, beq_iff_eq, decide_eq_true_eq] at h
  obtain ⟨h1, _, _⟩ := h
  unfold of first at h1
  cases hw : whole l with
  | false =>
    rw [hw, if_neg (by decide)] at h1
    cases h1
  | true =>
    rw [hw, if_pos rfl] at h1
    have hi : Is 1 l = true := by
      cases hi : Is 1 l with
      | true => rfl
      | false =>
        rw [hi, if_neg (by decide)] at h1
        repeat' split at h1
        all_goals cases h1
    refine conv l.length l (Nat.le_refl _) (whole_tre hw) ?_ (Or.inl hi)
    unfold whole at hw
    simp only [Bool.and_eq_true] at hw
    exact hw.1.1
theorem Cv.det : ∀ {t t' : Tm} {l : List Nd}, Cv t l → Cv t' l → t = t'
  | .leaf x, .leaf y, l, h, h' => by
    have := h.1.symm.trans h'.1
    cases this
    rfl
  | .leaf x, .blk a, l, h, h' => by
    obtain ⟨_, _, la, _, ha, e⟩ := h'
    have := ha.tre.pos
    have := congrArg List.length (h.1.symm.trans e)
    simp only [List.length_cons, List.length_nil] at this
    omega
  | .leaf x, .bin k a b, l, h, h' => by
    obtain ⟨_, _, la, lb, _, ha, _, e⟩ := h'
    have := ha.tre.pos
    have := congrArg List.length (h.1.symm.trans e)
    simp only [List.length_cons, List.length_append, List.length_nil] at this
    omega
  | .blk a, .leaf x, l, h, h' => by
    obtain ⟨_, _, la, _, ha, e⟩ := h
    have := ha.tre.pos
    have := congrArg List.length (h'.1.symm.trans e)
    simp only [List.length_cons, List.length_nil] at this
    omega
  | .bin k a b, .leaf x, l, h, h' => by
    obtain ⟨_, _, la, lb, _, ha, _, e⟩ := h
    have := ha.tre.pos
    have := congrArg List.length (h'.1.symm.trans e)
    simp only [List.length_cons, List.length_append, List.length_nil] at this
    omega
  | .blk a, .blk a', l, h, h' => by
    obtain ⟨_, _, la, hk, ha, _⟩ := h
    obtain ⟨_, _, la', hk', ha', _⟩ := h'
    have e := hk.symm.trans hk'
    cases e
    rw [ha.det ha']
  | .blk a, .bin k b c, l, h, h' => by
    obtain ⟨_, _, la, hk, _, _⟩ := h
    obtain ⟨_, _, lb, lc, hk', _, _, _⟩ := h'
    have e := hk.symm.trans hk'
    cases e
  | .bin k b c, .blk a, l, h, h' => by
    obtain ⟨_, _, la, hk, _, _⟩ := h'
    obtain ⟨_, _, lb, lc, hk', _, _, _⟩ := h
    have e := hk.symm.trans hk'
    cases e
  | .bin k a b, .bin k' a' b', l, h, h' => by
    obtain ⟨_, hh, la, lb, hk, ha, hb, _⟩ := h
    obtain ⟨_, hh', la', lb', hk', ha', hb', _⟩ := h'
    have e := hk.symm.trans hk'
    cases e
    rw [ha.det ha', hb.det hb', ← hh, ← hh']
/-- What Print gives. -/
def PrintPost (l : List Nd) (w : World) (e : Ending) (w' : World) : Prop :=
  ∃ u : ByteArray, e = .returned (.tuple #[.string u, .bool (rightB l)]) ∧ (rightB l = false → u = ⟨#[]⟩) ∧ (∀ t, Cv t l → rightB l = true → u.data.toList = t.txt true) ∧ Below w.heap.size w w'
theorem printR_any (l : List Nd) (v : Value) (w : World) (hv : Nds w v l) (hl : l.length ≤ 1000) (hm : Nms l) : Calls Try.prog 17 #[v] w (PrintPost l w) := by
  have HR := Lib.hid (rightSR_any l v w hv hl hm)
  have HV := Lib.hid hv
  cases hr : rightB l with
  | false =>
    rw [hr] at HR
    have HF := Lib.hid hr
    clear hr
    go_enter Try.func17, Try.ntmps17
    go_wp2_with fail
    refine HR.out.mono ?_
    rintro e w1 ⟨rfl, hb⟩
    go_wp2_with fail
    go_ret2
    exact ⟨_, by rw [HF.out]; rfl, fun _ => rfl, fun _ _ h => (by rw [HF.out] at h; cases h), hb⟩
  | true =>
    rw [hr] at HR
    have HF := Lib.hid hr
    obtain ⟨t, hc, ho, hn⟩ := right_conv hr
    have h60 : l.length ≤ 200 := by
      unfold rightB at hr
      simp only [Bool.and_eq_true, decide_eq_true_eq] at hr
      omega
    have HT := Lib.hid (fun w' h => text_any t ho hn l v w' hc h h60)
    have HC := Lib.hid hc
    clear hr hc ho hn
    go_enter Try.func17, Try.ntmps17
    go_wp2_with fail
    refine HR.out.mono ?_
    rintro e w1 ⟨rfl, hb⟩
    have HB := Lib.hid hb
    clear hb
    go_wp2_with fail
    refine (HT.out _ (HV.out.below HB.out)).mono ?_
    rintro e w2 ⟨u, rfl, hu, hb2⟩
    go_wp2_with fail
    go_ret2
    refine ⟨u, by rw [HF.out]; rfl, fun h => (by rw [HF.out] at h; cases h), fun t' hc' _ => ?_, HB.out.trans (hb2.mono HB.out.size)⟩
    rw [hu, HC.out.det hc']
end Go.Proofs.Ytdhaghabhdeakaa.Pa

namespace Go.Proofs.Ytdhaghabhdeakaa.Pa
open Go Go.RowKit Rw
set_option maxRecDepth 20000

theorem infoTk : (Try.prog.info? 64).map (fun i => (i.zero, i.size, i.bytes)) = some (some (.agg #[.int .i64 0, .int .i64 0, .string ⟨#[]⟩]), 3, 32) := To.infoP
/-- The tokens, and one for the end. -/
theorem toks_app {w : World} {B : Nat} {v : Value} {ts : List To.Tk} (h : w.ownsRow B 64 3 v ts.length (To.cls ts)) (hB : B ≤ w.heap.size) (hts : ts.length ≤ 1000) (en : Nat) :
    ∃ v' w', (Builtin.append_ #[40, 40] 40 #[v, .slice (some ⟨w.heap.size, 0, none⟩) 1 1]).run Try.prog (w.alloc (.cells #[.int .i64 0, .int .i64 (en : Int), .string ⟨#[]⟩] 64)) = .ok v' w' ∧ Ap.RdO (fun k => k < w'.heap.size) w' 3 v' (ts.length + 1) (To.cls (ts ++ [endT en])) ∧ Below B w w' := by
  obtain ⟨i0, hi, hz, hs1, hb8⟩ := info_parts infoTk
  obtain ⟨v', w', h1, h2, h3, h4, h5⟩ := Ap.run_append_one (P := Try.prog) (ty := 40) Try.underlying40 hi hz hs1 hb8 (by rfl) (by omega) h hB #[.int .i64 0, .int .i64 (en : Int), .string ⟨#[]⟩] rfl
    (by intro u hu; simp at hu; rcases hu with rfl | rfl | rfl <;> rfl) (by unfold maxLen; omega) (by omega)
  refine ⟨v', w', h1, ?_, h4⟩
  rw [To.cls_append]
  exact (Ap.RdO.fresh h2).imp fun g hg _ => hg
theorem own_slc {w : World} {B size n : Nat} {e : TypeId} {v : Value} {xs : List Value} (h : w.ownsRow B e size v n xs) : ∃ a c, v = .slice a n c := by
  obtain ⟨_, ⟨rfl, rfl⟩ | ⟨g, cap, cur, rfl, _⟩⟩ := h
  · exact ⟨none, 0, rfl⟩
  · exact ⟨_, _, rfl⟩
/-- What read answers. -/
def ReadPost (g : Got) (ts : List To.Tk) (en B : Nat) (w : World) (e : Ending) (w' : World) : Prop :=
  (g.bad = true ∨ g.next < ts.length → ∃ a c, e = .returned (.tuple #[.slice a 0 c, .int .i64 (atOf ts en g.next), .bool false]) ∧ a = none ∧ c = 0) ∧
  (¬ (g.bad = true ∨ g.next < ts.length) → ∃ y, e = .returned (.tuple #[y, .int .i64 0, .bool true]) ∧ Nds w' y g.L) ∧ Below B w w'
set_option maxHeartbeats 2000000 in
theorem read_any (v : Value) (ts : List To.Tk) (en B : Nat) (w : World) (hv : w.ownsRow B 64 3 v ts.length (To.cls ts)) (hB : B ≤ w.heap.size) (hts : ts.length ≤ 1000) :
    Calls Try.prog 26 #[v, .int .i64 (en : Int)] w (ReadPost (got (tkn ts)) ts en B w) := by
  obtain ⟨v', w', hrun, hrow, hb⟩ := toks_app hv hB hts en
  have R := Lib.hid hrun
  have HROW := Lib.hid hrow
  have HB := Lib.hid hb
  obtain ⟨a, c, rfl⟩ := own_slc hv
  obtain ⟨va, vc, rfl⟩ : ∃ va vc, v' = .slice va (ts.length + 1) vc := by
    obtain ⟨_, va, vc, e, -⟩ := hrow
    exact ⟨va, vc, e⟩
  clear hrun hrow hb hv
  obtain ⟨f, hf⟩ := got_is (tkn ts)
  have LV := Lib.hid (fun w0 hr => (readsP (b := w'.heap.size) (en := en) (tv := .slice va (ts.length + 1) vc) hts f).1 0 0 (got (tkn ts)) w0 (by decide) hf hr)
  have RD : Hid (Rdr (w'.alloc (.cells (rdc (.slice va (ts.length + 1) vc) 0 w'.heap.size) 72)) w'.heap.size (.slice va (ts.length + 1) vc) ts en 0) := Lib.hid
    ⟨heap_at_new w' _, (HROW.out.imp (ok' := fun k => k ≠ w'.heap.size) (fun k _ hk => Nat.ne_of_lt hk)).below (below1 w' _), Nat.zero_le _⟩
  have hgl := (few f).1 _ _ _ _ (Nat.zero_le _) hf
  rw [tkn_len] at hgl
  obtain ⟨g, hg⟩ : ∃ g, got (tkn ts) = g := ⟨_, rfl⟩
  rw [hg] at LV hgl ⊢
  have hgn := hgl.2.1
  clear hf hg hgl
  have hmf : ∀ (fn : Fn) (first cap : Array Value) (w : World), (Instr.makeFunc fn first cap).run Try.prog w = .ok (.func fn first cap) w := fun _ _ _ _ => rfl
  go_enter Try.func26, Try.ntmps26
  go_wp2_with (at_builtin; refine Ap.wpList_append_run (by rfl) (.tmp 8) (.tmp 11) _ _ rfl _ _ rfl rfl _ w' R.out ?_)
  refine (LV.out _ RD.out).mono ?_
  intro e w1 hpost
  obtain ⟨ya, yn, yc, rfl, hy, hr1, hm1⟩ := hpost.up
  have HY := Lib.hid hy
  have HR1 := Lib.hid hr1
  have HBB : Hid (Below B w w1) := Lib.hid (Mv.below (HB.out.alloc (Nat.le_trans hB HB.out.size) _) hm1 (by simp; have := HB.out.size; omega) (Nat.le_trans hB HB.out.size))
  obtain ⟨tb, off, cap, he, -, -, -, c2, -⟩ := hr1.at g.next hgn
  cases he
  obtain ⟨d0, d1, -⟩ := hr1.blk.cells
  have HBD := Lib.hid (fun n => HBB.out.trans (Below.drewN B n w1))
  obtain ⟨pl, hpl⟩ : ∃ pl, atOf ts en g.next = pl := ⟨_, rfl⟩
  rw [hpl] at c2
  have HPL := Lib.hid hpl
  have gi : decide ((g.next : Int) < (ts.length : Int) + 1) = true := by simp; omega
  clear hy hr1 hm1 hpost hpl
  cases hgb : g.bad with
  | true =>
    have HGB := Lib.hid hgb
    clear hgb
    go_wp2_with fail
    go_quiet (fail)
    go_wp2_with fail
    go_ret3
    show ReadPost g ts en B w _ _
    unfold ReadPost
    rw [HPL.out]
    exact ⟨fun _ => ⟨_, _, rfl, rfl, rfl⟩, fun h => absurd (Or.inl HGB.out) h, HBD.out _⟩
  | false =>
    have HGB := Lib.hid hgb
    clear hgb
    by_cases hlt : g.next < ts.length
    · have HLT := Lib.hid hlt
      have d3 : decide ((g.next : Int) < (ts.length : Int)) = true := by simp; omega
      clear hlt
      go_wp2_with fail
      go_quiet (fail)
      go_wp2_with fail
      go_ret3
      show ReadPost g ts en B w _ _
      unfold ReadPost
      rw [HPL.out]
      exact ⟨fun _ => ⟨_, _, rfl, rfl, rfl⟩, fun h => absurd (Or.inr HLT.out) h, HBD.out _⟩
    · have HLT := Lib.hid hlt
      have d3 : decide ((g.next : Int) < (ts.length : Int)) = false := by simp; omega
      have HN := Lib.hid (HY.out HGB.out).rd
      clear hlt
      go_wp2_with fail
      go_ret3
      show ReadPost g ts en B w _ _
      unfold ReadPost
      exact ⟨fun h => (by rw [HGB.out] at h; rcases h with h | h; cases h; exact absurd h HLT.out), fun _ => ⟨_, rfl, HN.out⟩, HBB.out⟩
end Go.Proofs.Ytdhaghabhdeakaa.Pa

namespace Go.Proofs.Ytdhaghabhdeakaa.Pa
open Go Go.RowKit Rw So
set_option maxRecDepth 20000

theorem parse_of {l : List Nd} {t : Tm} {u : ByteArray} (hr : rightB l = true) (hc : Cv t l) (ho : t.ok) (hg : Gives u.data.toList t.kn) (hs : u.size ≤ 1000) : parseR u = ⟨l, u.size, 0⟩ := by
  obtain ⟨ts, hF, hk, hgot⟩ := text_reads hg ho
  unfold rightB at hr
  simp only [Bool.and_eq_true, beq_iff_eq, decide_eq_true_eq] at hr
  obtain ⟨h1, h2, h3⟩ := hr
  unfold parseR To.lexR
  rw [if_neg (by omega), hF]
  show parseG _ ts u.size = _
  rw [hgot, hc.row]
  unfold parseG
  rw [if_neg (by simp), if_neg (by simp only; omega), if_neg (by simp only; omega), if_neg (by simp only [h1]; simp)]
/-- Printed, and read again. -/
theorem parse_print {l : List Nd} {t : Tm} {u : ByteArray} (hr : rightB l = true) (hc : Cv t l) (ho : t.ok) (hn : t.nam) (hu : u.data.toList = t.txt true) (hs : u.size ≤ 1000) : parseR u = ⟨l, u.size, 0⟩ :=
  parse_of hr hc ho (by rw [hu]; exact gives_txt true t ho hn) hs
/-- The same without blanks. -/
theorem parse_noB {l : List Nd} {t : Tm} {u : ByteArray} (hr : rightB l = true) (hc : Cv t l) (ho : t.ok) (hn : t.nam) (hu : u.data.toList = noB (t.txt true)) (hs : u.size ≤ 1000) : parseR u = ⟨l, u.size, 0⟩ :=
  parse_of hr hc ho (by rw [hu, noB_txt t ho hn]; exact gives_txt false t ho hn) hs
theorem right_nil : rightB [] = false := by decide +kernel
theorem parseG_right (g : Got) (ts : List To.Tk) (n : Nat) : (parseG g ts n).err = 0 ∧ rightB (parseG g ts n).L = true ∧ (parseG g ts n).place = n ∨ (parseG g ts n).err ≠ 0 ∧ (parseG g ts n).L = [] := by
  by_cases h1 : g.bad = true ∨ g.next < ts.length
  · unfold parseG
    rw [if_pos h1]
    exact Or.inr ⟨by simp, rfl⟩
  by_cases h2 : 60 < g.L.length
  · unfold parseG
    rw [if_neg h1, if_pos h2]
    exact Or.inr ⟨by simp, rfl⟩
  by_cases h3 : 16 < depth g.L
  · unfold parseG
    rw [if_neg h1, if_neg h2, if_pos h3]
    exact Or.inr ⟨by simp, rfl⟩
  by_cases h4 : So.of g.L ≠ 1
  · unfold parseG
    rw [if_neg h1, if_neg h2, if_neg h3, if_pos h4]
    exact Or.inr ⟨by simp, rfl⟩
  · unfold parseG
    rw [if_neg h1, if_neg h2, if_neg h3, if_neg h4]
    refine Or.inl ⟨rfl, ?_, rfl⟩
    unfold rightB
    simp only [Bool.and_eq_true, beq_iff_eq, decide_eq_true_eq]
    exact ⟨Classical.not_not.1 h4, by omega, by omega⟩
/-- There is a tree if and only if it is right. -/
theorem parse_right (s : ByteArray) : (parseR s).err = 0 ∧ rightB (parseR s).L = true ∧ (parseR s).place = s.size ∨ (parseR s).err ≠ 0 ∧ (parseR s).L = [] := by
  cases h : To.lexR s with
  | bad a e =>
    have he : parseR s = ⟨[], a, e⟩ := by unfold parseR; rw [h]
    rw [he]
    have := lex_err h
    exact Or.inr ⟨by show e ≠ 0; omega, rfl⟩
  | ok ts =>
    have he : parseR s = parseT ts s.size := by unfold parseR; rw [h]
    rw [he]
    exact parseG_right _ _ _
end Go.Proofs.Ytdhaghabhdeakaa.Pa

namespace Go.Proofs.Ytdhaghabhdeakaa.Pa
open Go Go.RowKit Rw
set_option maxRecDepth 20000

set_option maxHeartbeats 400000 in
theorem parseP_bad (s : ByteArray) (w : World) (a : Nat) (e0 : Int) (h : To.lexR s = .bad a e0) : Calls Try.prog 11 #[.string s] w (ParsePost (parseR s) w) := by
  have he := lex_err h
  have HP : Hid (parseR s = ⟨[], a, e0⟩) := by show _ = _; unfold parseR; rw [h]
  rw [HP.out]
  have L1 := Lib.hid (To.lex_any s)
  rw [h] at L1
  have L2 : Hid (∀ w', Calls Try.prog 25 #[.string s] w' fun e w'' => ∃ y, e = .returned (.tuple #[y, .int .i64 (a : Int), .int .i64 e0]) ∧ w''.ownsRow w'.heap.size 64 3 y 0 [] ∧ Below w'.heap.size w' w'') := L1
  have g0 : (e0 != 0) = true := by rw [bne_iff_ne]; omega
  clear h he L1
  go_enter Try.func11, Try.ntmps11
  go_wp2_with fail
  refine (L2.out _).mono ?_
  rintro e wa ⟨y, rfl, -, hb⟩
  have HB := Lib.hid hb
  clear hb
  go_wp2_with fail
  go_ret3
  exact ⟨_, rfl, nds_nil _, HB.out⟩
set_option maxHeartbeats 2000000 in
theorem parseP_ok (s : ByteArray) (w : World) (ts : List To.Tk) (h : To.lexR s = .ok ts) : Calls Try.prog 11 #[.string s] w (ParsePost (parseR s) w) := by
  have HP : Hid (parseR s = parseT ts s.size) := by show _ = _; unfold parseR; rw [h]
  rw [HP.out]
  obtain ⟨hsh, hlen, hnx, hL, hsz⟩ := got_facts h
  have L1 := Lib.hid (To.lex_any s)
  rw [h] at L1
  have L2 : Hid (∀ w', Calls Try.prog 25 #[.string s] w' fun e w'' => ∃ y, e = .returned (.tuple #[y, .int .i64 (s.size : Int), .int .i64 0]) ∧ w''.ownsRow w'.heap.size 64 3 y ts.length (To.cls ts) ∧ Below w'.heap.size w' w'') := L1
  unfold parseT
  have RD := Lib.hid (fun v B w' hv hB => read_any v ts s.size B w' hv hB hlen)
  obtain ⟨g, hg⟩ : ∃ g, got (tkn ts) = g := ⟨_, rfl⟩
  rw [hg] at RD hL hsh ⊢
  have HSH := Lib.hid hsh
  clear h L1 hg HP hsh hnx
  go_enter Try.func11, Try.ntmps11
  go_wp2_with fail
  refine (L2.out _).mono ?_
  rintro e wa ⟨v, rfl, hv, hb⟩
  have HB := Lib.hid hb
  have RD1 := Lib.hid (RD.out v w.heap.size wa hv hb.size)
  obtain ⟨a, cap, rfl⟩ := own_slc hv
  clear hb hv
  go_wp2_with fail
  refine RD1.out.mono ?_
  unfold ReadPost
  rintro e wb ⟨h1, h2, hb⟩
  have HB1 := Lib.hid (HB.out.trans hb)
  have H1 := Lib.hid h1
  have H2 := Lib.hid h2
  clear hb h1 h2
  by_cases hc : g.bad = true ∨ g.next < ts.length
  · obtain ⟨a, c, rfl, rfl, rfl⟩ := H1.out hc
    have HPL : Hid (parseG g ts s.size = ⟨[], atOf ts s.size g.next, 60⟩) := by
      show _ = _
      unfold parseG
      rw [if_pos hc]
      rfl
    clear hc
    obtain ⟨pl, hpl⟩ : ∃ pl, atOf ts s.size g.next = pl := ⟨_, rfl⟩
    rw [hpl] at HPL ⊢
    clear hpl
    go_wp2_with fail
    go_ret3
    show ParsePost (parseG g ts s.size) w _ _
    rw [HPL.out]
    exact ⟨_, rfl, nds_nil _, HB1.out⟩
  · obtain ⟨y, rfl, hy⟩ := H2.out hc
    have HY := Lib.hid hy
    have HPL : Hid (parseG g ts s.size = if 60 < g.L.length then ⟨[], 0, 62⟩ else if 16 < depth g.L then ⟨[], 0, 63⟩ else if So.of g.L ≠ 1 then ⟨[], 0, 61⟩ else ⟨g.L, s.size, 0⟩) := by
      show _ = _
      unfold parseG
      rw [if_neg hc]
    obtain ⟨_, ya, yc, rfl, -⟩ := hy
    clear hc
    by_cases h60 : 60 < g.L.length
    · go_wp2_with fail
      go_ret3
      show ParsePost (parseG g ts s.size) w _ _
      rw [HPL.out, if_pos h60]
      exact ⟨_, rfl, nds_nil _, HB1.out⟩
    · have hl60 : g.L.length ≤ 1000 := by omega
      have HDP := Lib.hid (fun v' w' hv' => Rx.depthP_any v' g.L w' hv' (by omega))
      have HOF := Lib.hid (fun v' w' hv' => Sx.termP_any g.L v' w' hv' hl60 (fun x hx => Nat.le_trans (HSH.out x hx) (by decide)))
      obtain ⟨d, hd⟩ : ∃ d, depth g.L = d := ⟨_, rfl⟩
      obtain ⟨o, ho⟩ : ∃ o, So.of g.L = o := ⟨_, rfl⟩
      rw [if_neg h60] at HPL
      rw [hd, ho] at HPL
      rw [hd] at HDP
      rw [ho] at HOF
      clear hd ho
      by_cases h16 : 16 < d
      · go_wp2_with fail
        refine (HDP.out _ _ HY.out).mono ?_
        rintro e w' ⟨rfl, hb⟩
        have HB2 := Lib.hid (HB1.out.trans (hb.mono HB1.out.size))
        clear hb
        go_wp2_with fail
        go_ret3
        show ParsePost (parseG g ts s.size) w _ _
        rw [HPL.out, if_pos h16]
        exact ⟨_, rfl, nds_nil _, HB2.out⟩
      · rw [if_neg h16] at HPL
        by_cases ho1 : o = 1
        · subst ho1
          go_wp2_with fail
          refine (HDP.out _ _ HY.out).mono ?_
          rintro e w' ⟨rfl, hb⟩
          have HB2 := Lib.hid (HB1.out.trans (hb.mono HB1.out.size))
          have HY2 := Lib.hid (HY.out.below hb)
          clear hb
          go_wp2_with fail
          refine (HOF.out _ _ HY2.out).mono ?_
          rintro e w5 ⟨rfl, hb5⟩
          have HY5 := Lib.hid (Nds.below HY2.out hb5)
          have HB5 := Lib.hid (HB2.out.trans (hb5.mono HB2.out.size))
          clear hb5
          go_wp2_with fail
          go_ret3
          show ParsePost (parseG g ts s.size) w _ _
          rw [HPL.out, if_neg (by simp)]
          exact ⟨_, rfl, HY5.out, HB5.out⟩
        · have go1 : ((o : Int) == 1) = false := by rw [beq_eq_false_iff_ne]; omega
          have go2 : (o == 1) = false := by rw [beq_eq_false_iff_ne]; omega
          rw [go2] at HOF
          have HO1 := Lib.hid ho1
          clear ho1
          go_wp2_with fail
          refine (HDP.out _ _ HY.out).mono ?_
          rintro e w' ⟨rfl, hb⟩
          have HB2 := Lib.hid (HB1.out.trans (hb.mono HB1.out.size))
          have HY2 := Lib.hid (HY.out.below hb)
          clear hb
          go_wp2_with fail
          refine (HOF.out _ _ HY2.out).mono ?_
          rintro e w5 ⟨rfl, hb5⟩
          have HB5 := Lib.hid (HB2.out.trans (hb5.mono HB2.out.size))
          clear hb5
          go_wp2_with fail
          go_ret3
          show ParsePost (parseG g ts s.size) w _ _
          rw [HPL.out, if_pos HO1.out]
          exact ⟨_, rfl, nds_nil _, HB5.out⟩
/-- The program's Parse. -/
theorem parseP_any (s : ByteArray) (w : World) : Calls Try.prog 11 #[.string s] w (ParsePost (parseR s) w) := by
  cases h : To.lexR s with
  | bad a e => exact parseP_bad s w a e h
  | ok ts => exact parseP_ok s w ts h
end Go.Proofs.Ytdhaghabhdeakaa.Pa

namespace Go.Proofs.Ytdhaghabhdeakaa.Pa
open Go Go.RowKit Rw So
set_option maxRecDepth 20000

/-- What stands between two trees. -/
def btw (k : Int) : ByteArray := if k = 7 then ⟨#[32, 124, 32]⟩ else if k = 6 then ⟨#[32, 43, 32]⟩ else if k = 8 then ⟨#[32, 62, 32]⟩ else if k = 5 then ⟨#[32, 59, 32]⟩ else if k = 10 then ⟨#[47]⟩ else ⟨#[]⟩
set_option maxHeartbeats 400000 in
theorem bind_any (k : Int) (w : World) : Calls Try.prog 56 #[.int .i64 k] w fun e w' => e = .returned (.tuple #[.int .i64 ((rankK k : Int) + 1), .string (btw k)]) ∧ w = w' := by
  by_cases h : k = 7 ∨ k = 6 ∨ k = 8 ∨ k = 5 ∨ k = 10
  · rcases h with rfl | rfl | rfl | rfl | rfl
    all_goals
      go_enter Try.func56, Try.ntmps56
      go_wp2_with fail
      go_ret2
      exact ⟨rfl, rfl⟩
  · have hr : rankK k = 5 := by
      unfold rankK
      rw [if_neg (by omega), if_neg (by omega), if_neg (by omega), if_neg (by omega), if_neg (by omega)]
    have hb : btw k = ⟨#[]⟩ := by
      unfold btw
      rw [if_neg (by omega), if_neg (by omega), if_neg (by omega), if_neg (by omega), if_neg (by omega)]
    have b1 : (k == 7) = false := by rw [beq_eq_false_iff_ne]; omega
    have b2 : (k == 6) = false := by rw [beq_eq_false_iff_ne]; omega
    have b3 : (k == 8) = false := by rw [beq_eq_false_iff_ne]; omega
    have b4 : (k == 5) = false := by rw [beq_eq_false_iff_ne]; omega
    have b5 : (k == 10) = false := by rw [beq_eq_false_iff_ne]; omega
    rw [hr, hb]
    clear h hr hb
    go_enter Try.func56, Try.ntmps56
    go_wp2_with fail
    go_ret2
    exact ⟨rfl, rfl⟩
set_option maxHeartbeats 400000 in
theorem word_any (x : Nd) (w : World) (hk : x.k = 1 ∨ x.k = 2 ∨ x.k = 3 ∨ x.k = 4) : Calls Try.prog 55 #[.agg #[.int .i64 x.k, .string x.n, .int .i64 x.s]] w fun e w' => e = .returned (.string (word x)) ∧ Below w.heap.size w w' := by
  obtain ⟨k, n, s⟩ := x
  rcases hk with h | h | h | h <;> simp only at h <;> subst h
  all_goals
    go_enter Try.func55, Try.ntmps55
    go_wp2_with fail
    go_ret
    exact ⟨rfl, below1 _ _⟩
def TextP (t : Tm) : Prop := ∀ (l : List Nd) (v : Value) (w : World), Cv t l → Nds w v l → l.length ≤ 200 → Calls Try.prog 32 #[v] w (Says (t.txt true) w)
theorem kidsW_any (v : Value) (l : List Nd) (w : World) (hv : Nds w v l) (hl : l.length ≤ 1000000) : Calls Try.prog 54 #[v] w fun e w' => ∃ y, e = .returned y ∧ Rws w' y (kids l) ∧ Below w.heap.size w w' :=
  (Rx.kidsP_any v l w hv hl).mono fun _ _ ⟨y, cs, he, h1, h2, hb⟩ => ⟨y, he, ⟨cs, h1.rd, h2.rwc⟩, hb⟩
theorem kids_leaf {x : Nd} (h : ar x.k = 0) (ht : Tre [x]) : kids [x] = [] := List.eq_nil_of_length_eq_zero (by rw [ht.kids.1]; show (ar x.k).toNat = 0; rw [h]; rfl)
theorem rws_nil {w : World} {y : Value} (h : Rws w y []) : ∃ a c, y = .slice a 0 c := by
  obtain ⟨cs, ⟨_, a, c, rfl, -⟩, -⟩ := h
  exact ⟨a, c, rfl⟩
set_option maxHeartbeats 800000 in
theorem textP_leaf (x : Nd) : TextP (.leaf x) := by
  intro l v w hc hv hl
  have ht := hc.tre
  obtain ⟨rfl, h1, h4⟩ := hc
  have hk : x.k = 1 ∨ x.k = 2 ∨ x.k = 3 ∨ x.k = 4 := by omega
  have hkk := kids_leaf (by rcases hk with h | h | h | h <;> rw [h] <;> decide) ht
  have HK := Lib.hid (fun w' v' hv' => kidsW_any v' [x] w' hv' (by simp))
  rw [hkk] at HK
  have HW := Lib.hid (fun w' => word_any x w' hk)
  have HV := Lib.hid hv
  rcases hv.form with ⟨h0, _⟩ | ⟨b, off, cap, rfl, _, hat⟩
  · cases h0
  obtain ⟨e1, e2, e3⟩ := hat 0 (by simp)
  rw [Nat.zero_mul, Nat.add_zero] at e1 e2 e3
  have E1 := Lib.hid e1
  have E2 := Lib.hid e2
  have E3 := Lib.hid e3
  simp only [List.getElem_cons_zero] at E1 E2 E3
  clear hat e1 e2 e3 h1 h4 hkk ht hk hl
  go_enter Try.func32, Try.ntmps32
  go_wp2_with fail
  refine (HK.out _ _ HV.out).mono ?_
  rintro e w1 ⟨y, rfl, hy, hb⟩
  obtain ⟨ya, yc, rfl⟩ := rws_nil hy
  have c1 := E1.out
  have c2 := E2.out
  have c3 := E3.out
  rw [← hb.cell (Ap.cell_lt c1)] at c1
  rw [← hb.cell (Ap.cell_lt c2)] at c2
  rw [← hb.cell (Ap.cell_lt c3)] at c3
  have HB := Lib.hid hb
  clear hb hy
  go_wp2_with fail
  refine (HW.out _).mono ?_
  rintro e w2 ⟨rfl, hb⟩
  have HB2 := Lib.hid (HB.out.trans (hb.mono HB.out.size))
  clear hb
  go_wp2_with fail
  go_ret
  exact ⟨_, rfl, rfl, HB2.out⟩
set_option maxHeartbeats 800000 in
theorem withinP_any {t : Tm} {l : List Nd} {v : Value} {w : World} (ht : TextP t) (hc : Cv t l) (hv : Nds w v l) (hl : l.length ≤ 200) (hn : t.nam) (m : Nat) :
    Calls Try.prog 57 #[v, .int .i64 (m : Int)] w (Says (brkT (decide (t.rank + 1 < m)) (t.txt true)) w) := by
  have HT := Lib.hid (ht l v w hc hv hl)
  have hlen := txt_len true t hn
  rw [hc.row] at hlen
  have HB0 := Lib.hid (fun k w' => bind_any k w')
  have hrk := hc.rank
  have HV := Lib.hid hv
  obtain ⟨b, off, cap, rfl, k0⟩ := hc.head hv
  have hp := hc.tre.pos
  obtain ⟨r, hr⟩ : ∃ r, t.rank = r := ⟨_, rfl⟩
  rw [hr] at hrk ⊢
  obtain ⟨k, hk⟩ : ∃ k, So.hd l = k := ⟨_, rfl⟩
  rw [hk] at hrk k0
  have HR := Lib.hid hrk
  clear hr hk hrk hv
  by_cases hm : r + 1 < m
  · rw [decide_eq_true hm]
    have d1 : decide ((r : Int) + 1 < (m : Int)) = true := by simp; omega
    go_enter Try.func57, Try.ntmps57
    go_wp2_with fail
    refine (HB0.out _ _).mono ?_
    rw [HR.out]
    rintro e w' ⟨rfl, rfl⟩
    go_wp2_with fail
    refine HT.out.mono ?_
    rintro e w1 ⟨u, rfl, hu, hb⟩
    have hus : u.size ≤ 1600 := by
      have hz : u.data.toList.length = u.size := by cases u; exact Array.length_toList
      rw [← hz, hu]
      omega
    have HB := Lib.hid hb
    have HU := Lib.hid hu
    clear hb hu
    go_wp2_with fail
    go_ret
    exact ⟨_, rfl, by rw [bytes_put2, HU.out]; rfl, HB.out⟩
  · rw [decide_eq_false hm]
    have d1 : decide ((r : Int) + 1 < (m : Int)) = false := by simp; omega
    go_enter Try.func57, Try.ntmps57
    go_wp2_with fail
    refine (HB0.out _ _).mono ?_
    rw [HR.out]
    rintro e w' ⟨rfl, rfl⟩
    go_wp2_with fail
    refine HT.out.mono ?_
    rintro e w1 ⟨u, rfl, hu, hb⟩
    have HB := Lib.hid hb
    have HU := Lib.hid hu
    clear hb hu
    go_wp2_with fail
    go_ret
    exact ⟨_, rfl, HU.out, HB.out⟩
set_option maxHeartbeats 800000 in
theorem textP_blk {a : Tm} (ha : TextP a) (hn : a.nam) : TextP (.blk a) := by
  intro l v w hc hv hl
  obtain ⟨ht, hh, la, hk, hca, rfl⟩ := hc
  have hl2 : la.length ≤ 200 := by simp at hl; omega
  have hlen := txt_len true a hn
  rw [hca.row] at hlen
  have HT := Lib.hid (fun w' v' hv' => ha la v' w' hca hv' hl2)
  have HK := Lib.hid (fun w' v' hv' => kidsW_any v' (nOf 9 :: la) w' hv' (by omega))
  have HV := Lib.hid hv
  have HKK := Lib.hid hk
  rcases hv.form with ⟨h0, _⟩ | ⟨b, off, cap, rfl, _, hat⟩
  · cases h0
  clear hat ht hh hk hv
  have hN0 : 0 < (nOf 9 :: la).length := by simp
  generalize (nOf 9 :: la).length = N at *
  go_enter Try.func32, Try.ntmps32
  go_wp2_with fail
  refine (HK.out _ _ HV.out).mono ?_
  rintro e w1 ⟨y, rfl, hy, hb⟩
  have HB := Lib.hid hb
  rw [HKK.out] at hy
  obtain ⟨b', o', c', a0, rfl, q0, n0⟩ := one_row hy
  have N0 := Lib.hid n0
  clear hb hy n0
  go_wp2_with fail
  refine (HT.out _ _ N0.out).mono ?_
  rintro e w2 ⟨u, rfl, hu, hb2⟩
  have hus : u.size ≤ 1600 := by
    have hz : u.data.toList.length = u.size := by cases u; exact Array.length_toList
    rw [← hz, hu]
    omega
  have HB2 := Lib.hid hb2
  have HU := Lib.hid hu
  clear hb2 hu
  go_wp2_with fail
  go_ret
  exact ⟨_, rfl, by rw [bytes_put2, HU.out]; rfl, HB.out.trans (HB2.out.mono HB.out.size)⟩
end Go.Proofs.Ytdhaghabhdeakaa.Pa

namespace Go.Proofs.Ytdhaghabhdeakaa.Pa
open Go Go.RowKit Rw So
set_option maxRecDepth 20000

def NamePost (n : ByteArray) (w : World) (e : Ending) (w' : World) : Prop := ∃ y, e = .returned y ∧ Nds w' y (name n) ∧ Below w.heap.size w w'
/-- The contracts of package parse, and of what its laws call beside it. -/
structure Con : Prop where
  cParse : ∀ (s : ByteArray) (w : World), s.size ≤ 140737488355328 → Calls Try.prog 11 #[.string s] w (ParsePost (parseR s) w)
  cPrint : ∀ (v : Value) (l : List Nd) (w : World), Nds w v l → l.length ≤ 1000 → Nms l → Calls Try.prog 16 #[v] w (PrintPost l w)
  cName : ∀ (n : ByteArray) (w : World), n.size ≤ 140737488355328 → Calls Try.prog 18 #[.string n] w (NamePost n w)
  cSize : ∀ (v : Value) (l : List Nd) (w : World), Nds w v l → l.length ≤ 1000 → Calls Try.prog 24 #[v] w fun e w' => e = .returned (.int .i64 (size l : Int)) ∧ Below w.heap.size w w'
  cDepth : ∀ (v : Value) (l : List Nd) (w : World), Nds w v l → l.length ≤ 1000 → Calls Try.prog 20 #[v] w fun e w' => e = .returned (.int .i64 (depth l : Int)) ∧ Below w.heap.size w w'
  cRight : ∀ (v : Value) (l : List Nd) (w : World), Nds w v l → l.length ≤ 1000 → Nms l → Calls Try.prog 14 #[v] w fun e w' => e = .returned (.bool (rightB l)) ∧ Below w.heap.size w w'

def p1 : ByteArray := ⟨#[91, 97, 47, 98, 32, 59, 32, 99, 47, 100, 93, 32, 124, 32, 101]⟩
def p2 : ByteArray := ⟨#[97, 32, 98]⟩
def p3 : ByteArray := ⟨#[97, 47, 98]⟩
def p4 : ByteArray := ⟨#[116, 104, 114, 111, 119, 119]⟩
def p5 : ByteArray := ⟨#[120]⟩
def c1 (b : UInt8) : Nd := ⟨1, ⟨#[b]⟩, 0⟩
def l1 : List Nd := [nOf 7, nOf 9, nOf 5, nOf 10, c1 97, c1 98, nOf 10, c1 99, c1 100, c1 101]
deriving instance DecidableEq for Prs
theorem parse1 : parseR p1 = ⟨l1, 15, 0⟩ := by decide +kernel
theorem parse2 : parseR p2 = ⟨[], 2, 60⟩ := by decide +kernel
theorem parse3 : parseR p3 = ⟨[], 0, 61⟩ := by decide +kernel
theorem right1 : rightB l1 = true := by decide +kernel
theorem size1 : size l1 = 10 := by decide +kernel
theorem name4 : (name p4).length = 3 := by decide +kernel
theorem name5 : name p5 = [c1 120] := by decide +kernel
def t1 : Tm := .bin 7 (.blk (.bin 5 (.bin 10 (.leaf (c1 97)) (.leaf (c1 98))) (.bin 10 (.leaf (c1 99)) (.leaf (c1 100))))) (.leaf (c1 101))
theorem txt1 : t1.txt true = p1.data.toList := by decide +kernel
theorem cvA (b : UInt8) : Cv (.leaf (c1 b)) [c1 b] := ⟨rfl, (by decide : (1 : Int) ≤ 1), (by decide : (1 : Int) ≤ 4)⟩
theorem cv2 : Cv (.bin 10 (.leaf (c1 97)) (.leaf (c1 98))) [nOf 10, c1 97, c1 98] := ⟨⟨2, by decide +kernel⟩, by decide +kernel, [c1 97], [c1 98], by decide +kernel, cvA 97, cvA 98, rfl⟩
theorem cv3 : Cv (.bin 10 (.leaf (c1 99)) (.leaf (c1 100))) [nOf 10, c1 99, c1 100] := ⟨⟨2, by decide +kernel⟩, by decide +kernel, [c1 99], [c1 100], by decide +kernel, cvA 99, cvA 100, rfl⟩
theorem cv4 : Cv (.bin 5 (.bin 10 (.leaf (c1 97)) (.leaf (c1 98))) (.bin 10 (.leaf (c1 99)) (.leaf (c1 100)))) [nOf 5, nOf 10, c1 97, c1 98, nOf 10, c1 99, c1 100] := ⟨⟨3, by decide +kernel⟩, by decide +kernel, [nOf 10, c1 97, c1 98], [nOf 10, c1 99, c1 100], by decide +kernel, cv2, cv3, rfl⟩
theorem cv5 : Cv (.blk (.bin 5 (.bin 10 (.leaf (c1 97)) (.leaf (c1 98))) (.bin 10 (.leaf (c1 99)) (.leaf (c1 100))))) [nOf 9, nOf 5, nOf 10, c1 97, c1 98, nOf 10, c1 99, c1 100] := ⟨⟨4, by decide +kernel⟩, by decide +kernel, [nOf 5, nOf 10, c1 97, c1 98, nOf 10, c1 99, c1 100], by decide +kernel, cv4, rfl⟩
theorem cv1 : Cv t1 l1 := ⟨⟨5, by decide +kernel⟩, by decide +kernel, [nOf 9, nOf 5, nOf 10, c1 97, c1 98, nOf 10, c1 99, c1 100], [c1 101], by decide +kernel, cv5, cvA 101, rfl⟩
/-- What is printed of the first tree. -/
theorem print1 {u : ByteArray} (h : ∀ t, Cv t l1 → rightB l1 = true → u.data.toList = t.txt true) : u = p1 := by
  have e := (h t1 cv1 right1).trans txt1
  have e2 := Array.toList_inj.1 e
  cases u
  exact congrArg ByteArray.mk e2
end Go.Proofs.Ytdhaghabhdeakaa.Pa
