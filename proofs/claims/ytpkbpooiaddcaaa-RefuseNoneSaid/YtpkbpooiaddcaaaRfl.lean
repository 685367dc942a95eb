/- The statements' own first look at package refuse. -/
import Derived.Test.YtpkbpooiaddcaaaRfi
import Derived.Test.YtpkbpooiaddcaaaRfk
import Derived.Test.YtpkbpooiaddcaaaRws
namespace Go.Proofs.Ytpkbpooiaddcaaa.Rf
open Go Go.RowKit Go.Proofs.Ytpkbpooiaddcaaa.Rw
set_option maxRecDepth 20000

def fewB (l : List Nd) : Bool := decide (l.length ≤ 120) && decide (depth l ≤ 24)
theorem few_len {l : List Nd} (h : fewB l = true) : l.length ≤ 120 := by
  unfold fewB at h
  rw [Bool.and_eq_true, decide_eq_true_eq] at h
  exact h.1
set_option maxHeartbeats 1000000 in
theorem few_any (v : Value) (l : List Nd) (w : World) (h : Nds w v l) :
    Calls Try.prog 8 #[v] w fun e w' => e = .returned (.bool (fewB l)) ∧ w = w' := by
  have H := Lib.hid h
  have hr : fewB l = (decide (l.length ≤ 120) && decide (depth l ≤ 24)) := rfl
  rw [hr]
  obtain ⟨d, hd⟩ : ∃ d, depth l = d := ⟨_, rfl⟩
  have HD := Lib.hid hd
  rw [hd]
  obtain ⟨_, a, cap, rfl, -⟩ := h
  clear hr hd
  by_cases h1 : l.length ≤ 120
  · rw [decide_eq_true h1, Bool.true_and]
    go_enter Try.func8, Try.ntmps8
    go_wp2_with fail
    refine (depthR_any _ l _ H.out (by omega)).mono ?_
    rw [HD.out]
    rintro e w' ⟨rfl, rfl⟩
    go_wp2_with fail
    go_ret
    exact ⟨ret_bool (decide_eq_decide.2 (by omega)), rfl⟩
  · have g1 : decide (l.length ≤ 120) = false := decide_eq_false h1
    rw [g1, Bool.false_and]
    go_enter Try.func8, Try.ntmps8
    go_wp2_with fail
    go_ret
    exact ⟨rfl, rfl⟩

/-- Two actions, of which one may be refused. -/
def nSeq : Nd := ⟨5, ⟨#[]⟩, 0⟩
def nA : Nd := ⟨1, ⟨#[97]⟩, 0⟩
def nB : Nd := ⟨1, ⟨#[98]⟩, 0⟩
def lL : List Nd := [nSeq, nA, nB]
def wL : List Nd := [nSeq, nA, ⟨6, ⟨#[]⟩, 0⟩, nB, ⟨3, ⟨#[]⟩, 0⟩]
def aba : List Nd := [nA, nB, nA]
theorem al_rew : sub (inN [⟨#[98]⟩, ⟨#[99]⟩]) lL = wL := by decide +kernel
theorem al_mark2 : mark 2 lL = wL := by decide +kernel
theorem al_mark0 : mark 0 lL = lL := by decide +kernel
theorem al_strip : strip wL = lL := by decide +kernel
theorem al_plc : plc (isN ⟨#[97]⟩) aba = [0, 2] := by decide +kernel
theorem nms_small {l : List Nd} (h : ∀ x ∈ l, x.n.size ≤ 8) : Nms l := fun x hx => Nat.le_trans (h x hx) (by decide)
/-- Both rows in memory. -/
structure Alv (w0 w : World) : Prop where
  bel : Below w0.heap.size w0 w
  l : Nds w (.slice (some ⟨w0.heap.size + 1 + 1, 0, none⟩) 3 3) lL
  want : Nds w (.slice (some ⟨w0.heap.size + 1 + 1 + 1, 0, none⟩) 5 5) wL
theorem Alv.below {w0 w w' : World} (h : Alv w0 w) (hb : Below w.heap.size w w') : Alv w0 w' := ⟨h.bel.trans (hb.mono h.bel.size), h.l.below hb, h.want.below hb⟩
theorem Alv.start (w : World) (t : TypeId) : Alv w ((((w.alloc (nb nA)).alloc (nb nB)).alloc (.cells (cls lL).toArray t)).alloc (.cells (cls wL).toArray t)) := by
  have b1 := below1 w (nb nA)
  have b2 := below1 (w.alloc (nb nA)) (nb nB)
  have b3 := below1 ((w.alloc (nb nA)).alloc (nb nB)) (.cells (cls lL).toArray t)
  have b4 := below1 (((w.alloc (nb nA)).alloc (nb nB)).alloc (.cells (cls lL).toArray t)) (.cells (cls wL).toArray t)
  have h3 := nds_new ((w.alloc (nb nA)).alloc (nb nB)) lL t
  have h4 := nds_new (((w.alloc (nb nA)).alloc (nb nB)).alloc (.cells (cls lL).toArray t)) wL t
  have e3 : ((w.alloc (nb nA)).alloc (nb nB)).heap.size = w.heap.size + 1 + 1 := by simp
  have e4 : (((w.alloc (nb nA)).alloc (nb nB)).alloc (.cells (cls lL).toArray t)).heap.size = w.heap.size + 1 + 1 + 1 := by simp
  rw [e3] at h3
  rw [e4] at h4
  have c1 := b1.trans (b2.mono b1.size)
  have c2 := c1.trans (b3.mono c1.size)
  exact ⟨c2.trans (b4.mono c2.size), h3.below b4, h4⟩
theorem al_start (w : World) : Alv w (((((w.alloc (.cells #[.int .i64 1, .string ⟨#[97]⟩, .int .i64 0] 39)).alloc (.cells #[.int .i64 1, .string ⟨#[98]⟩, .int .i64 0] 39)).alloc (.cells #[.int .i64 5, .string ⟨#[]⟩, .int .i64 0, .int .i64 1, .string ⟨#[97]⟩, .int .i64 0, .int .i64 1, .string ⟨#[98]⟩, .int .i64 0] 39)).alloc (.cells #[.int .i64 5, .string ⟨#[]⟩, .int .i64 0, .int .i64 1, .string ⟨#[97]⟩, .int .i64 0, .int .i64 6, .string ⟨#[]⟩, .int .i64 0, .int .i64 1, .string ⟨#[98]⟩, .int .i64 0, .int .i64 3, .string ⟨#[]⟩, .int .i64 0] 39)).alloc (.cells #[.int .i64 1, .string ⟨#[97]⟩, .int .i64 0, .int .i64 1, .string ⟨#[98]⟩, .int .i64 0, .int .i64 1, .string ⟨#[97]⟩, .int .i64 0] 39)) ∧ Nds (((((w.alloc (.cells #[.int .i64 1, .string ⟨#[97]⟩, .int .i64 0] 39)).alloc (.cells #[.int .i64 1, .string ⟨#[98]⟩, .int .i64 0] 39)).alloc (.cells #[.int .i64 5, .string ⟨#[]⟩, .int .i64 0, .int .i64 1, .string ⟨#[97]⟩, .int .i64 0, .int .i64 1, .string ⟨#[98]⟩, .int .i64 0] 39)).alloc (.cells #[.int .i64 5, .string ⟨#[]⟩, .int .i64 0, .int .i64 1, .string ⟨#[97]⟩, .int .i64 0, .int .i64 6, .string ⟨#[]⟩, .int .i64 0, .int .i64 1, .string ⟨#[98]⟩, .int .i64 0, .int .i64 3, .string ⟨#[]⟩, .int .i64 0] 39)).alloc (.cells #[.int .i64 1, .string ⟨#[97]⟩, .int .i64 0, .int .i64 1, .string ⟨#[98]⟩, .int .i64 0, .int .i64 1, .string ⟨#[97]⟩, .int .i64 0] 39)) (.slice (some ⟨w.heap.size + 1 + 1 + 1 + 1, 0, none⟩) 3 3) aba := by
  have h1 : Alv w ((((w.alloc (.cells #[.int .i64 1, .string ⟨#[97]⟩, .int .i64 0] 39)).alloc (.cells #[.int .i64 1, .string ⟨#[98]⟩, .int .i64 0] 39)).alloc (.cells #[.int .i64 5, .string ⟨#[]⟩, .int .i64 0, .int .i64 1, .string ⟨#[97]⟩, .int .i64 0, .int .i64 1, .string ⟨#[98]⟩, .int .i64 0] 39)).alloc (.cells #[.int .i64 5, .string ⟨#[]⟩, .int .i64 0, .int .i64 1, .string ⟨#[97]⟩, .int .i64 0, .int .i64 6, .string ⟨#[]⟩, .int .i64 0, .int .i64 1, .string ⟨#[98]⟩, .int .i64 0, .int .i64 3, .string ⟨#[]⟩, .int .i64 0] 39)) := Alv.start w 39
  have h2 : Nds (((((w.alloc (.cells #[.int .i64 1, .string ⟨#[97]⟩, .int .i64 0] 39)).alloc (.cells #[.int .i64 1, .string ⟨#[98]⟩, .int .i64 0] 39)).alloc (.cells #[.int .i64 5, .string ⟨#[]⟩, .int .i64 0, .int .i64 1, .string ⟨#[97]⟩, .int .i64 0, .int .i64 1, .string ⟨#[98]⟩, .int .i64 0] 39)).alloc (.cells #[.int .i64 5, .string ⟨#[]⟩, .int .i64 0, .int .i64 1, .string ⟨#[97]⟩, .int .i64 0, .int .i64 6, .string ⟨#[]⟩, .int .i64 0, .int .i64 1, .string ⟨#[98]⟩, .int .i64 0, .int .i64 3, .string ⟨#[]⟩, .int .i64 0] 39)).alloc (.cells #[.int .i64 1, .string ⟨#[97]⟩, .int .i64 0, .int .i64 1, .string ⟨#[98]⟩, .int .i64 0, .int .i64 1, .string ⟨#[97]⟩, .int .i64 0] 39)) (.slice (some ⟨((((w.alloc (.cells #[.int .i64 1, .string ⟨#[97]⟩, .int .i64 0] 39)).alloc (.cells #[.int .i64 1, .string ⟨#[98]⟩, .int .i64 0] 39)).alloc (.cells #[.int .i64 5, .string ⟨#[]⟩, .int .i64 0, .int .i64 1, .string ⟨#[97]⟩, .int .i64 0, .int .i64 1, .string ⟨#[98]⟩, .int .i64 0] 39)).alloc (.cells #[.int .i64 5, .string ⟨#[]⟩, .int .i64 0, .int .i64 1, .string ⟨#[97]⟩, .int .i64 0, .int .i64 6, .string ⟨#[]⟩, .int .i64 0, .int .i64 1, .string ⟨#[98]⟩, .int .i64 0, .int .i64 3, .string ⟨#[]⟩, .int .i64 0] 39)).heap.size, 0, none⟩) 3 3) aba := nds_new ((((w.alloc (.cells #[.int .i64 1, .string ⟨#[97]⟩, .int .i64 0] 39)).alloc (.cells #[.int .i64 1, .string ⟨#[98]⟩, .int .i64 0] 39)).alloc (.cells #[.int .i64 5, .string ⟨#[]⟩, .int .i64 0, .int .i64 1, .string ⟨#[97]⟩, .int .i64 0, .int .i64 1, .string ⟨#[98]⟩, .int .i64 0] 39)).alloc (.cells #[.int .i64 5, .string ⟨#[]⟩, .int .i64 0, .int .i64 1, .string ⟨#[97]⟩, .int .i64 0, .int .i64 6, .string ⟨#[]⟩, .int .i64 0, .int .i64 1, .string ⟨#[98]⟩, .int .i64 0, .int .i64 3, .string ⟨#[]⟩, .int .i64 0] 39)) aba 39
  have e : ((((w.alloc (.cells #[.int .i64 1, .string ⟨#[97]⟩, .int .i64 0] 39)).alloc (.cells #[.int .i64 1, .string ⟨#[98]⟩, .int .i64 0] 39)).alloc (.cells #[.int .i64 5, .string ⟨#[]⟩, .int .i64 0, .int .i64 1, .string ⟨#[97]⟩, .int .i64 0, .int .i64 1, .string ⟨#[98]⟩, .int .i64 0] 39)).alloc (.cells #[.int .i64 5, .string ⟨#[]⟩, .int .i64 0, .int .i64 1, .string ⟨#[97]⟩, .int .i64 0, .int .i64 6, .string ⟨#[]⟩, .int .i64 0, .int .i64 1, .string ⟨#[98]⟩, .int .i64 0, .int .i64 3, .string ⟨#[]⟩, .int .i64 0] 39)).heap.size = w.heap.size + 1 + 1 + 1 + 1 := by simp
  rw [e] at h2
  exact ⟨h1.below (below1 _ _), h2⟩
set_option maxHeartbeats 4000000 in
theorem alive_any (w : World) : Calls Try.prog 9 #[] w fun e w' => e = .returned (.bool true) ∧ Below w.heap.size w w' := by
  have I := Lib.hid (al_start w).1
  have A0 := Lib.hid (al_start w).2
  go_enter Try.func9, Try.ntmps9
  go_wp2_with fail
  refine (placesP_any _ aba ⟨#[97]⟩ _ A0.out (by decide)).mono ?_
  rw [al_plc]
  rintro e w1 ⟨p, rfl, hp, hb⟩
  replace I := Lib.hid (I.out.below hb)
  have HP := Lib.hid hp
  rcases hp.form with ⟨h0, _⟩ | ⟨pb, po, pc, rfl, hat⟩
  · cases h0
  clear hb hat A0
  have S1 := Lib.hid (strs_new w1 [⟨#[98]⟩, ⟨#[99]⟩] 9)
  have B1 := Lib.hid (below1 w1 (.cells #[.string ⟨#[98]⟩, .string ⟨#[99]⟩] 9))
  go_wp2_with fail
  refine (rewP_any _ _ lL [⟨#[98]⟩, ⟨#[99]⟩] _ (I.out.l.below B1.out) (by decide) (nms_small (by decide)) S1.out (by decide) (by decide)).mono ?_
  rw [al_rew]
  rintro e w2 ⟨y, rfl, hy, hb⟩
  have B2 := B1.out.trans (hb.mono B1.out.size)
  replace I := Lib.hid (I.out.below B2)
  replace HP := Lib.hid (HP.out.below B2)
  have HY := Lib.hid hy
  obtain ⟨_, ya, yc, rfl, -⟩ := hy
  clear hb B2 S1 B1
  go_wp2_with fail
  refine (sameR_any _ _ wL wL _ HY.out I.out.want (by decide)).mono ?_
  rw [show sameN wL wL = true by decide +kernel]
  rintro e w3 ⟨rfl, hb⟩
  replace I := Lib.hid (I.out.below hb)
  replace HP := Lib.hid (HP.out.below hb)
  clear hb HY
  go_wp2_with fail
  refine (markP_any _ lL 2 _ I.out.l (by decide)).mono ?_
  rw [al_mark2]
  rintro e w4 ⟨y, rfl, hy, hb⟩
  replace I := Lib.hid (I.out.below hb)
  replace HP := Lib.hid (HP.out.below hb)
  have HY := Lib.hid hy
  obtain ⟨_, ya, yc, rfl, -⟩ := hy
  clear hb
  go_wp2_with fail
  refine (sameR_any _ _ wL wL _ HY.out I.out.want (by decide)).mono ?_
  rw [show sameN wL wL = true by decide +kernel]
  rintro e w5 ⟨rfl, hb⟩
  replace I := Lib.hid (I.out.below hb)
  replace HP := Lib.hid (HP.out.below hb)
  clear hb HY
  go_wp2_with fail
  refine (markP_any _ lL 0 _ I.out.l (by decide)).mono ?_
  rw [al_mark0]
  rintro e w6 ⟨y, rfl, hy, hb⟩
  replace I := Lib.hid (I.out.below hb)
  replace HP := Lib.hid (HP.out.below hb)
  have HY := Lib.hid hy
  obtain ⟨_, ya, yc, rfl, -⟩ := hy
  clear hb
  go_wp2_with fail
  refine (sameR_any _ _ lL lL _ HY.out I.out.l (by decide)).mono ?_
  rw [show sameN lL lL = true by decide +kernel]
  rintro e w7 ⟨rfl, hb⟩
  replace I := Lib.hid (I.out.below hb)
  replace HP := Lib.hid (HP.out.below hb)
  clear hb HY
  go_wp2_with fail
  refine (stripP_any _ wL _ I.out.want (by decide)).mono ?_
  rw [al_strip]
  rintro e w8 ⟨y, rfl, hy, hb⟩
  replace I := Lib.hid (I.out.below hb)
  replace HP := Lib.hid (HP.out.below hb)
  have HY := Lib.hid hy
  obtain ⟨_, ya, yc, rfl, -⟩ := hy
  clear hb
  go_wp2_with fail
  refine (sameR_any _ _ lL lL _ HY.out I.out.l (by decide)).mono ?_
  rw [show sameN lL lL = true by decide +kernel]
  rintro e w9 ⟨rfl, hb⟩
  replace I := Lib.hid (I.out.below hb)
  replace HP := Lib.hid (HP.out.below hb)
  clear hb HY
  have hc : w9.cell? ⟨pb, po + 1, none⟩ = some (.int .i64 2) := by
    rcases HP.out.form with ⟨h0, _⟩ | ⟨pb', po', pc', he, hat⟩
    · cases h0
    · cases he
      exact hat 1 (by decide)
  have S1 := Lib.hid (strs_new w9 [⟨#[97]⟩] 9)
  have B1 := Lib.hid (below1 w9 (.cells #[.string ⟨#[97]⟩] 9))
  go_wp2_with fail
  refine (rewP_any _ _ [] [⟨#[97]⟩] _ ((Got.start w9).nds.below B1.out) (by decide) (nms_small (by decide)) S1.out (by decide) (by decide)).mono ?_
  rintro e w10 ⟨y, rfl, hy, hb⟩
  replace I := Lib.hid ((I.out.below B1.out).below hb)
  obtain ⟨_, ya, yc, rfl, -⟩ := hy
  clear hb hc S1 B1
  go_wp2_with fail
  go_ret
  exact ⟨rfl, I.out.bel⟩
end Go.Proofs.Ytpkbpooiaddcaaa.Rf
