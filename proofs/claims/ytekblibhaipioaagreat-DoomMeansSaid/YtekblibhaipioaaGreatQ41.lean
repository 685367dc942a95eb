/- The program's plain and paired of any tree; Small, fault, Plain, Paired, Back: the walks. The program's Plain, Paired, Back: the walks. The document's Traces and Pairs of any tree; Small, check, Plain, Paired: the walks. The document's Back, and Same of pairs; the statements' own Olds of pairs: the walks. What the statements call: few, plain, same, texts, act; rows that are too long for anything: the walks. The statements' own first look at package mean: what it asks, plain. The statements' own first look at package mean: the walk. MeanPlain and MeanPaired: the walks. SettleMeans: the walk. DoomMeans: the walk. -/
import Derived.Test.YtekblibhaipioaaGreatQ40
import Derived.Test.YtekblibhaipioaaGreatQ38
import Derived.Test.YtekblibhaipioaaGreatQ06
import Derived.Test.YtekblibhaipioaaGreatQ11
import Derived.Test.YtekblibhaipioaaGreatQ10
import Derived.Test.YtekblibhaipioaaGreatQ35
import Derived.Test.YtekblibhaipioaaGreatQ09
import Derived.Test.YtekblibhaipioaaGreatQ05
import Derived.Test.YtekblibhaipioaaGreatQ26
import Derived.Test.YtekblibhaipioaaGreatQ27
import Derived.Test.YtekblibhaipioaaGreatQ18
import Derived.Test.YtekblibhaipioaaGreatQ31

namespace Go.Proofs.YtekblibhaipioaaGreat.Mn
open Go Go.RowKit Tr
open Rw (Nd Nds)
set_option maxRecDepth 20000
theorem all_any : ∀ (m : Nat) (l : List Nd), l.length ≤ m → So.Tre l → l.length ≤ 24 → acs l ≤ 6 → (So.Is 3 l = true → PC l) ∧ (So.Is 4 l = true → QC l)
  | 0, l, h, ht, _, _ => absurd ht.pos (by omega)
  | m + 1, l, h, ht, h24, h6 => by
    have hk : ∀ a ∈ Rw.kids l, (So.Is 3 a = true → PC a) ∧ (So.Is 4 a = true → QC a) := fun a ha => by
      have har := ht.ar
      have h3 : Rw.ar (So.hd l) = 0 ∨ Rw.ar (So.hd l) = 1 ∨ Rw.ar (So.hd l) = 2 := by
        unfold Rw.ar at har ⊢
        repeat' split
        all_goals simp_all
      rcases h3 with h0 | h1 | h2
      · obtain ⟨x, rfl, _⟩ := cut0 ht h0
        have : Rw.kids [x] = [] := List.eq_nil_of_length_eq_zero (by rw [ht.kids.1, h0]; rfl)
        rw [this] at ha
        cases ha
      · obtain ⟨b, hkk, _, tb, hl, hc, _⟩ := cut1 ht h1
        rw [hkk, List.mem_singleton] at ha
        subst ha
        have := hc all
        exact all_any m a (by omega) tb (by omega) (by unfold acs at *; omega)
      · obtain ⟨b, c, hkk, _, _, tb, tc, hl, hc, _⟩ := cut2 ht h2
        have := hc all
        rw [hkk] at ha
        rcases List.mem_cons.1 ha with rfl | ha
        · exact all_any m a (by omega) tb (by omega) (by unfold acs at *; omega)
        · rw [List.mem_singleton] at ha
          subst ha
          exact all_any m a (by omega) tc (by omega) (by unfold acs at *; omega)
    match l, ht, h24, h6, hk with
    | [], ht, _, _, _ => exact absurd ht.pos (by simp)
    | ⟨k, nm', sg'⟩ :: rest, ht, h24, h6, hk =>
      exact ⟨fun hi v w hv => plain_step tcon k nm' sg' rest v w hv ht hi h24 h6 (fun a ha => (hk a ha).1) fun a ha => (hk a ha).2,
        fun hi v w hv => paired_step tcon k nm' sg' rest v w hv ht hi h24 h6 (fun a ha => (hk a ha).1) fun a ha => (hk a ha).2⟩
def smallB (l : List Nd) : Bool := decide (l.length ≤ 24) && decide (acs l ≤ 6)
def why (l : List Nd) (p : Bool) : Int := if So.onB l p then (if smallB l then 0 else 70) else 1
theorem on_three {l : List Nd} (h : So.onB l false = true) : Rw.whole l = true ∧ So.Is 3 l = true := by
  have h' : (So.of l == 1 || So.of l == 3) = true := h
  simp only [Bool.or_eq_true, beq_iff_eq] at h'
  rcases h' with h' | h'
  · exact ⟨(So.of_one h').1, So.one_three (So.of_one h').2⟩
  · exact ⟨(So.of_three h').1, (So.of_three h').2.1⟩
theorem on_four {l : List Nd} (h : So.onB l true = true) : Rw.whole l = true ∧ So.Is 4 l = true := by
  have h' : (So.of l == 2 || So.of l == 4) = true := h
  simp only [Bool.or_eq_true, beq_iff_eq] at h'
  rcases h' with h' | h'
  · exact ⟨(So.of_two h').1, So.two_four (So.of_two h').2.1⟩
  · exact ⟨(So.of_four h').1, (So.of_four h').2.1⟩
theorem small_of {l : List Nd} (h : smallB l = true) : l.length ≤ 24 ∧ acs l ≤ 6 := by
  unfold smallB at h
  simpa using h
theorem plain_on {l : List Nd} (h : So.onB l false = true) (hs : smallB l = true) : PC l :=
  (all_any l.length l (Nat.le_refl _) (Sx.whole_tre (on_three h).1) (small_of hs).1 (small_of hs).2).1 (on_three h).2
theorem paired_on {l : List Nd} (h : So.onB l true = true) (hs : smallB l = true) : QC l :=
  (all_any l.length l (Nat.le_refl _) (Sx.whole_tre (on_four h).1) (small_of hs).1 (small_of hs).2).2 (on_four h).2
theorem ints_one (w : World) (x : Int) (ty : TypeId) : Rw.Ints (w.alloc (.cells #[.int .i64 x] ty)) (.slice (some ⟨w.heap.size, 0, none⟩) 1 1) [x] :=
  ⟨rfl, some ⟨w.heap.size, 0, none⟩, 1, rfl, Nat.le_refl _, fun h => (by cases h), fun _ => ⟨w.heap.size, 0, rfl, fun j u hu => by
    rw [Nat.zero_add, World.cell?_alloc_new]
    simpa using hu⟩⟩
set_option maxHeartbeats 1000000 in
theorem small_any (v : Value) (l : List Nd) (w : World) (hv : Nds w v l) (hl : l.length ≤ 1000) :
    Calls Tryz.prog 6 #[v] w fun e w' => e = .returned (.bool (smallB l)) ∧ Below w.heap.size w w' := by
  have HC := Lib.hid (fun y w1 (hb : Below w.heap.size w w1) hy => Rx.countP_any v y l [1] w1 (hv.below hb) hy (by omega) (by simp))
  have ha := acs_cnt l
  rw [← ha] at HC
  have hsm : smallB l = (decide (l.length ≤ 24) && decide (acs l ≤ 6)) := rfl
  rw [hsm]
  generalize acs l = n at HC ⊢
  obtain ⟨_, a, c, rfl, -⟩ := hv
  obtain ⟨m, hm⟩ : ∃ m, l.length = m := ⟨_, rfl⟩
  rw [hm] at HC hl ⊢
  clear ha hsm hm
  have HI := Lib.hid (fun ty => ints_one w 1 ty)
  by_cases h1 : m ≤ 24
  · have g1 : decide ((m : Int) ≤ 24) = true := by simpa using (show (m : Int) ≤ 24 by omega)
    have e1 : decide (m ≤ 24) = true := by simpa using h1
    rw [e1, Bool.true_and]
    clear e1
    go_enter Tryz.func6, Tryz.ntmps6
    go_wp2_with fail
    refine (HC.out _ _ (bel1 _ _) (HI.out _)).mono ?_
    rintro e w1 ⟨rfl, hb1⟩
    have B1 := Lib.hid ((bel1 w _).trans (hb1.mono (bel1 w _).size))
    clear hb1
    by_cases h2 : n ≤ 6
    · have g2 : decide ((n : Int) ≤ 6) = true := by simpa using (show (n : Int) ≤ 6 by omega)
      go_wp2_with fail
      go_ret
      exact ⟨by simp [h2], B1.out⟩
    · have g2 : decide ((n : Int) ≤ 6) = false := by simpa using (show ¬ (n : Int) ≤ 6 by omega)
      go_wp2_with fail
      go_ret
      exact ⟨by simp [h2], B1.out⟩
  · have g1 : decide ((m : Int) ≤ 24) = false := by simpa using (show ¬ (m : Int) ≤ 24 by omega)
    have e1 : decide (m ≤ 24) = false := by simpa using h1
    rw [e1, Bool.false_and]
    clear e1
    go_enter Tryz.func6, Tryz.ntmps6
    go_wp2_with fail
    go_ret
    exact ⟨rfl, Below.refl _ _⟩
set_option maxHeartbeats 1000000 in
theorem fault_any (v : Value) (l : List Nd) (p : Bool) (w : World) (hv : Nds w v l) (hl : l.length ≤ 1000) (hm : Rw.Nms l) :
    Calls Tryz.prog 23 #[v, .bool p] w fun e w' => e = .returned (.int .i64 (why l p)) ∧ Below w.heap.size w w' := by
  have HO := Lib.hid (fun w1 (hb : Below w.heap.size w w1) => Sx.onP_any l p v w1 (hv.below hb) hl hm)
  have HS := Lib.hid (fun w1 (hb : Below w.heap.size w w1) => small_any v l w1 (hv.below hb) hl)
  unfold why
  obtain ⟨_, a, c, rfl, -⟩ := hv
  generalize So.onB l p = o at HO ⊢
  generalize smallB l = s at HS ⊢
  clear hm
  cases o with
  | false =>
    go_enter Tryz.func23, Tryz.ntmps23
    go_wp2_with fail
    refine (HO.out _ (Below.refl _ _)).mono ?_
    rintro e w1 ⟨rfl, hb1⟩
    have B1 := Lib.hid hb1
    clear hb1
    go_wp2_with fail
    go_ret
    exact ⟨rfl, B1.out⟩
  | true =>
    cases s with
    | false =>
      go_enter Tryz.func23, Tryz.ntmps23
      go_wp2_with fail
      refine (HO.out _ (Below.refl _ _)).mono ?_
      rintro e w1 ⟨rfl, hb1⟩
      have B1 := Lib.hid hb1
      clear hb1
      go_wp2_with fail
      refine (HS.out _ B1.out).mono ?_
      rintro e w2 ⟨rfl, hb2⟩
      have B2 := Lib.hid (B1.out.trans (hb2.mono B1.out.size))
      clear hb2
      go_wp2_with fail
      go_ret
      exact ⟨rfl, B2.out⟩
    | true =>
      go_enter Tryz.func23, Tryz.ntmps23
      go_wp2_with fail
      refine (HO.out _ (Below.refl _ _)).mono ?_
      rintro e w1 ⟨rfl, hb1⟩
      have B1 := Lib.hid hb1
      clear hb1
      go_wp2_with fail
      refine (HS.out _ B1.out).mono ?_
      rintro e w2 ⟨rfl, hb2⟩
      have B2 := Lib.hid (B1.out.trans (hb2.mono B1.out.size))
      clear hb2
      go_wp2_with fail
      go_ret
      exact ⟨rfl, B2.out⟩
end Go.Proofs.YtekblibhaipioaaGreat.Mn

namespace Go.Proofs.YtekblibhaipioaaGreat.Mn
open Go Go.RowKit Tr
open Rw (Nd Nds)
set_option maxRecDepth 20000
def MtR (l : List Nd) : List Tr := if why l false = 0 then Mt l else []
def MpR (l : List Nd) : List Pr := if why l true = 0 then Mp l else []
def back (X : List Pr) : List Tr := norm (X.map (·.q))
def MbR (l : List Nd) : List Tr := if why l true = 0 then back (Mp l) else []
def TsPost (l : List Tr) (e0 : Int) (w : World) (e : Ending) (w' : World) : Prop := ∃ a c, e = .returned (.tuple #[.slice a l.length c, .int .i64 e0]) ∧ TsO any w' (.slice a l.length c) l ∧ Below w.heap.size w w'
def PsPost (l : List Pr) (e0 : Int) (w : World) (e : Ending) (w' : World) : Prop := ∃ a c, e = .returned (.tuple #[.slice a l.length c, .int .i64 e0]) ∧ PsO any w' (.slice a l.length c) l ∧ Below w.heap.size w w'
theorem ps_nil (ok : Nat → Prop) (w : World) : PsO ok w (.slice none 0 0) [] := ⟨[], ⟨rfl, none, 0, rfl, Nat.le_refl _, fun _ => ⟨rfl, rfl⟩, fun h => absurd h (Nat.lt_irrefl _)⟩, rfl⟩
theorem why_ok {l : List Nd} {p : Bool} (h : why l p = 0) : So.onB l p = true ∧ smallB l = true := by
  unfold why at h
  split at h
  · rename_i h1
    split at h
    · rename_i h2; exact ⟨h1, h2⟩
    · cases h
  · cases h
set_option maxHeartbeats 1000000 in
theorem plainP_any (v : Value) (l : List Nd) (w : World) (hv : Nds w v l) (hl : l.length ≤ 1000) (hm : Rw.Nms l) :
    Calls Tryz.prog 10 #[v] w (TsPost (MtR l) (why l false) w) := by
  have HF := Lib.hid (fault_any v l false w hv hl hm)
  have HP := Lib.hid (fun (h : why l false = 0) w1 (hb : Below w.heap.size w w1) => plain_on (why_ok h).1 (why_ok h).2 v w1 (hv.below hb))
  unfold MtR TsPost
  obtain ⟨_, a, c, rfl, -⟩ := hv
  obtain ⟨z, hz⟩ : ∃ z, why l false = z := ⟨_, rfl⟩
  rw [hz] at HF HP ⊢
  clear hm hz
  by_cases h0 : z = 0
  · subst h0
    rw [if_pos rfl]
    have HP' := Lib.hid (HP.out rfl)
    generalize Mt l = L at HP' ⊢
    clear HP
    go_enter Tryz.func10, Tryz.ntmps10
    go_wp2_with fail
    refine HF.out.mono ?_
    rintro e w1 ⟨rfl, hb1⟩
    have B1 := Lib.hid hb1
    clear hb1
    go_wp2_with fail
    refine (HP'.out _ B1.out).mono ?_
    rintro e w2 ⟨a2, n2, rfl, ht2, hb2⟩
    have T2 := Lib.hid (ht2.imp (ok' := any) fun _ _ _ => trivial)
    have B2 := Lib.hid (B1.out.trans (hb2.mono B1.out.size))
    clear ht2 hb2
    go_wp2_with fail
    go_ret2
    exact ⟨_, _, rfl, T2.out, B2.out⟩
  · rw [if_neg h0]
    have g0 : (z != 0) = true := by simp [h0]
    clear h0
    go_enter Tryz.func10, Tryz.ntmps10
    go_wp2_with fail
    refine HF.out.mono ?_
    rintro e w1 ⟨rfl, hb1⟩
    have B1 := Lib.hid hb1
    clear hb1
    go_wp2_with fail
    go_ret2
    exact ⟨_, _, rfl, ts_nil _ _, B1.out⟩
set_option maxHeartbeats 1000000 in
theorem pairedP_any (v : Value) (l : List Nd) (w : World) (hv : Nds w v l) (hl : l.length ≤ 1000) (hm : Rw.Nms l) :
    Calls Tryz.prog 9 #[v] w (PsPost (MpR l) (why l true) w) := by
  have HF := Lib.hid (fault_any v l true w hv hl hm)
  have HP := Lib.hid (fun (h : why l true = 0) w1 (hb : Below w.heap.size w w1) => paired_on (why_ok h).1 (why_ok h).2 v w1 (hv.below hb))
  unfold MpR PsPost
  obtain ⟨_, a, c, rfl, -⟩ := hv
  obtain ⟨z, hz⟩ : ∃ z, why l true = z := ⟨_, rfl⟩
  rw [hz] at HF HP ⊢
  clear hm hz
  by_cases h0 : z = 0
  · subst h0
    rw [if_pos rfl]
    have HP' := Lib.hid (HP.out rfl)
    generalize Mp l = L at HP' ⊢
    clear HP
    go_enter Tryz.func9, Tryz.ntmps9
    go_wp2_with fail
    refine HF.out.mono ?_
    rintro e w1 ⟨rfl, hb1⟩
    have B1 := Lib.hid hb1
    clear hb1
    go_wp2_with fail
    refine (HP'.out _ B1.out).mono ?_
    rintro e w2 ⟨a2, n2, rfl, ht2, hb2⟩
    have T2 := Lib.hid (ht2.imp (ok' := any) fun _ _ _ => trivial)
    have B2 := Lib.hid (B1.out.trans (hb2.mono B1.out.size))
    clear ht2 hb2
    go_wp2_with fail
    go_ret2
    exact ⟨_, _, rfl, T2.out, B2.out⟩
  · rw [if_neg h0]
    have g0 : (z != 0) = true := by simp [h0]
    clear h0
    go_enter Tryz.func9, Tryz.ntmps9
    go_wp2_with fail
    refine HF.out.mono ?_
    rintro e w1 ⟨rfl, hb1⟩
    have B1 := Lib.hid hb1
    clear hb1
    go_wp2_with fail
    go_ret2
    exact ⟨_, _, rfl, ps_nil _ _, B1.out⟩
end Go.Proofs.YtekblibhaipioaaGreat.Mn

namespace Go.Proofs.YtekblibhaipioaaGreat.Mn
open Go Go.RowKit Tr
open Rw (Nd Nds)
set_option maxRecDepth 20000
end Go.Proofs.YtekblibhaipioaaGreat.Mn

namespace Go.Proofs.YtekblibhaipioaaGreat.Mn
open Go Go.RowKit Tr
open Rw (Nd Nds)
set_option maxRecDepth 20000
end Go.Proofs.YtekblibhaipioaaGreat.Mn

namespace Go.Proofs.YtekblibhaipioaaGreat.Mn
open Go Go.RowKit Tr
open Rw (Nd Nds)
set_option maxRecDepth 20000
def fewB (l : List Nd) : Bool := decide (l.length ≤ 120) && decide (Rw.depth l ≤ 24)
theorem few_len {l : List Nd} (h : fewB l = true) : l.length ≤ 120 := by
  unfold fewB at h
  rw [Bool.and_eq_true, decide_eq_true_eq] at h
  exact h.1
def isB (l : List Nd) : Bool := why l false == 0
def txs1 (s : ByteArray) (t : Tr) : ByteArray := s ++ (txt t ++ ⟨#[59]⟩)
def txl (l : List Tr) : ByteArray := l.foldl txs1 ⟨#[]⟩
end Go.Proofs.YtekblibhaipioaaGreat.Mn

namespace Go.Proofs.YtekblibhaipioaaGreat.Mn
open Go Go.RowKit Tr
open Rw (Nd Nds)
set_option maxRecDepth 20000
abbrev nA : Nd := ⟨1, bA, 0⟩
abbrev nB : Nd := ⟨1, bB, 0⟩
abbrev nC : Nd := ⟨1, bC, 0⟩
abbrev nK (k : Int) : Nd := ⟨k, ⟨#[]⟩, 0⟩
def lp : List Nd := [nK 10, nA, nB]
def lt : List Nd := [nK 10, nK 3, nK 2]
def l1 : List Nd := [nK 9, nK 5, nK 10, nA, nB, nK 10, nK 3, nK 2]
def l2 : List Nd := [nK 8, nK 6, nA, nK 3, nC]
theorem y1 : why l1 false = 0 := by decide +kernel
theorem y2 : why l2 false = 0 := by decide +kernel
theorem yp : why lp true = 0 := by decide +kernel
theorem sp : smallB lp = true := by decide +kernel
instance : DecidableEq Tr := fun x y => decidable_of_iff (x.a = y.a ∧ x.e = y.e) ⟨fun h => by cases x; cases y; cases h.1; cases h.2; rfl, fun h => by cases h; exact ⟨rfl, rfl⟩⟩
instance : DecidableEq Pr := fun x y => decidable_of_iff (x.p = y.p ∧ x.q = y.q) ⟨fun h => by cases x; cases y; cases h.1; cases h.2; rfl, fun h => by cases h; exact ⟨rfl, rfl⟩⟩
theorem t1 : Mt l1 = [⟨[bA, bB], 1⟩] := by decide +kernel
theorem t2 : Mt l2 = [⟨[bA], 1⟩, ⟨[bC], 1⟩] := by decide +kernel
theorem p3 : Mp lp = [⟨⟨[], 3⟩, ⟨[], 1⟩⟩, ⟨⟨[bA], 1⟩, ⟨[bB], 1⟩⟩] := by decide +kernel
theorem r1 : MtR l1 = [⟨[bA, bB], 1⟩] := by unfold MtR; rw [y1, t1]; rfl
theorem r2 : MtR l2 = [⟨[bA], 1⟩, ⟨[bC], 1⟩] := by unfold MtR; rw [y2, t2]; rfl
theorem r3 : MpR lp = [⟨⟨[], 3⟩, ⟨[], 1⟩⟩, ⟨⟨[bA], 1⟩, ⟨[bB], 1⟩⟩] := by unfold MpR; rw [yp, p3]; rfl
theorem r4 : MbR lp = [⟨[], 1⟩, ⟨[bB], 1⟩] := by unfold MbR; rw [yp, p3]; decide +kernel
theorem x1 : txl [⟨[bA, bB], 1⟩] = ⟨#[97, 32, 98, 32, 111, 107, 59]⟩ := by decide +kernel
theorem x2 : txl [⟨[bA], 1⟩, ⟨[bC], 1⟩] = ⟨#[97, 32, 111, 107, 59, 99, 32, 111, 107, 59]⟩ := by decide +kernel
theorem x4 : txl [⟨[], 1⟩, ⟨[bB], 1⟩] = ⟨#[111, 107, 59, 98, 32, 111, 107, 59]⟩ := by decide +kernel
theorem x5 : txt ⟨[], 3⟩ = ⟨#[63]⟩ := by decide +kernel
theorem x6 : txt ⟨[bB], 1⟩ = ⟨#[98, 32, 111, 107]⟩ := by decide +kernel
end Go.Proofs.YtekblibhaipioaaGreat.Mn

namespace Go.Proofs.YtekblibhaipioaaGreat.Mn
open Go Go.RowKit Tr
open Rw (Nd Nds)
set_option maxRecDepth 20000
def l0 : List Nd := [nK 9, nK 5]
end Go.Proofs.YtekblibhaipioaaGreat.Mn

namespace Go.Proofs.YtekblibhaipioaaGreat.Mn
open Go Go.RowKit Tr
open Rw (Nd Nds)
set_option maxRecDepth 20000
theorem mt_few {l : List Nd} (h : why l false = 0) : (Mt l).length ≤ 12079595520 ∧ ∀ t ∈ Mt l, t.a.length ≤ 6 := by
  obtain ⟨h1, h2⟩ := why_ok h
  have g := gt (Sx.whole_tre (on_three h1).1) (on_three h1).2
  obtain ⟨s1, s2⟩ := small_of h2
  refine ⟨Nat.le_trans g.len (K_last s1 s2), fun x hx => ?_⟩
  have := (g.cnt all).len hx
  unfold acs at s2
  omega
theorem mp_few {l : List Nd} (h : why l true = 0) : (Mp l).length ≤ 12079595520 ∧ ∀ x ∈ Mp l, x.p.a.length ≤ 6 ∧ x.q.a.length ≤ 6 := by
  obtain ⟨h1, h2⟩ := why_ok h
  have g := gp (Sx.whole_tre (on_four h1).1) (on_four h1).2
  obtain ⟨s1, s2⟩ := small_of h2
  refine ⟨Nat.le_trans g.len (K_last s1 s2), fun x hx => ?_⟩
  have := (g.cnt all).len hx
  unfold acs at s2
  omega
theorem mtr_few (l : List Nd) : Few (MtR l) := by
  unfold MtR
  split
  · rename_i h
    obtain ⟨h1, h2⟩ := mt_few h
    exact ⟨by omega, fun t ht => by have := h2 t ht; omega⟩
  · exact ⟨Nat.zero_le _, fun t ht => (by cases ht)⟩
theorem mpr_few (l : List Nd) : (MpR l).length ≤ 1000000000000 ∧ ∀ x ∈ MpR l, x.p.a.length ≤ 1000000 ∧ x.q.a.length ≤ 1000000 := by
  unfold MpR
  split
  · rename_i h
    obtain ⟨h1, h2⟩ := mp_few h
    exact ⟨by omega, fun t ht => by have := h2 t ht; omega⟩
  · exact ⟨Nat.zero_le _, fun t ht => (by cases ht)⟩
end Go.Proofs.YtekblibhaipioaaGreat.Mn

namespace Go.Proofs.YtekblibhaipioaaGreat.Se
open Go Go.RowKit Rw Go.Proofs.YtekblibhaipioaaGreat.So Mn Tr
set_option maxRecDepth 20000
end Go.Proofs.YtekblibhaipioaaGreat.Se

namespace Go.Proofs.YtekblibhaipioaaGreat.Do
open Go Go.RowKit Rw Go.Proofs.YtekblibhaipioaaGreat.So Se Mn Tr
set_option maxRecDepth 20000
theorem doomed_all {l : List Nd} (hd : dm l = true) (hs : smallB l = true) :
    (onB l true = true → why l true = 0 ∧ ∀ x ∈ MpR l, x.p.e = 2) ∧ (onB l true = false → why l false = 0 ∧ ∀ x ∈ MtR l, x.e = 2) := by
  have hb : setB l = true := by
    cases hb : setB l with
    | true => rfl
    | false => rw [dm_no hb] at hd; cases hd
  obtain ⟨t, rfl, hg, hn⟩ := set_iff.1 hb
  rw [dm_go hg hn] at hd
  have f1 := on_flat hg.1 hg.2.1 false
  have f2 := on_flat hg.1 hg.2.1 true
  simp only [Bool.false_eq_true, if_false, if_true] at f1 f2
  obtain ⟨m1, m2⟩ := bang_means t hg.1 hd
  constructor
  · intro ho
    have w1 : why (flat t) true = 0 := by unfold why; rw [ho, hs]; rfl
    refine ⟨w1, fun x hx => ?_⟩
    unfold MpR at hx
    rw [if_pos w1] at hx
    exact m2 (by rw [← f2]; exact ho) x hx
  · intro ho
    have h3 : is t 3 = true := hg.2.2.resolve_right (by rw [← f2, ho]; decide)
    have w1 : why (flat t) false = 0 := by unfold why; rw [f1, h3, hs]; rfl
    refine ⟨w1, fun x hx => ?_⟩
    unfold MtR at hx
    rw [if_pos w1] at hx
    exact m1 h3 x hx
set_option maxHeartbeats 8000000 in
theorem means_law (C : Con) (A : Alive) (v : Value) (l : List Nd) (w0 : World) (hv : Nds w0 v l) (hm : Nms l) :
    Calls Tryz.prog 3 #[v] w0 fun e w' => e = .returned (.bool true) ∧ Below w0.heap.size w0 w' := by
  have HF := Lib.hid (few_any v l w0 hv)
  have HA := Lib.hid A
  unfold Alive at HA
  cases hf : Do.fewB l with
  | false =>
    rw [hf] at HF
    obtain ⟨_, a, c, rfl, -⟩ := id hv
    clear hv hm hf
    go_enter Tryz.func3, Tryz.ntmps3
    go_wp2_with fail
    refine HF.out.mono ?_
    rintro e w1 ⟨rfl, rfl⟩
    go_wp2_with fail
    refine (HA.out _).mono ?_
    rintro e w2 ⟨rfl, hb2⟩
    have D2 := Lib.hid hb2
    clear hb2
    go_wp2_with fail
    go_ret
    exact ⟨rfl, D2.out⟩
  | true =>
    rw [hf] at HF
    have hl := Do.few_len hf
    have HD := Lib.hid (C.doom v l w0 hv (by omega) hm)
    have HZ := Lib.hid (fun w1 (hb : Below w0.heap.size w0 w1) => small_any v l w1 (hv.below hb) (by omega))
    have HO := Lib.hid (fun w1 (hb : Below w0.heap.size w0 w1) => Sx.onP_any l true v w1 (hv.below hb) (by omega) hm)
    have HP := Lib.hid (fun w1 (hb : Below w0.heap.size w0 w1) => plainP_any v l w1 (hv.below hb) (by omega) hm)
    have HQ := Lib.hid (fun w1 (hb : Below w0.heap.size w0 w1) => pairedP_any v l w1 (hv.below hb) (by omega) hm)
    have HE := Lib.hid (fun h1 h2 => doomed_all (l := l) h1 h2)
    have HFT := Lib.hid (mtr_few l)
    have HFP := Lib.hid (mpr_few l)
    obtain ⟨_, a, c, rfl, -⟩ := id hv
    cases hd : dm l with
    | false =>
      rw [hd] at HD
      clear hv hm hf hd
      go_enter Tryz.func3, Tryz.ntmps3
      go_wp2_with fail
      refine HF.out.mono ?_
      rintro e w1 ⟨rfl, rfl⟩
      go_wp2_with fail
      refine HD.out.mono ?_
      rintro e w1 ⟨rfl, hb1⟩
      have D1 := Lib.hid hb1
      clear hb1
      go_wp2_with fail
      refine (HA.out _).mono ?_
      rintro e w2 ⟨rfl, hb2⟩
      have D2 := Lib.hid (D1.out.trans (hb2.mono D1.out.size))
      clear hb2
      go_wp2_with fail
      go_ret
      exact ⟨rfl, D2.out⟩
    | true =>
      rw [hd] at HD
      cases hs : smallB l with
      | false =>
        rw [hs] at HZ
        clear hv hm hf hd hs
        go_enter Tryz.func3, Tryz.ntmps3
        go_wp2_with fail
        refine HF.out.mono ?_
        rintro e w1 ⟨rfl, rfl⟩
        go_wp2_with fail
        refine HD.out.mono ?_
        rintro e w1 ⟨rfl, hb1⟩
        have D1 := Lib.hid hb1
        clear hb1
        go_wp2_with fail
        refine (HZ.out _ D1.out).mono ?_
        rintro e w2 ⟨rfl, hb2⟩
        have D2 := Lib.hid (D1.out.trans (hb2.mono D1.out.size))
        clear hb2
        go_wp2_with fail
        refine (HA.out _).mono ?_
        rintro e w3 ⟨rfl, hb3⟩
        have D3 := Lib.hid (D2.out.trans (hb3.mono D2.out.size))
        clear hb3
        go_wp2_with fail
        go_ret
        exact ⟨rfl, D3.out⟩
      | true =>
        rw [hs] at HZ
        obtain ⟨hE1, hE2⟩ := HE.out hd hs
        cases ho : onB l true with
        | true =>
          obtain ⟨hw, hall⟩ := hE1 ho
          rw [ho] at HO
          rw [hw] at HQ
          have HALL := Lib.hid hall
          have hfl := HFP.out.1
          generalize MpR l = L at HQ HALL hfl
          unfold PsPost at HQ
          clear hv hm hf hd hs ho hE1 hE2 hw hall HE HP HFT HFP
          go_enter Tryz.func3, Tryz.ntmps3
          go_wp2_with fail
          refine HF.out.mono ?_
          rintro e w1 ⟨rfl, rfl⟩
          go_wp2_with fail
          refine HD.out.mono ?_
          rintro e w1 ⟨rfl, hb1⟩
          have D1 := Lib.hid hb1
          clear hb1
          go_wp2_with fail
          refine (HZ.out _ D1.out).mono ?_
          rintro e w2 ⟨rfl, hb2⟩
          have D2 := Lib.hid (D1.out.trans (hb2.mono D1.out.size))
          clear hb2
          go_wp2_with fail
          refine (HO.out _ D2.out).mono ?_
          rintro e w3 ⟨rfl, hb3⟩
          have D3 := Lib.hid (D2.out.trans (hb3.mono D2.out.size))
          clear hb3
          go_wp2_with fail
          refine (HQ.out _ D3.out).mono ?_
          rintro e w4 ⟨a4, c4, rfl, hp4, hb4⟩
          have D4 := Lib.hid (D3.out.trans (hb4.mono D3.out.size))
          obtain ⟨_, _, hv1, _, hvx⟩ := hp4.val
          cases hv1
          have HX := Lib.hid hvx
          clear hb4 hp4 hvx
          go_wp2_with fail
          go_loopw [34] (fun i wr => ∃ (k : Nat), k ≤ L.length ∧ i = .int .i64 k ∧ Hid (Below w4.heap.size w4 wr)) (fun i _ => L.length - (intOf i).toNat)
          case atStart => exact ⟨0, Nat.zero_le _, rfl, Lib.hid (Below.refl _ _)⟩
          case round =>
            obtain ⟨k, hk, rfl, HB⟩ := hrel
            by_cases hlt : k < L.length
            · obtain ⟨b, o, x, y, rfl, _, e1, e2, e3, e4, s1, s2⟩ := HX.out k hlt
              have h2 := HALL.out _ (List.getElem_mem hlt)
              rw [h2] at e2
              have q1 : wr.cell? ⟨b, o + k * 4, none⟩ = some x := by rw [HB.out.cell (Ap.cell_lt e1)]; exact e1
              have q2 : wr.cell? ⟨b, o + k * 4 + 1, none⟩ = some (.int .i64 2) := by rw [HB.out.cell (Ap.cell_lt e2)]; exact e2
              have q3 : wr.cell? ⟨b, o + k * 4 + 2, none⟩ = some y := by rw [HB.out.cell (Ap.cell_lt e3)]; exact e3
              have q4 : wr.cell? ⟨b, o + k * 4 + 3, none⟩ = some (.int .i64 L[k].q.e) := by rw [HB.out.cell (Ap.cell_lt e4)]; exact e4
              obtain ⟨_, ax, cx, rfl, _⟩ := id s1
              obtain ⟨_, ay, cy, rfl, _⟩ := id s2
              generalize L[k] = p at *
              clear e1 e2 e3 e4 s1 s2 h2
              go_wp2_with fail
              go_roundw
              case rel => exact ⟨k + 1, by omega, by go_num, Lib.hid (HB.out.trans ((below1 wr _).mono HB.out.size))⟩
              case measure => simp [intOf]; omega
            · have D5 := Lib.hid (D4.out.trans (HB.out.mono D4.out.size))
              go_wp2_with fail
              refine (HA.out _).mono ?_
              rintro e w6 ⟨rfl, hb6⟩
              have D6 := Lib.hid (D5.out.trans (hb6.mono D5.out.size))
              clear hb6
              go_wp2_with fail
              go_ret
              exact ⟨rfl, D6.out⟩
        | false =>
          obtain ⟨hw, hall⟩ := hE2 ho
          rw [ho] at HO
          rw [hw] at HP
          have HALL := Lib.hid hall
          have hfl := HFT.out.1
          generalize MtR l = L at HP HALL hfl
          unfold TsPost at HP
          clear hv hm hf hd hs ho hE1 hE2 hw hall HE HQ HFT HFP
          go_enter Tryz.func3, Tryz.ntmps3
          go_wp2_with fail
          refine HF.out.mono ?_
          rintro e w1 ⟨rfl, rfl⟩
          go_wp2_with fail
          refine HD.out.mono ?_
          rintro e w1 ⟨rfl, hb1⟩
          have D1 := Lib.hid hb1
          clear hb1
          go_wp2_with fail
          refine (HZ.out _ D1.out).mono ?_
          rintro e w2 ⟨rfl, hb2⟩
          have D2 := Lib.hid (D1.out.trans (hb2.mono D1.out.size))
          clear hb2
          go_wp2_with fail
          refine (HO.out _ D2.out).mono ?_
          rintro e w3 ⟨rfl, hb3⟩
          have D3 := Lib.hid (D2.out.trans (hb3.mono D2.out.size))
          clear hb3
          go_wp2_with fail
          refine (HP.out _ D3.out).mono ?_
          rintro e w4 ⟨a4, c4, rfl, hp4, hb4⟩
          have D4 := Lib.hid (D3.out.trans (hb4.mono D3.out.size))
          obtain ⟨_, _, hv1, _, hvx⟩ := hp4.val
          cases hv1
          have HX := Lib.hid hvx
          clear hb4 hp4 hvx
          go_wp2_with fail
          go_loopw [55] (fun i wr => ∃ (k : Nat), k ≤ L.length ∧ i = .int .i64 k ∧ Hid (Below w4.heap.size w4 wr)) (fun i _ => L.length - (intOf i).toNat)
          case atStart => exact ⟨0, Nat.zero_le _, rfl, Lib.hid (Below.refl _ _)⟩
          case round =>
            obtain ⟨k, hk, rfl, HB⟩ := hrel
            by_cases hlt : k < L.length
            · obtain ⟨b, o, x, rfl, _, e1, e2, s1⟩ := HX.out k hlt
              have h2 := HALL.out _ (List.getElem_mem hlt)
              rw [h2] at e2
              have q1 : wr.cell? ⟨b, o + k * 2, none⟩ = some x := by rw [HB.out.cell (Ap.cell_lt e1)]; exact e1
              have q2 : wr.cell? ⟨b, o + k * 2 + 1, none⟩ = some (.int .i64 2) := by rw [HB.out.cell (Ap.cell_lt e2)]; exact e2
              obtain ⟨_, ax, cx, rfl, _⟩ := id s1
              generalize L[k] = p at *
              clear e1 e2 s1 h2
              go_wp2_with fail
              go_roundw
              case rel => exact ⟨k + 1, by omega, by go_num, Lib.hid (HB.out.trans ((below1 wr _).mono HB.out.size))⟩
              case measure => simp [intOf]; omega
            · have D5 := Lib.hid (D4.out.trans (HB.out.mono D4.out.size))
              go_wp2_with fail
              refine (HA.out _).mono ?_
              rintro e w6 ⟨rfl, hb6⟩
              have D6 := Lib.hid (D5.out.trans (hb6.mono D5.out.size))
              clear hb6
              go_wp2_with fail
              go_ret
              exact ⟨rfl, D6.out⟩
end Go.Proofs.YtekblibhaipioaaGreat.Do
