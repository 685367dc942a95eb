/- The program's plain and paired of any tree; Small, fault, Plain, Paired, Back: the walks. The program's Plain, Paired, Back: the walks. The document's Traces and Pairs of any tree; Small, check, Plain, Paired: the walks. The document's Back, and Same of pairs; the statements' own Olds of pairs: the walks. What the statements call: few, plain, same, texts, act; rows that are too long for anything: the walks. The statements' own first look at package mean: what it asks, plain. The statements' own first look at package mean: the walk. MeanPlain and MeanPaired: the walks. What is made of terms: what it means; plain. What the statements make by Make. MeanHand: the walk. What does nothing beside a term, and a block of a pair of terms; plain. What may be refused: plain. A row that is rewritten may do what it did, and, rewritten twice, no more. What RefuseMeans and RefuseTwice need of the meanings: plain. RefuseTwice. -/
import Derived.Test.YtpkbpooiaddcaaaGreatQ26
import Derived.Test.YtpkbpooiaddcaaaGreatQ24
import Derived.Test.YtpkbpooiaddcaaaGreatQ06
import Derived.Test.YtpkbpooiaddcaaaGreatQ11
import Derived.Test.YtpkbpooiaddcaaaGreatQ10
import Derived.Test.YtpkbpooiaddcaaaGreatQ21
import Derived.Test.YtpkbpooiaddcaaaGreatQ09
import Derived.Test.YtpkbpooiaddcaaaGreatQ05
import Derived.Test.YtpkbpooiaddcaaaGreatQ16

namespace Go.Proofs.YtpkbpooiaddcaaaGreat.Mn
open Go Go.RowKit Tr
open Rw (Nd Nds)
set_option maxRecDepth 20000

theorem all_any : ∀ (m : Nat) (l : List Nd), l.length ≤ m → So.Tre l → l.length ≤ 24 → acs l ≤ 6 → (So.Is 3 l = true → PC l) ∧ (So.Is 4 l = true → QC l)
  | 0, l, h, ht, _, _ => absurd ht.pos (by omega)
  | m + 1, l, h, ht, h24, h6 => by
    have hk : ∀ a ∈ Rw.kids l, (So.Is 3 a = true → PC a) ∧ (So.Is 4 a = true → QC a) := fun a ha => by
      have har := ht.ar
      have h3 : Rw.ar (So.hd l) = 0 ∨ Rw.ar (So.hd l) = 1 ∨ Rw.ar (So.hd l) = 2 := by
        unfold Rw.ar at har ⊢
        repeat' split
        all_goals simp_all
      rcases h3 with h0 | h1 | h2
      · obtain ⟨x, rfl, _⟩ := cut0 ht h0
        have : Rw.kids [x] = [] := List.eq_nil_of_length_eq_zero (by rw [ht.kids.1, h0]; rfl)
        rw [this] at ha
        cases ha
      · obtain ⟨b, hkk, _, tb, hl, hc, _⟩ := cut1 ht h1
        rw [hkk, List.mem_singleton] at ha
        subst ha
        have := hc all
        exact all_any m a (by omega) tb (by omega) (by unfold acs at *; omega)
      · obtain ⟨b, c, hkk, _, _, tb, tc, hl, hc, _⟩ := cut2 ht h2
        have := hc all
        rw [hkk] at ha
        rcases List.mem_cons.1 ha with rfl | ha
        · exact all_any m a (by omega) tb (by omega) (by unfold acs at *; omega)
        · rw [List.mem_singleton] at ha
          subst ha
          exact all_any m a (by omega) tc (by omega) (by unfold acs at *; omega)
    match l, ht, h24, h6, hk with
    | [], ht, _, _, _ => exact absurd ht.pos (by simp)
    | ⟨k, nm', sg'⟩ :: rest, ht, h24, h6, hk =>
      exact ⟨fun hi v w hv => plain_step tcon k nm' sg' rest v w hv ht hi h24 h6 (fun a ha => (hk a ha).1) fun a ha => (hk a ha).2,
        fun hi v w hv => paired_step tcon k nm' sg' rest v w hv ht hi h24 h6 (fun a ha => (hk a ha).1) fun a ha => (hk a ha).2⟩

/-- Of what is told: which kind; few enough. -/
def smallB (l : List Nd) : Bool := decide (l.length ≤ 24) && decide (acs l ≤ 6)
def why (l : List Nd) (p : Bool) : Int := if So.onB l p then (if smallB l then 0 else 70) else 1
theorem on_three {l : List Nd} (h : So.onB l false = true) : Rw.whole l = true ∧ So.Is 3 l = true := by
  have h' : (So.of l == 1 || So.of l == 3) = true := h
  simp only [Bool.or_eq_true, beq_iff_eq] at h'
  rcases h' with h' | h'
  · exact ⟨(So.of_one h').1, So.one_three (So.of_one h').2⟩
  · exact ⟨(So.of_three h').1, (So.of_three h').2.1⟩
theorem small_of {l : List Nd} (h : smallB l = true) : l.length ≤ 24 ∧ acs l ≤ 6 := by
  unfold smallB at h
  simpa using h
theorem plain_on {l : List Nd} (h : So.onB l false = true) (hs : smallB l = true) : PC l :=
  (all_any l.length l (Nat.le_refl _) (Sx.whole_tre (on_three h).1) (small_of hs).1 (small_of hs).2).1 (on_three h).2
theorem ints_one (w : World) (x : Int) (ty : TypeId) : Rw.Ints (w.alloc (.cells #[.int .i64 x] ty)) (.slice (some ⟨w.heap.size, 0, none⟩) 1 1) [x] :=
  ⟨rfl, some ⟨w.heap.size, 0, none⟩, 1, rfl, Nat.le_refl _, fun h => (by cases h), fun _ => ⟨w.heap.size, 0, rfl, fun j u hu => by
    rw [Nat.zero_add, World.cell?_alloc_new]
    simpa using hu⟩⟩
set_option maxHeartbeats 1000000 in
theorem small_any (v : Value) (l : List Nd) (w : World) (hv : Nds w v l) (hl : l.length ≤ 1000) :
    Calls Tryz.prog 8 #[v] w fun e w' => e = .returned (.bool (smallB l)) ∧ Below w.heap.size w w' := by
  have HC := Lib.hid (fun y w1 (hb : Below w.heap.size w w1) hy => Rx.countP_any v y l [1] w1 (hv.below hb) hy (by omega) (by simp))
  have ha := acs_cnt l
  rw [← ha] at HC
  have hsm : smallB l = (decide (l.length ≤ 24) && decide (acs l ≤ 6)) := rfl
  rw [hsm]
  generalize acs l = n at HC ⊢
  obtain ⟨_, a, c, rfl, -⟩ := hv
  obtain ⟨m, hm⟩ : ∃ m, l.length = m := ⟨_, rfl⟩
  rw [hm] at HC hl ⊢
  clear ha hsm hm
  have HI := Lib.hid (fun ty => ints_one w 1 ty)
  by_cases h1 : m ≤ 24
  · have g1 : decide ((m : Int) ≤ 24) = true := by simpa using (show (m : Int) ≤ 24 by omega)
    have e1 : decide (m ≤ 24) = true := by simpa using h1
    rw [e1, Bool.true_and]
    clear e1
    go_enter Tryz.func8, Tryz.ntmps8
    go_wp2_with fail
    refine (HC.out _ _ (bel1 _ _) (HI.out _)).mono ?_
    rintro e w1 ⟨rfl, hb1⟩
    have B1 := Lib.hid ((bel1 w _).trans (hb1.mono (bel1 w _).size))
    clear hb1
    by_cases h2 : n ≤ 6
    · have g2 : decide ((n : Int) ≤ 6) = true := by simpa using (show (n : Int) ≤ 6 by omega)
      go_wp2_with fail
      go_ret
      exact ⟨by simp [h2], B1.out⟩
    · have g2 : decide ((n : Int) ≤ 6) = false := by simpa using (show ¬ (n : Int) ≤ 6 by omega)
      go_wp2_with fail
      go_ret
      exact ⟨by simp [h2], B1.out⟩
  · have g1 : decide ((m : Int) ≤ 24) = false := by simpa using (show ¬ (m : Int) ≤ 24 by omega)
    have e1 : decide (m ≤ 24) = false := by simpa using h1
    rw [e1, Bool.false_and]
    clear e1
    go_enter Tryz.func8, Tryz.ntmps8
    go_wp2_with fail
    go_ret
    exact ⟨rfl, Below.refl _ _⟩

set_option maxHeartbeats 1000000 in
theorem fault_any (v : Value) (l : List Nd) (p : Bool) (w : World) (hv : Nds w v l) (hl : l.length ≤ 1000) (hm : Rw.Nms l) :
    Calls Tryz.prog 23 #[v, .bool p] w fun e w' => e = .returned (.int .i64 (why l p)) ∧ Below w.heap.size w w' := by
  have HO := Lib.hid (fun w1 (hb : Below w.heap.size w w1) => Sx.onP_any l p v w1 (hv.below hb) hl hm)
  have HS := Lib.hid (fun w1 (hb : Below w.heap.size w w1) => small_any v l w1 (hv.below hb) hl)
  unfold why
  obtain ⟨_, a, c, rfl, -⟩ := hv
  generalize So.onB l p = o at HO ⊢
  generalize smallB l = s at HS ⊢
  clear hm
  cases o with
  | false =>
    go_enter Tryz.func23, Tryz.ntmps23
    go_wp2_with fail
    refine (HO.out _ (Below.refl _ _)).mono ?_
    rintro e w1 ⟨rfl, hb1⟩
    have B1 := Lib.hid hb1
    clear hb1
    go_wp2_with fail
    go_ret
    exact ⟨rfl, B1.out⟩
  | true =>
    cases s with
    | false =>
      go_enter Tryz.func23, Tryz.ntmps23
      go_wp2_with fail
      refine (HO.out _ (Below.refl _ _)).mono ?_
      rintro e w1 ⟨rfl, hb1⟩
      have B1 := Lib.hid hb1
      clear hb1
      go_wp2_with fail
      refine (HS.out _ B1.out).mono ?_
      rintro e w2 ⟨rfl, hb2⟩
      have B2 := Lib.hid (B1.out.trans (hb2.mono B1.out.size))
      clear hb2
      go_wp2_with fail
      go_ret
      exact ⟨rfl, B2.out⟩
    | true =>
      go_enter Tryz.func23, Tryz.ntmps23
      go_wp2_with fail
      refine (HO.out _ (Below.refl _ _)).mono ?_
      rintro e w1 ⟨rfl, hb1⟩
      have B1 := Lib.hid hb1
      clear hb1
      go_wp2_with fail
      refine (HS.out _ B1.out).mono ?_
      rintro e w2 ⟨rfl, hb2⟩
      have B2 := Lib.hid (B1.out.trans (hb2.mono B1.out.size))
      clear hb2
      go_wp2_with fail
      go_ret
      exact ⟨rfl, B2.out⟩
end Go.Proofs.YtpkbpooiaddcaaaGreat.Mn

namespace Go.Proofs.YtpkbpooiaddcaaaGreat.Mn
open Go Go.RowKit Tr
open Rw (Nd Nds)
set_option maxRecDepth 20000

/-- What is told, where it is. -/
def MtR (l : List Nd) : List Tr := if why l false = 0 then Mt l else []
def MpR (l : List Nd) : List Pr := if why l true = 0 then Mp l else []
def back (X : List Pr) : List Tr := norm (X.map (·.q))
def MbR (l : List Nd) : List Tr := if why l true = 0 then back (Mp l) else []
def TsPost (l : List Tr) (e0 : Int) (w : World) (e : Ending) (w' : World) : Prop := ∃ a c, e = .returned (.tuple #[.slice a l.length c, .int .i64 e0]) ∧ TsO any w' (.slice a l.length c) l ∧ Below w.heap.size w w'
theorem why_ok {l : List Nd} {p : Bool} (h : why l p = 0) : So.onB l p = true ∧ smallB l = true := by
  unfold why at h
  split at h
  · rename_i h1
    split at h
    · rename_i h2; exact ⟨h1, h2⟩
    · cases h
  · cases h

set_option maxHeartbeats 1000000 in
theorem plainP_any (v : Value) (l : List Nd) (w : World) (hv : Nds w v l) (hl : l.length ≤ 1000) (hm : Rw.Nms l) :
    Calls Tryz.prog 10 #[v] w (TsPost (MtR l) (why l false) w) := by
  have HF := Lib.hid (fault_any v l false w hv hl hm)
  have HP := Lib.hid (fun (h : why l false = 0) w1 (hb : Below w.heap.size w w1) => plain_on (why_ok h).1 (why_ok h).2 v w1 (hv.below hb))
  unfold MtR TsPost
  obtain ⟨_, a, c, rfl, -⟩ := hv
  obtain ⟨z, hz⟩ : ∃ z, why l false = z := ⟨_, rfl⟩
  rw [hz] at HF HP ⊢
  clear hm hz
  by_cases h0 : z = 0
  · subst h0
    rw [if_pos rfl]
    have HP' := Lib.hid (HP.out rfl)
    generalize Mt l = L at HP' ⊢
    clear HP
    go_enter Tryz.func10, Tryz.ntmps10
    go_wp2_with fail
    refine HF.out.mono ?_
    rintro e w1 ⟨rfl, hb1⟩
    have B1 := Lib.hid hb1
    clear hb1
    go_wp2_with fail
    refine (HP'.out _ B1.out).mono ?_
    rintro e w2 ⟨a2, n2, rfl, ht2, hb2⟩
    have T2 := Lib.hid (ht2.imp (ok' := any) fun _ _ _ => trivial)
    have B2 := Lib.hid (B1.out.trans (hb2.mono B1.out.size))
    clear ht2 hb2
    go_wp2_with fail
    go_ret2
    exact ⟨_, _, rfl, T2.out, B2.out⟩
  · rw [if_neg h0]
    have g0 : (z != 0) = true := by simp [h0]
    clear h0
    go_enter Tryz.func10, Tryz.ntmps10
    go_wp2_with fail
    refine HF.out.mono ?_
    rintro e w1 ⟨rfl, hb1⟩
    have B1 := Lib.hid hb1
    clear hb1
    go_wp2_with fail
    go_ret2
    exact ⟨_, _, rfl, ts_nil _ _, B1.out⟩

end Go.Proofs.YtpkbpooiaddcaaaGreat.Mn

namespace Go.Proofs.YtpkbpooiaddcaaaGreat.Mn
open Go Go.RowKit Tr
open Rw (Nd Nds)
set_option maxRecDepth 20000

end Go.Proofs.YtpkbpooiaddcaaaGreat.Mn

namespace Go.Proofs.YtpkbpooiaddcaaaGreat.Mn
open Go Go.RowKit Tr
open Rw (Nd Nds)
set_option maxRecDepth 20000

end Go.Proofs.YtpkbpooiaddcaaaGreat.Mn

namespace Go.Proofs.YtpkbpooiaddcaaaGreat.Mn
open Go Go.RowKit Tr
open Rw (Nd Nds)
set_option maxRecDepth 20000

def fewB (l : List Nd) : Bool := decide (l.length ≤ 120) && decide (Rw.depth l ≤ 24)
theorem few_len {l : List Nd} (h : fewB l = true) : l.length ≤ 120 := by
  unfold fewB at h
  rw [Bool.and_eq_true, decide_eq_true_eq] at h
  exact h.1
/-- The statements' own plain. -/
def isB (l : List Nd) : Bool := why l false == 0
/-- The statements' own texts. -/
def txs1 (s : ByteArray) (t : Tr) : ByteArray := s ++ (txt t ++ ⟨#[59]⟩)
def txl (l : List Tr) : ByteArray := l.foldl txs1 ⟨#[]⟩
end Go.Proofs.YtpkbpooiaddcaaaGreat.Mn

namespace Go.Proofs.YtpkbpooiaddcaaaGreat.Mn
open Go Go.RowKit Tr
open Rw (Nd Nds)
set_option maxRecDepth 20000

abbrev nA : Nd := ⟨1, bA, 0⟩
abbrev nB : Nd := ⟨1, bB, 0⟩
abbrev nC : Nd := ⟨1, bC, 0⟩
abbrev nK (k : Int) : Nd := ⟨k, ⟨#[]⟩, 0⟩
def lp : List Nd := [nK 10, nA, nB]
def lt : List Nd := [nK 10, nK 3, nK 2]
def l1 : List Nd := [nK 9, nK 5, nK 10, nA, nB, nK 10, nK 3, nK 2]
def l2 : List Nd := [nK 8, nK 6, nA, nK 3, nC]
theorem y1 : why l1 false = 0 := by decide +kernel
theorem y2 : why l2 false = 0 := by decide +kernel
theorem yp : why lp true = 0 := by decide +kernel
theorem sp : smallB lp = true := by decide +kernel
theorem nms_all {l : List Nd} (h : ∀ x ∈ l, x.n.size ≤ 1) : Rw.Nms l := fun x hx => by have := h x hx; omega
theorem m1 : Rw.Nms l1 := nms_all (by decide +kernel)
theorem m2 : Rw.Nms l2 := nms_all (by decide +kernel)
instance : DecidableEq Tr := fun x y => decidable_of_iff (x.a = y.a ∧ x.e = y.e) ⟨fun h => by cases x; cases y; cases h.1; cases h.2; rfl, fun h => by cases h; exact ⟨rfl, rfl⟩⟩
instance : DecidableEq Pr := fun x y => decidable_of_iff (x.p = y.p ∧ x.q = y.q) ⟨fun h => by cases x; cases y; cases h.1; cases h.2; rfl, fun h => by cases h; exact ⟨rfl, rfl⟩⟩
theorem t1 : Mt l1 = [⟨[bA, bB], 1⟩] := by decide +kernel
theorem t2 : Mt l2 = [⟨[bA], 1⟩, ⟨[bC], 1⟩] := by decide +kernel
theorem p3 : Mp lp = [⟨⟨[], 3⟩, ⟨[], 1⟩⟩, ⟨⟨[bA], 1⟩, ⟨[bB], 1⟩⟩] := by decide +kernel
theorem r1 : MtR l1 = [⟨[bA, bB], 1⟩] := by unfold MtR; rw [y1, t1]; rfl
theorem r2 : MtR l2 = [⟨[bA], 1⟩, ⟨[bC], 1⟩] := by unfold MtR; rw [y2, t2]; rfl
theorem r3 : MpR lp = [⟨⟨[], 3⟩, ⟨[], 1⟩⟩, ⟨⟨[bA], 1⟩, ⟨[bB], 1⟩⟩] := by unfold MpR; rw [yp, p3]; rfl
theorem r4 : MbR lp = [⟨[], 1⟩, ⟨[bB], 1⟩] := by unfold MbR; rw [yp, p3]; decide +kernel
theorem x1 : txl [⟨[bA, bB], 1⟩] = ⟨#[97, 32, 98, 32, 111, 107, 59]⟩ := by decide +kernel
theorem x2 : txl [⟨[bA], 1⟩, ⟨[bC], 1⟩] = ⟨#[97, 32, 111, 107, 59, 99, 32, 111, 107, 59]⟩ := by decide +kernel
theorem x4 : txl [⟨[], 1⟩, ⟨[bB], 1⟩] = ⟨#[111, 107, 59, 98, 32, 111, 107, 59]⟩ := by decide +kernel
/-- Nodes in a block that the call has just made. -/
theorem nds_new (w : World) (l : List Nd) (ty : TypeId) : Nds (w.alloc (.cells (Rw.cls l).toArray ty)) (.slice (some ⟨w.heap.size, 0, none⟩) l.length l.length) l := by
  refine ⟨Rw.cls_len l, some ⟨w.heap.size, 0, none⟩, l.length, rfl, Nat.le_refl _, fun h => (by cases h), fun _ => ⟨w.heap.size, 0, rfl, fun j u hu => ?_⟩⟩
  rw [Nat.zero_add, World.cell?_alloc_new]
  simpa using hu
end Go.Proofs.YtpkbpooiaddcaaaGreat.Mn

namespace Go.Proofs.YtpkbpooiaddcaaaGreat.Mn
open Go Go.RowKit Tr
open Rw (Nd Nds)
set_option maxRecDepth 20000

def l0 : List Nd := [nK 9, nK 5]
end Go.Proofs.YtpkbpooiaddcaaaGreat.Mn

namespace Go.Proofs.YtpkbpooiaddcaaaGreat.Mn
open Go Go.RowKit Tr
open Rw (Nd Nds)
set_option maxRecDepth 20000

theorem mt_few {l : List Nd} (h : why l false = 0) : (Mt l).length ≤ 12079595520 ∧ ∀ t ∈ Mt l, t.a.length ≤ 6 := by
  obtain ⟨h1, h2⟩ := why_ok h
  have g := gt (Sx.whole_tre (on_three h1).1) (on_three h1).2
  obtain ⟨s1, s2⟩ := small_of h2
  refine ⟨Nat.le_trans g.len (K_last s1 s2), fun x hx => ?_⟩
  have := (g.cnt all).len hx
  unfold acs at s2
  omega
end Go.Proofs.YtpkbpooiaddcaaaGreat.Mn

namespace Go.Proofs.YtpkbpooiaddcaaaGreat.Mn
open Go Go.RowKit Tr
open Rw (Nd Nds)
set_option maxRecDepth 20000

abbrev mk (k : Int) (a b : List Nd) : List Nd := So.nOf k :: (a ++ b)
abbrev K4 (k : Int) : Prop := k = 5 ∨ k = 6 ∨ k = 7 ∨ k = 8
end Go.Proofs.YtpkbpooiaddcaaaGreat.Mn

namespace Go.Proofs.YtpkbpooiaddcaaaGreat.Mn
open Go Go.RowKit Tr
open Rw (Nd Nds)
set_option maxRecDepth 20000

end Go.Proofs.YtpkbpooiaddcaaaGreat.Mn

namespace Go.Proofs.YtpkbpooiaddcaaaGreat.Mn
open Go Go.RowKit Tr
open Rw (Nd Nds)
set_option maxRecDepth 20000

end Go.Proofs.YtpkbpooiaddcaaaGreat.Mn

namespace Go.Proofs.YtpkbpooiaddcaaaGreat.Rf
open Go Rw Go.Proofs.YtpkbpooiaddcaaaGreat.So Mn Tr

/-- More of the kids, more of the tree. -/
theorem two_mono {k : Int} {A A' B B' : List Tr} (h1 : ∀ t ∈ A, t ∈ A') (h2 : ∀ t ∈ B, t ∈ B') : ∀ t ∈ norm (two k A B), t ∈ norm (two k A' B') := fun t ht => by
  rw [mem_norm, mem_two] at ht ⊢
  split at ht
  · rename_i hk
    rw [if_pos hk]
    exact ht.elim (fun h => .inl (h1 t h)) fun h => .inr (h2 t h)
  · rename_i hk
    rw [if_neg hk]
    obtain ⟨p, hp, q, hq, ht⟩ := ht
    exact ⟨p, h1 p hp, q, h2 q hq, ht⟩
theorem blk_mono {X X' : List Pr} (h : ∀ x ∈ X, x ∈ X') : ∀ t ∈ norm (blk X), t ∈ norm (blk X') := fun t ht => by
  rw [mem_norm, mem_blk] at ht ⊢
  obtain ⟨x, hx, ht⟩ := ht
  exact ⟨x, h x hx, ht⟩
theorem going_mono {A A' B B' : List Tr} (h1 : ∀ t ∈ A, t ∈ A') (h2 : ∀ t ∈ B, t ∈ B') : ∀ x ∈ going A B, x ∈ going A' B' := fun x hx => by
  unfold going at hx ⊢
  rw [List.mem_flatMap] at hx ⊢
  obtain ⟨p, hp, hx⟩ := hx
  refine ⟨p, h1 p hp, ?_⟩
  unfold going1 at hx ⊢
  split at hx
  · rename_i he
    rw [if_pos he]
    obtain ⟨q, hq, rfl⟩ := List.mem_map.1 hx
    exact List.mem_map.2 ⟨q, h2 q hq, rfl⟩
  · rename_i he
    rw [if_neg he]
    exact hx
theorem stack_mono {X X' : List Pr} {C C' : List Tr} (h1 : ∀ x ∈ X, x ∈ X') (h2 : ∀ t ∈ C, t ∈ C') : ∀ x ∈ stack X C, x ∈ stack X' C' := fun z hz => by
  unfold stack at hz ⊢
  rw [List.mem_flatMap] at hz ⊢
  obtain ⟨x, hx, hz⟩ := hz
  refine ⟨x, h1 x hx, ?_⟩
  unfold stack1 at hz ⊢
  obtain ⟨q, hq, rfl⟩ := List.mem_map.1 hz
  exact List.mem_map.2 ⟨q, h2 q hq, rfl⟩
theorem fin_mono {e : Int} {C C' : List Tr} (h : ∀ t ∈ C, t ∈ C') : ∀ x ∈ fin e C, x ∈ fin e C' := fun z hz => by
  unfold fin at hz ⊢
  obtain ⟨q, hq, rfl⟩ := List.mem_map.1 hz
  exact List.mem_map.2 ⟨q, h q hq, rfl⟩
theorem twoP_mono {k : Int} {X X' Y Y' : List Pr} (h1 : ∀ x ∈ X, x ∈ X') (h2 : ∀ x ∈ Y, x ∈ Y') : ∀ x ∈ twoP k X Y, x ∈ twoP k X' Y' := fun z hz => by
  unfold twoP at hz ⊢
  split at hz
  · rename_i hk
    rw [if_pos hk]
    unfold seq at hz ⊢
    rw [List.mem_flatMap] at hz ⊢
    obtain ⟨x, hx, hz⟩ := hz
    refine ⟨x, h1 x hx, ?_⟩
    unfold seq1 at hz ⊢
    split at hz
    · rename_i he
      rw [if_pos he]
      obtain ⟨q, hq, rfl⟩ := List.mem_map.1 hz
      exact List.mem_map.2 ⟨q, h2 q hq, rfl⟩
    · rename_i he
      rw [if_neg he]
      exact hz
  · rename_i hk
    rw [if_neg hk]
    split at hz
    · rename_i hk7
      rw [if_pos hk7]
      unfold par at hz ⊢
      rw [List.mem_flatMap] at hz ⊢
      obtain ⟨x, hx, hz⟩ := hz
      refine ⟨x, h1 x hx, ?_⟩
      rw [List.mem_flatMap] at hz ⊢
      obtain ⟨y, hy, hz⟩ := hz
      exact ⟨y, h2 y hy, hz⟩
    · rename_i hk7
      rw [if_neg hk7]
      rw [List.mem_append] at hz ⊢
      exact hz.elim (fun h => .inl (h1 z h)) fun h => .inr (h2 z h)
theorem pnorm_mono {X X' : List Pr} (h : ∀ x ∈ X, x ∈ X') : ∀ x ∈ pnorm X, x ∈ pnorm X' := fun x hx => (pmem_norm x _).2 (h x ((pmem_norm x _).1 hx))
theorem stepT_mono {t t' : List Nd → List Tr} {p p' : List Nd → List Pr} (l : List Nd) (h : ∀ i, ∀ x ∈ t ((kids l).getD i []), x ∈ t' ((kids l).getD i [])) (g : ∀ i, ∀ x ∈ p ((kids l).getD i []), x ∈ p' ((kids l).getD i [])) : ∀ x ∈ Mn.stepT t p l, x ∈ Mn.stepT t' p' l := fun x hx => by
  unfold Mn.stepT at hx ⊢
  by_cases h1 : hd l = 1
  · rw [if_pos h1] at hx ⊢; exact hx
  rw [if_neg h1] at hx ⊢
  by_cases h2 : hd l = 2
  · rw [if_pos h2] at hx ⊢; exact hx
  rw [if_neg h2] at hx ⊢
  by_cases h3 : hd l = 3
  · rw [if_pos h3] at hx ⊢; exact hx
  rw [if_neg h3] at hx ⊢
  by_cases h4 : hd l = 4
  · rw [if_pos h4] at hx ⊢; exact hx
  rw [if_neg h4] at hx ⊢
  by_cases h5 : hd l = 11
  · rw [if_pos h5] at hx ⊢; exact hx
  rw [if_neg h5] at hx ⊢
  by_cases h6 : hd l = 9
  · rw [if_pos h6] at hx ⊢; exact blk_mono (g 0) x hx
  rw [if_neg h6] at hx ⊢
  exact two_mono (h 0) (h 1) x hx
theorem stepP_mono {t t' : List Nd → List Tr} {p p' : List Nd → List Pr} (l : List Nd) (h : ∀ i, ∀ x ∈ t ((kids l).getD i []), x ∈ t' ((kids l).getD i [])) (g : ∀ i, ∀ x ∈ p ((kids l).getD i []), x ∈ p' ((kids l).getD i [])) : ∀ x ∈ stepP t p l, x ∈ stepP t' p' l := fun x hx => by
  unfold stepP at hx ⊢
  by_cases h1 : hd l = 10
  · rw [if_pos h1] at hx ⊢
    refine pnorm_mono (fun x hx => ?_) x hx
    rw [List.mem_append] at hx ⊢
    exact hx.elim (fun hx => .inl (going_mono (h 0) (h 1) x hx)) .inr
  rw [if_neg h1] at hx ⊢
  by_cases h2 : hd l = 12
  · rw [if_pos h2] at hx ⊢; exact pnorm_mono (going_mono (h 0) (h 1)) x hx
  rw [if_neg h2] at hx ⊢
  by_cases h3 : hd l = 13
  · rw [if_pos h3] at hx ⊢; exact pnorm_mono (stack_mono (g 0) (h 1)) x hx
  rw [if_neg h3] at hx ⊢
  by_cases h4 : hd l = 14
  · rw [if_pos h4] at hx ⊢; exact pnorm_mono (fin_mono (h 0)) x hx
  rw [if_neg h4] at hx ⊢
  exact pnorm_mono (twoP_mono (g 0) (g 1)) x hx

/-- The traces of a row that is rewritten. -/
theorem stepT_sub {f : ByteArray → Bool} {n : Nd} (h : hit f n = false) (r : List Nd) (t : List Nd → List Tr) (p : List Nd → List Pr) : Mn.stepT t p (sub f (n :: r)) = Mn.stepT (fun k => t (sub f k)) (fun k => p (sub f k)) (n :: r) := by
  have e1 : nm (sub f (n :: r)) = nm (n :: r) := by rw [sub_no h]; rfl
  have e2 : sg (sub f (n :: r)) = sg (n :: r) := by rw [sub_no h]; rfl
  unfold Mn.stepT k0 k1
  simp only [getD_sub h, hd_sub h, e1, e2]
theorem stepP_sub {f : ByteArray → Bool} {n : Nd} (h : hit f n = false) (r : List Nd) (t : List Nd → List Tr) (p : List Nd → List Pr) : stepP t p (sub f (n :: r)) = stepP (fun k => t (sub f k)) (fun k => p (sub f k)) (n :: r) := by
  have e2 : sg (sub f (n :: r)) = sg (n :: r) := by rw [sub_no h]; rfl
  unfold stepP k0 k1
  simp only [getD_sub h, hd_sub h, e2]
theorem Mt_act {x : Nd} (hx : x.k = 1) (r : List Nd) : Mt (x :: r) = [⟨[x.n], 1⟩] := by
  rw [(M_eq (l := x :: r) (by simp)).1]
  unfold Mn.stepT
  rw [show hd (x :: r) = 1 from hx]
  rfl
theorem Mt_thr (r : List Nd) : Mt (thr :: r) = [bang] := by
  rw [(M_eq (l := thr :: r) (by simp)).1]
  rfl
theorem Mt_two {l : List Nd} {a b : List Nd} (h6 : hd l = 6) (h0 : 0 < l.length) (hk : kids l = [a, b]) : Mt l = norm (Mt a ++ Mt b) := by
  rw [(M_eq h0).1, stepT_2 (.inr (.inl h6)), h6]
  unfold k0 k1
  rw [hk]
  rfl
theorem Mt_alt {x : Nd} (hx : x.k = 1) (r : List Nd) : Mt (alt :: x :: thr :: r) = norm [⟨[x.n], 1⟩, bang] := by
  rw [Mt_two rfl (by simp) (kids_alt x (by rw [hx]; rfl) r), Mt_act hx, Mt_thr]
  rfl
/-- Of what is no Pair, no Over, no Push, no End: no pairs but those of an Alt. -/
theorem pairs_none {l : List Nd} (h0 : 0 < l.length) (hk : kids l = []) (hh : hd l = 1) : Mp l = [] := by
  rw [(M_eq h0).2]
  unfold stepP k0 k1
  rw [hh, hk]
  have e : Mp [] = [] := rfl
  show pnorm (twoP 1 (Mp []) (Mp [])) = []
  rw [e]
  rfl
theorem kids_act {x : Nd} (hx : x.k = 1) (r : List Nd) : kids (x :: r) = [] := by
  unfold kids
  split
  · rfl
  · show kidsN (ar x.k).toNat r = []
    rw [hx]
    rfl
theorem Mp_act {x : Nd} (hx : x.k = 1) (r : List Nd) : Mp (x :: r) = [] := pairs_none (by simp) (kids_act hx r) hx
theorem Mp_thr : Mp [thr] = [] := by decide +kernel
theorem Mp_two {l : List Nd} {a b : List Nd} (h6 : hd l = 6) (h0 : 0 < l.length) (hk : kids l = [a, b]) : Mp l = pnorm (Mp a ++ Mp b) := by
  rw [(M_eq h0).2, stepP_2 (.inr (.inl h6)), h6]
  unfold k0 k1
  rw [hk]
  rfl
theorem Mp_alt {x : Nd} (hx : x.k = 1) (r : List Nd) : Mp (alt :: x :: thr :: r) = [] := by
  rw [Mp_two rfl (by simp) (kids_alt x (by rw [hx]; rfl) r), Mp_act hx, Mp_thr]
  rfl
/-- What it did it may do. -/
theorem M_more (f : ByteArray → Bool) : ∀ (m : Nat) (l : List Nd), l.length ≤ m → (∀ t ∈ Mt l, t ∈ Mt (sub f l)) ∧ ∀ x ∈ Mp l, x ∈ Mp (sub f l)
  | 0, l, h => by
    have : l = [] := List.eq_nil_of_length_eq_zero (by omega)
    subst this
    exact ⟨fun _ h => h, fun _ h => h⟩
  | m + 1, [], _ => ⟨fun _ h => h, fun _ h => h⟩
  | m + 1, n :: r, hm => by
    cases h : hit f n with
    | true =>
      rw [sub_yes h, Mt_alt (hit_k h), Mt_act (hit_k h), Mp_act (hit_k h)]
      exact ⟨fun t ht => by rw [mem_norm]; exact List.mem_cons.2 (.inl (List.mem_singleton.1 ht)), fun _ h => (by cases h)⟩
    | false =>
      have hk := fun i => M_more f m ((kids (n :: r)).getD i []) (by have := getD_short (n :: r) i (by simp); omega)
      obtain ⟨e1, e2⟩ := M_eq (l := n :: r) (by simp)
      obtain ⟨g1, g2⟩ := M_eq (l := sub f (n :: r)) (by rw [sub_no h]; simp)
      rw [e1, e2, g1, g2, stepT_sub h, stepP_sub h]
      exact ⟨stepT_mono _ (fun i => (hk i).1) fun i => (hk i).2, stepP_mono _ (fun i => (hk i).1) fun i => (hk i).2⟩
theorem kids_alt2 (x : Nd) (hx : x.k = 1) (r : List Nd) : kids (alt :: alt :: x :: thr :: thr :: r) = [[alt, x, thr], [thr]] := by
  have hx0 : ar x.k = 0 := by rw [hx]; rfl
  have e1 : S 1 (alt :: x :: thr :: thr :: r) = some (3, 2) := by
    rw [show (1 : Nat) = 0 + 1 from rfl, S_succ, S_zero]
    simp only [List.drop_zero, T_alt x hx0]
    rfl
  have e2 : S 2 (alt :: x :: thr :: thr :: r) = some (4, 2) := by
    rw [show (2 : Nat) = 1 + 1 from rfl, S_succ, e1]
    simp only [List.drop_succ_cons, List.drop_zero, leaf thr rfl]
    rfl
  have hT : T (alt :: alt :: x :: thr :: thr :: r) = some (5, 3) := by
    rw [T_cons, show ar alt.k = 2 from rfl, if_neg (by decide), show ((2 : Int).toNat) = 2 from rfl, e2]
  have hs : size (alt :: alt :: x :: thr :: thr :: r) = 5 := by unfold size; rw [hT]
  unfold kids
  rw [if_neg (by rw [hs]; decide)]
  simp only [show (ar alt.k).toNat = 1 + 1 from rfl]
  rw [kidsN, e1, show (1 : Nat) = 0 + 1 from rfl, kidsN, S_zero, kidsN]
  have z1 : size (alt :: x :: thr :: thr :: r) = 3 := by unfold size; rw [T_alt x hx0]
  have z2 : size (thr :: r) = 1 := by unfold size; rw [leaf thr rfl]
  simp only [Option.getD_some, List.drop_zero, List.drop_succ_cons, z1, z2, List.take_succ_cons, List.take_zero, List.nil_append]
  rfl
theorem alt_again (x : Tr) : norm (norm [x, bang] ++ [bang]) = norm [x, bang] := norm_congr fun t => by
  rw [List.mem_append, mem_norm]
  simp only [List.mem_cons, List.not_mem_nil, or_false]
  constructor
  · rintro ((h | h) | h)
    · exact .inl h
    · exact .inr h
    · exact .inr h
  · exact .inl
/-- Rewritten twice it means the same. -/
theorem M_twice (f : ByteArray → Bool) : ∀ (m : Nat) (l : List Nd), l.length ≤ m → Mt (sub f (sub f l)) = Mt (sub f l) ∧ Mp (sub f (sub f l)) = Mp (sub f l)
  | 0, l, h => by
    have : l = [] := List.eq_nil_of_length_eq_zero (by omega)
    subst this
    exact ⟨rfl, rfl⟩
  | m + 1, [], _ => ⟨rfl, rfl⟩
  | m + 1, n :: r, hm => by
    cases h : hit f n with
    | true =>
      have hx := hit_k h
      have e : sub f (sub f (n :: r)) = alt :: alt :: n :: thr :: thr :: sub f (sub f r) := by
        rw [sub_yes h, sub_no (hit_no (by decide)), sub_yes h, sub_no (hit_no (by decide))]
      have hk := kids_alt2 n hx (sub f (sub f r))
      rw [e, sub_yes h, Mt_two rfl (by simp) hk, Mt_alt hx, Mt_alt hx, Mt_thr, Mp_two rfl (by simp) hk, Mp_alt hx, Mp_alt hx, Mp_thr, alt_again]
      exact ⟨rfl, rfl⟩
    | false =>
      have hk := fun i => M_twice f m ((kids (n :: r)).getD i []) (by have := getD_short (n :: r) i (by simp); omega)
      have e1 : sub f (n :: r) = n :: sub f r := sub_no h r
      obtain ⟨g1, g2⟩ := M_eq (l := sub f (n :: r)) (by rw [e1]; simp)
      obtain ⟨d1, d2⟩ := M_eq (l := sub f (sub f (n :: r))) (by rw [e1, sub_no h]; simp)
      have s1 : Mn.stepT Mt Mp (sub f (sub f (n :: r))) = Mn.stepT (fun k => Mt (sub f (sub f k))) (fun k => Mp (sub f (sub f k))) (n :: r) := by
        rw [e1, stepT_sub h, ← e1, stepT_sub h]
      have s2 : stepP Mt Mp (sub f (sub f (n :: r))) = stepP (fun k => Mt (sub f (sub f k))) (fun k => Mp (sub f (sub f k))) (n :: r) := by
        rw [e1, stepP_sub h, ← e1, stepP_sub h]
      rw [d1, d2, g1, g2, s1, s2, stepT_sub h, stepP_sub h]
      exact ⟨stepT_congr _ (fun i => (hk i).1) fun i => (hk i).2, stepP_congr _ (fun i => (hk i).1) fun i => (hk i).2⟩
/-- With all that it may do, what it did is no more. -/
theorem or_more {f : ByteArray → Bool} {l : List Nd} (hu : Up (Mt (sub f l))) : norm (Mt l ++ Mt (sub f l)) = Mt (sub f l) := norm_is hu fun t => by
  rw [List.mem_append]
  exact ⟨.inr, fun h => h.elim ((M_more f l.length l (Nat.le_refl _)).1 t) id⟩
end Go.Proofs.YtpkbpooiaddcaaaGreat.Rf

namespace Go.Proofs.YtpkbpooiaddcaaaGreat.Rf
open Go Go.RowKit Go.Proofs.YtpkbpooiaddcaaaGreat.Rw Mn Tr
set_option maxRecDepth 20000

theorem term_why {l : List Nd} (h : So.of l = 1) (hs : smallB l = true) : why l false = 0 := by
  unfold why So.onB
  rw [h, hs]
  rfl
theorem mt_few {l : List Nd} (h : why l false = 0) : (Mt l).length ≤ 12079595520 ∧ ∀ t ∈ Mt l, t.a.length ≤ 6 := by
  obtain ⟨h1, h2⟩ := why_ok h
  have g := gt (Sx.whole_tre (on_three h1).1) (on_three h1).2
  obtain ⟨s1, s2⟩ := small_of h2
  refine ⟨Nat.le_trans g.len (K_last s1 s2), fun x hx => ?_⟩
  have := (g.cnt all).len hx
  unfold acs at s2
  omega
theorem mt_up {l : List Nd} (h : why l false = 0) : Up (Mt l) := by
  obtain ⟨h1, h2⟩ := why_ok h
  exact (gt (Sx.whole_tre (on_three h1).1) (on_three h1).2).up
theorem mt_is {l : List Nd} (h : why l false = 0) : MtR l = Mt l := if_pos h
theorem few_two {l m : List Nd} (h : why l false = 0) (h' : why m false = 0) : Few (Mt l) ∧ Few (Mt m) ∧ Few (Mt l ++ Mt m) := by
  obtain ⟨a1, a2⟩ := mt_few h
  obtain ⟨b1, b2⟩ := mt_few h'
  refine ⟨⟨by omega, fun t ht => by have := a2 t ht; omega⟩, ⟨by omega, fun t ht => by have := b2 t ht; omega⟩, ⟨by rw [List.length_append]; omega, fun t ht => ?_⟩⟩
  rcases List.mem_append.1 ht with h | h
  · have := a2 t h; omega
  · have := b2 t h; omega
/-- Nodes, and the row rewritten, below which all is as it was. -/
structure Kx (w0 : World) (v x : Value) (l m : List Nd) (w : World) : Prop where
  bel : Below w0.heap.size w0 w
  nds : Nds w v l
  xx : Nds w x m
theorem Kx.below {w0 w w' : World} {v x : Value} {l m : List Nd} (h : Kx w0 v x l m w) (hb : Below w.heap.size w w') : Kx w0 v x l m w' := ⟨h.bel.trans (hb.mono h.bel.size), h.nds.below hb, h.xx.below hb⟩
theorem sameT_self (l : List Tr) : same l l = true := (same_iff l l).2 rfl
theorem sub_zero {f : ByteArray → Bool} {l : List Nd} (h : l.countP (hit f) = 0) : sub f l = l := sub_none fun x hx => by
  have := List.countP_eq_zero.1 h x hx
  simpa using this
end Go.Proofs.YtpkbpooiaddcaaaGreat.Rf

namespace Go.Proofs.YtpkbpooiaddcaaaGreat.Rf
open Go Go.RowKit Go.Proofs.YtpkbpooiaddcaaaGreat.Rw Mn Tr
set_option maxRecDepth 20000

theorem trs_slice2 {w : World} {v : Value} {l : List Tr} (h : Trs w v l) : ∃ a c, v = .slice a l.length c := by
  obtain ⟨a, c, e, _⟩ := h.val
  exact ⟨a, c, e⟩
/-- What is small rewritten was small. -/
theorem small_sub {f : ByteArray → Bool} {l : List Nd} (h : smallB (sub f l) = true) : smallB l = true := by
  obtain ⟨h1, h2⟩ := small_of h
  have hl := (sub_le f l).1
  have ha := sub_acts f l
  rw [← acs_cnt, ← acs_cnt] at ha
  unfold smallB
  rw [decide_eq_true (show l.length ≤ 24 by omega), decide_eq_true (show acs l ≤ 6 by omega)]
  rfl
/-- Nodes, the row rewritten, and that rewritten again, below which all is as it was. -/
structure Ky (w0 : World) (v x y : Value) (l m n : List Nd) (w : World) : Prop where
  bel : Below w0.heap.size w0 w
  nds : Nds w v l
  xx : Nds w x m
  yy : Nds w y n
theorem Ky.below {w0 w w' : World} {v x y : Value} {l m n : List Nd} (h : Ky w0 v x y l m n w) (hb : Below w.heap.size w w') : Ky w0 v x y l m n w' := ⟨h.bel.trans (hb.mono h.bel.size), h.nds.below hb, h.xx.below hb, h.yy.below hb⟩
set_option maxHeartbeats 8000000 in
theorem twice_law (v : Value) (l : List Nd) (s : ByteArray) (w : World) (hv : Nds w v l) (hm : Nms l) (hs : s.size ≤ maxLen) :
    Calls Tryz.prog 4 #[v, .string s] w fun e w' => e = .returned (.bool true) ∧ Below w.heap.size w w' := by
  have HM := Lib.hid hm
  have HV := Lib.hid hv
  obtain ⟨_, a, cap, rfl, -⟩ := hv
  clear hm
  go_enter Tryz.func4, Tryz.ntmps4
  go_wp2_with fail
  refine (few_any _ l _ HV.out).mono ?_
  cases hf : fewB l with
  | false =>
    rintro e w' ⟨rfl, rfl⟩
    go_wp2_with fail
    refine (alive_any _).mono ?_
    rintro e wn ⟨rfl, hb⟩
    go_wp2_with fail
    go_ret
    exact ⟨rfl, hb⟩
  | true =>
    have hl := few_len hf
    clear hf
    rintro e w' ⟨rfl, rfl⟩
    have HS1 := Lib.hid (str_new w s 9)
    have HB1 := Lib.hid (below1 w (.cells #[.string s] 9))
    go_wp2_with fail
    refine (rewP_any _ _ l [s] _ (HV.out.below HB1.out) (by omega) HM.out HS1.out (by simp) (fun t ht => by rw [List.mem_singleton.1 ht]; exact hs)).mono ?_
    rw [inN_one]
    rintro e w1 ⟨y, rfl, hy, hb⟩
    have I0 := Lib.hid (Kx.mk (HB1.out.trans (hb.mono HB1.out.size)) ((HV.out.below HB1.out).below hb) hy)
    obtain ⟨_, ya, yc, rfl, -⟩ := hy
    clear hb HS1 HB1 HV
    have HSM := Lib.hid (sub_nms (f := isN s) HM.out)
    have HSP := Lib.hid (sub_nms (f := isN s) HSM.out)
    have HOF := Lib.hid (fun h => of_sub (isN s) l h)
    have HOP := Lib.hid (fun h => of_sub (isN s) (sub (isN s) l) h)
    have HTW := Lib.hid (M_twice (isN s) l.length l (Nat.le_refl _)).1
    have HSS := Lib.hid (fun h => small_sub (f := isN s) (l := sub (isN s) l) h)
    have HC1 := Lib.hid (sub_cnt (isN s) (isN s) l)
    have HC2 := Lib.hid (sub_cnt (isN s) (isN s) (sub (isN s) l))
    have HL := Lib.hid (sub_len (isN s) (sub (isN s) l))
    have hs3 := (sub_le (isN s) l).2
    have hs4 := (sub_le (isN s) (sub (isN s) l)).2
    obtain ⟨q, hq⟩ : ∃ q, sub (isN s) l = q := ⟨_, rfl⟩
    rw [hq] at I0 HSM HSP HOF HOP HTW HSS HC1 HC2 HL hs3 hs4
    rw [hq]
    clear hq
    have HS2 := Lib.hid (str_new w1 s 9)
    have HB2 := Lib.hid (below1 w1 (.cells #[.string s] 9))
    go_wp2_with fail
    refine (rewP_any _ _ q [s] _ (I0.out.xx.below HB2.out) (by omega) HSM.out HS2.out (by simp) (fun t ht => by rw [List.mem_singleton.1 ht]; exact hs)).mono ?_
    rw [inN_one]
    rintro e w2 ⟨y2, rfl, hy2, hb⟩
    have J0 := (I0.out.below HB2.out).below hb
    have I := Lib.hid (Ky.mk J0.bel J0.nds J0.xx hy2)
    obtain ⟨_, za, zc, rfl, -⟩ := hy2
    clear hb J0 I0 HS2 HB2
    obtain ⟨p, hp⟩ : ∃ p, sub (isN s) q = p := ⟨_, rfl⟩
    rw [hp] at I HSP HOP HTW HSS HC2 HL hs4
    rw [hp]
    clear hp
    go_wp2_with fail
    refine (placesP_any _ l s _ I.out.nds (by omega)).mono ?_
    rintro e w3 ⟨y3, rfl, hy3, hb⟩
    replace I := Lib.hid (I.out.below hb)
    obtain ⟨_, xa, xc, rfl, -⟩ := hy3
    rw [plc_len]
    clear hb
    obtain ⟨c, hc⟩ : ∃ c, l.countP (hit (isN s)) = c := ⟨_, rfl⟩
    have hcl : l.countP (hit (isN s)) ≤ l.length := List.countP_le_length
    rw [hc] at HC1 hcl
    rw [hc]
    clear hc
    have HC3 := Lib.hid (HC2.out.trans HC1.out)
    have hpl : p.length = q.length + 2 * c := by rw [HL.out, HC1.out]
    have HPL := Lib.hid hpl
    have g1 : ((p.length : Int) != (q.length : Int) + 2 * (c : Int)) = false := by rw [bne_eq_false_iff_eq]; omega
    clear hpl
    go_wp2_with fail
    refine (placesP_any _ p s _ I.out.yy (by omega)).mono ?_
    rintro e w4 ⟨y4, rfl, hy4, hb⟩
    replace I := Lib.hid (I.out.below hb)
    obtain ⟨_, ua, uc, rfl, -⟩ := hy4
    rw [plc_len, HC3.out]
    clear hb g1
    have g2 : ((c : Int) != (c : Int)) = false := by simp
    go_wp2_with fail
    refine (Sx.termP_any l _ _ I.out.nds (by omega) HM.out).mono ?_
    cases hz : (So.of l == 1) with
    | false =>
      rintro e wn ⟨rfl, hb⟩
      replace I := Lib.hid (I.out.below hb)
      clear hb hz
      go_wp2_with fail
      refine (alive_any _).mono ?_
      rintro e wn ⟨rfl, hb⟩
      go_wp2_with fail
      go_ret
      exact ⟨rfl, (I.out.below hb).bel⟩
    | true =>
      have HZ := Lib.hid (eq_of_beq hz)
      clear hz
      rintro e wn ⟨rfl, hb⟩
      replace I := Lib.hid (I.out.below hb)
      clear hb
      go_wp2_with fail
      refine (small_any _ p _ I.out.yy (by have := HPL.out; omega)).mono ?_
      cases hsp : smallB p with
      | false =>
        rintro e wn ⟨rfl, hb⟩
        replace I := Lib.hid (I.out.below hb)
        clear hb hsp
        go_wp2_with fail
        refine (alive_any _).mono ?_
        rintro e wn ⟨rfl, hb⟩
        go_wp2_with fail
        go_ret
        exact ⟨rfl, (I.out.below hb).bel⟩
      | true =>
        have hsq := HSS.out hsp
        have hp24 := (small_of hsp).1
        have hq24 := (small_of hsq).1
        have HW := Lib.hid (term_why ((HOF.out (by omega)).trans HZ.out) hsq)
        have HX := Lib.hid (term_why ((HOP.out (by omega)).trans ((HOF.out (by omega)).trans HZ.out)) hsp)
        clear hsp hsq
        rintro e wn ⟨rfl, hb⟩
        replace I := Lib.hid (I.out.below hb)
        clear hb HZ HOF HOP HSS
        obtain ⟨hA, hB, -⟩ := few_two HW.out HX.out
        have FA := Lib.hid hA
        have PA := Lib.hid (fun w0 (h : Nds w0 (.slice ya q.length yc) q) => plainP_any _ q w0 h (by omega) HSM.out)
        have PB := Lib.hid (fun w0 (h : Nds w0 (.slice za p.length zc) p) => plainP_any _ p w0 h (by omega) HSP.out)
        rw [mt_is HW.out, HW.out] at PA
        rw [mt_is HX.out, HX.out, HTW.out] at PB
        unfold TsPost at PA PB
        clear hA hB
        obtain ⟨A, hA⟩ : ∃ A, Mt q = A := ⟨_, rfl⟩
        rw [hA] at FA PA PB
        clear hA
        go_wp2_with fail
        refine (PA.out _ I.out.xx).mono ?_
        rintro e w5 ⟨aa, ac, rfl, ha, hb⟩
        replace I := Lib.hid (I.out.below hb)
        have TA := Lib.hid ha.trs
        clear hb ha PA
        go_wp2_with fail
        refine (PB.out _ I.out.yy).mono ?_
        rintro e w6 ⟨ba, bc, rfl, hb', hb⟩
        replace I := Lib.hid (I.out.below hb)
        replace TA := Lib.hid (TA.out.below hb)
        have TB := Lib.hid hb'.trs
        clear hb hb' PB
        go_wp2_with fail
        refine (alive_any _).mono ?_
        rintro e w7 ⟨rfl, hb⟩
        replace I := Lib.hid (I.out.below hb)
        replace TA := Lib.hid (TA.out.below hb)
        replace TB := Lib.hid (TB.out.below hb)
        clear hb
        go_wp2_with fail
        refine (olds_any _ A _ TA.out FA.out.1).mono ?_
        rintro e w8 ⟨o1, rfl, ho1, hb⟩
        replace I := Lib.hid (I.out.below hb)
        replace TB := Lib.hid (TB.out.below hb)
        have O1 := Lib.hid ho1
        obtain ⟨oa, oc, rfl⟩ := trs_slice2 ho1
        clear hb ho1
        go_wp2_with fail
        refine (olds_any _ A _ TB.out FA.out.1).mono ?_
        rintro e w9 ⟨o2, rfl, ho2, hb⟩
        replace I := Lib.hid (I.out.below hb)
        replace O1 := Lib.hid (O1.out.below hb)
        have O2 := Lib.hid ho2
        obtain ⟨pa, pc, rfl⟩ := trs_slice2 ho2
        clear hb ho2
        go_wp2_with fail
        refine (same_any _ _ A A _ O1.out O2.out FA.out FA.out).mono ?_
        rw [sameT_self]
        rintro e w10 ⟨rfl, hb⟩
        replace I := Lib.hid (I.out.below hb)
        clear hb
        go_wp2_with fail
        go_ret
        exact ⟨rfl, I.out.bel⟩
end Go.Proofs.YtpkbpooiaddcaaaGreat.Rf
