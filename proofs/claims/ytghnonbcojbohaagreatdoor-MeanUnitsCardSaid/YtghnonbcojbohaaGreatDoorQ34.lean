/- The program's plain and paired of any tree; Small, fault, Plain, Paired, Back: the walks. The program's Plain, Paired, Back: the walks. The document's Traces and Pairs of any tree; Small, check, Plain, Paired: the walks. The document's Back, and Same of pairs; the statements' own Olds of pairs: the walks. -/
import Derived.Test.YtghnonbcojbohaaGreatDoorQ32
import Derived.Test.YtghnonbcojbohaaGreatDoorQ29
import Derived.Test.YtghnonbcojbohaaGreatDoorQ07
import Derived.Test.YtghnonbcojbohaaGreatDoorQ13
import Derived.Test.YtghnonbcojbohaaGreatDoorQ33

namespace Go.Proofs.YtghnonbcojbohaaGreatDoor.Mn
open Go Go.RowKit Tr
open Rw (Nd Nds)
set_option maxRecDepth 20000

theorem all_any : ∀ (m : Nat) (l : List Nd), l.length ≤ m → So.Tre l → l.length ≤ 24 → acs l ≤ 6 → (So.Is 3 l = true → PC l) ∧ (So.Is 4 l = true → QC l)
  | 0, l, h, ht, _, _ => absurd ht.pos (by omega)
  | m + 1, l, h, ht, h24, h6 => by
    have hk : ∀ a ∈ Rw.kids l, (So.Is 3 a = true → PC a) ∧ (So.Is 4 a = true → QC a) := fun a ha => by
      have har := ht.ar
      have h3 : Rw.ar (So.hd l) = 0 ∨ Rw.ar (So.hd l) = 1 ∨ Rw.ar (So.hd l) = 2 := by
        unfold Rw.ar at har ⊢
        repeat' split
        all_goals simp_all
      rcases h3 with h0 | h1 | h2
      · obtain ⟨x, rfl, _⟩ := cut0 ht h0
        have : Rw.kids [x] = [] := List.eq_nil_of_length_eq_zero (by rw [ht.kids.1, h0]; rfl)
        rw [this] at ha
        cases ha
      · obtain ⟨b, hkk, _, tb, hl, hc, _⟩ := cut1 ht h1
        rw [hkk, List.mem_singleton] at ha
        subst ha
        have := hc all
        exact all_any m a (by omega) tb (by omega) (by unfold acs at *; omega)
      · obtain ⟨b, c, hkk, _, _, tb, tc, hl, hc, _⟩ := cut2 ht h2
        have := hc all
        rw [hkk] at ha
        rcases List.mem_cons.1 ha with rfl | ha
        · exact all_any m a (by omega) tb (by omega) (by unfold acs at *; omega)
        · rw [List.mem_singleton] at ha
          subst ha
          exact all_any m a (by omega) tc (by omega) (by unfold acs at *; omega)
    match l, ht, h24, h6, hk with
    | [], ht, _, _, _ => exact absurd ht.pos (by simp)
    | ⟨k, nm', sg'⟩ :: rest, ht, h24, h6, hk =>
      exact ⟨fun hi v w hv => plain_step tcon k nm' sg' rest v w hv ht hi h24 h6 (fun a ha => (hk a ha).1) fun a ha => (hk a ha).2,
        fun hi v w hv => paired_step tcon k nm' sg' rest v w hv ht hi h24 h6 (fun a ha => (hk a ha).1) fun a ha => (hk a ha).2⟩

/-- Of what is told: which kind; few enough. -/
def smallB (l : List Nd) : Bool := decide (l.length ≤ 24) && decide (acs l ≤ 6)
def why (l : List Nd) (p : Bool) : Int := if So.onB l p then (if smallB l then 0 else 70) else 1
theorem on_three {l : List Nd} (h : So.onB l false = true) : Rw.whole l = true ∧ So.Is 3 l = true := by
  have h' : (So.of l == 1 || So.of l == 3) = true := h
  simp only [Bool.or_eq_true, beq_iff_eq] at h'
  rcases h' with h' | h'
  · exact ⟨(So.of_one h').1, So.one_three (So.of_one h').2⟩
  · exact ⟨(So.of_three h').1, (So.of_three h').2.1⟩
theorem on_four {l : List Nd} (h : So.onB l true = true) : Rw.whole l = true ∧ So.Is 4 l = true := by
  have h' : (So.of l == 2 || So.of l == 4) = true := h
  simp only [Bool.or_eq_true, beq_iff_eq] at h'
  rcases h' with h' | h'
  · exact ⟨(So.of_two h').1, So.two_four (So.of_two h').2.1⟩
  · exact ⟨(So.of_four h').1, (So.of_four h').2.1⟩
theorem small_of {l : List Nd} (h : smallB l = true) : l.length ≤ 24 ∧ acs l ≤ 6 := by
  unfold smallB at h
  simpa using h
theorem plain_on {l : List Nd} (h : So.onB l false = true) (hs : smallB l = true) : PC l :=
  (all_any l.length l (Nat.le_refl _) (Sx.whole_tre (on_three h).1) (small_of hs).1 (small_of hs).2).1 (on_three h).2
theorem paired_on {l : List Nd} (h : So.onB l true = true) (hs : smallB l = true) : QC l :=
  (all_any l.length l (Nat.le_refl _) (Sx.whole_tre (on_four h).1) (small_of hs).1 (small_of hs).2).2 (on_four h).2

theorem ints_one (w : World) (x : Int) (ty : TypeId) : Rw.Ints (w.alloc (.cells #[.int .i64 x] ty)) (.slice (some ⟨w.heap.size, 0, none⟩) 1 1) [x] :=
  ⟨rfl, some ⟨w.heap.size, 0, none⟩, 1, rfl, Nat.le_refl _, fun h => (by cases h), fun _ => ⟨w.heap.size, 0, rfl, fun j u hu => by
    rw [Nat.zero_add, World.cell?_alloc_new]
    simpa using hu⟩⟩
set_option maxHeartbeats 1000000 in
theorem small_any (v : Value) (l : List Nd) (w : World) (hv : Nds w v l) (hl : l.length ≤ 1000) :
    Calls Tryz.prog 16 #[v] w fun e w' => e = .returned (.bool (smallB l)) ∧ Below w.heap.size w w' := by
  have HC := Lib.hid (fun y w1 (hb : Below w.heap.size w w1) hy => Rx.countP_any v y l [1] w1 (hv.below hb) hy (by omega) (by simp))
  have ha := acs_cnt l
  rw [← ha] at HC
  have hsm : smallB l = (decide (l.length ≤ 24) && decide (acs l ≤ 6)) := rfl
  rw [hsm]
  generalize acs l = n at HC ⊢
  obtain ⟨_, a, c, rfl, -⟩ := hv
  obtain ⟨m, hm⟩ : ∃ m, l.length = m := ⟨_, rfl⟩
  rw [hm] at HC hl ⊢
  clear ha hsm hm
  have HI := Lib.hid (fun ty => ints_one w 1 ty)
  by_cases h1 : m ≤ 24
  · have g1 : decide ((m : Int) ≤ 24) = true := by simpa using (show (m : Int) ≤ 24 by omega)
    have e1 : decide (m ≤ 24) = true := by simpa using h1
    rw [e1, Bool.true_and]
    clear e1
    go_enter Tryz.func16, Tryz.ntmps16
    go_wp2_with fail
    refine (HC.out _ _ (bel1 _ _) (HI.out _)).mono ?_
    rintro e w1 ⟨rfl, hb1⟩
    have B1 := Lib.hid ((bel1 w _).trans (hb1.mono (bel1 w _).size))
    clear hb1
    by_cases h2 : n ≤ 6
    · have g2 : decide ((n : Int) ≤ 6) = true := by simpa using (show (n : Int) ≤ 6 by omega)
      go_wp2_with fail
      go_ret
      exact ⟨by simp [h2], B1.out⟩
    · have g2 : decide ((n : Int) ≤ 6) = false := by simpa using (show ¬ (n : Int) ≤ 6 by omega)
      go_wp2_with fail
      go_ret
      exact ⟨by simp [h2], B1.out⟩
  · have g1 : decide ((m : Int) ≤ 24) = false := by simpa using (show ¬ (m : Int) ≤ 24 by omega)
    have e1 : decide (m ≤ 24) = false := by simpa using h1
    rw [e1, Bool.false_and]
    clear e1
    go_enter Tryz.func16, Tryz.ntmps16
    go_wp2_with fail
    go_ret
    exact ⟨rfl, Below.refl _ _⟩

set_option maxHeartbeats 1000000 in
theorem fault_any (v : Value) (l : List Nd) (p : Bool) (w : World) (hv : Nds w v l) (hl : l.length ≤ 1000) (hm : Rw.Nms l) :
    Calls Tryz.prog 34 #[v, .bool p] w fun e w' => e = .returned (.int .i64 (why l p)) ∧ Below w.heap.size w w' := by
  have HO := Lib.hid (fun w1 (hb : Below w.heap.size w w1) => Sx.onP_any l p v w1 (hv.below hb) hl hm)
  have HS := Lib.hid (fun w1 (hb : Below w.heap.size w w1) => small_any v l w1 (hv.below hb) hl)
  unfold why
  obtain ⟨_, a, c, rfl, -⟩ := hv
  generalize So.onB l p = o at HO ⊢
  generalize smallB l = s at HS ⊢
  clear hm
  cases o with
  | false =>
    go_enter Tryz.func34, Tryz.ntmps34
    go_wp2_with fail
    refine (HO.out _ (Below.refl _ _)).mono ?_
    rintro e w1 ⟨rfl, hb1⟩
    have B1 := Lib.hid hb1
    clear hb1
    go_wp2_with fail
    go_ret
    exact ⟨rfl, B1.out⟩
  | true =>
    cases s with
    | false =>
      go_enter Tryz.func34, Tryz.ntmps34
      go_wp2_with fail
      refine (HO.out _ (Below.refl _ _)).mono ?_
      rintro e w1 ⟨rfl, hb1⟩
      have B1 := Lib.hid hb1
      clear hb1
      go_wp2_with fail
      refine (HS.out _ B1.out).mono ?_
      rintro e w2 ⟨rfl, hb2⟩
      have B2 := Lib.hid (B1.out.trans (hb2.mono B1.out.size))
      clear hb2
      go_wp2_with fail
      go_ret
      exact ⟨rfl, B2.out⟩
    | true =>
      go_enter Tryz.func34, Tryz.ntmps34
      go_wp2_with fail
      refine (HO.out _ (Below.refl _ _)).mono ?_
      rintro e w1 ⟨rfl, hb1⟩
      have B1 := Lib.hid hb1
      clear hb1
      go_wp2_with fail
      refine (HS.out _ B1.out).mono ?_
      rintro e w2 ⟨rfl, hb2⟩
      have B2 := Lib.hid (B1.out.trans (hb2.mono B1.out.size))
      clear hb2
      go_wp2_with fail
      go_ret
      exact ⟨rfl, B2.out⟩
end Go.Proofs.YtghnonbcojbohaaGreatDoor.Mn

namespace Go.Proofs.YtghnonbcojbohaaGreatDoor.Mn
open Go Go.RowKit Tr
open Rw (Nd Nds)
set_option maxRecDepth 20000

/-- What is told, where it is. -/
def MtR (l : List Nd) : List Tr := if why l false = 0 then Mt l else []
def MpR (l : List Nd) : List Pr := if why l true = 0 then Mp l else []
def back (X : List Pr) : List Tr := norm (X.map (·.q))
def MbR (l : List Nd) : List Tr := if why l true = 0 then back (Mp l) else []
def TsPost (l : List Tr) (e0 : Int) (w : World) (e : Ending) (w' : World) : Prop := ∃ a c, e = .returned (.tuple #[.slice a l.length c, .int .i64 e0]) ∧ TsO any w' (.slice a l.length c) l ∧ Below w.heap.size w w'
def PsPost (l : List Pr) (e0 : Int) (w : World) (e : Ending) (w' : World) : Prop := ∃ a c, e = .returned (.tuple #[.slice a l.length c, .int .i64 e0]) ∧ PsO any w' (.slice a l.length c) l ∧ Below w.heap.size w w'
theorem ps_nil (ok : Nat → Prop) (w : World) : PsO ok w (.slice none 0 0) [] := ⟨[], ⟨rfl, none, 0, rfl, Nat.le_refl _, fun _ => ⟨rfl, rfl⟩, fun h => absurd h (Nat.lt_irrefl _)⟩, rfl⟩
theorem why_ok {l : List Nd} {p : Bool} (h : why l p = 0) : So.onB l p = true ∧ smallB l = true := by
  unfold why at h
  split at h
  · rename_i h1
    split at h
    · rename_i h2; exact ⟨h1, h2⟩
    · cases h
  · cases h

set_option maxHeartbeats 1000000 in
theorem plainP_any (v : Value) (l : List Nd) (w : World) (hv : Nds w v l) (hl : l.length ≤ 1000) (hm : Rw.Nms l) :
    Calls Tryz.prog 12 #[v] w (TsPost (MtR l) (why l false) w) := by
  have HF := Lib.hid (fault_any v l false w hv hl hm)
  have HP := Lib.hid (fun (h : why l false = 0) w1 (hb : Below w.heap.size w w1) => plain_on (why_ok h).1 (why_ok h).2 v w1 (hv.below hb))
  unfold MtR TsPost
  obtain ⟨_, a, c, rfl, -⟩ := hv
  obtain ⟨z, hz⟩ : ∃ z, why l false = z := ⟨_, rfl⟩
  rw [hz] at HF HP ⊢
  clear hm hz
  by_cases h0 : z = 0
  · subst h0
    rw [if_pos rfl]
    have HP' := Lib.hid (HP.out rfl)
    generalize Mt l = L at HP' ⊢
    clear HP
    go_enter Tryz.func12, Tryz.ntmps12
    go_wp2_with fail
    refine HF.out.mono ?_
    rintro e w1 ⟨rfl, hb1⟩
    have B1 := Lib.hid hb1
    clear hb1
    go_wp2_with fail
    refine (HP'.out _ B1.out).mono ?_
    rintro e w2 ⟨a2, n2, rfl, ht2, hb2⟩
    have T2 := Lib.hid (ht2.imp (ok' := any) fun _ _ _ => trivial)
    have B2 := Lib.hid (B1.out.trans (hb2.mono B1.out.size))
    clear ht2 hb2
    go_wp2_with fail
    go_ret2
    exact ⟨_, _, rfl, T2.out, B2.out⟩
  · rw [if_neg h0]
    have g0 : (z != 0) = true := by simp [h0]
    clear h0
    go_enter Tryz.func12, Tryz.ntmps12
    go_wp2_with fail
    refine HF.out.mono ?_
    rintro e w1 ⟨rfl, hb1⟩
    have B1 := Lib.hid hb1
    clear hb1
    go_wp2_with fail
    go_ret2
    exact ⟨_, _, rfl, ts_nil _ _, B1.out⟩

set_option maxHeartbeats 1000000 in
theorem pairedP_any (v : Value) (l : List Nd) (w : World) (hv : Nds w v l) (hl : l.length ≤ 1000) (hm : Rw.Nms l) :
    Calls Tryz.prog 18 #[v] w (PsPost (MpR l) (why l true) w) := by
  have HF := Lib.hid (fault_any v l true w hv hl hm)
  have HP := Lib.hid (fun (h : why l true = 0) w1 (hb : Below w.heap.size w w1) => paired_on (why_ok h).1 (why_ok h).2 v w1 (hv.below hb))
  unfold MpR PsPost
  obtain ⟨_, a, c, rfl, -⟩ := hv
  obtain ⟨z, hz⟩ : ∃ z, why l true = z := ⟨_, rfl⟩
  rw [hz] at HF HP ⊢
  clear hm hz
  by_cases h0 : z = 0
  · subst h0
    rw [if_pos rfl]
    have HP' := Lib.hid (HP.out rfl)
    generalize Mp l = L at HP' ⊢
    clear HP
    go_enter Tryz.func18, Tryz.ntmps18
    go_wp2_with fail
    refine HF.out.mono ?_
    rintro e w1 ⟨rfl, hb1⟩
    have B1 := Lib.hid hb1
    clear hb1
    go_wp2_with fail
    refine (HP'.out _ B1.out).mono ?_
    rintro e w2 ⟨a2, n2, rfl, ht2, hb2⟩
    have T2 := Lib.hid (ht2.imp (ok' := any) fun _ _ _ => trivial)
    have B2 := Lib.hid (B1.out.trans (hb2.mono B1.out.size))
    clear ht2 hb2
    go_wp2_with fail
    go_ret2
    exact ⟨_, _, rfl, T2.out, B2.out⟩
  · rw [if_neg h0]
    have g0 : (z != 0) = true := by simp [h0]
    clear h0
    go_enter Tryz.func18, Tryz.ntmps18
    go_wp2_with fail
    refine HF.out.mono ?_
    rintro e w1 ⟨rfl, hb1⟩
    have B1 := Lib.hid hb1
    clear hb1
    go_wp2_with fail
    go_ret2
    exact ⟨_, _, rfl, ps_nil _ _, B1.out⟩

set_option maxHeartbeats 1000000 in
theorem back1_any (ok : Nat → Prop) (v1 v2 : Value) (x : Pr) (w : World) (h1 : StrsO ok w v1 x.p.a) (h2 : StrsO ok w v2 x.q.a) :
    Calls Tryz.prog 43 #[.agg #[v1, .int .i64 x.p.e, v2, .int .i64 x.q.e]] w (OutT ok [x.q] w) := by
  have HB := Lib.hid (fun o => bel1 w o)
  have ON := Lib.hid (fun w1 (hb : Below w.heap.size w w1) => only_any ok v2 x.q w1 (so_below h2 hb))
  obtain ⟨_, a1, k1, rfl, _⟩ := h1
  obtain ⟨_, a2, k2, rfl, _⟩ := h2
  go_enter Tryz.func43, Tryz.ntmps43
  go_wp2_with fail
  refine (ON.out _ (HB.out _)).mono ?_
  intro e w2 ho
  have HO := Lib.hid (ho.up (HB.out _) fun b h => .inl h)
  obtain ⟨a4, k4, rfl, _, _⟩ := ho
  go_wp2_with fail
  go_ret
  exact HO.out

set_option maxHeartbeats 1000000 in
theorem backP_any (v : Value) (l : List Nd) (w : World) (hv : Nds w v l) (hl : l.length ≤ 1000) (hm : Rw.Nms l) :
    Calls Tryz.prog 20 #[v] w (TsPost (MbR l) (why l true) w) := by
  have HF := Lib.hid (fault_any v l true w hv hl hm)
  have HP := Lib.hid (fun (h : why l true = 0) w1 (hb : Below w.heap.size w w1) => paired_on (why_ok h).1 (why_ok h).2 v w1 (hv.below hb))
  have GPL : Hid (why l true = 0 → (Mp l).length ≤ 1000000000000 ∧ ∀ x ∈ Mp l, x.q.a.length ≤ 1000000) := Lib.hid fun h => by
    obtain ⟨h1, h2⟩ := why_ok h
    have g := gp (Sx.whole_tre (on_four h1).1) (on_four h1).2
    obtain ⟨s1, s2⟩ := small_of h2
    refine ⟨Nat.le_trans g.len (Nat.le_trans (K_last s1 s2) (by omega)), fun x hx => ?_⟩
    have := (g.cnt all).len hx
    unfold acs at s2
    omega
  unfold MbR TsPost
  obtain ⟨_, a, c, rfl, -⟩ := hv
  obtain ⟨z, hz⟩ : ∃ z, why l true = z := ⟨_, rfl⟩
  rw [hz] at HF HP GPL ⊢
  clear hm hz
  by_cases h0 : z = 0
  · subst h0
    rw [if_pos rfl]
    have HP' := Lib.hid (HP.out rfl)
    have hgp := GPL.out rfl
    have eg : ∀ args w, (callFunc 43 args).run Tryz.prog w = .ok (.enter 43 args) w := enters_of Tryz.func43 (by kernel_rfl) rfl
    have EG := Lib.hid eg
    unfold back
    generalize Mp l = X at HP' hgp ⊢
    have hmf := map_flat (fun x : Pr => x.q) X
    have hlen : (X.map (·.q)).length ≤ 1000000000000 := by rw [List.length_map]; exact hgp.1
    have EB := Lib.hid (fun y w1 hy => eachPT 43 #[] EG.out any y X (fun x => [x.q]) w1 hy (fun wr hb t ht v1 v2 h1 h2 => back1_any _ v1 v2 t wr h1 h2) hgp.1 (by rw [← hmf]; exact hlen))
    rw [← hmf] at EB
    have LS : Hid (∀ t ∈ X.map (·.q), t.a.length ≤ 1000000) := Lib.hid fun t ht => by
      obtain ⟨x, hx, rfl⟩ := List.mem_map.1 ht
      exact hgp.2 x hx
    have LB := Lib.hid hlen
    generalize X.map (·.q) = M at EB LS LB ⊢
    obtain ⟨N, hN⟩ : ∃ N, norm M = N := ⟨_, rfl⟩
    rw [hN]
    have HN := Lib.hid hN
    clear HP hN hlen hmf eg hgp GPL
    go_enter Tryz.func20, Tryz.ntmps20
    go_wp2_with fail
    refine HF.out.mono ?_
    rintro e w1 ⟨rfl, hb1⟩
    have B1 := Lib.hid hb1
    clear hb1
    go_wp2_with fail
    refine (HP'.out _ B1.out).mono ?_
    rintro e w2 ⟨a2, n2, rfl, ht2, hb2⟩
    have T2 := Lib.hid (ht2.imp (ok' := any) fun _ _ _ => trivial)
    have B2 := Lib.hid (B1.out.trans (hb2.mono B1.out.size))
    clear ht2 hb2
    go_wp2_with fail
    refine (EB.out _ _ T2.out).mono ?_
    rintro e w3 ⟨a3, n3, rfl, ht3, hb3⟩
    have B3 := Lib.hid (B2.out.trans (hb3.mono B2.out.size))
    have CS := Lib.hid (tcon.cSet _ M w3 ht3.trs LB.out LS.out)
    rw [HN.out] at CS
    clear ht3 hb3
    go_wp2_with fail
    refine CS.out.mono ?_
    rintro e w4 ⟨v4, rfl, ht4, hb4⟩
    have B4 := Lib.hid (B3.out.trans (hb4.mono B3.out.size))
    have T4 := Lib.hid (TsO.of ht4)
    obtain ⟨_, ⟨_, a4, n4, rfl, _⟩, _⟩ := ht4
    clear hb4
    go_wp2_with fail
    go_ret2
    exact ⟨_, _, rfl, T4.out, B4.out⟩
  · rw [if_neg h0]
    have g0 : (z != 0) = true := by simp [h0]
    clear h0
    go_enter Tryz.func20, Tryz.ntmps20
    go_wp2_with fail
    refine HF.out.mono ?_
    rintro e w1 ⟨rfl, hb1⟩
    have B1 := Lib.hid hb1
    clear hb1
    go_wp2_with fail
    go_ret2
    exact ⟨_, _, rfl, ts_nil _ _, B1.out⟩
end Go.Proofs.YtghnonbcojbohaaGreatDoor.Mn

namespace Go.Proofs.YtghnonbcojbohaaGreatDoor.Mn
open Go Go.RowKit Tr
open Rw (Nd Nds)
set_option maxRecDepth 20000

theorem all_ref : ∀ (m : Nat) (l : List Nd), l.length ≤ m → So.Tre l → l.length ≤ 24 → acs l ≤ 6 → (So.Is 3 l = true → RT l) ∧ (So.Is 4 l = true → RP l)
  | 0, l, h, ht, _, _ => absurd ht.pos (by omega)
  | m + 1, l, h, ht, h24, h6 => by
    have hk : ∀ a ∈ Rw.kids l, (So.Is 3 a = true → RT a) ∧ (So.Is 4 a = true → RP a) := fun a ha => by
      have har := ht.ar
      have h3 : Rw.ar (So.hd l) = 0 ∨ Rw.ar (So.hd l) = 1 ∨ Rw.ar (So.hd l) = 2 := by
        unfold Rw.ar at har ⊢
        repeat' split
        all_goals simp_all
      rcases h3 with h0 | h1 | h2
      · obtain ⟨x, rfl, _⟩ := cut0 ht h0
        have : Rw.kids [x] = [] := List.eq_nil_of_length_eq_zero (by rw [ht.kids.1, h0]; rfl)
        rw [this] at ha
        cases ha
      · obtain ⟨b, hkk, _, tb, hl, hc, _⟩ := cut1 ht h1
        rw [hkk, List.mem_singleton] at ha
        subst ha
        have := hc all
        exact all_ref m a (by omega) tb (by omega) (by unfold acs at *; omega)
      · obtain ⟨b, c, hkk, _, _, tb, tc, hl, hc, _⟩ := cut2 ht h2
        have := hc all
        rw [hkk] at ha
        rcases List.mem_cons.1 ha with rfl | ha
        · exact all_ref m a (by omega) tb (by omega) (by unfold acs at *; omega)
        · rw [List.mem_singleton] at ha
          subst ha
          exact all_ref m a (by omega) tc (by omega) (by unfold acs at *; omega)
    match l, ht, h24, h6, hk with
    | [], ht, _, _, _ => exact absurd ht.pos (by simp)
    | ⟨k, nm', sg'⟩ :: rest, ht, h24, h6, hk =>
      exact ⟨fun hi v w hv => traces_step k nm' sg' rest v w hv ht hi h24 h6 (fun a ha => (hk a ha).1) fun a ha => (hk a ha).2,
        fun hi v w hv => pairs_step k nm' sg' rest v w hv ht hi h24 h6 (fun a ha => (hk a ha).1) fun a ha => (hk a ha).2⟩
theorem traces_on {l : List Nd} (h : So.onB l false = true) (hs : smallB l = true) : RT l :=
  (all_ref l.length l (Nat.le_refl _) (Sx.whole_tre (on_three h).1) (small_of hs).1 (small_of hs).2).1 (on_three h).2
theorem pairs_on {l : List Nd} (h : So.onB l true = true) (hs : smallB l = true) : RP l :=
  (all_ref l.length l (Nat.le_refl _) (Sx.whole_tre (on_four h).1) (small_of hs).1 (small_of hs).2).2 (on_four h).2

set_option maxHeartbeats 1000000 in
theorem smallR_any (v : Value) (l : List Nd) (w : World) (hv : Nds w v l) (hl : l.length ≤ 1000) :
    Calls Tryz.prog 17 #[v] w fun e w' => e = .returned (.bool (smallB l)) ∧ Below w.heap.size w w' := by
  have HC := Lib.hid (fun y w1 (hb : Below w.heap.size w w1) hy => Rw.cntR_any v y l [1] w1 (hv.below hb) hy (by omega) (by simp))
  have ha := acs_cnt l
  rw [← ha] at HC
  have hsm : smallB l = (decide (l.length ≤ 24) && decide (acs l ≤ 6)) := rfl
  rw [hsm]
  generalize acs l = n at HC ⊢
  obtain ⟨_, a, c, rfl, -⟩ := hv
  obtain ⟨m, hm⟩ : ∃ m, l.length = m := ⟨_, rfl⟩
  rw [hm] at HC hl ⊢
  clear ha hsm hm
  have HI := Lib.hid (fun ty => ints_one w 1 ty)
  by_cases h1 : m ≤ 24
  · have g1 : decide ((m : Int) ≤ 24) = true := by simpa using (show (m : Int) ≤ 24 by omega)
    have e1 : decide (m ≤ 24) = true := by simpa using h1
    rw [e1, Bool.true_and]
    clear e1
    go_enter Tryz.func17, Tryz.ntmps17
    go_wp2_with fail
    refine (HC.out _ _ (bel1 _ _) (HI.out _)).mono ?_
    rintro e w1 ⟨rfl, hb1⟩
    have B1 := Lib.hid ((bel1 w _).trans (hb1.mono (bel1 w _).size))
    clear hb1
    by_cases h2 : n ≤ 6
    · have g2 : decide ((n : Int) ≤ 6) = true := by simpa using (show (n : Int) ≤ 6 by omega)
      go_wp2_with fail
      go_ret
      exact ⟨by simp [h2], B1.out⟩
    · have g2 : decide ((n : Int) ≤ 6) = false := by simpa using (show ¬ (n : Int) ≤ 6 by omega)
      go_wp2_with fail
      go_ret
      exact ⟨by simp [h2], B1.out⟩
  · have g1 : decide ((m : Int) ≤ 24) = false := by simpa using (show ¬ (m : Int) ≤ 24 by omega)
    have e1 : decide (m ≤ 24) = false := by simpa using h1
    rw [e1, Bool.false_and]
    clear e1
    go_enter Tryz.func17, Tryz.ntmps17
    go_wp2_with fail
    go_ret
    exact ⟨rfl, Below.refl _ _⟩

set_option maxHeartbeats 1000000 in
theorem checkR_any (v : Value) (l : List Nd) (p : Bool) (w : World) (hv : Nds w v l) (hl : l.length ≤ 1000) (hm : Rw.Nms l) :
    Calls Tryz.prog 36 #[v, .bool p] w fun e w' => e = .returned (.int .i64 (why l p)) ∧ Below w.heap.size w w' := by
  have HO := Lib.hid (fun w1 (hb : Below w.heap.size w w1) => So.onR_any l p v w1 (hv.below hb) hl hm)
  have HS := Lib.hid (fun w1 (hb : Below w.heap.size w w1) => smallR_any v l w1 (hv.below hb) hl)
  unfold why
  generalize So.onB l p = on at HO ⊢
  generalize smallB l = sm at HS ⊢
  obtain ⟨_, a, c, rfl, -⟩ := hv
  clear hm
  cases on
  · go_enter Tryz.func36, Tryz.ntmps36
    go_wp2_with fail
    refine (HO.out _ (Below.refl _ _)).mono ?_
    rintro e w1 ⟨rfl, hb1⟩
    have B1 := Lib.hid hb1
    clear hb1
    go_wp2_with fail
    go_ret
    exact ⟨rfl, B1.out⟩
  · cases sm
    all_goals
      go_enter Tryz.func36, Tryz.ntmps36
      go_wp2_with fail
      refine (HO.out _ (Below.refl _ _)).mono ?_
      rintro e w1 ⟨rfl, hb1⟩
      have B1 := Lib.hid hb1
      clear hb1
      go_wp2_with fail
      refine (HS.out _ B1.out).mono ?_
      rintro e w2 ⟨rfl, hb2⟩
      have B2 := Lib.hid (B1.out.trans (hb2.mono B1.out.size))
      clear hb2
      go_wp2_with fail
      go_ret
      exact ⟨rfl, B2.out⟩

set_option maxHeartbeats 1000000 in
theorem plainR_any (v : Value) (l : List Nd) (w : World) (hv : Nds w v l) (hl : l.length ≤ 1000) (hm : Rw.Nms l) :
    Calls Tryz.prog 13 #[v] w (TsPost (MtR l) (why l false) w) := by
  have HF := Lib.hid (checkR_any v l false w hv hl hm)
  have HP := Lib.hid (fun (h : why l false = 0) w1 (hb : Below w.heap.size w w1) => traces_on (why_ok h).1 (why_ok h).2 v w1 (hv.below hb))
  unfold MtR TsPost
  obtain ⟨_, a, c, rfl, -⟩ := hv
  obtain ⟨z, hz⟩ : ∃ z, why l false = z := ⟨_, rfl⟩
  rw [hz] at HF HP ⊢
  clear hm hz
  by_cases h0 : z = 0
  · subst h0
    rw [if_pos rfl]
    have HP' := Lib.hid (HP.out rfl)
    generalize Mt l = L at HP' ⊢
    clear HP
    go_enter Tryz.func13, Tryz.ntmps13
    go_wp2_with fail
    refine HF.out.mono ?_
    rintro e w1 ⟨rfl, hb1⟩
    have B1 := Lib.hid hb1
    clear hb1
    go_wp2_with fail
    refine (HP'.out _ B1.out).mono ?_
    rintro e w2 ⟨a2, n2, rfl, ht2, hb2⟩
    have T2 := Lib.hid (ht2.imp (ok' := any) fun _ _ _ => trivial)
    have B2 := Lib.hid (B1.out.trans (hb2.mono B1.out.size))
    clear ht2 hb2
    go_wp2_with fail
    go_ret2
    exact ⟨_, _, rfl, T2.out, B2.out⟩
  · rw [if_neg h0]
    have g0 : (z != 0) = true := by simp [h0]
    clear h0
    go_enter Tryz.func13, Tryz.ntmps13
    go_wp2_with fail
    refine HF.out.mono ?_
    rintro e w1 ⟨rfl, hb1⟩
    have B1 := Lib.hid hb1
    clear hb1
    go_wp2_with fail
    go_ret2
    exact ⟨_, _, rfl, ts_nil _ _, B1.out⟩

set_option maxHeartbeats 1000000 in
theorem pairedR_any (v : Value) (l : List Nd) (w : World) (hv : Nds w v l) (hl : l.length ≤ 1000) (hm : Rw.Nms l) :
    Calls Tryz.prog 19 #[v] w (PsPost (MpR l) (why l true) w) := by
  have HF := Lib.hid (checkR_any v l true w hv hl hm)
  have HP := Lib.hid (fun (h : why l true = 0) w1 (hb : Below w.heap.size w w1) => pairs_on (why_ok h).1 (why_ok h).2 v w1 (hv.below hb))
  unfold MpR PsPost
  obtain ⟨_, a, c, rfl, -⟩ := hv
  obtain ⟨z, hz⟩ : ∃ z, why l true = z := ⟨_, rfl⟩
  rw [hz] at HF HP ⊢
  clear hm hz
  by_cases h0 : z = 0
  · subst h0
    rw [if_pos rfl]
    have HP' := Lib.hid (HP.out rfl)
    generalize Mp l = L at HP' ⊢
    clear HP
    go_enter Tryz.func19, Tryz.ntmps19
    go_wp2_with fail
    refine HF.out.mono ?_
    rintro e w1 ⟨rfl, hb1⟩
    have B1 := Lib.hid hb1
    clear hb1
    go_wp2_with fail
    refine (HP'.out _ B1.out).mono ?_
    rintro e w2 ⟨a2, n2, rfl, ht2, hb2⟩
    have T2 := Lib.hid (ht2.imp (ok' := any) fun _ _ _ => trivial)
    have B2 := Lib.hid (B1.out.trans (hb2.mono B1.out.size))
    clear ht2 hb2
    go_wp2_with fail
    go_ret2
    exact ⟨_, _, rfl, T2.out, B2.out⟩
  · rw [if_neg h0]
    have g0 : (z != 0) = true := by simp [h0]
    clear h0
    go_enter Tryz.func19, Tryz.ntmps19
    go_wp2_with fail
    refine HF.out.mono ?_
    rintro e w1 ⟨rfl, hb1⟩
    have B1 := Lib.hid hb1
    clear hb1
    go_wp2_with fail
    go_ret2
    exact ⟨_, _, rfl, ps_nil _ _, B1.out⟩

end Go.Proofs.YtghnonbcojbohaaGreatDoor.Mn

namespace Go.Proofs.YtghnonbcojbohaaGreatDoor.Mn
open Go Go.RowKit Tr
open Rw (Nd Nds)
set_option maxRecDepth 20000

set_option maxHeartbeats 2000000 in
theorem backR_any (v : Value) (l : List Nd) (w : World) (hv : Nds w v l) (hl : l.length ≤ 1000) (hm : Rw.Nms l) :
    Calls Tryz.prog 21 #[v] w (TsPost (MbR l) (why l true) w) := by
  have HF := Lib.hid (checkR_any v l true w hv hl hm)
  have HP := Lib.hid (fun (h : why l true = 0) w1 (hb : Below w.heap.size w w1) => pairs_on (why_ok h).1 (why_ok h).2 v w1 (hv.below hb))
  have GPL : Hid (why l true = 0 → (Mp l).length ≤ 1000000000000 ∧ ∀ x ∈ Mp l, x.q.a.length ≤ 1000000) := Lib.hid fun h => by
    obtain ⟨h1, h2⟩ := why_ok h
    have g := gp (Sx.whole_tre (on_four h1).1) (on_four h1).2
    obtain ⟨s1, s2⟩ := small_of h2
    refine ⟨Nat.le_trans g.len (Nat.le_trans (K_last s1 s2) (by omega)), fun x hx => ?_⟩
    have := (g.cnt all).len hx
    unfold acs at s2
    omega
  unfold MbR TsPost
  obtain ⟨_, a, c, rfl, -⟩ := hv
  obtain ⟨z, hz⟩ : ∃ z, why l true = z := ⟨_, rfl⟩
  rw [hz] at HF HP GPL ⊢
  clear hm hz
  by_cases h0 : z = 0
  · subst h0
    rw [if_pos rfl]
    have HP' := Lib.hid (HP.out rfl)
    have hgp := GPL.out rfl
    unfold back
    generalize Mp l = X at HP' hgp ⊢
    have hX := hgp.1
    have HX := Lib.hid hgp.2
    have HSET := Lib.hid (fun y w1 (h : TsO any w1 y (X.map (·.q))) => setTR_any _ any y (X.map (·.q)) w1 (Nat.le_refl _) (by rw [List.length_map]; exact hX) h (fun t ht => by obtain ⟨x, hx, rfl⟩ := List.mem_map.1 ht; exact HX.out x hx))
    have hQL : (X.map (·.q)).length ≤ 1000000000000 := by rw [List.length_map]; exact hX
    obtain ⟨L, hL⟩ : ∃ L, X.map (·.q) = L := ⟨_, rfl⟩
    rw [hL] at HSET ⊢
    have HL := Lib.hid hL
    clear HP GPL hgp HX hL hQL
    generalize norm L = L2 at HSET ⊢
    go_enter Tryz.func21, Tryz.ntmps21
    go_wp2_with fail
    refine HF.out.mono ?_
    rintro e w1 ⟨rfl, hb1⟩
    have B1 := Lib.hid hb1
    clear hb1
    go_wp2_with fail
    refine (HP'.out _ B1.out).mono ?_
    rintro e w2 ⟨a2, n2, rfl, ht2, hb2⟩
    have B2 := Lib.hid (B1.out.trans (hb2.mono B1.out.size))
    have T2 : Hid (PsO any w2 (.slice a2 X.length n2) X) := Lib.hid (ht2.imp fun _ _ _ => trivial)
    have TV := Lib.hid (show ∀ k, (hk : k < X.length) → ∃ b off x y, a2 = some ⟨b, off, none⟩ ∧ w2.cell? ⟨b, off + k * 4, none⟩ = some x ∧ w2.cell? ⟨b, off + k * 4 + 1, none⟩ = some (.int .i64 X[k].p.e) ∧ w2.cell? ⟨b, off + k * 4 + 2, none⟩ = some y ∧ w2.cell? ⟨b, off + k * 4 + 3, none⟩ = some (.int .i64 X[k].q.e) ∧ StrsO any w2 x X[k].p.a ∧ StrsO any w2 y X[k].q.a from fun k hk => by
      obtain ⟨_, _, hv, _, hc⟩ := T2.out.val
      cases hv
      obtain ⟨b, off, x, y, h1, _, h2⟩ := hc k hk
      exact ⟨b, off, x, y, h1, h2⟩)
    clear ht2 hb2
    go_wp2_with fail
    go_loopw [5, 7] (fun v i wr => ∃ (k : Nat) (cs : List Value), k ≤ X.length ∧ i = .int .i64 k ∧ Below w2.heap.size w2 wr ∧ wr.ownsRow w2.heap.size 67 2 v ((X.take k).map (·.q)).length cs ∧ Cl (ET (Apart (New any w2) v) wr) 2 ((X.take k).map (·.q)) cs) (fun _ i _ => X.length - (intOf i).toNat)
    case atStart => exact ⟨0, [], Nat.zero_le _, rfl, Below.refl _ _, ⟨rfl, .inl ⟨rfl, rfl⟩⟩, rfl⟩
    case round =>
      obtain ⟨k, cs, hk, rfl, hb, hown, hcs⟩ := hrel
      have WB := Lib.hid hb
      have WO := Lib.hid hown
      have WC := Lib.hid hcs
      clear hb hown hcs
      by_cases hlt : k < X.length
      · obtain ⟨b1, o1, va1, va2, rfl, e1, e2, e3, e4, s1, s2⟩ := TV.out k hlt
        have HSK := Lib.hid (show (X.take (k + 1)).map (·.q) = (X.take k).map (·.q) ++ [X[k].q] by rw [List.take_succ_eq_append_getElem hlt, List.map_append]; rfl)
        have hPL : ((X.take k).map (·.q)).length ≤ 1000000000000 := by rw [List.length_map, List.length_take]; omega
        generalize X[k] = p at *
        obtain ⟨PP, hPP⟩ : ∃ PP, (X.take k).map (·.q) = PP := ⟨_, rfl⟩
        rw [hPP] at WO WC HSK hPL
        clear hPP
        have HA2 := Lib.hid s2
        obtain ⟨_, a3, n3, rfl, _⟩ := id s1
        obtain ⟨_, a4, n4, rfl, _⟩ := id s2
        have q0 : wr.cell? ⟨b1, o1 + k * 4, none⟩ = some (.slice a3 p.p.a.length n3) := by rw [WB.out.cell (Ap.cell_lt e1)]; exact e1
        have q1 : wr.cell? ⟨b1, o1 + k * 4 + 1, none⟩ = some (.int .i64 p.p.e) := by rw [WB.out.cell (Ap.cell_lt e2)]; exact e2
        have q2 : wr.cell? ⟨b1, o1 + k * 4 + 2, none⟩ = some (.slice a4 p.q.a.length n4) := by rw [WB.out.cell (Ap.cell_lt e3)]; exact e3
        have q3 : wr.cell? ⟨b1, o1 + k * 4 + 3, none⟩ = some (.int .i64 p.q.e) := by rw [WB.out.cell (Ap.cell_lt e4)]; exact e4
        obtain ⟨v2, w3, hrun, hown2, hg2, hb2, hf2⟩ := app1T (x := p.q) WO.out WB.out.size (so_below (so_old HA2.out) WB.out) (by omega)
        have RUN := Lib.hid hrun
        have O2 := Lib.hid hown2
        have B2' := Lib.hid (WB.out.trans hb2)
        have C2 := Lib.hid (accT (M := [p.q]) WB.out WO.out WC.out (Below.refl _ _) (Cl.one ⟨_, rfl, so_imp (so_below (so_old HA2.out) WB.out) fun b _ h => .inl h⟩ rfl) hg2 hf2)
        clear hrun hown2 hg2 hb2 hf2 e1 e2 e3 e4 s1 s2
        go_wp2_with (at_builtin; refine Ap.wpList_append_run (by rfl) _ _ _ _ rfl _ _ rfl rfl v2 w3 RUN.out ?_)
        go_roundw
        case rel => exact ⟨k + 1, _, by omega, by go_num, B2'.out, by rw [HSK.out]; exact O2.out, by rw [HSK.out]; exact C2.out⟩
        case measure => simp [intOf]; omega
      · have hkl : k = X.length := by omega
        subst hkl
        have O := WO.out
        have C := WC.out
        rw [List.take_length, HL.out] at O C
        have TT := Lib.hid ((tellT O C).imp (ok' := any) fun _ _ _ => trivial)
        have B3 := Lib.hid (B2.out.trans (WB.out.mono B2.out.size))
        obtain ⟨_, a9, c9, hv, _⟩ := Ap.Rd.owned O
        subst hv
        clear O C WO WC
        go_wp2_with fail
        refine (HSET.out _ _ TT.out).mono ?_
        rintro e w4 ⟨a5, n5, rfl, ht5, hb5⟩
        have T5 := Lib.hid (ht5.imp (ok' := any) fun _ _ _ => trivial)
        have B5 := Lib.hid (B3.out.trans (hb5.mono B3.out.size))
        clear ht5 hb5
        go_wp2_with fail
        go_ret2
        exact ⟨_, _, rfl, T5.out, B5.out⟩
  · rw [if_neg h0]
    have g0 : (z != 0) = true := by simp [h0]
    clear h0
    go_enter Tryz.func21, Tryz.ntmps21
    go_wp2_with fail
    refine HF.out.mono ?_
    rintro e w1 ⟨rfl, hb1⟩
    have B1 := Lib.hid hb1
    clear hb1
    go_wp2_with fail
    go_ret2
    exact ⟨_, _, rfl, ts_nil _ _, B1.out⟩

set_option maxHeartbeats 2000000 in
theorem oldsP_any (x : Value) (X : List Pr) (w : World) (hx : PsO any w x X) (hn : X.length ≤ 1000000000000) :
    Calls Tryz.prog 23 #[x] w (OutP any X w) := by
  obtain ⟨ax, cx, rfl, _, hvx⟩ := hx.val
  have HX := Lib.hid hvx
  unfold OutP
  clear hvx hx
  go_enter Tryz.func23, Tryz.ntmps23
  go_wp2_with fail
  go_loopw [3, 8] (fun v i wr => ∃ (k : Nat) (cs : List Value), k ≤ X.length ∧ i = .int .i64 k ∧ Below w.heap.size w wr ∧ wr.ownsRow w.heap.size 75 4 v (X.take k).length cs ∧ Cl (EP (Apart (New any w) v) wr) 4 (X.take k) cs) (fun _ i _ => X.length - (intOf i).toNat)
  case atStart => exact ⟨0, [], Nat.zero_le _, rfl, Below.refl _ _, ⟨rfl, .inl ⟨rfl, rfl⟩⟩, rfl⟩
  case round =>
    obtain ⟨k, cs, hk, rfl, hb, hown, hcs⟩ := hrel
    have WB := Lib.hid hb
    have WO := Lib.hid hown
    have WC := Lib.hid hcs
    clear hb hown hcs
    by_cases hlt : k < X.length
    · obtain ⟨b1, o1, va1, va2, rfl, _, e1, e2, e3, e4, s1, s2⟩ := HX.out k hlt
      have HSK := Lib.hid (List.take_succ_eq_append_getElem hlt)
      have hPL : (X.take k).length ≤ 1000000000000 := by rw [List.length_take]; omega
      generalize X[k] = p at *
      obtain ⟨PP, hPP⟩ : ∃ PP, X.take k = PP := ⟨_, rfl⟩
      rw [hPP] at WO WC HSK hPL
      clear hPP
      have HA1 := Lib.hid s1
      have HA2 := Lib.hid s2
      obtain ⟨_, a3, n3, rfl, _⟩ := id s1
      obtain ⟨_, a4, n4, rfl, _⟩ := id s2
      have q0 : wr.cell? ⟨b1, o1 + k * 4, none⟩ = some (.slice a3 p.p.a.length n3) := by rw [WB.out.cell (Ap.cell_lt e1)]; exact e1
      have q1 : wr.cell? ⟨b1, o1 + k * 4 + 1, none⟩ = some (.int .i64 p.p.e) := by rw [WB.out.cell (Ap.cell_lt e2)]; exact e2
      have q2 : wr.cell? ⟨b1, o1 + k * 4 + 2, none⟩ = some (.slice a4 p.q.a.length n4) := by rw [WB.out.cell (Ap.cell_lt e3)]; exact e3
      have q3 : wr.cell? ⟨b1, o1 + k * 4 + 3, none⟩ = some (.int .i64 p.q.e) := by rw [WB.out.cell (Ap.cell_lt e4)]; exact e4
      clear e1 e2 e3 e4 s1 s2
      have B1 : Hid (Below wr.heap.size wr (wr.alloc (.cells #[.slice a3 p.p.a.length n3, .int .i64 p.p.e, .slice a4 p.q.a.length n4, .int .i64 p.q.e] 62))) := (Below.refl _ _).alloc (Nat.le_refl _) _
      have S1 := WB.out.trans (B1.out.mono WB.out.size)
      obtain ⟨v2, w3, hrun, hown2, hg2, hb2, hf2⟩ := app1P (x := p) (Ap.own_below WO.out B1.out) S1.size (so_below (so_old HA1.out) S1) (so_below (so_old HA2.out) S1) (by omega)
      rw [show (wr.alloc (.cells #[.slice a3 p.p.a.length n3, .int .i64 p.p.e, .slice a4 p.q.a.length n4, .int .i64 p.q.e] _)).heap.size = wr.heap.size + 1 by simp] at hrun
      have RUN := Lib.hid hrun
      have O2 := Lib.hid hown2
      have B2 := Lib.hid (S1.trans hb2)
      have C2 := Lib.hid (accP (M := [p]) WB.out WO.out WC.out B1.out (Cl.one ⟨_, _, rfl, so_imp (so_below (so_old HA1.out) S1) fun b _ h => .inl h, so_imp (so_below (so_old HA2.out) S1) fun b _ h => .inl h⟩ rfl) hg2 hf2)
      clear hrun hown2 hg2 hb2 hf2 S1
      go_wp2_with (at_builtin; refine Ap.wpList_append_run (by rfl) _ _ _ _ rfl _ _ rfl rfl v2 w3 RUN.out ?_)
      go_roundw
      case rel => exact ⟨k + 1, _, by omega, by go_num, B2.out, by rw [HSK.out]; exact O2.out, by rw [HSK.out]; exact C2.out⟩
      case measure => simp [intOf]; omega
    · have hkl : k = X.length := by omega
      subst hkl
      have O := WO.out
      have C := WC.out
      rw [List.take_length] at O C
      have TT := Lib.hid (tellP O C)
      obtain ⟨_, a9, c9, hv, _⟩ := Ap.Rd.owned O
      subst hv
      clear O C
      go_wp2_with fail
      go_ret
      exact ⟨_, _, rfl, TT.out, WB.out⟩

set_option maxHeartbeats 2000000 in
theorem sameP_self (x y : Value) (X : List Pr) (w : World) (hx : PsO any w x X) (hy : PsO any w y X) (hn : X.length ≤ 1000000000000) (hrow : ∀ x ∈ X, x.p.a.length ≤ 1000000 ∧ x.q.a.length ≤ 1000000) :
    Calls Tryz.prog 22 #[x, y] w fun e w' => e = .returned (.bool true) ∧ Below w.heap.size w w' := by
  obtain ⟨ax, cx, rfl, _, hvx⟩ := hx.val
  obtain ⟨ay, cy, rfl, _, hvy⟩ := hy.val
  have HX := Lib.hid hvx
  have HY := Lib.hid hvy
  have HR := Lib.hid hrow
  clear hvx hvy hx hy hrow
  go_enter Tryz.func22, Tryz.ntmps22
  go_wp2_with fail
  go_loopw [5] (fun i wr => ∃ (k : Nat), k ≤ X.length ∧ i = .int .i64 k ∧ Below w.heap.size w wr) (fun i _ => X.length - (intOf i).toNat)
  case atStart => exact ⟨0, Nat.zero_le _, rfl, Below.refl _ _⟩
  case round =>
    obtain ⟨k, hk, rfl, hb⟩ := hrel
    have WB := Lib.hid hb
    clear hb
    by_cases hlt : k < X.length
    · obtain ⟨b1, o1, va1, va2, rfl, _, e1, e2, e3, e4, s1, s2⟩ := HX.out k hlt
      obtain ⟨b2, o2, vb1, vb2, rfl, _, f1, f2, f3, f4, t1, t2⟩ := HY.out k hlt
      have hr := HR.out _ (List.getElem_mem hlt)
      generalize X[k] = p at *
      have CC := Lib.hid (fun w1 (hb : Below w.heap.size w w1) => pcmpR va1 va2 vb1 vb2 p p w1 (so_strs (so_below s1 hb)) (so_strs (so_below s2 hb)) (so_strs (so_below t1 hb)) (so_strs (so_below t2 hb)) hr hr)
      have hps := pcmp_self p
      rw [hps] at CC
      clear hps hr
      obtain ⟨_, a3, n3, rfl, _⟩ := id s1
      obtain ⟨_, a4, n4, rfl, _⟩ := id s2
      obtain ⟨_, d3, m3, rfl, _⟩ := id t1
      obtain ⟨_, d4, m4, rfl, _⟩ := id t2
      have SA : Hid (∀ w1, Below w.heap.size w w1 → (w1.cell? ⟨b1, o1 + k * 4, none⟩ = some (.slice a3 p.p.a.length n3) ∧ w1.cell? ⟨b1, o1 + k * 4 + 1, none⟩ = some (.int .i64 p.p.e) ∧ w1.cell? ⟨b1, o1 + k * 4 + 2, none⟩ = some (.slice a4 p.q.a.length n4) ∧ w1.cell? ⟨b1, o1 + k * 4 + 3, none⟩ = some (.int .i64 p.q.e)) ∧
          w1.cell? ⟨b2, o2 + k * 4, none⟩ = some (.slice d3 p.p.a.length m3) ∧ w1.cell? ⟨b2, o2 + k * 4 + 1, none⟩ = some (.int .i64 p.p.e) ∧ w1.cell? ⟨b2, o2 + k * 4 + 2, none⟩ = some (.slice d4 p.q.a.length m4) ∧ w1.cell? ⟨b2, o2 + k * 4 + 3, none⟩ = some (.int .i64 p.q.e)) :=
        Lib.hid fun w1 hb => ⟨⟨by rw [hb.cell (Ap.cell_lt e1)]; exact e1, by rw [hb.cell (Ap.cell_lt e2)]; exact e2, by rw [hb.cell (Ap.cell_lt e3)]; exact e3, by rw [hb.cell (Ap.cell_lt e4)]; exact e4⟩, by rw [hb.cell (Ap.cell_lt f1)]; exact f1, by rw [hb.cell (Ap.cell_lt f2)]; exact f2, by rw [hb.cell (Ap.cell_lt f3)]; exact f3, by rw [hb.cell (Ap.cell_lt f4)]; exact f4⟩
      obtain ⟨⟨q0, q1, q2, q3⟩, r0, r1, r2, r3⟩ := SA.out _ WB.out
      clear e1 e2 e3 e4 f1 f2 f3 f4 s1 s2 t1 t2
      go_wp2_with fail
      go_region_held3 (fun w' => (w'.cell? ⟨b1, o1 + k * 4, none⟩ = some (.slice a3 p.p.a.length n3) ∧ w'.cell? ⟨b1, o1 + k * 4 + 1, none⟩ = some (.int .i64 p.p.e) ∧ w'.cell? ⟨b1, o1 + k * 4 + 2, none⟩ = some (.slice a4 p.q.a.length n4) ∧ w'.cell? ⟨b1, o1 + k * 4 + 3, none⟩ = some (.int .i64 p.q.e)) ∧
          w'.cell? ⟨b2, o2 + k * 4, none⟩ = some (.slice d3 p.p.a.length m3) ∧ w'.cell? ⟨b2, o2 + k * 4 + 1, none⟩ = some (.int .i64 p.p.e) ∧ w'.cell? ⟨b2, o2 + k * 4 + 2, none⟩ = some (.slice d4 p.q.a.length m4) ∧ w'.cell? ⟨b2, o2 + k * 4 + 3, none⟩ = some (.int .i64 p.q.e)) (first | exact SA.out _ WB.out.drew | exact SA.out _ B1.out | fail) (first
        | (go_at_call 46
           (with_reducible refine (CC.out _ WB.out.drew).mono ?_)
           rintro e w1 ⟨rfl, hb1⟩
           have B1 := Lib.hid (WB.out.drew.trans (hb1.mono WB.out.drew.size))
           clear hb1)
        | fail)
      go_wp2_with fail
      go_roundw
      case rel => exact ⟨k + 1, by omega, by go_num, B1.out⟩
      case measure => simp [intOf]; omega
    · have hkl : k = X.length := by omega
      subst hkl
      go_wp2_with fail
      go_ret
      exact ⟨rfl, WB.out⟩
end Go.Proofs.YtghnonbcojbohaaGreatDoor.Mn
