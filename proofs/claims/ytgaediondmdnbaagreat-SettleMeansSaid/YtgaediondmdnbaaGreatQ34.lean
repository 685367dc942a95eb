/- The program's plain and paired of any tree; Small, fault, Plain, Paired, Back: the walks. The program's Plain, Paired, Back: the walks. The document's Traces and Pairs of any tree; Small, check, Plain, Paired: the walks. The document's Back, and Same of pairs; the statements' own Olds of pairs: the walks. What the statements call: few, plain, same, texts, act; rows that are too long for anything: the walks. The statements' own first look at package mean: what it asks, plain. The statements' own first look at package mean: the walk. MeanPlain and MeanPaired: the walks. SettleMeans: the walk. -/
import Derived.Test.YtgaediondmdnbaaGreatQ33
import Derived.Test.YtgaediondmdnbaaGreatQ31
import Derived.Test.YtgaediondmdnbaaGreatQ06
import Derived.Test.YtgaediondmdnbaaGreatQ11
import Derived.Test.YtgaediondmdnbaaGreatQ10
import Derived.Test.YtgaediondmdnbaaGreatQ28
import Derived.Test.YtgaediondmdnbaaGreatQ09
import Derived.Test.YtgaediondmdnbaaGreatQ05
import Derived.Test.YtgaediondmdnbaaGreatQ23
import Derived.Test.YtgaediondmdnbaaGreatQ24
import Derived.Test.YtgaediondmdnbaaGreatQ18

namespace Go.Proofs.YtgaediondmdnbaaGreat.Mn
open Go Go.RowKit Tr
open Rw (Nd Nds)
set_option maxRecDepth 20000

theorem all_any : ∀ (m : Nat) (l : List Nd), l.length ≤ m → So.Tre l → l.length ≤ 24 → acs l ≤ 6 → (So.Is 3 l = true → PC l) ∧ (So.Is 4 l = true → QC l)
  | 0, l, h, ht, _, _ => absurd ht.pos (by omega)
  | m + 1, l, h, ht, h24, h6 => by
    have hk : ∀ a ∈ Rw.kids l, (So.Is 3 a = true → PC a) ∧ (So.Is 4 a = true → QC a) := fun a ha => by
      have har := ht.ar
      have h3 : Rw.ar (So.hd l) = 0 ∨ Rw.ar (So.hd l) = 1 ∨ Rw.ar (So.hd l) = 2 := by
        unfold Rw.ar at har ⊢
        repeat' split
        all_goals simp_all
      rcases h3 with h0 | h1 | h2
      · obtain ⟨x, rfl, _⟩ := cut0 ht h0
        have : Rw.kids [x] = [] := List.eq_nil_of_length_eq_zero (by rw [ht.kids.1, h0]; rfl)
        rw [this] at ha
        cases ha
      · obtain ⟨b, hkk, _, tb, hl, hc, _⟩ := cut1 ht h1
        rw [hkk, List.mem_singleton] at ha
        subst ha
        have := hc all
        exact all_any m a (by omega) tb (by omega) (by unfold acs at *; omega)
      · obtain ⟨b, c, hkk, _, _, tb, tc, hl, hc, _⟩ := cut2 ht h2
        have := hc all
        rw [hkk] at ha
        rcases List.mem_cons.1 ha with rfl | ha
        · exact all_any m a (by omega) tb (by omega) (by unfold acs at *; omega)
        · rw [List.mem_singleton] at ha
          subst ha
          exact all_any m a (by omega) tc (by omega) (by unfold acs at *; omega)
    match l, ht, h24, h6, hk with
    | [], ht, _, _, _ => exact absurd ht.pos (by simp)
    | ⟨k, nm', sg'⟩ :: rest, ht, h24, h6, hk =>
      exact ⟨fun hi v w hv => plain_step tcon k nm' sg' rest v w hv ht hi h24 h6 (fun a ha => (hk a ha).1) fun a ha => (hk a ha).2,
        fun hi v w hv => paired_step tcon k nm' sg' rest v w hv ht hi h24 h6 (fun a ha => (hk a ha).1) fun a ha => (hk a ha).2⟩

/-- Of what is told: which kind; few enough. -/
def smallB (l : List Nd) : Bool := decide (l.length ≤ 24) && decide (acs l ≤ 6)
def why (l : List Nd) (p : Bool) : Int := if So.onB l p then (if smallB l then 0 else 70) else 1
theorem on_three {l : List Nd} (h : So.onB l false = true) : Rw.whole l = true ∧ So.Is 3 l = true := by
  have h' : (So.of l == 1 || So.of l == 3) = true := h
  simp only [Bool.or_eq_true, beq_iff_eq] at h'
  rcases h' with h' | h'
  · exact ⟨(So.of_one h').1, So.one_three (So.of_one h').2⟩
  · exact ⟨(So.of_three h').1, (So.of_three h').2.1⟩
theorem on_four {l : List Nd} (h : So.onB l true = true) : Rw.whole l = true ∧ So.Is 4 l = true := by
  have h' : (So.of l == 2 || So.of l == 4) = true := h
  simp only [Bool.or_eq_true, beq_iff_eq] at h'
  rcases h' with h' | h'
  · exact ⟨(So.of_two h').1, So.two_four (So.of_two h').2.1⟩
  · exact ⟨(So.of_four h').1, (So.of_four h').2.1⟩
theorem small_of {l : List Nd} (h : smallB l = true) : l.length ≤ 24 ∧ acs l ≤ 6 := by
  unfold smallB at h
  simpa using h
theorem plain_on {l : List Nd} (h : So.onB l false = true) (hs : smallB l = true) : PC l :=
  (all_any l.length l (Nat.le_refl _) (Sx.whole_tre (on_three h).1) (small_of hs).1 (small_of hs).2).1 (on_three h).2
theorem paired_on {l : List Nd} (h : So.onB l true = true) (hs : smallB l = true) : QC l :=
  (all_any l.length l (Nat.le_refl _) (Sx.whole_tre (on_four h).1) (small_of hs).1 (small_of hs).2).2 (on_four h).2

theorem ints_one (w : World) (x : Int) (ty : TypeId) : Rw.Ints (w.alloc (.cells #[.int .i64 x] ty)) (.slice (some ⟨w.heap.size, 0, none⟩) 1 1) [x] :=
  ⟨rfl, some ⟨w.heap.size, 0, none⟩, 1, rfl, Nat.le_refl _, fun h => (by cases h), fun _ => ⟨w.heap.size, 0, rfl, fun j u hu => by
    rw [Nat.zero_add, World.cell?_alloc_new]
    simpa using hu⟩⟩
set_option maxHeartbeats 1000000 in
theorem small_any (v : Value) (l : List Nd) (w : World) (hv : Nds w v l) (hl : l.length ≤ 1000) :
    Calls Tryz.prog 7 #[v] w fun e w' => e = .returned (.bool (smallB l)) ∧ Below w.heap.size w w' := by
  have HC := Lib.hid (fun y w1 (hb : Below w.heap.size w w1) hy => Rx.countP_any v y l [1] w1 (hv.below hb) hy (by omega) (by simp))
  have ha := acs_cnt l
  rw [← ha] at HC
  have hsm : smallB l = (decide (l.length ≤ 24) && decide (acs l ≤ 6)) := rfl
  rw [hsm]
  generalize acs l = n at HC ⊢
  obtain ⟨_, a, c, rfl, -⟩ := hv
  obtain ⟨m, hm⟩ : ∃ m, l.length = m := ⟨_, rfl⟩
  rw [hm] at HC hl ⊢
  clear ha hsm hm
  have HI := Lib.hid (fun ty => ints_one w 1 ty)
  by_cases h1 : m ≤ 24
  · have g1 : decide ((m : Int) ≤ 24) = true := by simpa using (show (m : Int) ≤ 24 by omega)
    have e1 : decide (m ≤ 24) = true := by simpa using h1
    rw [e1, Bool.true_and]
    clear e1
    go_enter Tryz.func7, Tryz.ntmps7
    go_wp2_with fail
    refine (HC.out _ _ (bel1 _ _) (HI.out _)).mono ?_
    rintro e w1 ⟨rfl, hb1⟩
    have B1 := Lib.hid ((bel1 w _).trans (hb1.mono (bel1 w _).size))
    clear hb1
    by_cases h2 : n ≤ 6
    · have g2 : decide ((n : Int) ≤ 6) = true := by simpa using (show (n : Int) ≤ 6 by omega)
      go_wp2_with fail
      go_ret
      exact ⟨by simp [h2], B1.out⟩
    · have g2 : decide ((n : Int) ≤ 6) = false := by simpa using (show ¬ (n : Int) ≤ 6 by omega)
      go_wp2_with fail
      go_ret
      exact ⟨by simp [h2], B1.out⟩
  · have g1 : decide ((m : Int) ≤ 24) = false := by simpa using (show ¬ (m : Int) ≤ 24 by omega)
    have e1 : decide (m ≤ 24) = false := by simpa using h1
    rw [e1, Bool.false_and]
    clear e1
    go_enter Tryz.func7, Tryz.ntmps7
    go_wp2_with fail
    go_ret
    exact ⟨rfl, Below.refl _ _⟩

set_option maxHeartbeats 1000000 in
theorem fault_any (v : Value) (l : List Nd) (p : Bool) (w : World) (hv : Nds w v l) (hl : l.length ≤ 1000) (hm : Rw.Nms l) :
    Calls Tryz.prog 26 #[v, .bool p] w fun e w' => e = .returned (.int .i64 (why l p)) ∧ Below w.heap.size w w' := by
  have HO := Lib.hid (fun w1 (hb : Below w.heap.size w w1) => Sx.onP_any l p v w1 (hv.below hb) hl hm)
  have HS := Lib.hid (fun w1 (hb : Below w.heap.size w w1) => small_any v l w1 (hv.below hb) hl)
  unfold why
  obtain ⟨_, a, c, rfl, -⟩ := hv
  generalize So.onB l p = o at HO ⊢
  generalize smallB l = s at HS ⊢
  clear hm
  cases o with
  | false =>
    go_enter Tryz.func26, Tryz.ntmps26
    go_wp2_with fail
    refine (HO.out _ (Below.refl _ _)).mono ?_
    rintro e w1 ⟨rfl, hb1⟩
    have B1 := Lib.hid hb1
    clear hb1
    go_wp2_with fail
    go_ret
    exact ⟨rfl, B1.out⟩
  | true =>
    cases s with
    | false =>
      go_enter Tryz.func26, Tryz.ntmps26
      go_wp2_with fail
      refine (HO.out _ (Below.refl _ _)).mono ?_
      rintro e w1 ⟨rfl, hb1⟩
      have B1 := Lib.hid hb1
      clear hb1
      go_wp2_with fail
      refine (HS.out _ B1.out).mono ?_
      rintro e w2 ⟨rfl, hb2⟩
      have B2 := Lib.hid (B1.out.trans (hb2.mono B1.out.size))
      clear hb2
      go_wp2_with fail
      go_ret
      exact ⟨rfl, B2.out⟩
    | true =>
      go_enter Tryz.func26, Tryz.ntmps26
      go_wp2_with fail
      refine (HO.out _ (Below.refl _ _)).mono ?_
      rintro e w1 ⟨rfl, hb1⟩
      have B1 := Lib.hid hb1
      clear hb1
      go_wp2_with fail
      refine (HS.out _ B1.out).mono ?_
      rintro e w2 ⟨rfl, hb2⟩
      have B2 := Lib.hid (B1.out.trans (hb2.mono B1.out.size))
      clear hb2
      go_wp2_with fail
      go_ret
      exact ⟨rfl, B2.out⟩
end Go.Proofs.YtgaediondmdnbaaGreat.Mn

namespace Go.Proofs.YtgaediondmdnbaaGreat.Mn
open Go Go.RowKit Tr
open Rw (Nd Nds)
set_option maxRecDepth 20000

/-- What is told, where it is. -/
def MtR (l : List Nd) : List Tr := if why l false = 0 then Mt l else []
def MpR (l : List Nd) : List Pr := if why l true = 0 then Mp l else []
def back (X : List Pr) : List Tr := norm (X.map (·.q))
def MbR (l : List Nd) : List Tr := if why l true = 0 then back (Mp l) else []
def TsPost (l : List Tr) (e0 : Int) (w : World) (e : Ending) (w' : World) : Prop := ∃ a c, e = .returned (.tuple #[.slice a l.length c, .int .i64 e0]) ∧ TsO any w' (.slice a l.length c) l ∧ Below w.heap.size w w'
def PsPost (l : List Pr) (e0 : Int) (w : World) (e : Ending) (w' : World) : Prop := ∃ a c, e = .returned (.tuple #[.slice a l.length c, .int .i64 e0]) ∧ PsO any w' (.slice a l.length c) l ∧ Below w.heap.size w w'
theorem ps_nil (ok : Nat → Prop) (w : World) : PsO ok w (.slice none 0 0) [] := ⟨[], ⟨rfl, none, 0, rfl, Nat.le_refl _, fun _ => ⟨rfl, rfl⟩, fun h => absurd h (Nat.lt_irrefl _)⟩, rfl⟩
theorem why_ok {l : List Nd} {p : Bool} (h : why l p = 0) : So.onB l p = true ∧ smallB l = true := by
  unfold why at h
  split at h
  · rename_i h1
    split at h
    · rename_i h2; exact ⟨h1, h2⟩
    · cases h
  · cases h

set_option maxHeartbeats 1000000 in
theorem plainP_any (v : Value) (l : List Nd) (w : World) (hv : Nds w v l) (hl : l.length ≤ 1000) (hm : Rw.Nms l) :
    Calls Tryz.prog 9 #[v] w (TsPost (MtR l) (why l false) w) := by
  have HF := Lib.hid (fault_any v l false w hv hl hm)
  have HP := Lib.hid (fun (h : why l false = 0) w1 (hb : Below w.heap.size w w1) => plain_on (why_ok h).1 (why_ok h).2 v w1 (hv.below hb))
  unfold MtR TsPost
  obtain ⟨_, a, c, rfl, -⟩ := hv
  obtain ⟨z, hz⟩ : ∃ z, why l false = z := ⟨_, rfl⟩
  rw [hz] at HF HP ⊢
  clear hm hz
  by_cases h0 : z = 0
  · subst h0
    rw [if_pos rfl]
    have HP' := Lib.hid (HP.out rfl)
    generalize Mt l = L at HP' ⊢
    clear HP
    go_enter Tryz.func9, Tryz.ntmps9
    go_wp2_with fail
    refine HF.out.mono ?_
    rintro e w1 ⟨rfl, hb1⟩
    have B1 := Lib.hid hb1
    clear hb1
    go_wp2_with fail
    refine (HP'.out _ B1.out).mono ?_
    rintro e w2 ⟨a2, n2, rfl, ht2, hb2⟩
    have T2 := Lib.hid (ht2.imp (ok' := any) fun _ _ _ => trivial)
    have B2 := Lib.hid (B1.out.trans (hb2.mono B1.out.size))
    clear ht2 hb2
    go_wp2_with fail
    go_ret2
    exact ⟨_, _, rfl, T2.out, B2.out⟩
  · rw [if_neg h0]
    have g0 : (z != 0) = true := by simp [h0]
    clear h0
    go_enter Tryz.func9, Tryz.ntmps9
    go_wp2_with fail
    refine HF.out.mono ?_
    rintro e w1 ⟨rfl, hb1⟩
    have B1 := Lib.hid hb1
    clear hb1
    go_wp2_with fail
    go_ret2
    exact ⟨_, _, rfl, ts_nil _ _, B1.out⟩

set_option maxHeartbeats 1000000 in
theorem pairedP_any (v : Value) (l : List Nd) (w : World) (hv : Nds w v l) (hl : l.length ≤ 1000) (hm : Rw.Nms l) :
    Calls Tryz.prog 12 #[v] w (PsPost (MpR l) (why l true) w) := by
  have HF := Lib.hid (fault_any v l true w hv hl hm)
  have HP := Lib.hid (fun (h : why l true = 0) w1 (hb : Below w.heap.size w w1) => paired_on (why_ok h).1 (why_ok h).2 v w1 (hv.below hb))
  unfold MpR PsPost
  obtain ⟨_, a, c, rfl, -⟩ := hv
  obtain ⟨z, hz⟩ : ∃ z, why l true = z := ⟨_, rfl⟩
  rw [hz] at HF HP ⊢
  clear hm hz
  by_cases h0 : z = 0
  · subst h0
    rw [if_pos rfl]
    have HP' := Lib.hid (HP.out rfl)
    generalize Mp l = L at HP' ⊢
    clear HP
    go_enter Tryz.func12, Tryz.ntmps12
    go_wp2_with fail
    refine HF.out.mono ?_
    rintro e w1 ⟨rfl, hb1⟩
    have B1 := Lib.hid hb1
    clear hb1
    go_wp2_with fail
    refine (HP'.out _ B1.out).mono ?_
    rintro e w2 ⟨a2, n2, rfl, ht2, hb2⟩
    have T2 := Lib.hid (ht2.imp (ok' := any) fun _ _ _ => trivial)
    have B2 := Lib.hid (B1.out.trans (hb2.mono B1.out.size))
    clear ht2 hb2
    go_wp2_with fail
    go_ret2
    exact ⟨_, _, rfl, T2.out, B2.out⟩
  · rw [if_neg h0]
    have g0 : (z != 0) = true := by simp [h0]
    clear h0
    go_enter Tryz.func12, Tryz.ntmps12
    go_wp2_with fail
    refine HF.out.mono ?_
    rintro e w1 ⟨rfl, hb1⟩
    have B1 := Lib.hid hb1
    clear hb1
    go_wp2_with fail
    go_ret2
    exact ⟨_, _, rfl, ps_nil _ _, B1.out⟩

end Go.Proofs.YtgaediondmdnbaaGreat.Mn

namespace Go.Proofs.YtgaediondmdnbaaGreat.Mn
open Go Go.RowKit Tr
open Rw (Nd Nds)
set_option maxRecDepth 20000

end Go.Proofs.YtgaediondmdnbaaGreat.Mn

namespace Go.Proofs.YtgaediondmdnbaaGreat.Mn
open Go Go.RowKit Tr
open Rw (Nd Nds)
set_option maxRecDepth 20000

set_option maxHeartbeats 2000000 in
theorem oldsP_any (x : Value) (X : List Pr) (w : World) (hx : PsO any w x X) (hn : X.length ≤ 1000000000000) :
    Calls Tryz.prog 14 #[x] w (OutP any X w) := by
  obtain ⟨ax, cx, rfl, _, hvx⟩ := hx.val
  have HX := Lib.hid hvx
  unfold OutP
  clear hvx hx
  go_enter Tryz.func14, Tryz.ntmps14
  go_wp2_with fail
  go_loopw [3, 8] (fun v i wr => ∃ (k : Nat) (cs : List Value), k ≤ X.length ∧ i = .int .i64 k ∧ Below w.heap.size w wr ∧ wr.ownsRow w.heap.size 59 4 v (X.take k).length cs ∧ Cl (EP (Apart (New any w) v) wr) 4 (X.take k) cs) (fun _ i _ => X.length - (intOf i).toNat)
  case atStart => exact ⟨0, [], Nat.zero_le _, rfl, Below.refl _ _, ⟨rfl, .inl ⟨rfl, rfl⟩⟩, rfl⟩
  case round =>
    obtain ⟨k, cs, hk, rfl, hb, hown, hcs⟩ := hrel
    have WB := Lib.hid hb
    have WO := Lib.hid hown
    have WC := Lib.hid hcs
    clear hb hown hcs
    by_cases hlt : k < X.length
    · obtain ⟨b1, o1, va1, va2, rfl, _, e1, e2, e3, e4, s1, s2⟩ := HX.out k hlt
      have HSK := Lib.hid (List.take_succ_eq_append_getElem hlt)
      have hPL : (X.take k).length ≤ 1000000000000 := by rw [List.length_take]; omega
      generalize X[k] = p at *
      obtain ⟨PP, hPP⟩ : ∃ PP, X.take k = PP := ⟨_, rfl⟩
      rw [hPP] at WO WC HSK hPL
      clear hPP
      have HA1 := Lib.hid s1
      have HA2 := Lib.hid s2
      obtain ⟨_, a3, n3, rfl, _⟩ := id s1
      obtain ⟨_, a4, n4, rfl, _⟩ := id s2
      have q0 : wr.cell? ⟨b1, o1 + k * 4, none⟩ = some (.slice a3 p.p.a.length n3) := by rw [WB.out.cell (Ap.cell_lt e1)]; exact e1
      have q1 : wr.cell? ⟨b1, o1 + k * 4 + 1, none⟩ = some (.int .i64 p.p.e) := by rw [WB.out.cell (Ap.cell_lt e2)]; exact e2
      have q2 : wr.cell? ⟨b1, o1 + k * 4 + 2, none⟩ = some (.slice a4 p.q.a.length n4) := by rw [WB.out.cell (Ap.cell_lt e3)]; exact e3
      have q3 : wr.cell? ⟨b1, o1 + k * 4 + 3, none⟩ = some (.int .i64 p.q.e) := by rw [WB.out.cell (Ap.cell_lt e4)]; exact e4
      clear e1 e2 e3 e4 s1 s2
      have B1 : Hid (Below wr.heap.size wr (wr.alloc (.cells #[.slice a3 p.p.a.length n3, .int .i64 p.p.e, .slice a4 p.q.a.length n4, .int .i64 p.q.e] 61))) := (Below.refl _ _).alloc (Nat.le_refl _) _
      have S1 := WB.out.trans (B1.out.mono WB.out.size)
      obtain ⟨v2, w3, hrun, hown2, hg2, hb2, hf2⟩ := app1P (x := p) (Ap.own_below WO.out B1.out) S1.size (so_below (so_old HA1.out) S1) (so_below (so_old HA2.out) S1) (by omega)
      rw [show (wr.alloc (.cells #[.slice a3 p.p.a.length n3, .int .i64 p.p.e, .slice a4 p.q.a.length n4, .int .i64 p.q.e] _)).heap.size = wr.heap.size + 1 by simp] at hrun
      have RUN := Lib.hid hrun
      have O2 := Lib.hid hown2
      have B2 := Lib.hid (S1.trans hb2)
      have C2 := Lib.hid (accP (M := [p]) WB.out WO.out WC.out B1.out (Cl.one ⟨_, _, rfl, so_imp (so_below (so_old HA1.out) S1) fun b _ h => .inl h, so_imp (so_below (so_old HA2.out) S1) fun b _ h => .inl h⟩ rfl) hg2 hf2)
      clear hrun hown2 hg2 hb2 hf2 S1
      go_wp2_with (at_builtin; refine Ap.wpList_append_run (by rfl) _ _ _ _ rfl _ _ rfl rfl v2 w3 RUN.out ?_)
      go_roundw
      case rel => exact ⟨k + 1, _, by omega, by go_num, B2.out, by rw [HSK.out]; exact O2.out, by rw [HSK.out]; exact C2.out⟩
      case measure => simp [intOf]; omega
    · have hkl : k = X.length := by omega
      subst hkl
      have O := WO.out
      have C := WC.out
      rw [List.take_length] at O C
      have TT := Lib.hid (tellP O C)
      obtain ⟨_, a9, c9, hv, _⟩ := Ap.Rd.owned O
      subst hv
      clear O C
      go_wp2_with fail
      go_ret
      exact ⟨_, _, rfl, TT.out, WB.out⟩

set_option maxHeartbeats 2000000 in
theorem sameP_self (x y : Value) (X : List Pr) (w : World) (hx : PsO any w x X) (hy : PsO any w y X) (hn : X.length ≤ 1000000000000) (hrow : ∀ x ∈ X, x.p.a.length ≤ 1000000 ∧ x.q.a.length ≤ 1000000) :
    Calls Tryz.prog 13 #[x, y] w fun e w' => e = .returned (.bool true) ∧ Below w.heap.size w w' := by
  obtain ⟨ax, cx, rfl, _, hvx⟩ := hx.val
  obtain ⟨ay, cy, rfl, _, hvy⟩ := hy.val
  have HX := Lib.hid hvx
  have HY := Lib.hid hvy
  have HR := Lib.hid hrow
  clear hvx hvy hx hy hrow
  go_enter Tryz.func13, Tryz.ntmps13
  go_wp2_with fail
  go_loopw [5] (fun i wr => ∃ (k : Nat), k ≤ X.length ∧ i = .int .i64 k ∧ Below w.heap.size w wr) (fun i _ => X.length - (intOf i).toNat)
  case atStart => exact ⟨0, Nat.zero_le _, rfl, Below.refl _ _⟩
  case round =>
    obtain ⟨k, hk, rfl, hb⟩ := hrel
    have WB := Lib.hid hb
    clear hb
    by_cases hlt : k < X.length
    · obtain ⟨b1, o1, va1, va2, rfl, _, e1, e2, e3, e4, s1, s2⟩ := HX.out k hlt
      obtain ⟨b2, o2, vb1, vb2, rfl, _, f1, f2, f3, f4, t1, t2⟩ := HY.out k hlt
      have hr := HR.out _ (List.getElem_mem hlt)
      generalize X[k] = p at *
      have CC := Lib.hid (fun w1 (hb : Below w.heap.size w w1) => pcmpR va1 va2 vb1 vb2 p p w1 (so_strs (so_below s1 hb)) (so_strs (so_below s2 hb)) (so_strs (so_below t1 hb)) (so_strs (so_below t2 hb)) hr hr)
      have hps := pcmp_self p
      rw [hps] at CC
      clear hps hr
      obtain ⟨_, a3, n3, rfl, _⟩ := id s1
      obtain ⟨_, a4, n4, rfl, _⟩ := id s2
      obtain ⟨_, d3, m3, rfl, _⟩ := id t1
      obtain ⟨_, d4, m4, rfl, _⟩ := id t2
      have SA : Hid (∀ w1, Below w.heap.size w w1 → (w1.cell? ⟨b1, o1 + k * 4, none⟩ = some (.slice a3 p.p.a.length n3) ∧ w1.cell? ⟨b1, o1 + k * 4 + 1, none⟩ = some (.int .i64 p.p.e) ∧ w1.cell? ⟨b1, o1 + k * 4 + 2, none⟩ = some (.slice a4 p.q.a.length n4) ∧ w1.cell? ⟨b1, o1 + k * 4 + 3, none⟩ = some (.int .i64 p.q.e)) ∧
          w1.cell? ⟨b2, o2 + k * 4, none⟩ = some (.slice d3 p.p.a.length m3) ∧ w1.cell? ⟨b2, o2 + k * 4 + 1, none⟩ = some (.int .i64 p.p.e) ∧ w1.cell? ⟨b2, o2 + k * 4 + 2, none⟩ = some (.slice d4 p.q.a.length m4) ∧ w1.cell? ⟨b2, o2 + k * 4 + 3, none⟩ = some (.int .i64 p.q.e)) :=
        Lib.hid fun w1 hb => ⟨⟨by rw [hb.cell (Ap.cell_lt e1)]; exact e1, by rw [hb.cell (Ap.cell_lt e2)]; exact e2, by rw [hb.cell (Ap.cell_lt e3)]; exact e3, by rw [hb.cell (Ap.cell_lt e4)]; exact e4⟩, by rw [hb.cell (Ap.cell_lt f1)]; exact f1, by rw [hb.cell (Ap.cell_lt f2)]; exact f2, by rw [hb.cell (Ap.cell_lt f3)]; exact f3, by rw [hb.cell (Ap.cell_lt f4)]; exact f4⟩
      obtain ⟨⟨q0, q1, q2, q3⟩, r0, r1, r2, r3⟩ := SA.out _ WB.out
      clear e1 e2 e3 e4 f1 f2 f3 f4 s1 s2 t1 t2
      go_wp2_with fail
      go_region_held3 (fun w' => (w'.cell? ⟨b1, o1 + k * 4, none⟩ = some (.slice a3 p.p.a.length n3) ∧ w'.cell? ⟨b1, o1 + k * 4 + 1, none⟩ = some (.int .i64 p.p.e) ∧ w'.cell? ⟨b1, o1 + k * 4 + 2, none⟩ = some (.slice a4 p.q.a.length n4) ∧ w'.cell? ⟨b1, o1 + k * 4 + 3, none⟩ = some (.int .i64 p.q.e)) ∧
          w'.cell? ⟨b2, o2 + k * 4, none⟩ = some (.slice d3 p.p.a.length m3) ∧ w'.cell? ⟨b2, o2 + k * 4 + 1, none⟩ = some (.int .i64 p.p.e) ∧ w'.cell? ⟨b2, o2 + k * 4 + 2, none⟩ = some (.slice d4 p.q.a.length m4) ∧ w'.cell? ⟨b2, o2 + k * 4 + 3, none⟩ = some (.int .i64 p.q.e)) (first | exact SA.out _ WB.out.drew | exact SA.out _ B1.out | fail) (first
        | (go_at_call 30
           (with_reducible refine (CC.out _ WB.out.drew).mono ?_)
           rintro e w1 ⟨rfl, hb1⟩
           have B1 := Lib.hid (WB.out.drew.trans (hb1.mono WB.out.drew.size))
           clear hb1)
        | fail)
      go_wp2_with fail
      go_roundw
      case rel => exact ⟨k + 1, by omega, by go_num, B1.out⟩
      case measure => simp [intOf]; omega
    · have hkl : k = X.length := by omega
      subst hkl
      go_wp2_with fail
      go_ret
      exact ⟨rfl, WB.out⟩
end Go.Proofs.YtgaediondmdnbaaGreat.Mn

namespace Go.Proofs.YtgaediondmdnbaaGreat.Mn
open Go Go.RowKit Tr
open Rw (Nd Nds)
set_option maxRecDepth 20000

def fewB (l : List Nd) : Bool := decide (l.length ≤ 120) && decide (Rw.depth l ≤ 24)
theorem few_len {l : List Nd} (h : fewB l = true) : l.length ≤ 120 := by
  unfold fewB at h
  rw [Bool.and_eq_true, decide_eq_true_eq] at h
  exact h.1
/-- The statements' own plain. -/
def isB (l : List Nd) : Bool := why l false == 0
theorem same_self (l : List Tr) : same l l = true := (same_iff l l).2 rfl

/-- The statements' own texts. -/
def txs1 (s : ByteArray) (t : Tr) : ByteArray := s ++ (txt t ++ ⟨#[59]⟩)
def txl (l : List Tr) : ByteArray := l.foldl txs1 ⟨#[]⟩
end Go.Proofs.YtgaediondmdnbaaGreat.Mn

namespace Go.Proofs.YtgaediondmdnbaaGreat.Mn
open Go Go.RowKit Tr
open Rw (Nd Nds)
set_option maxRecDepth 20000

abbrev nA : Nd := ⟨1, bA, 0⟩
abbrev nB : Nd := ⟨1, bB, 0⟩
abbrev nC : Nd := ⟨1, bC, 0⟩
abbrev nK (k : Int) : Nd := ⟨k, ⟨#[]⟩, 0⟩
def lp : List Nd := [nK 10, nA, nB]
def lt : List Nd := [nK 10, nK 3, nK 2]
def l1 : List Nd := [nK 9, nK 5, nK 10, nA, nB, nK 10, nK 3, nK 2]
def l2 : List Nd := [nK 8, nK 6, nA, nK 3, nC]
theorem y1 : why l1 false = 0 := by decide +kernel
theorem y2 : why l2 false = 0 := by decide +kernel
theorem yp : why lp true = 0 := by decide +kernel
theorem sp : smallB lp = true := by decide +kernel
theorem nms_all {l : List Nd} (h : ∀ x ∈ l, x.n.size ≤ 1) : Rw.Nms l := fun x hx => by have := h x hx; omega
theorem m1 : Rw.Nms l1 := nms_all (by decide +kernel)
theorem m2 : Rw.Nms l2 := nms_all (by decide +kernel)
instance : DecidableEq Tr := fun x y => decidable_of_iff (x.a = y.a ∧ x.e = y.e) ⟨fun h => by cases x; cases y; cases h.1; cases h.2; rfl, fun h => by cases h; exact ⟨rfl, rfl⟩⟩
instance : DecidableEq Pr := fun x y => decidable_of_iff (x.p = y.p ∧ x.q = y.q) ⟨fun h => by cases x; cases y; cases h.1; cases h.2; rfl, fun h => by cases h; exact ⟨rfl, rfl⟩⟩
theorem t1 : Mt l1 = [⟨[bA, bB], 1⟩] := by decide +kernel
theorem t2 : Mt l2 = [⟨[bA], 1⟩, ⟨[bC], 1⟩] := by decide +kernel
theorem p3 : Mp lp = [⟨⟨[], 3⟩, ⟨[], 1⟩⟩, ⟨⟨[bA], 1⟩, ⟨[bB], 1⟩⟩] := by decide +kernel
theorem r1 : MtR l1 = [⟨[bA, bB], 1⟩] := by unfold MtR; rw [y1, t1]; rfl
theorem r2 : MtR l2 = [⟨[bA], 1⟩, ⟨[bC], 1⟩] := by unfold MtR; rw [y2, t2]; rfl
theorem r3 : MpR lp = [⟨⟨[], 3⟩, ⟨[], 1⟩⟩, ⟨⟨[bA], 1⟩, ⟨[bB], 1⟩⟩] := by unfold MpR; rw [yp, p3]; rfl
theorem r4 : MbR lp = [⟨[], 1⟩, ⟨[bB], 1⟩] := by unfold MbR; rw [yp, p3]; decide +kernel
theorem x1 : txl [⟨[bA, bB], 1⟩] = ⟨#[97, 32, 98, 32, 111, 107, 59]⟩ := by decide +kernel
theorem x2 : txl [⟨[bA], 1⟩, ⟨[bC], 1⟩] = ⟨#[97, 32, 111, 107, 59, 99, 32, 111, 107, 59]⟩ := by decide +kernel
theorem x4 : txl [⟨[], 1⟩, ⟨[bB], 1⟩] = ⟨#[111, 107, 59, 98, 32, 111, 107, 59]⟩ := by decide +kernel
theorem x5 : txt ⟨[], 3⟩ = ⟨#[63]⟩ := by decide +kernel
theorem x6 : txt ⟨[bB], 1⟩ = ⟨#[98, 32, 111, 107]⟩ := by decide +kernel
/-- Nodes in a block that the call has just made. -/
theorem nds_new (w : World) (l : List Nd) (ty : TypeId) : Nds (w.alloc (.cells (Rw.cls l).toArray ty)) (.slice (some ⟨w.heap.size, 0, none⟩) l.length l.length) l := by
  refine ⟨Rw.cls_len l, some ⟨w.heap.size, 0, none⟩, l.length, rfl, Nat.le_refl _, fun h => (by cases h), fun _ => ⟨w.heap.size, 0, rfl, fun j u hu => ?_⟩⟩
  rw [Nat.zero_add, World.cell?_alloc_new]
  simpa using hu
end Go.Proofs.YtgaediondmdnbaaGreat.Mn

namespace Go.Proofs.YtgaediondmdnbaaGreat.Mn
open Go Go.RowKit Tr
open Rw (Nd Nds)
set_option maxRecDepth 20000

def l0 : List Nd := [nK 9, nK 5]
end Go.Proofs.YtgaediondmdnbaaGreat.Mn

namespace Go.Proofs.YtgaediondmdnbaaGreat.Mn
open Go Go.RowKit Tr
open Rw (Nd Nds)
set_option maxRecDepth 20000

theorem mt_few {l : List Nd} (h : why l false = 0) : (Mt l).length ≤ 12079595520 ∧ ∀ t ∈ Mt l, t.a.length ≤ 6 := by
  obtain ⟨h1, h2⟩ := why_ok h
  have g := gt (Sx.whole_tre (on_three h1).1) (on_three h1).2
  obtain ⟨s1, s2⟩ := small_of h2
  refine ⟨Nat.le_trans g.len (K_last s1 s2), fun x hx => ?_⟩
  have := (g.cnt all).len hx
  unfold acs at s2
  omega
theorem mp_few {l : List Nd} (h : why l true = 0) : (Mp l).length ≤ 12079595520 ∧ ∀ x ∈ Mp l, x.p.a.length ≤ 6 ∧ x.q.a.length ≤ 6 := by
  obtain ⟨h1, h2⟩ := why_ok h
  have g := gp (Sx.whole_tre (on_four h1).1) (on_four h1).2
  obtain ⟨s1, s2⟩ := small_of h2
  refine ⟨Nat.le_trans g.len (K_last s1 s2), fun x hx => ?_⟩
  have := (g.cnt all).len hx
  unfold acs at s2
  omega
theorem mtr_few (l : List Nd) : Few (MtR l) := by
  unfold MtR
  split
  · rename_i h
    obtain ⟨h1, h2⟩ := mt_few h
    exact ⟨by omega, fun t ht => by have := h2 t ht; omega⟩
  · exact ⟨Nat.zero_le _, fun t ht => (by cases ht)⟩
theorem mpr_few (l : List Nd) : (MpR l).length ≤ 1000000000000 ∧ ∀ x ∈ MpR l, x.p.a.length ≤ 1000000 ∧ x.q.a.length ≤ 1000000 := by
  unfold MpR
  split
  · rename_i h
    obtain ⟨h1, h2⟩ := mp_few h
    exact ⟨by omega, fun t ht => by have := h2 t ht; omega⟩
  · exact ⟨Nat.zero_le _, fun t ht => (by cases ht)⟩
end Go.Proofs.YtgaediondmdnbaaGreat.Mn

namespace Go.Proofs.YtgaediondmdnbaaGreat.Se
open Go Go.RowKit Go.Proofs.YtgaediondmdnbaaGreat.Rw Go.Proofs.YtgaediondmdnbaaGreat.So Go.Proofs.YtgaediondmdnbaaGreat.Mn Go.Proofs.YtgaediondmdnbaaGreat.Tr
set_option maxRecDepth 20000

theorem few_lenM {l : List Nd} (h : fewB l = true) : l.length ≤ 120 := by
  unfold fewB at h
  rw [Bool.and_eq_true, decide_eq_true_eq] at h
  exact h.1
theorem st_means {l : List Nd} (h : st l ≠ []) (hs : smallB l = true) (hs' : smallB (st l) = true) :
    (onB l false = true → MtR (st l) = MtR l ∧ why l false = 0 ∧ why (st l) false = 0) ∧ (onB l false = false → MpR (st l) = MpR l ∧ why l true = 0 ∧ why (st l) true = 0) := by
  have o1 := st_on h false
  have o2 := st_on h true
  have hac := (small_of hs).2
  obtain ⟨t, rfl, hg, e⟩ := st_some h
  rw [e] at o1 o2 hs' ⊢
  have M := S_mean t (by rw [← acs_ac]; omega)
  have f1 := on_flat hg.1 hg.2.1 false
  have f2 := on_flat hg.1 hg.2.1 true
  simp only [Bool.false_eq_true, if_false, if_true] at f1 f2
  constructor
  · intro ho
    have w1 : why (flat t) false = 0 := by unfold why; rw [ho, hs]; rfl
    have w2 : why (flat (S t)) false = 0 := by unfold why; rw [o1, ho, hs']; rfl
    refine ⟨?_, w1, w2⟩
    unfold MtR
    rw [w1, w2, if_pos rfl, if_pos rfl]
    exact M.1 (by rw [← f1]; exact ho)
  · intro ho
    have h4 : is t 4 = true := hg.2.2.resolve_left (by rw [← f1, ho]; decide)
    have ho2 : onB (flat t) true = true := by rw [f2]; exact h4
    have w1 : why (flat t) true = 0 := by unfold why; rw [ho2, hs]; rfl
    have w2 : why (flat (S t)) true = 0 := by unfold why; rw [o2, ho2, hs']; rfl
    refine ⟨?_, w1, w2⟩
    unfold MpR
    rw [w1, w2, if_pos rfl, if_pos rfl]
    exact M.2 h4
set_option maxHeartbeats 8000000 in
theorem means_law (v : Value) (l : List Nd) (w0 : World) (hv : Nds w0 v l) (hm : Nms l) :
    Calls Tryz.prog 3 #[v] w0 fun e w' => e = .returned (.bool true) ∧ Below w0.heap.size w0 w' := by
  have V := Lib.hid hv
  have D := Lib.hid (Below.refl w0.heap.size w0)
  have HS := Lib.hid (fun v w1 (h : Nds w1 v l) (hl : l.length ≤ 120) => settleP_any v l w1 h (by omega) hm)
  have HL := Lib.hid (st_len l)
  have HO := Lib.hid (fun v w1 (h : Nds w1 v l) (hl : l.length ≤ 120) => Sx.onP_any l false v w1 h (by omega) hm)
  have HE := Lib.hid (fun h h1 h2 => st_means (l := l) h h1 h2)
  have P1 := Lib.hid (fun v w1 (h : Nds w1 v l) (hl : l.length ≤ 120) => plainP_any v l w1 h (by omega) hm)
  have Q1 := Lib.hid (fun v w1 (h : Nds w1 v l) (hl : l.length ≤ 120) => pairedP_any v l w1 h (by omega) hm)
  have P2 := Lib.hid (fun v w1 (h : Nds w1 v (st l)) (hl : (st l).length ≤ 120) => plainP_any v (st l) w1 h (by omega) (nms_st l))
  have Q2 := Lib.hid (fun v w1 (h : Nds w1 v (st l)) (hl : (st l).length ≤ 120) => pairedP_any v (st l) w1 h (by omega) (nms_st l))
  have Z1 := Lib.hid (fun v w1 (h : Nds w1 v l) (hl : l.length ≤ 120) => small_any v l w1 h (by omega))
  have Z2 := Lib.hid (fun v w1 (h : Nds w1 v (st l)) (hl : (st l).length ≤ 120) => small_any v (st l) w1 h (by omega))
  obtain ⟨m, hmm⟩ : ∃ m, st l = m := ⟨_, rfl⟩
  rw [hmm] at HS HL HE P2 Q2 Z2
  have HF := Lib.hid (mtr_few l)
  have HG := Lib.hid (mpr_few l)
  obtain ⟨_, a, cap, rfl, -⟩ := hv
  clear hm hmm
  go_enter Tryz.func3, Tryz.ntmps3
  go_wp2_with fail
  refine (few_any _ l _ V.out).mono ?_
  cases hf : fewB l with
  | false =>
    rintro e w' ⟨rfl, rfl⟩
    go_wp2_with fail
    refine (alive_any _).mono ?_
    rintro e wn ⟨rfl, hb⟩
    go_wp2_with fail
    go_ret
    exact ⟨rfl, hb⟩
  | true =>
    have hl := few_lenM hf
    clear hf
    rintro e w' ⟨rfl, rfl⟩
    go_wp2_with fail
    refine (HS.out _ _ V.out hl).mono ?_
    rintro e w1 ⟨yA, rfl, hn, hb⟩
    obtain ⟨_, aA, cA, rfl, -⟩ := id hn
    replace V := Lib.hid (V.out.below hb)
    replace D := Lib.hid (D.out.trans (hb.mono D.out.size))
    have A := Lib.hid hn
    have hm120 : m.length ≤ 120 := by have := HL.out; omega
    obtain ⟨n, hnn⟩ : ∃ n, m.length = n := ⟨_, rfl⟩
    rw [hnn] at A hm120 ⊢
    clear hn hb HS
    by_cases h0 : n = 0
    case pos =>
      subst h0
      go_wp2_with fail
      refine (alive_any _).mono ?_
      rintro e w2 ⟨rfl, hb⟩
      replace D := Lib.hid (D.out.trans (hb.mono D.out.size))
      go_wp2_with fail
      go_ret
      exact ⟨rfl, D.out⟩
    case neg =>
    have g0 : ((n : Int) == 0) = false := by rw [beq_eq_false_iff_ne]; omega
    have hm0 : m ≠ [] := fun e => h0 (by rw [← hnn, e]; rfl)
    replace HE := Lib.hid (HE.out hm0)
    have HN := Lib.hid hnn
    clear hm0 hnn
    obtain ⟨s1, hs1⟩ : ∃ s, smallB l = s := ⟨_, rfl⟩
    obtain ⟨s2, hs2⟩ : ∃ s, smallB m = s := ⟨_, rfl⟩
    rw [hs1] at Z1 HE
    rw [hs2] at Z2 HE
    clear hs1 hs2
    go_wp2_with fail
    refine (Z1.out _ _ V.out hl).mono ?_
    rintro e w2 ⟨rfl, hb⟩
    replace V := Lib.hid (V.out.below hb)
    replace A := Lib.hid (A.out.below hb)
    replace D := Lib.hid (D.out.trans (hb.mono D.out.size))
    clear hb Z1
    cases s1 with
    | false =>
      go_wp2_with fail
      refine (alive_any _).mono ?_
      rintro e w3 ⟨rfl, hb⟩
      replace D := Lib.hid (D.out.trans (hb.mono D.out.size))
      go_wp2_with fail
      go_ret
      exact ⟨rfl, D.out⟩
    | true =>
    go_wp2_with fail
    refine (Z2.out _ _ A.out (by have := HN.out; omega)).mono ?_
    rintro e w3 ⟨rfl, hb⟩
    replace V := Lib.hid (V.out.below hb)
    replace A := Lib.hid (A.out.below hb)
    replace D := Lib.hid (D.out.trans (hb.mono D.out.size))
    clear hb Z2
    cases s2 with
    | false =>
      go_wp2_with fail
      refine (alive_any _).mono ?_
      rintro e w4 ⟨rfl, hb⟩
      replace D := Lib.hid (D.out.trans (hb.mono D.out.size))
      go_wp2_with fail
      go_ret
      exact ⟨rfl, D.out⟩
    | true =>
    replace HE := Lib.hid (HE.out (by first | trivial | rfl) (by first | trivial | rfl))
    obtain ⟨q, hq⟩ : ∃ q, onB l false = q := ⟨_, rfl⟩
    rw [hq] at HE HO
    clear hq
    go_wp2_with fail
    refine (HO.out _ _ V.out hl).mono ?_
    rintro e w4 ⟨rfl, hb⟩
    replace V := Lib.hid (V.out.below hb)
    replace A := Lib.hid (A.out.below hb)
    replace D := Lib.hid (D.out.trans (hb.mono D.out.size))
    clear hb HO
    cases q with
    | true =>
      obtain ⟨e1, e2, e3⟩ := HE.out.1 rfl
      rw [e2] at P1
      rw [e1, e3] at P2
      clear e1 e2 e3 HE Q1 Q2 HG
      generalize MtR l = L at HF P1 P2
      have SS := Lib.hid (fun x y w1 h1 h2 => same_any x y L L w1 h1 h2 HF.out HF.out)
      have OO := Lib.hid (fun x w1 h1 => olds_any x L w1 h1 HF.out.1)
      rw [Mn.same_self] at SS
      unfold TsPost at P1 P2
      clear HF
      go_wp2_with fail
      refine (P1.out _ _ V.out hl).mono ?_
      rintro e w5 ⟨a1, c1, rfl, ht1, hb⟩
      replace A := Lib.hid (A.out.below hb)
      replace D := Lib.hid (D.out.trans (hb.mono D.out.size))
      have T1 := Lib.hid ht1
      clear hb ht1 P1 V
      go_wp2_with fail
      refine (P2.out _ _ A.out (by have := HN.out; omega)).mono ?_
      rintro e w6 ⟨a2, c2, rfl, ht2, hb⟩
      replace T1 := Lib.hid (T1.out.below hb)
      replace D := Lib.hid (D.out.trans (hb.mono D.out.size))
      have T2 := Lib.hid ht2
      clear hb ht2 P2 A
      go_wp2_with fail
      refine (alive_any _).mono ?_
      rintro e w7 ⟨rfl, hb⟩
      replace T1 := Lib.hid (T1.out.below hb)
      replace T2 := Lib.hid (T2.out.below hb)
      replace D := Lib.hid (D.out.trans (hb.mono D.out.size))
      clear hb
      go_wp2_with fail
      refine (OO.out _ _ T1.out.trs).mono ?_
      rintro e w8 ⟨v4, rfl, ht4, hb⟩
      replace T2 := Lib.hid (T2.out.below hb)
      replace D := Lib.hid (D.out.trans (hb.mono D.out.size))
      have T4 := Lib.hid ht4
      clear hb ht4 T1
      go_wp2_with fail
      refine (OO.out _ _ T2.out.trs).mono ?_
      rintro e w9 ⟨v5, rfl, ht5, hb⟩
      replace T4 := Lib.hid (T4.out.below hb)
      replace D := Lib.hid (D.out.trans (hb.mono D.out.size))
      have T5 := Lib.hid ht5
      clear hb ht5 T2
      go_wp2_with fail
      refine (SS.out _ _ _ T4.out T5.out).mono ?_
      rintro e w10 ⟨rfl, hb⟩
      replace D := Lib.hid (D.out.trans (hb.mono D.out.size))
      clear hb
      go_wp2_with fail
      go_ret
      exact ⟨rfl, D.out⟩
    | false =>
      obtain ⟨e1, e2, e3⟩ := HE.out.2 rfl
      rw [e2] at Q1
      rw [e1, e3] at Q2
      clear e1 e2 e3 HE P1 P2 HF
      generalize MpR l = L at HG Q1 Q2
      have SP := Lib.hid (fun x y w1 h1 h2 => sameP_self x y L w1 h1 h2 HG.out.1 HG.out.2)
      have OP := Lib.hid (fun x w1 h1 => oldsP_any x L w1 h1 HG.out.1)
      unfold PsPost at Q1 Q2
      unfold OutP at OP
      clear HG
      go_wp2_with fail
      refine (Q1.out _ _ V.out hl).mono ?_
      rintro e w5 ⟨a1, c1, rfl, ht1, hb⟩
      replace A := Lib.hid (A.out.below hb)
      replace D := Lib.hid (D.out.trans (hb.mono D.out.size))
      have T1 := Lib.hid ht1
      clear hb ht1 Q1 V
      go_wp2_with fail
      refine (Q2.out _ _ A.out (by have := HN.out; omega)).mono ?_
      rintro e w6 ⟨a2, c2, rfl, ht2, hb⟩
      replace T1 := Lib.hid (T1.out.below hb)
      replace D := Lib.hid (D.out.trans (hb.mono D.out.size))
      have T2 := Lib.hid ht2
      clear hb ht2 Q2 A
      go_wp2_with fail
      refine (alive_any _).mono ?_
      rintro e w7 ⟨rfl, hb⟩
      replace T1 := Lib.hid (T1.out.below hb)
      replace T2 := Lib.hid (T2.out.below hb)
      replace D := Lib.hid (D.out.trans (hb.mono D.out.size))
      clear hb
      go_wp2_with fail
      refine (OP.out _ _ T1.out).mono ?_
      rintro e w8 ⟨a4, c4, rfl, ht4, hb⟩
      replace T2 := Lib.hid (T2.out.below hb)
      replace D := Lib.hid (D.out.trans (hb.mono D.out.size))
      have T4 := Lib.hid (ht4.imp (ok' := any) fun _ _ _ => trivial)
      clear hb ht4 T1
      go_wp2_with fail
      refine (OP.out _ _ T2.out).mono ?_
      rintro e w9 ⟨a5, c5, rfl, ht5, hb⟩
      replace T4 := Lib.hid (T4.out.below hb)
      replace D := Lib.hid (D.out.trans (hb.mono D.out.size))
      have T5 := Lib.hid (ht5.imp (ok' := any) fun _ _ _ => trivial)
      clear hb ht5 T2
      go_wp2_with fail
      refine (SP.out _ _ _ T4.out T5.out).mono ?_
      rintro e w10 ⟨rfl, hb⟩
      replace D := Lib.hid (D.out.trans (hb.mono D.out.size))
      clear hb
      go_wp2_with fail
      go_ret
      exact ⟨rfl, D.out⟩
end Go.Proofs.YtgaediondmdnbaaGreat.Se
