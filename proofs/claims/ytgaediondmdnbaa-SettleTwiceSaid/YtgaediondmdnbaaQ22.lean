/- What Settle tells of any row; what follows of that. The program's Ended at any row: the walk. The statements' own first look at package settle: the walk. SettleAll, SettleTwice, SettleEnds: the walks. -/
import Derived.Test.YtgaediondmdnbaaQ21
import Derived.Test.YtgaediondmdnbaaQ05
import Derived.BigQuiet
import Derived.Test.YtgaediondmdnbaaQ14
import Derived.Test.YtgaediondmdnbaaQ15
import Derived.Deep.RegionHeld3

namespace Go.Proofs.Ytgaediondmdnbaa.Se
open Go Go.RowKit Go.Proofs.Ytgaediondmdnbaa.Rw Go.Proofs.Ytgaediondmdnbaa.So
set_option maxRecDepth 20000

/-- A row is of one tree. -/
theorem flat_inj : ∀ t u : Tm, flat t = flat u → t = u := by
  intro t
  induction t with
  | act s =>
    intro u h
    have hk : kd u = 1 := by unfold kd; rw [← h]; rfl
    cases u <;> try (simp [kd, flat, hd, nOf] at hk; done)
    · have e := congrArg nml h
      exact congrArg Tm.act e
  | skip =>
    intro u h
    have hk : kd u = 2 := by unfold kd; rw [← h]; rfl
    cases u <;> try (simp [kd, flat, hd, nOf] at hk; done)
    · rfl
  | throw =>
    intro u h
    have hk : kd u = 3 := by unfold kd; rw [← h]; rfl
    cases u <;> try (simp [kd, flat, hd, nOf] at hk; done)
    · rfl
  | yield =>
    intro u h
    have hk : kd u = 4 := by unfold kd; rw [← h]; rfl
    cases u <;> try (simp [kd, flat, hd, nOf] at hk; done)
    · rfl
  | over s =>
    intro u h
    have hk : kd u = 11 := by unfold kd; rw [← h]; rfl
    cases u <;> try (simp [kd, flat, hd, nOf] at hk; done)
    · have e := congrArg sgl h
      exact congrArg Tm.over e
  | block a ia =>
    intro u h
    have hk : kd u = 9 := by unfold kd; rw [← h]; rfl
    cases u <;> try (simp [kd, flat, hd, nOf] at hk; done)
    · have e := congrArg kids h
      rw [kids_block, kids_block] at e
      injection e with e _
      rw [ia _ e]
  | fin s c ic =>
    intro u h
    have hk : kd u = 14 := by unfold kd; rw [← h]; rfl
    cases u <;> try (simp [kd, flat, hd, nOf] at hk; done)
    · have e := congrArg kids h
      have e2 : s = _ := congrArg sgl h
      rw [kids_fin, kids_fin] at e
      injection e with e _
      rw [ic _ e, e2]
      rfl
  | seq a b ia ib =>
    intro u h
    have hk : kd u = 5 := by unfold kd; rw [← h]; rfl
    cases u <;> try (simp [kd, flat, hd, nOf] at hk; done)
    · have e := congrArg kids h
      rw [kids_seq, kids_seq] at e
      injection e with e1 e
      injection e with e2 _
      rw [ia _ e1, ib _ e2]
  | alt a b ia ib =>
    intro u h
    have hk : kd u = 6 := by unfold kd; rw [← h]; rfl
    cases u <;> try (simp [kd, flat, hd, nOf] at hk; done)
    · have e := congrArg kids h
      rw [kids_alt, kids_alt] at e
      injection e with e1 e
      injection e with e2 _
      rw [ia _ e1, ib _ e2]
  | par a b ia ib =>
    intro u h
    have hk : kd u = 7 := by unfold kd; rw [← h]; rfl
    cases u <;> try (simp [kd, flat, hd, nOf] at hk; done)
    · have e := congrArg kids h
      rw [kids_par, kids_par] at e
      injection e with e1 e
      injection e with e2 _
      rw [ia _ e1, ib _ e2]
  | hand a b ia ib =>
    intro u h
    have hk : kd u = 8 := by unfold kd; rw [← h]; rfl
    cases u <;> try (simp [kd, flat, hd, nOf] at hk; done)
    · have e := congrArg kids h
      rw [kids_hand, kids_hand] at e
      injection e with e1 e
      injection e with e2 _
      rw [ia _ e1, ib _ e2]
  | pair a b ia ib =>
    intro u h
    have hk : kd u = 10 := by unfold kd; rw [← h]; rfl
    cases u <;> try (simp [kd, flat, hd, nOf] at hk; done)
    · have e := congrArg kids h
      rw [kids_pair, kids_pair] at e
      injection e with e1 e
      injection e with e2 _
      rw [ia _ e1, ib _ e2]
  | going a b ia ib =>
    intro u h
    have hk : kd u = 12 := by unfold kd; rw [← h]; rfl
    cases u <;> try (simp [kd, flat, hd, nOf] at hk; done)
    · have e := congrArg kids h
      rw [kids_going, kids_going] at e
      injection e with e1 e
      injection e with e2 _
      rw [ia _ e1, ib _ e2]
  | stack a b ia ib =>
    intro u h
    have hk : kd u = 13 := by unfold kd; rw [← h]; rfl
    cases u <;> try (simp [kd, flat, hd, nOf] at hk; done)
    · have e := congrArg kids h
      rw [kids_stack, kids_stack] at e
      injection e with e1 e
      injection e with e2 _
      rw [ia _ e1, ib _ e2]
/-- What comes of a row. -/
noncomputable def st (l : List Nd) : List Nd := if h : of l = 0 then [] else flat (S (goes_of h).choose)
theorem st_no {l : List Nd} (h : of l = 0) : st l = [] := dif_pos h
theorem st_go {t : Tm} (h : Goes t) : st (flat t) = flat (S t) := by
  have h0 := h.of
  unfold st
  rw [dif_neg h0]
  rw [flat_inj _ _ (goes_of h0).choose_spec.1]
theorem st_len (l : List Nd) : (st l).length ≤ l.length := by
  by_cases h : of l = 0
  · rw [st_no h]; exact Nat.zero_le _
  · obtain ⟨t, rfl, hg⟩ := goes_of h
    rw [st_go hg, flat_len, flat_len]
    exact S_sz t
/-- A row that comes of another one. -/
theorem st_some {l : List Nd} (h : st l ≠ []) : ∃ t, flat t = l ∧ Goes t ∧ st l = flat (S t) := by
  by_cases h0 : of l = 0
  · exact absurd (st_no h0) h
  · obtain ⟨t, rfl, hg⟩ := goes_of h0
    exact ⟨t, rfl, hg, st_go hg⟩
theorem settleP_any (v : Value) (l : List Nd) (w : World) (hv : Nds w v l) (hl : l.length ≤ 1000) (hm : Nms l) : Calls Try.prog 11 #[v] w (OutL (st l) w) := by
  by_cases h : of l = 0
  · rw [st_no h]; exact settleP_no v l w hv hl hm h
  · obtain ⟨t, rfl, hg⟩ := goes_of h
    rw [st_go hg]; exact settleP_go v t w hv hm hg
theorem settleR_any (v : Value) (l : List Nd) (w : World) (hv : Nds w v l) (hl : l.length ≤ 1000) (hm : Nms l) : Calls Try.prog 13 #[v] w (OutL (st l) w) := by
  by_cases h : of l = 0
  · rw [st_no h]; exact settleR_no v l w hv hl hm h
  · obtain ⟨t, rfl, hg⟩ := goes_of h
    rw [st_go hg]; exact settleR_go v t w hv hm hg
theorem nms_goes {t : Tm} (h : rg t = true) : Nms (flat t) := by
  intro x hx
  have hr : rgt x = true := (List.all_eq_true.1 h) x hx
  obtain ⟨k, n, s⟩ := x
  show n.size ≤ _
  by_cases h1 : k = 1
  · subst h1
    rw [rgt_act] at hr
    simp only [Bool.and_eq_true, decide_eq_true_eq] at hr
    omega
  · by_cases h2 : k = 11 ∨ k = 14
    · rw [rgt_sign n s h2] at hr
      simp only [Bool.and_eq_true, decide_eq_true_eq] at hr
      omega
    · have h0 : ¬ ar k < 0 := fun h0 => by unfold rgt at hr; rw [if_pos h0] at hr; cases hr
      rw [rgt_other n s h0 h1 h2] at hr
      simp only [Bool.and_eq_true, decide_eq_true_eq] at hr
      omega
theorem nms_st (l : List Nd) : Nms (st l) := by
  by_cases h : st l = []
  · rw [h]; intro x hx; cases hx
  · obtain ⟨t, _, hg, e⟩ := st_some h
    rw [e]
    exact nms_goes hg.S.1
theorem st_twice {l : List Nd} (h : st l ≠ []) : st (st l) = st l := by
  obtain ⟨t, rfl, hg, e⟩ := st_some h
  rw [e, st_go hg.S, S_twice]
theorem st_on {l : List Nd} (h : st l ≠ []) (p : Bool) : onB (st l) p = onB l p := by
  obtain ⟨t, rfl, hg, e⟩ := st_some h
  rw [e, on_flat hg.1 hg.2.1, on_flat hg.S.1 hg.S.2.1]
  have k := S_is t
  have n := is_not (t := t)
  have n' := is_not (t := S t)
  have hi := hg.2.2
  cases h3 : is t 3 <;> cases h4 : is t 4 <;> cases g3 : is (S t) 3 <;> cases g4 : is (S t) 4 <;> cases p <;> simp_all
theorem settledQ_any (v : Value) (l : List Nd) (w : World) (hv : Nds w v l) (hl : l.length ≤ 1000) (hm : Nms l) :
    Calls Try.prog 17 #[v] w fun e w' => e = .returned (.bool (decide (0 < l.length) && sameN (st l) l)) ∧ Below w.heap.size w w' := by
  by_cases h0 : 0 < l.length
  · rw [decide_eq_true h0, Bool.true_and]
    exact settledQ_some v l (st l) w hv hl (by have := st_len l; omega) h0 (settleP_any v l w hv hl hm)
  · have : l = [] := List.eq_nil_of_length_eq_zero (by omega)
    subst this
    obtain ⟨_, a, c, rfl, -⟩ := hv
    refine (settledQ_none a c w).mono ?_
    rintro e w' ⟨rfl, rfl⟩
    exact ⟨rfl, Below.refl _ _⟩
theorem same_self (l : List Nd) : sameN l l = true := decide_eq_true rfl
theorem st_par {a b : List Nd} (ha : st a ≠ []) (hb : st b ≠ []) (ho : onB a true = onB b true) (hl : a.length + b.length ≤ 120) : st (nOf 7 :: (a ++ b)) = st (nOf 7 :: (st a ++ st b)) := by
  obtain ⟨t, rfl, hg, e⟩ := st_some ha
  obtain ⟨u, rfl, hu, e'⟩ := st_some hb
  rw [e, e']
  rw [on_flat hg.1 hg.2.1, on_flat hu.1 hu.2.1] at ho
  simp only [if_true] at ho
  have h1 := hg.2.2
  have h2 := hu.2.2
  have n1 := is_not (t := t)
  have n2 := is_not (t := u)
  have hs := S_sz t
  have hs' := S_sz u
  rw [flat_len, flat_len] at hl
  have hi : (is t 3 = true ∧ is u 3 = true) ∨ (is t 4 = true ∧ is u 4 = true) := by
    cases h3 : is t 3 <;> cases h4 : is t 4 <;> cases g3 : is u 3 <;> cases g4 : is u 4 <;> simp_all
  have G1 : Goes (.par t u) := ⟨by rw [rg_par, hg.1, hu.1]; rfl, by simp only [sz]; omega, by simpa [is] using hi⟩
  have G2 : Goes (.par (S t) (S u)) := ⟨by rw [rg_par, hg.S.1, hu.S.1]; rfl, by simp only [sz]; omega, by
    simp only [is, Bool.and_eq_true]
    exact hi.imp (fun h => ⟨(S_is t).1 h.1, (S_is u).1 h.2⟩) (fun h => ⟨(S_is t).2 h.1, (S_is u).2 h.2⟩)⟩
  have x1 := st_go G1
  have x2 := st_go G2
  rw [S_par] at x1 x2
  rw [S_twice, S_twice] at x2
  exact x1.trans x2.symm
theorem st_block {a : List Nd} (ha : st a ≠ []) (hl : a.length ≤ 120) : st (nOf 9 :: a) = st (nOf 9 :: st a) := by
  obtain ⟨t, rfl, hg, e⟩ := st_some ha
  rw [e]
  have hs := S_sz t
  rw [flat_len] at hl
  cases h4 : is t 4 with
  | true =>
    have G1 : Goes (.block t) := ⟨by rw [rg_block]; exact hg.1, by simp only [sz]; omega, .inl (by simpa [is] using h4)⟩
    have G2 : Goes (.block (S t)) := ⟨by rw [rg_block]; exact hg.S.1, by simp only [sz]; omega, .inl (by simpa [is] using (S_is t).2 h4)⟩
    have x1 := st_go G1
    have x2 := st_go G2
    rw [S_block] at x1 x2
    rw [S_twice] at x2
    exact x1.trans x2.symm
  | false =>
    have h3 : is t 3 = true := hg.2.2.resolve_right (by rw [h4]; decide)
    have no : ∀ u : Tm, rg u = true → Se.sz u ≤ 120 → is u 3 = true → st (nOf 9 :: flat u) = [] := fun u hr hz h3 => by
      refine st_no ?_
      have e1 : of (flat (.block u)) = 0 := by
        rw [of_flat (t := .block u) (by rw [rg_block]; exact hr) (by simp only [sz]; omega)]
        have k4 : is u 4 = false := by cases k4 : is u 4 with | false => rfl | true => exact absurd ⟨h3, k4⟩ is_not
        have k2 : is u 2 = false := by cases k2 : is u 2 with | false => rfl | true => rw [(is13 u).2 k2] at k4; cases k4
        simp [is, k4, k2]
      exact e1
    rw [no t hg.1 hl h3, no (S t) hg.S.1 (by omega) ((S_is t).1 h3)]
end Go.Proofs.Ytgaediondmdnbaa.Se

namespace Go.Proofs.Ytgaediondmdnbaa.Se
open Go Go.RowKit Go.Proofs.Ytgaediondmdnbaa.Rw Go.Proofs.Ytgaediondmdnbaa.So
set_option maxRecDepth 20000

/-- What the document's Ended tells: the sign, and whether there is an Over alone. -/
def overB (l : List Nd) : Bool := match l with | [x] => x.k == 11 | _ => false
def overS (l : List Nd) : Int := match l with | [x] => if x.k == 11 then x.s else 0 | _ => 0
set_option maxHeartbeats 1000000 in
theorem endedP_not (v : Value) (l : List Nd) (w : World) (hv : Nds w v l) (hn : l.length ≠ 1) : Calls Try.prog 14 #[v] w fun e w' => e = .returned (.tuple #[.int .i64 0, .bool false]) ∧ Below w.heap.size w w' := by
  obtain ⟨_, a, c, rfl, -⟩ := hv
  obtain ⟨n, hl⟩ : ∃ n, l.length = n := ⟨_, rfl⟩
  rw [hl] at hn ⊢
  have h1 : ((n : Int) = 1) = False := by simp; omega
  clear hl
  go_enter Try.func14, Try.ntmps14
  go_wp2_with fail
  go_ret2
  exact ⟨rfl, Below.refl _ _⟩
set_option maxHeartbeats 1000000 in
theorem endedP_one (v : Value) (x : Nd) (w : World) (hv : Nds w v [x]) : Calls Try.prog 14 #[v] w fun e w' => e = .returned (.tuple #[.int .i64 (overS [x]), .bool (overB [x])]) ∧ Below w.heap.size w w' := by
  rcases hv.form with ⟨h0, _⟩ | ⟨b, o, c, rfl, hc, hat⟩
  · cases h0
  obtain ⟨e0, e1, e2⟩ := hat 0 (by simp)
  simp only [List.getElem_cons_zero, Nat.zero_mul, Nat.add_zero] at e0 e1 e2
  simp only [List.length_cons, List.length_nil, Nat.zero_add] at hc ⊢
  obtain ⟨xk, xn, xs⟩ := x
  simp only [overS, overB]
  by_cases h : xk = 11
  · subst h
    clear hat hv
    go_enter Try.func14, Try.ntmps14
    go_wp2_with fail
    go_ret2
    exact ⟨rfl, Below.refl _ _⟩
  · have h1 : (xk == 11) = false := by simpa using h
    rw [h1]
    clear hat hv
    go_enter Try.func14, Try.ntmps14
    go_wp2_with fail
    go_ret2
    exact ⟨rfl, Below.refl _ _⟩
theorem endedP_any (v : Value) (l : List Nd) (w : World) (hv : Nds w v l) : Calls Try.prog 14 #[v] w fun e w' => e = .returned (.tuple #[.int .i64 (overS l), .bool (overB l)]) ∧ Below w.heap.size w w' := by
  match l, hv with
  | [], hv => exact endedP_not v [] w hv (by simp)
  | [x], hv => exact endedP_one v x w hv
  | x :: y :: r, hv => exact endedP_not v (x :: y :: r) w hv (by simp)
theorem ended_act (s : ByteArray) (v : Value) (w : World) (hv : Nds w v [nAct s]) :
    Calls Try.prog 14 #[v] w fun e w' => e = .returned (.tuple #[.int .i64 0, .bool false]) ∧ Below w.heap.size w w' := endedP_any v [nAct s] w hv
theorem ended_over (v : Value) (w : World) (hv : Nds w v [nOver 2]) :
    Calls Try.prog 14 #[v] w fun e w' => e = .returned (.tuple #[.int .i64 2, .bool true]) ∧ Below w.heap.size w w' := endedP_any v [nOver 2] w hv
end Go.Proofs.Ytgaediondmdnbaa.Se

namespace Go.Proofs.Ytgaediondmdnbaa.Se
open Go Go.RowKit Go.Proofs.Ytgaediondmdnbaa.Rw Go.Proofs.Ytgaediondmdnbaa.So
set_option maxRecDepth 20000

/-- A row of nodes in a block that is new. -/
theorem nds_new (w : World) (l : List Nd) (ty : TypeId) : Nds (w.alloc (.cells (cls l).toArray ty)) (.slice (some ⟨w.heap.size, 0, none⟩) l.length l.length) l := by
  refine ⟨cls_len l, some ⟨w.heap.size, 0, none⟩, l.length, rfl, Nat.le_refl _, fun h => (by cases h), fun _ => ⟨w.heap.size, 0, rfl, fun j u hu => ?_⟩⟩
  rw [Nat.zero_add, World.cell?_alloc_new]
  simpa using hu
/-- A call that tells a row of so many nodes. -/
def OutN' (n : Nat) (l : List Nd) (w : World) (e : Ending) (w' : World) : Prop := ∃ a c, e = .returned (.slice a n c) ∧ Nds w' (.slice a n c) l ∧ Below w.heap.size w w'
theorem OutL.n {n : Nat} {l : List Nd} {w w' : World} {e : Ending} (hn : l.length = n) (h : OutL l w e w') : OutN' n l w e w' := by
  obtain ⟨y, rfl, hy, hb⟩ := h
  obtain ⟨_, a, c, rfl, -⟩ := id hy
  rw [hn] at hy ⊢
  exact ⟨a, c, rfl, hy, hb⟩
theorem nms_few {l : List Nd} (h : ∀ x ∈ l, x.n.size ≤ 8) : Nms l := fun x hx => Nat.le_trans (h x hx) (by decide)
theorem goL : Goes (.seq .skip (.act ⟨#[97]⟩)) := ⟨by decide +kernel, by decide, by decide⟩
theorem goM : Goes (.block (.seq (.fin 1 (.act ⟨#[98]⟩)) (.pair (.act ⟨#[99]⟩) (.act ⟨#[100]⟩)))) := ⟨by decide +kernel, by decide, by decide⟩
theorem goMs : Goes (.block (.stack (.pair (.act ⟨#[99]⟩) (.act ⟨#[100]⟩)) (.act ⟨#[98]⟩))) := ⟨by decide +kernel, by decide, by decide⟩
theorem goS : Goes (.skip : Tm) := ⟨by decide +kernel, by decide, by decide⟩
theorem al_L (w : World) : Calls Try.prog 11 #[.slice (some ⟨w.heap.size, 0, none⟩) 3 3] (w.alloc (.cells #[.int .i64 5, .string ⟨#[]⟩, .int .i64 0, .int .i64 2, .string ⟨#[]⟩, .int .i64 0, .int .i64 1, .string ⟨#[97]⟩, .int .i64 0] 30)) (OutN' 1 [nAct ⟨#[97]⟩] (w.alloc (.cells #[.int .i64 5, .string ⟨#[]⟩, .int .i64 0, .int .i64 2, .string ⟨#[]⟩, .int .i64 0, .int .i64 1, .string ⟨#[97]⟩, .int .i64 0] 30))) := (settleP_go _ (.seq .skip (.act ⟨#[97]⟩)) _ (nds_new w (flat (.seq .skip (.act ⟨#[97]⟩))) 30) (nms_few (by decide)) goL).mono fun _ _ h => h.n rfl
theorem al_M (w : World) : Calls Try.prog 11 #[.slice (some ⟨w.heap.size, 0, none⟩) 7 7] (w.alloc (.cells #[.int .i64 9, .string ⟨#[]⟩, .int .i64 0, .int .i64 5, .string ⟨#[]⟩, .int .i64 0, .int .i64 14, .string ⟨#[]⟩, .int .i64 1, .int .i64 1, .string ⟨#[98]⟩, .int .i64 0, .int .i64 10, .string ⟨#[]⟩, .int .i64 0, .int .i64 1, .string ⟨#[99]⟩, .int .i64 0, .int .i64 1, .string ⟨#[100]⟩, .int .i64 0] 30)) (OutN' 6 (flat (.block (.stack (.pair (.act ⟨#[99]⟩) (.act ⟨#[100]⟩)) (.act ⟨#[98]⟩)))) (w.alloc (.cells #[.int .i64 9, .string ⟨#[]⟩, .int .i64 0, .int .i64 5, .string ⟨#[]⟩, .int .i64 0, .int .i64 14, .string ⟨#[]⟩, .int .i64 1, .int .i64 1, .string ⟨#[98]⟩, .int .i64 0, .int .i64 10, .string ⟨#[]⟩, .int .i64 0, .int .i64 1, .string ⟨#[99]⟩, .int .i64 0, .int .i64 1, .string ⟨#[100]⟩, .int .i64 0] 30))) := (settleP_go _ (.block (.seq (.fin 1 (.act ⟨#[98]⟩)) (.pair (.act ⟨#[99]⟩) (.act ⟨#[100]⟩)))) _ (nds_new w (flat (.block (.seq (.fin 1 (.act ⟨#[98]⟩)) (.pair (.act ⟨#[99]⟩) (.act ⟨#[100]⟩))))) 30) (nms_few (by decide)) goM).mono fun _ _ h => h.n rfl
theorem al_T (w : World) : Calls Try.prog 15 #[.slice (some ⟨w.heap.size, 0, none⟩) 1 1] (w.alloc (.cells #[.int .i64 3, .string ⟨#[]⟩, .int .i64 0] 30)) (OutN' 1 [nOver 2] (w.alloc (.cells #[.int .i64 3, .string ⟨#[]⟩, .int .i64 0] 30))) := (beginP_go _ .throw _ (nds_new w (flat .throw) 30) (nms_few (by decide)) ⟨by decide +kernel, by decide, by decide⟩ (by decide +kernel)).mono fun _ _ h => h.n rfl
theorem al_A (w : World) : Calls Try.prog 11 #[.slice (some ⟨w.heap.size, 0, none⟩) 1 1] (w.alloc (.cells #[.int .i64 1, .string ⟨#[]⟩, .int .i64 0] 30)) (OutN' 0 [] (w.alloc (.cells #[.int .i64 1, .string ⟨#[]⟩, .int .i64 0] 30))) := (settleP_no _ [nOf 1] _ (nds_new w [nOf 1] 30) (by decide) (nms_few (by decide)) (by decide +kernel)).mono fun _ _ h => h.n rfl
theorem al_Sk (w : World) : Calls Try.prog 17 #[.slice (some ⟨w.heap.size, 0, none⟩) 1 1] (w.alloc (.cells #[.int .i64 2, .string ⟨#[]⟩, .int .i64 0] 30)) fun e w' => e = .returned (.bool false) ∧ Below (w.alloc (.cells #[.int .i64 2, .string ⟨#[]⟩, .int .i64 0] 30)).heap.size (w.alloc (.cells #[.int .i64 2, .string ⟨#[]⟩, .int .i64 0] 30)) w' :=
  (settledQ_some _ (flat .skip) (flat (S .skip)) _ (nds_new w (flat .skip) 30) (by decide) (by decide) (by decide) (settleP_go _ .skip _ (nds_new w (flat .skip) 30) (nms_few (by decide)) goS)).mono fun _ _ h => ⟨h.1.trans (ret_bool (by decide +kernel)), h.2⟩
theorem al_Ms (v : Value) (w : World) (h : Nds w v (flat (.block (.stack (.pair (.act ⟨#[99]⟩) (.act ⟨#[100]⟩)) (.act ⟨#[98]⟩))))) : Calls Try.prog 17 #[v] w fun e w' => e = .returned (.bool true) ∧ Below w.heap.size w w' :=
  (settledQ_some _ (flat (.block (.stack (.pair (.act ⟨#[99]⟩) (.act ⟨#[100]⟩)) (.act ⟨#[98]⟩)))) (flat (S (.block (.stack (.pair (.act ⟨#[99]⟩) (.act ⟨#[100]⟩)) (.act ⟨#[98]⟩))))) _ h (by decide) (by decide) (by decide) (settleP_go _ (.block (.stack (.pair (.act ⟨#[99]⟩) (.act ⟨#[100]⟩)) (.act ⟨#[98]⟩))) _ h (nms_few (by decide)) goMs)).mono fun _ _ h => ⟨h.1.trans (ret_bool (by decide +kernel)), h.2⟩
theorem al_Mb (v : Value) (w : World) (h : Nds w v (flat (.block (.stack (.pair (.act ⟨#[99]⟩) (.act ⟨#[100]⟩)) (.act ⟨#[98]⟩))))) : Calls Try.prog 15 #[v] w (OutN' 0 [] w) :=
  (beginP_no _ (flat (.block (.stack (.pair (.act ⟨#[99]⟩) (.act ⟨#[100]⟩)) (.act ⟨#[98]⟩)))) _ h (by decide) (nms_few (by decide)) (by decide +kernel)).mono fun _ _ h => h.n rfl
theorem al_sL (v : Value) (w : World) (h : Nds w v [nAct ⟨#[97]⟩]) : Calls Try.prog 12 #[v, .slice (some ⟨w.heap.size, 0, none⟩) 1 1] (w.alloc (.cells #[.int .i64 1, .string ⟨#[97]⟩, .int .i64 0] 30)) fun e w' => e = .returned (.bool true) ∧ Below (w.alloc (.cells #[.int .i64 1, .string ⟨#[97]⟩, .int .i64 0] 30)).heap.size (w.alloc (.cells #[.int .i64 1, .string ⟨#[97]⟩, .int .i64 0] 30)) w' :=
  (sameR_any _ _ [nAct ⟨#[97]⟩] [nAct ⟨#[97]⟩] _ (h.below (below1 w _)) (nds_new w [nAct ⟨#[97]⟩] 30) (by decide)).mono fun _ _ h => ⟨h.1.trans (ret_bool (by decide +kernel)), h.2⟩
theorem al_sM (v : Value) (w : World) (h : Nds w v (flat (.block (.stack (.pair (.act ⟨#[99]⟩) (.act ⟨#[100]⟩)) (.act ⟨#[98]⟩))))) : Calls Try.prog 12 #[v, .slice (some ⟨w.heap.size, 0, none⟩) 6 6] (w.alloc (.cells #[.int .i64 9, .string ⟨#[]⟩, .int .i64 0, .int .i64 13, .string ⟨#[]⟩, .int .i64 0, .int .i64 10, .string ⟨#[]⟩, .int .i64 0, .int .i64 1, .string ⟨#[99]⟩, .int .i64 0, .int .i64 1, .string ⟨#[100]⟩, .int .i64 0, .int .i64 1, .string ⟨#[98]⟩, .int .i64 0] 30)) fun e w' => e = .returned (.bool true) ∧ Below (w.alloc (.cells #[.int .i64 9, .string ⟨#[]⟩, .int .i64 0, .int .i64 13, .string ⟨#[]⟩, .int .i64 0, .int .i64 10, .string ⟨#[]⟩, .int .i64 0, .int .i64 1, .string ⟨#[99]⟩, .int .i64 0, .int .i64 1, .string ⟨#[100]⟩, .int .i64 0, .int .i64 1, .string ⟨#[98]⟩, .int .i64 0] 30)).heap.size (w.alloc (.cells #[.int .i64 9, .string ⟨#[]⟩, .int .i64 0, .int .i64 13, .string ⟨#[]⟩, .int .i64 0, .int .i64 10, .string ⟨#[]⟩, .int .i64 0, .int .i64 1, .string ⟨#[99]⟩, .int .i64 0, .int .i64 1, .string ⟨#[100]⟩, .int .i64 0, .int .i64 1, .string ⟨#[98]⟩, .int .i64 0] 30)) w' :=
  (sameR_any _ _ (flat (.block (.stack (.pair (.act ⟨#[99]⟩) (.act ⟨#[100]⟩)) (.act ⟨#[98]⟩)))) (flat (.block (.stack (.pair (.act ⟨#[99]⟩) (.act ⟨#[100]⟩)) (.act ⟨#[98]⟩)))) _ (h.below (below1 w _)) (nds_new w (flat (.block (.stack (.pair (.act ⟨#[99]⟩) (.act ⟨#[100]⟩)) (.act ⟨#[98]⟩)))) 30) (by decide)).mono fun _ _ h => ⟨h.1.trans (ret_bool (by decide +kernel)), h.2⟩
set_option maxHeartbeats 4000000 in
theorem alive_any (w : World) : Calls Try.prog 10 #[] w fun e w' => e = .returned (.bool true) ∧ Below w.heap.size w w' := by
  obtain ⟨w0, rfl⟩ : ∃ w0, w0 = w := ⟨_, rfl⟩
  have D := Lib.hid (Below.refl w0.heap.size w0)
  go_enter Try.func10, Try.ntmps10
  go_wp2_with fail
  refine (act_any ⟨#[97]⟩ w0).mono ?_
  rintro e w1 ⟨rfl, hb⟩
  replace D := Lib.hid (D.out.trans (hb.mono D.out.size))
  clear hb
  go_wp2_with fail
  have da := below1 w1 (.cells #[.int .i64 5, .string ⟨#[]⟩, .int .i64 0, .int .i64 2, .string ⟨#[]⟩, .int .i64 0, .int .i64 1, .string ⟨#[97]⟩, .int .i64 0] 30)
  refine (al_L w1).mono ?_
  rintro e w2 ⟨aL, cL, rfl, hn, hb⟩
  replace hb := da.trans (hb.mono da.size)
  replace D := Lib.hid (D.out.trans (hb.mono D.out.size))
  have L := Lib.hid hn
  clear hb hn da
  go_wp2_with fail
  refine (act_any ⟨#[98]⟩ w2).mono ?_
  rintro e w3 ⟨rfl, hb⟩
  replace L := Lib.hid (L.out.below hb)
  replace D := Lib.hid (D.out.trans (hb.mono D.out.size))
  clear hb
  go_wp2_with fail
  refine (act_any ⟨#[99]⟩ w3).mono ?_
  rintro e w4 ⟨rfl, hb⟩
  replace L := Lib.hid (L.out.below hb)
  replace D := Lib.hid (D.out.trans (hb.mono D.out.size))
  clear hb
  go_wp2_with fail
  refine (act_any ⟨#[100]⟩ w4).mono ?_
  rintro e w5 ⟨rfl, hb⟩
  replace L := Lib.hid (L.out.below hb)
  replace D := Lib.hid (D.out.trans (hb.mono D.out.size))
  clear hb
  go_wp2_with fail
  have da := below1 w5 (.cells #[.int .i64 9, .string ⟨#[]⟩, .int .i64 0, .int .i64 5, .string ⟨#[]⟩, .int .i64 0, .int .i64 14, .string ⟨#[]⟩, .int .i64 1, .int .i64 1, .string ⟨#[98]⟩, .int .i64 0, .int .i64 10, .string ⟨#[]⟩, .int .i64 0, .int .i64 1, .string ⟨#[99]⟩, .int .i64 0, .int .i64 1, .string ⟨#[100]⟩, .int .i64 0] 30)
  refine (al_M w5).mono ?_
  rintro e w6 ⟨aM, cM, rfl, hn, hb⟩
  replace hb := da.trans (hb.mono da.size)
  replace L := Lib.hid (L.out.below hb)
  replace D := Lib.hid (D.out.trans (hb.mono D.out.size))
  have M := Lib.hid hn
  clear hb hn da
  go_wp2_with fail
  have da := below1 w6 (.cells #[.int .i64 3, .string ⟨#[]⟩, .int .i64 0] 30)
  refine (al_T w6).mono ?_
  rintro e w7 ⟨aT, cT, rfl, hn, hb⟩
  replace hb := da.trans (hb.mono da.size)
  replace L := Lib.hid (L.out.below hb)
  replace M := Lib.hid (M.out.below hb)
  replace D := Lib.hid (D.out.trans (hb.mono D.out.size))
  have T := Lib.hid hn
  clear hb hn da
  go_wp2_with fail
  refine (ended_over _ w7 T.out).mono ?_
  rintro e w8 ⟨rfl, hb⟩
  replace L := Lib.hid (L.out.below hb)
  replace M := Lib.hid (M.out.below hb)
  replace T := Lib.hid (T.out.below hb)
  replace D := Lib.hid (D.out.trans (hb.mono D.out.size))
  clear hb
  go_wp2_with fail
  refine (ended_act ⟨#[97]⟩ _ w8 L.out).mono ?_
  rintro e w9 ⟨rfl, hb⟩
  replace L := Lib.hid (L.out.below hb)
  replace M := Lib.hid (M.out.below hb)
  replace D := Lib.hid (D.out.trans (hb.mono D.out.size))
  clear hb
  go_wp2_with fail
  refine (act_any ⟨#[97]⟩ w9).mono ?_
  rintro e w10 ⟨rfl, hb⟩
  replace L := Lib.hid (L.out.below hb)
  replace M := Lib.hid (M.out.below hb)
  replace D := Lib.hid (D.out.trans (hb.mono D.out.size))
  clear hb
  go_wp2_with fail
  have da := below1 w10 (.cells #[.int .i64 1, .string ⟨#[97]⟩, .int .i64 0] 30)
  refine (al_sL _ w10 L.out).mono ?_
  rintro e w11 ⟨rfl, hb⟩
  replace hb := da.trans (hb.mono da.size)
  replace L := Lib.hid (L.out.below hb)
  replace M := Lib.hid (M.out.below hb)
  replace D := Lib.hid (D.out.trans (hb.mono D.out.size))
  clear hb da
  go_wp2_with fail
  refine (act_any ⟨#[99]⟩ w11).mono ?_
  rintro e w12 ⟨rfl, hb⟩
  replace L := Lib.hid (L.out.below hb)
  replace M := Lib.hid (M.out.below hb)
  replace D := Lib.hid (D.out.trans (hb.mono D.out.size))
  clear hb
  go_wp2_with fail
  refine (act_any ⟨#[100]⟩ w12).mono ?_
  rintro e w13 ⟨rfl, hb⟩
  replace L := Lib.hid (L.out.below hb)
  replace M := Lib.hid (M.out.below hb)
  replace D := Lib.hid (D.out.trans (hb.mono D.out.size))
  clear hb
  go_wp2_with fail
  refine (act_any ⟨#[98]⟩ w13).mono ?_
  rintro e w14 ⟨rfl, hb⟩
  replace L := Lib.hid (L.out.below hb)
  replace M := Lib.hid (M.out.below hb)
  replace D := Lib.hid (D.out.trans (hb.mono D.out.size))
  clear hb
  go_wp2_with fail
  have da := below1 w14 (.cells #[.int .i64 9, .string ⟨#[]⟩, .int .i64 0, .int .i64 13, .string ⟨#[]⟩, .int .i64 0, .int .i64 10, .string ⟨#[]⟩, .int .i64 0, .int .i64 1, .string ⟨#[99]⟩, .int .i64 0, .int .i64 1, .string ⟨#[100]⟩, .int .i64 0, .int .i64 1, .string ⟨#[98]⟩, .int .i64 0] 30)
  refine (al_sM _ w14 M.out).mono ?_
  rintro e w15 ⟨rfl, hb⟩
  replace hb := da.trans (hb.mono da.size)
  replace L := Lib.hid (L.out.below hb)
  replace M := Lib.hid (M.out.below hb)
  replace D := Lib.hid (D.out.trans (hb.mono D.out.size))
  clear hb da
  go_wp2_with fail
  refine (al_Ms _ w15 M.out).mono ?_
  rintro e w16 ⟨rfl, hb⟩
  replace L := Lib.hid (L.out.below hb)
  replace M := Lib.hid (M.out.below hb)
  replace D := Lib.hid (D.out.trans (hb.mono D.out.size))
  clear hb
  go_wp2_with fail
  refine (settledQ_none _ _ w16).mono ?_
  rintro e w17 ⟨rfl, rfl⟩
  go_wp2_with fail
  have da := below1 w16 (.cells #[.int .i64 2, .string ⟨#[]⟩, .int .i64 0] 30)
  refine (al_Sk w16).mono ?_
  rintro e w17 ⟨rfl, hb⟩
  replace hb := da.trans (hb.mono da.size)
  replace L := Lib.hid (L.out.below hb)
  replace M := Lib.hid (M.out.below hb)
  replace D := Lib.hid (D.out.trans (hb.mono D.out.size))
  clear hb da
  go_wp2_with fail
  have da := below1 w17 (.cells #[.int .i64 1, .string ⟨#[]⟩, .int .i64 0] 30)
  refine (al_A w17).mono ?_
  rintro e w18 ⟨aA, cA, rfl, hn, hb⟩
  replace hb := da.trans (hb.mono da.size)
  replace L := Lib.hid (L.out.below hb)
  replace M := Lib.hid (M.out.below hb)
  replace D := Lib.hid (D.out.trans (hb.mono D.out.size))
  have AA := Lib.hid hn
  clear hb hn da
  go_wp2_with fail
  refine (al_Mb _ w18 M.out).mono ?_
  rintro e w19 ⟨aB, cB, rfl, hn, hb⟩
  replace L := Lib.hid (L.out.below hb)
  replace M := Lib.hid (M.out.below hb)
  replace AA := Lib.hid (AA.out.below hb)
  replace D := Lib.hid (D.out.trans (hb.mono D.out.size))
  have BB := Lib.hid hn
  clear hb hn
  go_wp2_with fail
  go_ret
  exact ⟨rfl, D.out⟩
end Go.Proofs.Ytgaediondmdnbaa.Se

namespace Go.Proofs.Ytgaediondmdnbaa.Se
open Go Go.RowKit Go.Proofs.Ytgaediondmdnbaa.Rw Go.Proofs.Ytgaediondmdnbaa.So
set_option maxRecDepth 20000

/-- A copy of a row: append onto an empty one. -/
theorem copy_run {w : World} {v : Value} {l : List Nd} (hv : Nds w v l) (hl : l.length ≤ 1000000) :
    ∃ v' w', (Builtin.append_ #[22, 22] 22 #[.slice (some ⟨w.heap.size, 0, none⟩) 0 0, v]).run Try.prog (w.alloc (.cells #[] 30)) = .ok v' w' ∧ Nds w' v' l ∧ Below w.heap.size w w' := by
  obtain ⟨i0, hi, hz, hs1, hb8⟩ := info_parts infoN
  have hB := below1 w (.cells #[] 30)
  obtain ⟨v', w', h1, h2, h3⟩ := Ap.run_append_full (P := Try.prog) (ty := 22) Try.underlying22 hi hz hs1 hb8 (by rfl) (by omega) (a := some ⟨w.heap.size, 0, none⟩) (n := 0) (cs := []) (w := w.alloc (.cells #[] 30))
    ⟨rfl, _, 0, rfl, Nat.le_refl _, fun h => (by cases h), fun h => absurd h (Nat.lt_irrefl 0)⟩ (hv.below hB) cls_one (by unfold maxLen; omega) (by omega)
  refine ⟨v', w', h1, ?_, hB.trans (h3.mono hB.size)⟩
  rw [Nat.zero_add, List.nil_append] at h2
  exact h2
theorem few_len {l : List Nd} (h : fewB l = true) : l.length ≤ 120 := by
  unfold fewB at h
  rw [Bool.and_eq_true, decide_eq_true_eq] at h
  exact h.1
set_option maxHeartbeats 4000000 in
theorem all_law (v : Value) (l : List Nd) (w0 : World) (hv : Nds w0 v l) (hm : Nms l) :
    Calls Try.prog 3 #[v] w0 fun e w' => e = .returned (.bool true) ∧ Below w0.heap.size w0 w' := by
  have V := Lib.hid hv
  have HM := Lib.hid hm
  have D := Lib.hid (Below.refl w0.heap.size w0)
  have HS := Lib.hid (fun v w1 (h : Nds w1 v l) (hl : l.length ≤ 120) => settleP_any v l w1 h (by omega) hm)
  have HR := Lib.hid (fun v w1 (h : Nds w1 v l) (hl : l.length ≤ 120) => settleR_any v l w1 h (by omega) hm)
  have HQ : Hid (∀ x y w1, Nds w1 x (st l) → Nds w1 y (st l) → l.length ≤ 120 → Calls Try.prog 12 #[x, y] w1 fun e w' => e = .returned (.bool true) ∧ Below w1.heap.size w1 w') := Lib.hid fun x y w1 h1 h2 hl => (sameR_any x y (st l) (st l) w1 h1 h2 (by have := st_len l; omega)).mono fun _ _ h => ⟨h.1.trans (ret_bool (same_self _)), h.2⟩
  have HQ2 : Hid (∀ x y w1, Nds w1 x l → Nds w1 y l → l.length ≤ 120 → Calls Try.prog 12 #[x, y] w1 fun e w' => e = .returned (.bool true) ∧ Below w1.heap.size w1 w') := Lib.hid fun x y w1 h1 h2 hl => (sameR_any x y l l w1 h1 h2 (by omega)).mono fun _ _ h => ⟨h.1.trans (ret_bool (same_self _)), h.2⟩
  obtain ⟨m, hmm⟩ : ∃ m, st l = m := ⟨_, rfl⟩
  rw [hmm] at HS HR HQ
  obtain ⟨_, a, cap, rfl, -⟩ := hv
  clear hm hmm
  go_enter Try.func3, Try.ntmps3
  go_wp2_with fail
  refine (few_any _ l _ V.out).mono ?_
  cases hf : fewB l with
  | false =>
    rintro e w' ⟨rfl, rfl⟩
    go_wp2_with fail
    refine (alive_any _).mono ?_
    rintro e wn ⟨rfl, hb⟩
    go_wp2_with fail
    go_ret
    exact ⟨rfl, hb⟩
  | true =>
    have hl := few_len hf
    clear hf
    rintro e w' ⟨rfl, rfl⟩
    obtain ⟨g, w1, hrun, hgn, hb⟩ := copy_run V.out (by omega)
    have R := Lib.hid hrun
    obtain ⟨_, ga, gc, rfl, -⟩ := id hgn
    replace V := Lib.hid (V.out.below hb)
    replace D := Lib.hid (D.out.trans (hb.mono D.out.size))
    have G := Lib.hid hgn
    clear hrun hb hgn
    go_wp2_with (at_builtin; refine Ap.wpList_append_run (by rfl) (.tmp 9) (.tmp 10) _ _ rfl _ _ rfl rfl _ w1 R.out ?_)
    refine (HS.out _ _ V.out hl).mono ?_
    rintro e w2 ⟨yA, rfl, hn, hb⟩
    obtain ⟨_, aA, cA, rfl, -⟩ := id hn
    replace V := Lib.hid (V.out.below hb)
    replace G := Lib.hid (G.out.below hb)
    replace D := Lib.hid (D.out.trans (hb.mono D.out.size))
    have A := Lib.hid hn
    clear hn
    clear hb
    go_wp2_with fail
    refine (alive_any w2).mono ?_
    rintro e w3 ⟨rfl, hb⟩
    replace V := Lib.hid (V.out.below hb)
    replace G := Lib.hid (G.out.below hb)
    replace A := Lib.hid (A.out.below hb)
    replace D := Lib.hid (D.out.trans (hb.mono D.out.size))
    clear hb
    go_wp2_with fail
    refine (HR.out _ _ V.out hl).mono ?_
    rintro e w4 ⟨yB, rfl, hn, hb⟩
    obtain ⟨_, aB, cB, rfl, -⟩ := id hn
    replace V := Lib.hid (V.out.below hb)
    replace G := Lib.hid (G.out.below hb)
    replace A := Lib.hid (A.out.below hb)
    replace D := Lib.hid (D.out.trans (hb.mono D.out.size))
    have B := Lib.hid hn
    clear hn
    clear hb
    go_wp2_with fail
    refine (HQ.out _ _ _ A.out B.out hl).mono ?_
    rintro e w5 ⟨rfl, hb⟩
    replace V := Lib.hid (V.out.below hb)
    replace G := Lib.hid (G.out.below hb)
    replace A := Lib.hid (A.out.below hb)
    replace B := Lib.hid (B.out.below hb)
    replace D := Lib.hid (D.out.trans (hb.mono D.out.size))
    clear hb
    go_wp2_with fail
    refine (HQ2.out _ _ _ V.out G.out hl).mono ?_
    rintro e w6 ⟨rfl, hb⟩
    replace V := Lib.hid (V.out.below hb)
    replace G := Lib.hid (G.out.below hb)
    replace A := Lib.hid (A.out.below hb)
    replace B := Lib.hid (B.out.below hb)
    replace D := Lib.hid (D.out.trans (hb.mono D.out.size))
    clear hb
    go_wp2_with fail
    go_ret
    exact ⟨rfl, D.out⟩
set_option maxHeartbeats 4000000 in
theorem twice_law (v : Value) (l : List Nd) (w0 : World) (hv : Nds w0 v l) (hm : Nms l) :
    Calls Try.prog 5 #[v] w0 fun e w' => e = .returned (.bool true) ∧ Below w0.heap.size w0 w' := by
  have V := Lib.hid hv
  have HM := Lib.hid hm
  have D := Lib.hid (Below.refl w0.heap.size w0)
  have HS := Lib.hid (fun v w1 (h : Nds w1 v l) (hl : l.length ≤ 120) => settleP_any v l w1 h (by omega) hm)
  have HL := Lib.hid (st_len l)
  have HO := Lib.hid (fun p v w1 (h : Nds w1 v l) (hl : l.length ≤ 120) => Sx.onP_any l p v w1 h (by omega) hm)
  have HE : Hid (st l ≠ [] → (∀ v w1, Nds w1 v (st l) → (st l).length ≤ 120 → Calls Try.prog 17 #[v] w1 fun e w' => e = .returned (.bool true) ∧ Below w1.heap.size w1 w') ∧
      (∀ v w1, Nds w1 v (st l) → (st l).length ≤ 120 → Calls Try.prog 11 #[v] w1 (OutL (st l) w1)) ∧
      (∀ x y w1, Nds w1 x (st l) → Nds w1 y (st l) → (st l).length ≤ 120 → Calls Try.prog 12 #[x, y] w1 fun e w' => e = .returned (.bool true) ∧ Below w1.heap.size w1 w') ∧
      (∀ p v w1, Nds w1 v (st l) → (st l).length ≤ 120 → Calls Try.prog 18 #[v, .bool p] w1 fun e w' => e = .returned (.bool (onB l p)) ∧ Below w1.heap.size w1 w')) := Lib.hid fun hne => by
    have h2 := st_twice hne
    have hpos : 0 < (st l).length := List.length_pos_iff.2 hne
    refine ⟨fun v w1 h hl => ?_, fun v w1 h hl => ?_, fun x y w1 h1 h2 hl => (sameR_any x y (st l) (st l) w1 h1 h2 (by omega)).mono fun _ _ h => ⟨h.1.trans (ret_bool (same_self _)), h.2⟩, fun p v w1 h hl => ?_⟩
    · refine (settledQ_any v (st l) w1 h (by omega) (nms_st l)).mono fun _ _ h => ⟨h.1.trans (ret_bool ?_), h.2⟩
      rw [h2, same_self, decide_eq_true hpos]
      rfl
    · have h3 := settleP_any v (st l) w1 h (by omega) (nms_st l)
      rw [h2] at h3
      exact h3
    · have h3 := Sx.onP_any (st l) p v w1 h (by omega) (nms_st l)
      rw [st_on hne] at h3
      exact h3
  obtain ⟨m, hmm⟩ : ∃ m, st l = m := ⟨_, rfl⟩
  rw [hmm] at HS HL HE
  obtain ⟨_, a, cap, rfl, -⟩ := hv
  clear hm hmm
  go_enter Try.func5, Try.ntmps5
  go_wp2_with fail
  refine (few_any _ l _ V.out).mono ?_
  cases hf : fewB l with
  | false =>
    rintro e w' ⟨rfl, rfl⟩
    go_wp2_with fail
    refine (alive_any _).mono ?_
    rintro e wn ⟨rfl, hb⟩
    go_wp2_with fail
    go_ret
    exact ⟨rfl, hb⟩
  | true =>
    have hl := few_len hf
    clear hf
    rintro e w' ⟨rfl, rfl⟩
    obtain ⟨w0', hw0⟩ : ∃ x, w0 = x := ⟨_, rfl⟩
    clear hw0 w0'
    go_wp2_with fail
    refine (HS.out _ _ V.out hl).mono ?_
    rintro e w1 ⟨yA, rfl, hn, hb⟩
    obtain ⟨_, aA, cA, rfl, -⟩ := id hn
    replace V := Lib.hid (V.out.below hb)
    replace D := Lib.hid (D.out.trans (hb.mono D.out.size))
    have A := Lib.hid hn
    clear hn
    clear hb
    obtain ⟨n, hnn⟩ : ∃ n, m.length = n := ⟨_, rfl⟩
    rw [hnn] at A ⊢
    by_cases h0 : n = 0
    case pos =>
      subst h0
      go_wp2_with fail
      refine (alive_any w1).mono ?_
      rintro e w2 ⟨rfl, hb⟩
      replace V := Lib.hid (V.out.below hb)
      replace A := Lib.hid (A.out.below hb)
      replace D := Lib.hid (D.out.trans (hb.mono D.out.size))
      clear hb
      go_wp2_with fail
      go_ret
      exact ⟨rfl, D.out⟩
    case neg =>
      have g0 : ((n : Int) == 0) = false := by rw [beq_eq_false_iff_ne]; omega
      have hm0 : m ≠ [] := fun e => h0 (by rw [← hnn, e]; rfl)
      have HMM := Lib.hid (HE.out hm0)
      have hln : m.length ≤ 120 := by have := HL.out; omega
      rw [hnn] at hln
      have HNN := Lib.hid hnn
      have gp : decide (0 < n) = true := decide_eq_true (by omega)
      clear hnn hm0
      go_wp2_with fail
      refine (alive_any w1).mono ?_
      rintro e w2 ⟨rfl, hb⟩
      replace V := Lib.hid (V.out.below hb)
      replace A := Lib.hid (A.out.below hb)
      replace D := Lib.hid (D.out.trans (hb.mono D.out.size))
      clear hb
      go_wp2_with fail
      refine (HMM.out.1 _ _ A.out (by have := HNN.out; omega)).mono ?_
      rintro e w3 ⟨rfl, hb⟩
      replace V := Lib.hid (V.out.below hb)
      replace A := Lib.hid (A.out.below hb)
      replace D := Lib.hid (D.out.trans (hb.mono D.out.size))
      clear hb
      go_wp2_with fail
      refine (HMM.out.2.1 _ _ A.out (by have := HNN.out; omega)).mono ?_
      rintro e w4 ⟨yB, rfl, hn, hb⟩
      obtain ⟨_, aB, cB, rfl, -⟩ := id hn
      replace V := Lib.hid (V.out.below hb)
      replace A := Lib.hid (A.out.below hb)
      replace D := Lib.hid (D.out.trans (hb.mono D.out.size))
      have B := Lib.hid hn
      clear hn
      clear hb
      go_wp2_with fail
      refine (HMM.out.2.2.1 _ _ _ B.out A.out (by have := HNN.out; omega)).mono ?_
      rintro e w5 ⟨rfl, hb⟩
      replace V := Lib.hid (V.out.below hb)
      replace A := Lib.hid (A.out.below hb)
      replace B := Lib.hid (B.out.below hb)
      replace D := Lib.hid (D.out.trans (hb.mono D.out.size))
      clear hb
      go_wp2_with fail
      refine (HMM.out.2.2.2 false _ _ A.out (by have := HNN.out; omega)).mono ?_
      rintro e w6 ⟨rfl, hb⟩
      replace V := Lib.hid (V.out.below hb)
      replace A := Lib.hid (A.out.below hb)
      replace B := Lib.hid (B.out.below hb)
      replace D := Lib.hid (D.out.trans (hb.mono D.out.size))
      clear hb
      go_wp2_with fail
      refine (HO.out false _ _ V.out hl).mono ?_
      rintro e w7 ⟨rfl, hb⟩
      replace V := Lib.hid (V.out.below hb)
      replace A := Lib.hid (A.out.below hb)
      replace B := Lib.hid (B.out.below hb)
      replace D := Lib.hid (D.out.trans (hb.mono D.out.size))
      clear hb
      have gb1 : ((onB l false) == (onB l false)) = true := by cases onB l false <;> rfl
      have gb2 : ((onB l true) == (onB l true)) = true := by cases onB l true <;> rfl
      go_wp2_with fail
      refine (HMM.out.2.2.2 true _ _ A.out (by have := HNN.out; omega)).mono ?_
      rintro e w8 ⟨rfl, hb⟩
      replace V := Lib.hid (V.out.below hb)
      replace A := Lib.hid (A.out.below hb)
      replace B := Lib.hid (B.out.below hb)
      replace D := Lib.hid (D.out.trans (hb.mono D.out.size))
      clear hb
      go_wp2_with fail
      refine (HO.out true _ _ V.out hl).mono ?_
      rintro e w9 ⟨rfl, hb⟩
      replace V := Lib.hid (V.out.below hb)
      replace A := Lib.hid (A.out.below hb)
      replace B := Lib.hid (B.out.below hb)
      replace D := Lib.hid (D.out.trans (hb.mono D.out.size))
      clear hb
      go_wp2_with fail
      go_ret
      exact ⟨rfl, D.out⟩
set_option maxHeartbeats 4000000 in
theorem ends_law (v : Value) (l : List Nd) (w0 : World) (hv : Nds w0 v l) (hm : Nms l) :
    Calls Try.prog 6 #[v] w0 fun e w' => e = .returned (.bool true) ∧ Below w0.heap.size w0 w' := by
  have V := Lib.hid hv
  have HM := Lib.hid hm
  have D := Lib.hid (Below.refl w0.heap.size w0)
  have HS := Lib.hid (fun v w1 (h : Nds w1 v l) (hl : l.length ≤ 120) => settleP_any v l w1 h (by omega) hm)
  have HL := Lib.hid (st_len l)
  have HE : Hid (st l ≠ [] → ∃ u, flat u = st l ∧ sz u ≤ 200 ∧ (waits u = false → kd u ≠ 11 → kd u ≠ 14 → stuck u = true)) := Lib.hid fun hne => by
    obtain ⟨t, rfl, hg, e⟩ := st_some hne
    refine ⟨S t, e.symm, hg.S.sz, fun h1 h2 h3 => ?_⟩
    have h4 := nf_ends (S t) (S_nf t) hg.S.1 hg.S.2.2
    rw [h1] at h4
    generalize S t = x at h2 h3 h4 ⊢
    cases x <;> first | exact absurd rfl h2 | exact absurd rfl h3 | simpa [isOver, isFin] using h4
  obtain ⟨m, hmm⟩ : ∃ m, st l = m := ⟨_, rfl⟩
  rw [hmm] at HS HL HE
  obtain ⟨_, a, cap, rfl, -⟩ := hv
  clear hm hmm
  go_enter Try.func6, Try.ntmps6
  go_wp2_with fail
  refine (few_any _ l _ V.out).mono ?_
  cases hf : fewB l with
  | false =>
    rintro e w' ⟨rfl, rfl⟩
    go_wp2_with fail
    refine (alive_any _).mono ?_
    rintro e wn ⟨rfl, hb⟩
    go_wp2_with fail
    go_ret
    exact ⟨rfl, hb⟩
  | true =>
    have hl := few_len hf
    clear hf
    rintro e w' ⟨rfl, rfl⟩
    go_wp2_with fail
    refine (HS.out _ _ V.out hl).mono ?_
    rintro e w1 ⟨yA, rfl, hn, hb⟩
    obtain ⟨_, aA, cA, rfl, -⟩ := id hn
    replace V := Lib.hid (V.out.below hb)
    replace D := Lib.hid (D.out.trans (hb.mono D.out.size))
    have A := Lib.hid hn
    clear hn
    clear hb
    obtain ⟨n, hnn⟩ : ∃ n, m.length = n := ⟨_, rfl⟩
    rw [hnn] at A ⊢
    by_cases h0 : n = 0
    case pos =>
      subst h0
      go_wp2_with fail
      refine (alive_any w1).mono ?_
      rintro e w2 ⟨rfl, hb⟩
      replace V := Lib.hid (V.out.below hb)
      replace A := Lib.hid (A.out.below hb)
      replace D := Lib.hid (D.out.trans (hb.mono D.out.size))
      clear hb
      go_wp2_with fail
      go_ret
      exact ⟨rfl, D.out⟩
    case neg =>
      have g0 : ((n : Int) == 0) = false := by rw [beq_eq_false_iff_ne]; omega
      have hm0 : m ≠ [] := fun e => h0 (by rw [← hnn, e]; rfl)
      obtain ⟨u, hu, hsu, hE0⟩ := HE.out hm0
      have hE : waits u = false → kd u ≠ 11 → kd u ≠ 14 → stuck u = true := hE0
      clear hE0
      subst hu
      have HW := Lib.hid (fun v w1 (h : Nds w1 v (flat u)) => waits_any u (by omega) v w1 h)
      have HK := Lib.hid (fun v w1 (h : Nds w1 v (flat u)) => stuck_any u (by omega) v w1 h)
      clear hm0 HE HS HL
      go_wp2_with fail
      refine (alive_any w1).mono ?_
      rintro e w2 ⟨rfl, hb⟩
      replace V := Lib.hid (V.out.below hb)
      replace A := Lib.hid (A.out.below hb)
      replace D := Lib.hid (D.out.trans (hb.mono D.out.size))
      clear hb
      rcases form A.out with ⟨bA, oA, cA', e, hcA, hltA, hwA, -⟩
      rw [← flat_len, hnn] at e
      have e1 : aA = some ⟨bA, oA, none⟩ := by injection e
      clear e
      subst e1
      obtain ⟨x0, -⟩ := hwA _ (Below.refl _ _)
      have SA := Lib.hid hwA
      have n0 : (0 : Int) < (n : Int) := by omega
      have n1 : 0 < n := by omega
      clear hwA hnn
      cases hwt : waits u with
      | true =>
        rw [hwt] at HW
        go_wp2_with fail
        refine (HW.out _ _ A.out).mono ?_
        rintro e w3 ⟨rfl, hb⟩
        replace V := Lib.hid (V.out.below hb)
        replace A := Lib.hid (A.out.below hb)
        replace D := Lib.hid (D.out.trans (hb.mono D.out.size))
        clear hb
        go_wp2_with fail
        go_ret
        exact ⟨rfl, D.out⟩
      | false =>
        replace hE := hE hwt
        rw [hwt] at HW
        go_wp2_with fail
        refine (HW.out _ _ A.out).mono ?_
        rintro e w3 ⟨rfl, hb⟩
        replace V := Lib.hid (V.out.below hb)
        replace A := Lib.hid (A.out.below hb)
        replace D := Lib.hid (D.out.trans (hb.mono D.out.size))
        clear hb
        have x1 : w3.cell? ⟨bA, oA, none⟩ = some (.int .i64 (kd u)) := by
          rcases form A.out with ⟨b', o', c', e, _, _, hw', -⟩
          injection e with e1 _ _
          injection e1 with e1
          injection e1 with e1 e2
          subst e1
          subst e2
          exact (hw' _ (Below.refl _ _)).1
        obtain ⟨k, hk⟩ : ∃ k, kd u = k := ⟨_, rfl⟩
        rw [hk] at x0 x1 hE
        clear hk SA
        by_cases h11 : k = 11
        case pos =>
          subst h11
          go_wp2_with fail
          go_ret
          exact ⟨rfl, D.out⟩
        case neg =>
          have f11 : (k == 11) = false := by rw [beq_eq_false_iff_ne]; exact h11
          by_cases h14 : k = 14
          case pos =>
            subst h14
            clear h11
            go_wp2_with fail
            go_ret
            exact ⟨rfl, D.out⟩
          case neg =>
            have f14 : (k == 14) = false := by rw [beq_eq_false_iff_ne]; exact h14
            rw [show stuck u = true from hE h11 h14] at HK
            clear h11 h14 hE
            go_wp2_with fail
            refine (HK.out _ _ A.out).mono ?_
            rintro e w4 ⟨rfl, hb⟩
            replace V := Lib.hid (V.out.below hb)
            replace A := Lib.hid (A.out.below hb)
            replace D := Lib.hid (D.out.trans (hb.mono D.out.size))
            clear hb
            go_wp2_with fail
            go_ret
            exact ⟨rfl, D.out⟩
end Go.Proofs.Ytgaediondmdnbaa.Se
