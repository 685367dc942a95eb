/- Plain: whole trees, what is settled is whole; what it has; where it ends. The document's node, over, end; trees in memory. Rows of texts, and nodes appended in a call's own row: what the walks of layer 8 need. The document's Par: the walk. -/
import Derived.Test.YtekblibhaipioaaQ12
import Derived.Test.YtekblibhaipioaaQ10
import Derived.Test.YtekblibhaipioaaQ05
import Derived.Test.YtekblibhaipioaaQ03

namespace Go.Proofs.Ytekblibhaipioaa.Se
open Go Go.Proofs.Ytekblibhaipioaa.Rw Go.Proofs.Ytekblibhaipioaa.So

/-- All nodes are right. -/
def rg (t : Tm) : Bool := (flat t).all rgt
theorem rg_block (a : Tm) : rg (.block a) = rg a := by
  show ((nOf 9 :: flat a).all rgt) = _
  rw [List.all_cons, show rgt (nOf 9) = true by decide +kernel]
  rfl
theorem rg_fin (s : Int) (c : Tm) : rg (.fin s c) = (rgt (nEnd s) && rg c) := by
  show ((nEnd s :: flat c).all rgt) = _
  rw [List.all_cons]
  rfl
theorem rg_two {k : Int} {t a b : Tm} (e : flat t = nOf k :: (flat a ++ flat b)) (hk : rgt (nOf k) = true) : rg t = (rg a && rg b) := by
  unfold rg
  rw [e, List.all_cons, List.all_append, hk]
  rfl
theorem rg_seq (a b : Tm) : rg (.seq a b) = (rg a && rg b) := rg_two (k := 5) rfl (by decide +kernel)
theorem rg_par (a b : Tm) : rg (.par a b) = (rg a && rg b) := rg_two (k := 7) rfl (by decide +kernel)
theorem rg_hand (a b : Tm) : rg (.hand a b) = (rg a && rg b) := rg_two (k := 8) rfl (by decide +kernel)
theorem rg_going (a b : Tm) : rg (.going a b) = (rg a && rg b) := rg_two (k := 12) rfl (by decide +kernel)
theorem rg_stack (a b : Tm) : rg (.stack a b) = (rg a && rg b) := rg_two (k := 13) rfl (by decide +kernel)
theorem rg_skip : rg .skip = true := by decide +kernel
theorem rg_over (s : Int) : rg (.over s) = (decide (1 ≤ s) && decide (s ≤ 3)) := by
  show ([nOver s].all rgt) = _
  rw [List.all_cons, rgt_sign _ _ (.inl rfl), show decide (ByteArray.size ⟨#[]⟩ = 0) = true from rfl, Bool.true_and, List.all_nil, Bool.and_true]
theorem rgt_nEnd (s : Int) : rgt (nEnd s) = (decide (1 ≤ s) && decide (s ≤ 3)) := by
  rw [rgt_sign _ _ (.inr rfl), show decide (ByteArray.size ⟨#[]⟩ = 0) = true from rfl, Bool.true_and]
theorem both_rg {s t : Int} (hs : 1 ≤ s ∧ s ≤ 3) (ht : 1 ≤ t ∧ t ≤ 3) : 1 ≤ Sg.both s t ∧ Sg.both s t ≤ 3 := by
  have h1 : s = 1 ∨ s = 2 ∨ s = 3 := by omega
  have h2 : t = 1 ∨ t = 2 ∨ t = 3 := by omega
  rcases h1 with rfl | rfl | rfl <;> rcases h2 with rfl | rfl | rfl <;> decide
theorem stk_rg {a d : Tm} (ha : rg a = true) (hd : rg d = true) : rg (stk a d) = true := by
  cases a <;> simp_all [stk, rg_stack, rg_fin, rg_seq]
theorem S_rg : ∀ t : Tm, rg t = true → rg (S t) = true := by
  apply S_ind
  intro t ih h
  cases t with
  | act s => exact h
  | skip => decide +kernel
  | throw => decide +kernel
  | yield => exact h
  | over s => exact h
  | fin s c => exact h
  | alt a b => exact h
  | pair a b => exact h
  | seq a b =>
    rw [rg_seq, Bool.and_eq_true] at h
    have ia := ih a (by simp [sz]; omega) h.1
    have ib := ih b (by simp [sz]; omega) h.2
    rw [S_seq]
    generalize S a = x at ia
    cases x <;> simp only [sSeq] <;> (try split) <;> simp_all [rg_seq, rg_fin, stk_rg]
  | hand a b =>
    rw [rg_hand, Bool.and_eq_true] at h
    have ia := ih a (by simp [sz]; omega) h.1
    have ib := ih b (by simp [sz]; omega) h.2
    rw [S_hand]
    generalize S a = x at ia
    cases x <;> simp only [sHand] <;> (try split) <;> simp_all [rg_hand]
  | par a b =>
    rw [rg_par, Bool.and_eq_true] at h
    have ia := ih a (by simp [sz]; omega) h.1
    have ib := ih b (by simp [sz]; omega) h.2
    rw [S_par]
    generalize S a = x at ia ⊢
    generalize S b = y at ib ⊢
    cases x <;> simp only [sPar] <;> (try (simp_all [rg_par]; done))
    · cases y <;> simp only [] <;> (try (simp_all [rg_par]; done))
      simp only [rg_over, Bool.and_eq_true, decide_eq_true_eq] at ia ib ⊢
      exact both_rg ia ib
    · cases y <;> simp only [] <;> (try (simp_all [rg_par]; done))
      simp only [rg_fin, rg_par, rgt_nEnd, Bool.and_eq_true, decide_eq_true_eq] at ia ib ⊢
      exact ⟨both_rg ia.1 ib.1, ia.2, ib.2⟩
  | block a =>
    rw [rg_block] at h
    have ia := ih a (by simp [sz]) h
    have hs := S_sz a
    rw [S_block]
    generalize S a = x at ia hs
    cases x with
    | fin s c =>
      simp only [sBlock]
      simp only [sz] at hs
      have ic := ih c (by simp [sz]; omega)
      repeat' split
      · decide +kernel
      · rw [rg_fin, Bool.and_eq_true] at ia
        exact ic ia.2
      · rw [rg_block]; exact ia
    | _ => simpa [sBlock, rg_block] using ia
  | going a b =>
    rw [rg_going, Bool.and_eq_true] at h
    have ia := ih a (by simp [sz]; omega) h.1
    rw [S_going]
    generalize S a = x at ia
    cases x <;> simp only [sGoing] <;> (try split) <;> simp_all [rg_going, rg_fin, rg_over, rgt_nEnd, rg_skip]
  | stack a b =>
    rw [rg_stack, Bool.and_eq_true] at h
    have ia := ih a (by simp [sz]; omega) h.1
    rw [S_stack]
    exact stk_rg ia h.2
theorem whole_flat (t : Tm) : whole (flat t) = (rg t && decide (sz t ≤ 200)) := by
  unfold whole rg
  rw [flat_len, (tre_flat t).size, flat_len]
  have := sz_pos t
  simp [show 1 ≤ sz t from this]
/-- A tree that goes on, plain or paired, and its row is whole. -/
def Goes (t : Tm) : Prop := rg t = true ∧ sz t ≤ 200 ∧ (is t 3 = true ∨ is t 4 = true)
theorem Goes.S {t : Tm} (h : Goes t) : Goes (S t) := ⟨S_rg t h.1, Nat.le_trans (S_sz t) h.2.1, h.2.2.imp (S_is t).1 (S_is t).2⟩
theorem of_flat {t : Tm} (h : rg t = true) (hz : sz t ≤ 200) : of (flat t) = if is t 1 then 1 else if is t 2 then 2 else if is t 3 then 3 else if is t 4 then 4 else 0 := by
  unfold of first
  rw [whole_flat, h, decide_eq_true hz, is_flat t 1 (by omega), is_flat t 2 (by omega), is_flat t 3 (by omega), is_flat t 4 (by omega)]
  rfl
theorem is_not {t : Tm} : ¬ (is t 3 = true ∧ is t 4 = true) := by
  rw [← is_flat t 3 (by omega), ← is_flat t 4 (by omega)]
  exact apart _ (flat t) (Nat.le_refl _)
theorem on_flat {t : Tm} (h : rg t = true) (hz : sz t ≤ 200) (p : Bool) : onB (flat t) p = if p then is t 4 else is t 3 := by
  have n := is_not (t := t)
  have j := is13 t
  unfold onB
  rw [of_flat h hz]
  cases h1 : is t 1 <;> cases h2 : is t 2 <;> cases h3 : is t 3 <;> cases h4 : is t 4 <;> cases p <;> simp_all
/-- A row that is of a sort is a tree that goes on. -/
theorem goes_of {l : List Nd} (h : of l ≠ 0) : ∃ t, flat t = l ∧ Goes t := by
  have hw : whole l = true := by
    cases hw : whole l with
    | true => rfl
    | false => exact absurd (of_not hw) h
  obtain ⟨t, rfl⟩ := whole_tm hw
  rw [whole_flat, Bool.and_eq_true, decide_eq_true_eq] at hw
  refine ⟨t, rfl, hw.1, hw.2, ?_⟩
  rw [of_flat hw.1 hw.2] at h
  have j := is13 t
  cases h1 : is t 1 <;> cases h2 : is t 2 <;> cases h3 : is t 3 <;> cases h4 : is t 4 <;> simp_all
theorem Goes.of {t : Tm} (h : Goes t) : of (flat t) ≠ 0 := by
  rw [of_flat h.1 h.2.1]
  have h3 := h.2.2
  have j := is13 t
  cases h1 : is t 1 <;> cases h2 : is t 2 <;> cases h3 : is t 3 <;> cases h4 : is t 4 <;> simp_all
theorem Goes.whole {t : Tm} (h : Goes t) : whole (flat t) = true := by rw [whole_flat, h.1, decide_eq_true h.2.1]; rfl

/-- Is something to be done, or chosen, where it goes on? Has a block's inside given way? -/
def waits : Tm → Bool
  | .act _ => true
  | .alt _ _ => true
  | .yield => true
  | .pair _ _ => true
  | .seq a _ => waits a
  | .hand a _ => waits a
  | .going a _ => waits a
  | .stack a _ => waits a
  | .block a => waits a
  | .par a b => waits a || waits b
  | _ => false
def isQuery : Tm → Bool
  | .fin s _ => s == 3
  | _ => false
def stuck : Tm → Bool
  | .block a => isQuery a || stuck a
  | .seq a _ => stuck a
  | .hand a _ => stuck a
  | .going a _ => stuck a
  | .stack a _ => stuck a
  | .par a b => stuck a || stuck b
  | _ => false
theorem over_is {a : Tm} (h : isOver a = true) : is a 4 = false := by cases a <;> simp_all [isOver, is]
theorem fin_is {a : Tm} (h : isFin a = true) : is a 3 = false := by cases a <;> simp_all [isFin, is]
theorem nf_ends : ∀ t : Tm, Nf t → rg t = true → (is t 3 = true ∨ is t 4 = true) → waits t = true ∨ isOver t = true ∨ isFin t = true ∨ stuck t = true := by
  intro t
  induction t with
  | act s => intros; exact .inl rfl
  | skip => intro h; exact h.elim
  | throw => intro h; exact h.elim
  | yield => intros; exact .inl rfl
  | over s => intros; exact .inr (.inl rfl)
  | fin s c => intros; exact .inr (.inr (.inl rfl))
  | alt a b => intros; exact .inl rfl
  | pair a b => intros; exact .inl rfl
  | seq a b ia ib =>
    intro h hr hi
    rw [rg_seq, Bool.and_eq_true] at hr
    have hj : is a 3 = true ∨ is a 4 = true := by simp [is] at hi; exact hi.imp (·.1) (·.1)
    have := ia h.1 hr.1 hj
    rw [h.2.1, h.2.2] at this
    simpa [waits, stuck, isOver, isFin] using this
  | hand a b ia ib =>
    intro h hr hi
    rw [rg_hand, Bool.and_eq_true] at hr
    have hj : is a 3 = true := by simp [is] at hi; exact hi.1
    have := ia h.1 hr.1 (.inl hj)
    have hf : isFin a = false := by cases hf : isFin a with | false => rfl | true => rw [fin_is hf] at hj; cases hj
    rw [h.2, hf] at this
    simpa [waits, stuck, isOver, isFin] using this
  | par a b ia ib =>
    intro h hr hi
    rw [rg_par, Bool.and_eq_true] at hr
    obtain ⟨h1, h2, h3, h4⟩ := h
    have hj : (is a 3 = true ∧ is b 3 = true) ∨ (is a 4 = true ∧ is b 4 = true) := by simpa [is] using hi
    have ga := ia h1 hr.1 (hj.imp (·.1) (·.1))
    have gb := ib h2 hr.2 (hj.imp (·.2) (·.2))
    simp only [waits, stuck, isOver, isFin, Bool.or_eq_true]
    rcases ga with g | g | g | g
    · exact .inl (.inl g)
    · have a3 : is a 3 = true := hj.elim (·.1) fun h => by rw [over_is g] at h; cases h.1
      have b3 : is b 3 = true := hj.elim (·.2) fun h => absurd ⟨a3, h.1⟩ is_not
      rcases gb with k | k | k | k
      · exact .inl (.inr k)
      · rw [g, k] at h3; cases h3
      · rw [fin_is k] at b3; cases b3
      · exact .inr (.inr (.inr (.inr k)))
    · have a4 : is a 4 = true := hj.elim (fun h => by rw [fin_is g] at h; cases h.1) (·.1)
      have b4 : is b 4 = true := hj.elim (fun h => absurd ⟨h.1, a4⟩ is_not) (·.2)
      rcases gb with k | k | k | k
      · exact .inl (.inr k)
      · rw [over_is k] at b4; cases b4
      · rw [g, k] at h4; cases h4
      · exact .inr (.inr (.inr (.inr k)))
    · exact .inr (.inr (.inr (.inl g)))
  | block a ia =>
    intro h hr hi
    rw [rg_block] at hr
    have hj : is a 4 = true := by simpa [is] using hi
    have g := ia h.1 hr (.inr hj)
    have ho : isOver a = false := by cases ho : isOver a with | false => rfl | true => rw [over_is ho] at hj; cases hj
    have hq : isFin a = true → isQuery a = true := by
      intro hf
      cases a with
      | fin s c =>
        have h5 := h.2
        rw [rg_fin, Bool.and_eq_true, rgt_nEnd] at hr
        simp [isGone] at h5 hr
        simp [isQuery]
        omega
      | _ => cases hf
    simp only [waits, stuck, isOver, isFin, Bool.or_eq_true]
    rcases g with g | g | g | g
    · exact .inl g
    · rw [ho] at g; cases g
    · exact .inr (.inr (.inr (.inl (hq g))))
    · exact .inr (.inr (.inr (.inr g)))
  | going a b ia ib =>
    intro h hr hi
    rw [rg_going, Bool.and_eq_true] at hr
    have hj : is a 3 = true := by simp [is] at hi; exact hi.1
    have := ia h.1 hr.1 (.inl hj)
    have hf : isFin a = false := by cases hf : isFin a with | false => rfl | true => rw [fin_is hf] at hj; cases hj
    rw [h.2, hf] at this
    simpa [waits, stuck, isOver, isFin] using this
  | stack a b ia ib =>
    intro h hr hi
    rw [rg_stack, Bool.and_eq_true] at hr
    have hj : is a 4 = true := by simp [is] at hi; exact hi.1
    have := ia h.1 hr.1 (.inr hj)
    have ho : isOver a = false := by cases ho : isOver a with | false => rfl | true => rw [over_is ho] at hj; cases hj
    rw [h.2, ho] at this
    simpa [waits, stuck, isOver, isFin] using this

/-- How many nodes f counts: those of what is settled are not more, if f counts none that settling makes. -/
def ct (f : Nd → Bool) (t : Tm) : Nat := (flat t).countP f
end Go.Proofs.Ytekblibhaipioaa.Se

namespace Go.Proofs.Ytekblibhaipioaa.Se
open Go Go.RowKit Go.Proofs.Ytekblibhaipioaa.Rw Go.Proofs.Ytekblibhaipioaa.So
set_option maxRecDepth 20000

/-- A call that tells a row which is this tree. -/
def OutN (t : Tm) (w : World) (e : Ending) (w' : World) : Prop := ∃ y, e = .returned y ∧ Nds w' y (flat t) ∧ Below w.heap.size w w'
/-- The kind, and the sign, of a tree's first node. -/
def kd (t : Tm) : Int := hd (flat t)
def sgl : List Nd → Int
  | [] => 0
  | n :: _ => n.s
def sg (t : Tm) : Int := sgl (flat t)
theorem at0 {l : List Nd} (h : 0 < l.length) : l[0].k = hd l ∧ l[0].s = sgl l := by
  cases l with
  | nil => simp at h
  | cons n r => exact ⟨rfl, rfl⟩
theorem form {w : World} {v : Value} {t : Tm} (hv : Nds w v (flat t)) : ∃ b o c, v = .slice (some ⟨b, o, none⟩) (sz t) c ∧ sz t ≤ c ∧ b < w.heap.size ∧ (∀ w', Below w.heap.size w w' → w'.cell? ⟨b, o, none⟩ = some (.int .i64 (kd t)) ∧ w'.cell? ⟨b, o + 2, none⟩ = some (.int .i64 (sg t))) ∧ At w b o (flat t) := by
  rcases hv.form with ⟨_, hl⟩ | ⟨b, o, c, rfl, hc, hat⟩
  · exact absurd (by simp_all) (flat_ne t)
  · rw [flat_len] at hc ⊢
    have hp := sz_pos t
    have hl := flat_len t
    obtain ⟨h1, _, h3⟩ := hat 0 (by omega)
    rw [Nat.zero_mul, Nat.add_zero] at h1 h3
    have lt := Ap.cell_lt h1
    refine ⟨b, o, c, rfl, hc, lt, fun w' hb => ?_, hat⟩
    obtain ⟨g1, g2⟩ := at0 (l := flat t) (by omega)
    rw [hb.cell (p := ⟨b, o, none⟩) lt, hb.cell (p := ⟨b, o + 2, none⟩) lt, h1, h3, g1, g2]
    exact ⟨rfl, rfl⟩
/-- What is behind the first node. -/
theorem tail_fin {w : World} {b o c : Nat} {s : Int} {t : Tm} (hat : At w b o (flat (.fin s t))) (hc : sz (.fin s t) ≤ c) : Nds w (.slice (some ⟨b, o + 3, none⟩) (sz t) (c - 1)) (flat t) := by
  have h := part_nds hat 1 (sz t) (c - 1) (by rw [flat_len]; simp [sz]; omega) (by simp [sz] at hc; omega)
  have e : ((flat (.fin s t)).drop 1).take (sz t) = flat t := by
    show ((nEnd s :: flat t).drop 1).take (sz t) = _
    rw [List.drop_succ_cons, List.drop_zero, ← flat_len t, List.take_length]
  rw [e] at h
  exact h
theorem nodeR_any (k s : Int) (w : World) : Calls Try.prog 102 #[.int .i64 k, .int .i64 s] w fun e w' => e = .returned (.agg #[.int .i64 k, .string ⟨#[]⟩, .int .i64 s]) ∧ Below w.heap.size w w' := by
  go_enter Try.func102, Try.ntmps102
  go_wp2_with fail
  refine bodyPost_ret (v := .agg #[.int .i64 k, .string ⟨#[]⟩, .int .i64 s]) (by simp [results, Try.results102, go_sem]) rfl ⟨rfl, ?_⟩
  exact below1 w _
/-- A row of one node that the call made. -/
theorem nds_one (w : World) (x : Nd) (ty : TypeId) : Nds (w.alloc (.cells #[.int .i64 x.k, .string x.n, .int .i64 x.s] ty)) (.slice (some ⟨w.heap.size, 0, none⟩) 1 1) [x] := by
  refine ⟨rfl, _, 1, rfl, Nat.le_refl _, fun h => (by cases h), fun _ => ⟨w.heap.size, 0, rfl, fun j u hu => ?_⟩⟩
  match j, hu with
  | 0, hu => simp [cls, cl] at hu; subst hu; simp
  | 1, hu => simp [cls, cl] at hu; subst hu; simp
  | 2, hu => simp [cls, cl] at hu; subst hu; simp
  | j + 3, hu => simp [cls, cl] at hu
theorem overR_any (s : Int) (w : World) : Calls Try.prog 89 #[.int .i64 s] w (OutN (.over s) w) := by
  unfold OutN
  go_enter Try.func89, Try.ntmps89
  go_wp2_with fail
  refine (nodeR_any 11 s _).mono ?_
  rintro e w1 ⟨rfl, hb1⟩
  have B1 := Lib.hid hb1
  clear hb1
  go_wp2_with fail
  go_ret
  exact ⟨_, rfl, nds_one w1 (nOver s) _, B1.out.alloc B1.out.size _⟩
theorem endR_any (s : Int) (v : Value) (c : Tm) (w : World) (hv : Nds w v (flat c)) (hl : sz c ≤ 1000) : Calls Try.prog 103 #[.int .i64 s, v] w (OutN (.fin s c) w) := by
  unfold OutN
  have HV := Lib.hid hv
  clear hv
  go_enter Try.func103, Try.ntmps103
  go_wp2_with fail
  refine (nodeR_any 14 s _).mono ?_
  rintro e w1 ⟨rfl, hb1⟩
  have B1 := Lib.hid hb1
  clear hb1
  go_wp2_with fail
  refine (oneR_any (nEnd s) v (flat c) w1 (HV.out.below B1.out) (by rw [flat_len]; omega)).mono ?_
  rintro e w2 ⟨y, rfl, hown, hb2⟩
  have O2 := Lib.hid hown
  have B2 := Lib.hid hb2
  clear hown hb2
  go_wp2_with fail
  go_ret
  exact ⟨_, rfl, Ap.Rd.owned O2.out, B1.out.trans (B2.out.mono B1.out.size)⟩
/-- A node of two, and a node of one. -/
theorem mk2R (k : Int) (mk : Tm → Tm → Tm) (h : ∀ a b, flat (mk a b) = nOf k :: (flat a ++ flat b)) (va vb : Value) (a b : Tm) (w : World) (ha : Nds w va (flat a)) (hb : Nds w vb (flat b)) (hl : sz a + sz b ≤ 100000) :
    Calls Try.prog 24 #[.agg #[.int .i64 k, .string ⟨#[]⟩, .int .i64 0], va, vb] w (OutN (mk a b) w) := by
  refine (twoR_any (nOf k) va vb (flat a) (flat b) w ha hb (by rw [flat_len]; omega) (by rw [flat_len]; omega)).mono ?_
  rintro e w1 ⟨y, rfl, hn, hb⟩
  exact ⟨y, rfl, by rw [h]; exact hn, hb⟩
theorem mk1R (va : Value) (a : Tm) (w : World) (ha : Nds w va (flat a)) (hl : sz a ≤ 100000) :
    Calls Try.prog 21 #[.agg #[.int .i64 9, .string ⟨#[]⟩, .int .i64 0], va] w (OutN (.block a) w) := by
  refine (oneR_any (nOf 9) va (flat a) w ha (by rw [flat_len]; omega)).mono ?_
  rintro e w1 ⟨y, rfl, hn, hb⟩
  exact ⟨y, rfl, Ap.Rd.owned hn, hb⟩
/-- A Skip by itself, in a block. -/
theorem nds_skip (w : World) (ty : TypeId) : Nds (w.alloc (.cells #[.int .i64 2, .string ⟨#[]⟩, .int .i64 0] ty)) (.slice (some ⟨w.heap.size, 0, none⟩) 1 1) (flat .skip) := nds_one w (nOf 2) ty
end Go.Proofs.Ytekblibhaipioaa.Se

namespace Go.Proofs.Ytekblibhaipioaa.Rf
open Go Go.RowKit Go.Proofs.Ytekblibhaipioaa.Rw
set_option maxRecDepth 20000

/-- A slice of texts that reads as these. -/
def Strs (w : World) (v : Value) (l : List ByteArray) : Prop := Ap.Rd w 1 v l.length (l.map .string)
theorem Strs.below {w w' : World} {v : Value} {l : List ByteArray} (h : Strs w v l) (hb : Below w.heap.size w w') : Strs w' v l := Ap.Rd.below h hb
def AtS (w : World) (b off : Nat) (l : List ByteArray) : Prop := ∀ k, (h : k < l.length) → w.cell? ⟨b, off + k, none⟩ = some (.string l[k])
theorem Strs.form {w : World} {v : Value} {l : List ByteArray} (h : Strs w v l) :
    (l = [] ∧ ∃ a cap, v = .slice a 0 cap) ∨ ∃ b off cap, v = .slice (some ⟨b, off, none⟩) l.length cap ∧ AtS w b off l := by
  obtain ⟨_, a, cap, rfl, hle, _, hcell⟩ := h
  by_cases h0 : 0 < l.length
  · obtain ⟨b, off, rfl, hj⟩ := hcell h0
    exact Or.inr ⟨b, off, cap, rfl, fun k hk => hj _ _ (by rw [List.getElem?_map, List.getElem?_eq_getElem hk]; rfl)⟩
  · have : l = [] := List.eq_nil_of_length_eq_zero (by omega)
    subst this
    exact Or.inl ⟨rfl, a, cap, rfl⟩
theorem AtS.below {w w' : World} {b off : Nat} {l : List ByteArray} (h : AtS w b off l) (hb : Below w.heap.size w w') : AtS w' b off l := fun k hk => by
  rw [hb.cell (Ap.cell_lt (h k hk))]
  exact h k hk
theorem At.below {w w' : World} {b off : Nat} {l : List Nd} (h : At w b off l) (hb : Below w.heap.size w w') : At w' b off l := fun k hk => by
  obtain ⟨h1, h2, h3⟩ := h k hk
  exact ⟨by rw [hb.cell (Ap.cell_lt h1)]; exact h1, by rw [hb.cell (Ap.cell_lt h2)]; exact h2, by rw [hb.cell (Ap.cell_lt h3)]; exact h3⟩
theorem nds_new (w : World) (l : List Nd) (ty : TypeId) : Nds (w.alloc (.cells (cls l).toArray ty)) (.slice (some ⟨w.heap.size, 0, none⟩) l.length l.length) l := by
  refine ⟨cls_len l, some ⟨w.heap.size, 0, none⟩, l.length, rfl, Nat.le_refl _, fun h => (by cases h), fun _ => ⟨w.heap.size, 0, rfl, fun j u hu => ?_⟩⟩
  rw [Nat.zero_add, World.cell?_alloc_new]
  simpa using hu

/-- What a loop has made: a row of nodes of its own. -/
def Got (w wr : World) (v : Value) (l : List Nd) : Prop := wr.ownsRow w.heap.size 34 3 v l.length (cls l) ∧ Below w.heap.size w wr
theorem Got.nds {w wr : World} {v : Value} {l : List Nd} (h : Got w wr v l) : Nds wr v l := Ap.Rd.owned h.1
theorem Got.start (w : World) : Got w w (.slice none 0 0) [] := ⟨⟨rfl, .inl ⟨rfl, rfl⟩⟩, Below.refl _ _⟩
theorem Got.below {w wr w' : World} {v : Value} {l : List Nd} (h : Got w wr v l) (hb : Below wr.heap.size wr w') : Got w w' v l := ⟨Ap.own_below h.1 hb, h.2.trans (hb.mono h.2.size)⟩
theorem Got.slice {w wr : World} {v : Value} {l : List Nd} (h : Got w wr v l) : ∃ a c, v = .slice a l.length c := by
  obtain ⟨_, a, c, e, -⟩ := h.nds
  exact ⟨a, c, e⟩
theorem Got.one {w wr : World} {v : Value} {l : List Nd} (x : Nd) (h : Got w wr v l) (hl : l.length ≤ 2000000) :
    ∃ v' w', (Builtin.append_ #[22, 22] 22 #[v, .slice (some ⟨wr.heap.size, 0, none⟩) 1 1]).run Try.prog (wr.alloc (.cells #[.int .i64 x.k, .string x.n, .int .i64 x.s] 34)) = .ok v' w' ∧ Got w w' v' (l ++ [x]) := by
  obtain ⟨v', w', h1, h2, _, h4, _⟩ := run_append_nd x h.1 h.2.size hl
  exact ⟨v', w', h1, h2, h.2.trans h4⟩
theorem Got.row {w wr : World} {v y : Value} {l m : List Nd} (h : Got w wr v l) (hy : Nds wr y m) (hl : l.length + m.length ≤ 2000000) :
    ∃ v' w', (Builtin.append_ #[22, 22] 22 #[v, y]).run Try.prog wr = .ok v' w' ∧ Got w w' v' (l ++ m) := by
  obtain ⟨v', w', h1, h2, _, h4, _⟩ := run_append_nds h.1 h.2.size hy hl
  exact ⟨v', w', h1, h2, h.2.trans h4⟩
theorem Got.new {w wr : World} {v : Value} {l : List Nd} (m : List Nd) (h : Got w wr v l) (hl : l.length + m.length ≤ 2000000) :
    ∃ v' w', (Builtin.append_ #[22, 22] 22 #[v, .slice (some ⟨wr.heap.size, 0, none⟩) m.length m.length]).run Try.prog (wr.alloc (.cells (cls m).toArray 34)) = .ok v' w' ∧ Got w w' v' (l ++ m) :=
  (h.below (below1 wr _)).row (nds_new wr m _) hl
end Go.Proofs.Ytekblibhaipioaa.Rf

namespace Go.Proofs.Ytekblibhaipioaa.Tr
open Go Go.RowKit
set_option maxRecDepth 20000

theorem below2 (w : World) (x y : Obj) : Below w.heap.size w ((w.alloc x).alloc y) := ((Below.refl _ _).alloc (Nat.le_refl _) x).alloc (by simp) y
end Go.Proofs.Ytekblibhaipioaa.Tr
