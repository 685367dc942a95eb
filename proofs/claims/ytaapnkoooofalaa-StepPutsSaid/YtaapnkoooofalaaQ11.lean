/- Plain: whole trees, what is settled is whole; what it has; where it ends. The document's node, over, end; trees in memory. Rows of texts, and nodes appended in a call's own row: what the walks of layer 8 need. The document's Par: the walk. The document's first: the walks. The document's 'in' and 'may' of layer 8. All traces of two, and all rows of two: what they are. The document's par, block, Tree, Settle: the walks. The document's Rewrite of layer 8. Rows mixed: that order does not matter, and that each row has the actions of both in their order. The program's side: what it makes of nodes and trees; over, end, goOn. The document's Mark and Places of layer 8. -/
import Derived.Test.YtaapnkoooofalaaQ10
import Derived.Test.YtaapnkoooofalaaQ08
import Derived.Test.YtaapnkoooofalaaQ05
import Derived.Test.YtaapnkoooofalaaQ03
import Derived.Deep.RegionHeld3
import Derived.Deep.QuietTactic
import Derived.BigQuiet
import Derived.StillTailTactics
import Derived.Test.YtaapnkoooofalaaQ07

namespace Go.Proofs.Ytaapnkoooofalaa.Se
open Go Rw So
def rg (t : Tm) : Bool := (flat t).all rgt
theorem rg_block (a : Tm) : rg (.block a) = rg a := by
  show ((nOf 9 :: flat a).all rgt) = _
  rw [List.all_cons, show rgt (nOf 9) = true by decide +kernel]
  rfl
theorem rg_fin (s : Int) (c : Tm) : rg (.fin s c) = (rgt (nEnd s) && rg c) := by
  show ((nEnd s :: flat c).all rgt) = _
  rw [List.all_cons]
  rfl
theorem rg_two {k : Int} {t a b : Tm} (e : flat t = nOf k :: (flat a ++ flat b)) (hk : rgt (nOf k) = true) : rg t = (rg a && rg b) := by
  unfold rg
  rw [e, List.all_cons, List.all_append, hk]
  rfl
theorem rg_seq (a b : Tm) : rg (.seq a b) = (rg a && rg b) := rg_two (k := 5) rfl (by decide +kernel)
theorem rg_alt (a b : Tm) : rg (.alt a b) = (rg a && rg b) := rg_two (k := 6) rfl (by decide +kernel)
theorem rg_par (a b : Tm) : rg (.par a b) = (rg a && rg b) := rg_two (k := 7) rfl (by decide +kernel)
theorem rg_hand (a b : Tm) : rg (.hand a b) = (rg a && rg b) := rg_two (k := 8) rfl (by decide +kernel)
theorem rg_pair (a b : Tm) : rg (.pair a b) = (rg a && rg b) := rg_two (k := 10) rfl (by decide +kernel)
theorem rg_going (a b : Tm) : rg (.going a b) = (rg a && rg b) := rg_two (k := 12) rfl (by decide +kernel)
theorem rg_stack (a b : Tm) : rg (.stack a b) = (rg a && rg b) := rg_two (k := 13) rfl (by decide +kernel)
theorem rg_skip : rg .skip = true := by decide +kernel
theorem rg_over (s : Int) : rg (.over s) = (decide (1 ≤ s) && decide (s ≤ 3)) := by
  show ([nOver s].all rgt) = _
  rw [List.all_cons, rgt_sign _ _ (.inl rfl), show decide (ByteArray.size ⟨#[]⟩ = 0) = true from rfl, Bool.true_and, List.all_nil, Bool.and_true]
theorem rgt_nEnd (s : Int) : rgt (nEnd s) = (decide (1 ≤ s) && decide (s ≤ 3)) := by
  rw [rgt_sign _ _ (.inr rfl), show decide (ByteArray.size ⟨#[]⟩ = 0) = true from rfl, Bool.true_and]
theorem both_rg {s t : Int} (hs : 1 ≤ s ∧ s ≤ 3) (ht : 1 ≤ t ∧ t ≤ 3) : 1 ≤ Sg.both s t ∧ Sg.both s t ≤ 3 := by
  have h1 : s = 1 ∨ s = 2 ∨ s = 3 := by omega
  have h2 : t = 1 ∨ t = 2 ∨ t = 3 := by omega
  rcases h1 with rfl | rfl | rfl <;> rcases h2 with rfl | rfl | rfl <;> decide
theorem stk_rg {a d : Tm} (ha : rg a = true) (hd : rg d = true) : rg (stk a d) = true := by
  cases a <;> simp_all [stk, rg_stack, rg_fin, rg_seq]
theorem S_rg : ∀ t : Tm, rg t = true → rg (S t) = true := by
  apply S_ind
  intro t ih h
  cases t with
  | act s => exact h
  | skip => decide +kernel
  | throw => decide +kernel
  | yield => exact h
  | over s => exact h
  | fin s c => exact h
  | alt a b => exact h
  | pair a b => exact h
  | seq a b =>
    rw [rg_seq, Bool.and_eq_true] at h
    have ia := ih a (by simp [sz]; omega) h.1
    have ib := ih b (by simp [sz]; omega) h.2
    rw [S_seq]
    generalize S a = x at ia
    cases x <;> simp only [sSeq] <;> (try split) <;> simp_all [rg_seq, rg_fin, stk_rg]
  | hand a b =>
    rw [rg_hand, Bool.and_eq_true] at h
    have ia := ih a (by simp [sz]; omega) h.1
    have ib := ih b (by simp [sz]; omega) h.2
    rw [S_hand]
    generalize S a = x at ia
    cases x <;> simp only [sHand] <;> (try split) <;> simp_all [rg_hand]
  | par a b =>
    rw [rg_par, Bool.and_eq_true] at h
    have ia := ih a (by simp [sz]; omega) h.1
    have ib := ih b (by simp [sz]; omega) h.2
    rw [S_par]
    generalize S a = x at ia ⊢
    generalize S b = y at ib ⊢
    cases x <;> simp only [sPar] <;> (try (simp_all [rg_par]; done))
    · cases y <;> simp only [] <;> (try (simp_all [rg_par]; done))
      simp only [rg_over, Bool.and_eq_true, decide_eq_true_eq] at ia ib ⊢
      exact both_rg ia ib
    · cases y <;> simp only [] <;> (try (simp_all [rg_par]; done))
      simp only [rg_fin, rg_par, rgt_nEnd, Bool.and_eq_true, decide_eq_true_eq] at ia ib ⊢
      exact ⟨both_rg ia.1 ib.1, ia.2, ib.2⟩
  | block a =>
    rw [rg_block] at h
    have ia := ih a (by simp [sz]) h
    have hs := S_sz a
    rw [S_block]
    generalize S a = x at ia hs
    cases x with
    | fin s c =>
      simp only [sBlock]
      simp only [sz] at hs
      have ic := ih c (by simp [sz]; omega)
      repeat' split
      · decide +kernel
      · rw [rg_fin, Bool.and_eq_true] at ia
        exact ic ia.2
      · rw [rg_block]; exact ia
    | _ => simpa [sBlock, rg_block] using ia
  | going a b =>
    rw [rg_going, Bool.and_eq_true] at h
    have ia := ih a (by simp [sz]; omega) h.1
    rw [S_going]
    generalize S a = x at ia
    cases x <;> simp only [sGoing] <;> (try split) <;> simp_all [rg_going, rg_fin, rg_over, rgt_nEnd, rg_skip]
  | stack a b =>
    rw [rg_stack, Bool.and_eq_true] at h
    have ia := ih a (by simp [sz]; omega) h.1
    rw [S_stack]
    exact stk_rg ia h.2
theorem whole_flat (t : Tm) : whole (flat t) = (rg t && decide (sz t ≤ 200)) := by
  unfold whole rg
  rw [flat_len, (tre_flat t).size, flat_len]
  have := sz_pos t
  simp [show 1 ≤ sz t from this]
def Goes (t : Tm) : Prop := rg t = true ∧ sz t ≤ 200 ∧ (is t 3 = true ∨ is t 4 = true)
theorem Goes.S {t : Tm} (h : Goes t) : Goes (S t) := ⟨S_rg t h.1, Nat.le_trans (S_sz t) h.2.1, h.2.2.imp (S_is t).1 (S_is t).2⟩
theorem of_flat {t : Tm} (h : rg t = true) (hz : sz t ≤ 200) : of (flat t) = if is t 1 then 1 else if is t 2 then 2 else if is t 3 then 3 else if is t 4 then 4 else 0 := by
  unfold of first
  rw [whole_flat, h, decide_eq_true hz, is_flat t 1 (by omega), is_flat t 2 (by omega), is_flat t 3 (by omega), is_flat t 4 (by omega)]
  rfl
theorem is_not {t : Tm} : ¬ (is t 3 = true ∧ is t 4 = true) := by
  rw [← is_flat t 3 (by omega), ← is_flat t 4 (by omega)]
  exact apart _ (flat t) (Nat.le_refl _)
theorem on_flat {t : Tm} (h : rg t = true) (hz : sz t ≤ 200) (p : Bool) : onB (flat t) p = if p then is t 4 else is t 3 := by
  have n := is_not (t := t)
  have j := is13 t
  unfold onB
  rw [of_flat h hz]
  cases h1 : is t 1 <;> cases h2 : is t 2 <;> cases h3 : is t 3 <;> cases h4 : is t 4 <;> cases p <;> simp_all
theorem goes_of {l : List Nd} (h : of l ≠ 0) : ∃ t, flat t = l ∧ Goes t := by
  have hw : whole l = true := by
    cases hw : whole l with
    | true => rfl
    | false => exact absurd (of_not hw) h
  obtain ⟨t, rfl⟩ := whole_tm hw
  rw [whole_flat, Bool.and_eq_true, decide_eq_true_eq] at hw
  refine ⟨t, rfl, hw.1, hw.2, ?_⟩
  rw [of_flat hw.1 hw.2] at h
  have j := is13 t
  cases h1 : is t 1 <;> cases h2 : is t 2 <;> cases h3 : is t 3 <;> cases h4 : is t 4 <;> simp_all
theorem Goes.of {t : Tm} (h : Goes t) : of (flat t) ≠ 0 := by
  rw [of_flat h.1 h.2.1]
  have h3 := h.2.2
  have j := is13 t
  cases h1 : is t 1 <;> cases h2 : is t 2 <;> cases h3 : is t 3 <;> cases h4 : is t 4 <;> simp_all
theorem Goes.whole {t : Tm} (h : Goes t) : whole (flat t) = true := by rw [whole_flat, h.1, decide_eq_true h.2.1]; rfl
def waits : Tm → Bool
  | .act _ => true
  | .alt _ _ => true
  | .yield => true
  | .pair _ _ => true
  | .seq a _ => waits a
  | .hand a _ => waits a
  | .going a _ => waits a
  | .stack a _ => waits a
  | .block a => waits a
  | .par a b => waits a || waits b
  | _ => false
def isQuery : Tm → Bool
  | .fin s _ => s == 3
  | _ => false
def stuck : Tm → Bool
  | .block a => isQuery a || stuck a
  | .seq a _ => stuck a
  | .hand a _ => stuck a
  | .going a _ => stuck a
  | .stack a _ => stuck a
  | .par a b => stuck a || stuck b
  | _ => false
theorem over_is {a : Tm} (h : isOver a = true) : is a 4 = false := by cases a <;> simp_all [isOver, is]
theorem fin_is {a : Tm} (h : isFin a = true) : is a 3 = false := by cases a <;> simp_all [isFin, is]
theorem nf_ends : ∀ t : Tm, Nf t → rg t = true → (is t 3 = true ∨ is t 4 = true) → waits t = true ∨ isOver t = true ∨ isFin t = true ∨ stuck t = true := by
  intro t
  induction t with
  | act s => intros; exact .inl rfl
  | skip => intro h; exact h.elim
  | throw => intro h; exact h.elim
  | yield => intros; exact .inl rfl
  | over s => intros; exact .inr (.inl rfl)
  | fin s c => intros; exact .inr (.inr (.inl rfl))
  | alt a b => intros; exact .inl rfl
  | pair a b => intros; exact .inl rfl
  | seq a b ia ib =>
    intro h hr hi
    rw [rg_seq, Bool.and_eq_true] at hr
    have hj : is a 3 = true ∨ is a 4 = true := by simp [is] at hi; exact hi.imp (·.1) (·.1)
    have := ia h.1 hr.1 hj
    rw [h.2.1, h.2.2] at this
    simpa [waits, stuck, isOver, isFin] using this
  | hand a b ia ib =>
    intro h hr hi
    rw [rg_hand, Bool.and_eq_true] at hr
    have hj : is a 3 = true := by simp [is] at hi; exact hi.1
    have := ia h.1 hr.1 (.inl hj)
    have hf : isFin a = false := by cases hf : isFin a with | false => rfl | true => rw [fin_is hf] at hj; cases hj
    rw [h.2, hf] at this
    simpa [waits, stuck, isOver, isFin] using this
  | par a b ia ib =>
    intro h hr hi
    rw [rg_par, Bool.and_eq_true] at hr
    obtain ⟨h1, h2, h3, h4⟩ := h
    have hj : (is a 3 = true ∧ is b 3 = true) ∨ (is a 4 = true ∧ is b 4 = true) := by simpa [is] using hi
    have ga := ia h1 hr.1 (hj.imp (·.1) (·.1))
    have gb := ib h2 hr.2 (hj.imp (·.2) (·.2))
    simp only [waits, stuck, isOver, isFin, Bool.or_eq_true]
    rcases ga with g | g | g | g
    · exact .inl (.inl g)
    · have a3 : is a 3 = true := hj.elim (·.1) fun h => by rw [over_is g] at h; cases h.1
      have b3 : is b 3 = true := hj.elim (·.2) fun h => absurd ⟨a3, h.1⟩ is_not
      rcases gb with k | k | k | k
      · exact .inl (.inr k)
      · rw [g, k] at h3; cases h3
      · rw [fin_is k] at b3; cases b3
      · exact .inr (.inr (.inr (.inr k)))
    · have a4 : is a 4 = true := hj.elim (fun h => by rw [fin_is g] at h; cases h.1) (·.1)
      have b4 : is b 4 = true := hj.elim (fun h => absurd ⟨h.1, a4⟩ is_not) (·.2)
      rcases gb with k | k | k | k
      · exact .inl (.inr k)
      · rw [over_is k] at b4; cases b4
      · rw [g, k] at h4; cases h4
      · exact .inr (.inr (.inr (.inr k)))
    · exact .inr (.inr (.inr (.inl g)))
  | block a ia =>
    intro h hr hi
    rw [rg_block] at hr
    have hj : is a 4 = true := by simpa [is] using hi
    have g := ia h.1 hr (.inr hj)
    have ho : isOver a = false := by cases ho : isOver a with | false => rfl | true => rw [over_is ho] at hj; cases hj
    have hq : isFin a = true → isQuery a = true := by
      intro hf
      cases a with
      | fin s c =>
        have h5 := h.2
        rw [rg_fin, Bool.and_eq_true, rgt_nEnd] at hr
        simp [isGone] at h5 hr
        simp [isQuery]
        omega
      | _ => cases hf
    simp only [waits, stuck, isOver, isFin, Bool.or_eq_true]
    rcases g with g | g | g | g
    · exact .inl g
    · rw [ho] at g; cases g
    · exact .inr (.inr (.inr (.inl (hq g))))
    · exact .inr (.inr (.inr (.inr g)))
  | going a b ia ib =>
    intro h hr hi
    rw [rg_going, Bool.and_eq_true] at hr
    have hj : is a 3 = true := by simp [is] at hi; exact hi.1
    have := ia h.1 hr.1 (.inl hj)
    have hf : isFin a = false := by cases hf : isFin a with | false => rfl | true => rw [fin_is hf] at hj; cases hj
    rw [h.2, hf] at this
    simpa [waits, stuck, isOver, isFin] using this
  | stack a b ia ib =>
    intro h hr hi
    rw [rg_stack, Bool.and_eq_true] at hr
    have hj : is a 4 = true := by simp [is] at hi; exact hi.1
    have := ia h.1 hr.1 (.inr hj)
    have ho : isOver a = false := by cases ho : isOver a with | false => rfl | true => rw [over_is ho] at hj; cases hj
    rw [h.2, ho] at this
    simpa [waits, stuck, isOver, isFin] using this
def ct (f : Nd → Bool) (t : Tm) : Nat := (flat t).countP f
def Plain (f : Nd → Bool) : Prop := (∀ s, f (nOver s) = false) ∧ (∀ s, f (nEnd s) = false) ∧ f (nOf 2) = false ∧ f (nOf 5) = false ∧ f (nOf 7) = false ∧ f (nOf 12) = false ∧ f (nOf 13) = false
theorem ct_two {f : Nd → Bool} {n : Nd} {t a b : Tm} (e : flat t = n :: (flat a ++ flat b)) : ct f t = ct f a + ct f b + if f n then 1 else 0 := by
  unfold ct
  rw [e, List.countP_cons, List.countP_append]
theorem ct_one {f : Nd → Bool} {n : Nd} {t a : Tm} (e : flat t = n :: flat a) : ct f t = ct f a + if f n then 1 else 0 := by
  unfold ct
  rw [e, List.countP_cons]
theorem ct_seq (f : Nd → Bool) (a b : Tm) : ct f (.seq a b) = ct f a + ct f b + if f (nOf 5) then 1 else 0 := ct_two rfl
theorem ct_par (f : Nd → Bool) (a b : Tm) : ct f (.par a b) = ct f a + ct f b + if f (nOf 7) then 1 else 0 := ct_two rfl
theorem ct_hand (f : Nd → Bool) (a b : Tm) : ct f (.hand a b) = ct f a + ct f b + if f (nOf 8) then 1 else 0 := ct_two rfl
theorem ct_going (f : Nd → Bool) (a b : Tm) : ct f (.going a b) = ct f a + ct f b + if f (nOf 12) then 1 else 0 := ct_two rfl
theorem ct_stack (f : Nd → Bool) (a b : Tm) : ct f (.stack a b) = ct f a + ct f b + if f (nOf 13) then 1 else 0 := ct_two rfl
theorem ct_block (f : Nd → Bool) (a : Tm) : ct f (.block a) = ct f a + if f (nOf 9) then 1 else 0 := ct_one rfl
theorem ct_fin (f : Nd → Bool) (s : Int) (c : Tm) : ct f (.fin s c) = ct f c + if f (nEnd s) then 1 else 0 := ct_one rfl
theorem ct_over {f : Nd → Bool} (hf : Plain f) (s : Int) : ct f (.over s) = 0 := by
  show [nOver s].countP f = 0
  simp [hf.1 s]
theorem ct_skip {f : Nd → Bool} (hf : Plain f) : ct f .skip = 0 := by
  show [nOf 2].countP f = 0
  simp [hf.2.2.1]
theorem stk_ct {f : Nd → Bool} (hf : Plain f) (a d : Tm) : ct f (stk a d) = ct f a + ct f d := by
  obtain ⟨h1, h2, h3, h4, h5, h6, h7⟩ := hf
  cases a <;> simp only [stk, ct_stack, ct_fin, ct_seq, h7, h2, h4] <;> simp
theorem S_ct {f : Nd → Bool} (hf : Plain f) : ∀ t : Tm, ct f (S t) ≤ ct f t := by
  have hst := stk_ct hf
  have hov := ct_over hf
  have hsk := ct_skip hf
  have hf' := hf
  obtain ⟨h1, h2, h3, h4, h5, h6, h7⟩ := hf
  apply S_ind
  intro t ih
  cases t with
  | act s => exact Nat.le_refl _
  | skip => rw [S_skip, hov]; exact Nat.zero_le _
  | throw => rw [S_throw, hov]; exact Nat.zero_le _
  | yield => exact Nat.le_refl _
  | over s => exact Nat.le_refl _
  | fin s c => exact Nat.le_refl _
  | alt a b => exact Nat.le_refl _
  | pair a b => exact Nat.le_refl _
  | seq a b =>
    have ia := ih a (by simp [sz]; omega)
    have ib := ih b (by simp [sz]; omega)
    rw [S_seq, ct_seq, h4]
    generalize S a = x at ia
    cases x <;> simp only [sSeq] <;> (try split) <;> simp only [hov, ct_seq, ct_fin, hst, h2, h4] at ia ⊢ <;> simp only [Bool.false_eq_true, if_false] at ia ⊢ <;> omega
  | hand a b =>
    have ia := ih a (by simp [sz]; omega)
    have ib := ih b (by simp [sz]; omega)
    rw [S_hand]
    generalize S a = x at ia
    cases x <;> simp only [sHand] <;> (try split) <;> simp only [hov, ct_hand] at ia ⊢ <;> omega
  | par a b =>
    have ia := ih a (by simp [sz]; omega)
    have ib := ih b (by simp [sz]; omega)
    rw [S_par, ct_par, h5]
    generalize S a = x at ia ⊢
    generalize S b = y at ib ⊢
    cases x <;> simp only [sPar] <;> (try simp only [ct_par, h5] at ia) <;> (try (simp only [ct_par, h5] <;> omega))
    · cases y <;> simp only [] <;> simp only [hov, ct_par, h5] at ia ib ⊢ <;> omega
    · cases y <;> simp only [] <;> simp only [ct_fin, ct_par, h2, h5] at ia ib ⊢ <;> simp only [Bool.false_eq_true, if_false] at ia ib ⊢ <;> omega
  | block a =>
    have ia := ih a (by simp [sz])
    have hs := S_sz a
    rw [S_block]
    generalize S a = x at ia hs
    cases x with
    | fin s c =>
      simp only [sBlock]
      simp only [sz] at hs
      have ic := ih c (by simp [sz]; omega)
      rw [ct_fin, h2] at ia
      simp only [Bool.false_eq_true, if_false] at ia
      split
      · simp only [hov, ct_block]; omega
      · split
        · simp only [ct_block]; omega
        · simp only [ct_block, ct_fin, h2, Bool.false_eq_true, if_false]; omega
    | _ => (try simp only [ct_block] at ia); simp only [sBlock, ct_block]; omega
  | going a b =>
    have ia := ih a (by simp [sz]; omega)
    rw [S_going, ct_going, h6]
    generalize S a = x at ia
    cases x <;> simp only [sGoing] <;> (try split) <;> simp only [hov, hsk, ct_going, ct_fin, h2, h6] at ia ⊢ <;> (try simp only [Bool.false_eq_true, if_false]) <;> omega
  | stack a b =>
    have ia := ih a (by simp [sz]; omega)
    rw [S_stack, ct_stack, h7, hst]
    omega
end Go.Proofs.Ytaapnkoooofalaa.Se

namespace Go.Proofs.Ytaapnkoooofalaa.Se
open Go Go.RowKit Rw So
set_option maxRecDepth 20000
def kd (t : Tm) : Int := hd (flat t)
def sgl : List Nd → Int
  | [] => 0
  | n :: _ => n.s
def sg (t : Tm) : Int := sgl (flat t)
theorem at0 {l : List Nd} (h : 0 < l.length) : l[0].k = hd l ∧ l[0].s = sgl l := by
  cases l with
  | nil => simp at h
  | cons n r => exact ⟨rfl, rfl⟩
theorem form {w : World} {v : Value} {t : Tm} (hv : Nds w v (flat t)) : ∃ b o c, v = .slice (some ⟨b, o, none⟩) (sz t) c ∧ sz t ≤ c ∧ b < w.heap.size ∧ (∀ w', Below w.heap.size w w' → w'.cell? ⟨b, o, none⟩ = some (.int .i64 (kd t)) ∧ w'.cell? ⟨b, o + 2, none⟩ = some (.int .i64 (sg t))) ∧ At w b o (flat t) := by
  rcases hv.form with ⟨_, hl⟩ | ⟨b, o, c, rfl, hc, hat⟩
  · exact absurd (by simp_all) (flat_ne t)
  · rw [flat_len] at hc ⊢
    have hp := sz_pos t
    have hl := flat_len t
    obtain ⟨h1, _, h3⟩ := hat 0 (by omega)
    rw [Nat.zero_mul, Nat.add_zero] at h1 h3
    have lt := Ap.cell_lt h1
    refine ⟨b, o, c, rfl, hc, lt, fun w' hb => ?_, hat⟩
    obtain ⟨g1, g2⟩ := at0 (l := flat t) (by omega)
    rw [hb.cell (p := ⟨b, o, none⟩) lt, hb.cell (p := ⟨b, o + 2, none⟩) lt, h1, h3, g1, g2]
    exact ⟨rfl, rfl⟩
theorem tail_fin {w : World} {b o c : Nat} {s : Int} {t : Tm} (hat : At w b o (flat (.fin s t))) (hc : sz (.fin s t) ≤ c) : Nds w (.slice (some ⟨b, o + 3, none⟩) (sz t) (c - 1)) (flat t) := by
  have h := part_nds hat 1 (sz t) (c - 1) (by rw [flat_len]; simp [sz]; omega) (by simp [sz] at hc; omega)
  have e : ((flat (.fin s t)).drop 1).take (sz t) = flat t := by
    show ((nEnd s :: flat t).drop 1).take (sz t) = _
    rw [List.drop_succ_cons, List.drop_zero, ← flat_len t, List.take_length]
  rw [e] at h
  exact h
end Go.Proofs.Ytaapnkoooofalaa.Se

namespace Go.Proofs.Ytaapnkoooofalaa.Rf
open Go Go.RowKit Rw
set_option maxRecDepth 20000
def Strs (w : World) (v : Value) (l : List ByteArray) : Prop := Ap.Rd w 1 v l.length (l.map .string)
theorem Strs.below {w w' : World} {v : Value} {l : List ByteArray} (h : Strs w v l) (hb : Below w.heap.size w w') : Strs w' v l := Ap.Rd.below h hb
def AtS (w : World) (b off : Nat) (l : List ByteArray) : Prop := ∀ k, (h : k < l.length) → w.cell? ⟨b, off + k, none⟩ = some (.string l[k])
theorem Strs.form {w : World} {v : Value} {l : List ByteArray} (h : Strs w v l) :
    (l = [] ∧ ∃ a cap, v = .slice a 0 cap) ∨ ∃ b off cap, v = .slice (some ⟨b, off, none⟩) l.length cap ∧ AtS w b off l := by
  obtain ⟨_, a, cap, rfl, hle, _, hcell⟩ := h
  by_cases h0 : 0 < l.length
  · obtain ⟨b, off, rfl, hj⟩ := hcell h0
    exact Or.inr ⟨b, off, cap, rfl, fun k hk => hj _ _ (by rw [List.getElem?_map, List.getElem?_eq_getElem hk]; rfl)⟩
  · have : l = [] := List.eq_nil_of_length_eq_zero (by omega)
    subst this
    exact Or.inl ⟨rfl, a, cap, rfl⟩
theorem AtS.below {w w' : World} {b off : Nat} {l : List ByteArray} (h : AtS w b off l) (hb : Below w.heap.size w w') : AtS w' b off l := fun k hk => by
  rw [hb.cell (Ap.cell_lt (h k hk))]
  exact h k hk
theorem At.below {w w' : World} {b off : Nat} {l : List Nd} (h : At w b off l) (hb : Below w.heap.size w w') : At w' b off l := fun k hk => by
  obtain ⟨h1, h2, h3⟩ := h k hk
  exact ⟨by rw [hb.cell (Ap.cell_lt h1)]; exact h1, by rw [hb.cell (Ap.cell_lt h2)]; exact h2, by rw [hb.cell (Ap.cell_lt h3)]; exact h3⟩
theorem nds_new (w : World) (l : List Nd) (ty : TypeId) : Nds (w.alloc (.cells (cls l).toArray ty)) (.slice (some ⟨w.heap.size, 0, none⟩) l.length l.length) l := by
  refine ⟨cls_len l, some ⟨w.heap.size, 0, none⟩, l.length, rfl, Nat.le_refl _, fun h => (by cases h), fun _ => ⟨w.heap.size, 0, rfl, fun j u hu => ?_⟩⟩
  rw [Nat.zero_add, World.cell?_alloc_new]
  simpa using hu
def Got (w wr : World) (v : Value) (l : List Nd) : Prop := wr.ownsRow w.heap.size 28 3 v l.length (cls l) ∧ Below w.heap.size w wr
theorem Got.nds {w wr : World} {v : Value} {l : List Nd} (h : Got w wr v l) : Nds wr v l := Ap.Rd.owned h.1
theorem Got.start (w : World) : Got w w (.slice none 0 0) [] := ⟨⟨rfl, .inl ⟨rfl, rfl⟩⟩, Below.refl _ _⟩
theorem Got.below {w wr w' : World} {v : Value} {l : List Nd} (h : Got w wr v l) (hb : Below wr.heap.size wr w') : Got w w' v l := ⟨Ap.own_below h.1 hb, h.2.trans (hb.mono h.2.size)⟩
theorem Got.slice {w wr : World} {v : Value} {l : List Nd} (h : Got w wr v l) : ∃ a c, v = .slice a l.length c := by
  obtain ⟨_, a, c, e, -⟩ := h.nds
  exact ⟨a, c, e⟩
theorem Got.one {w wr : World} {v : Value} {l : List Nd} (x : Nd) (h : Got w wr v l) (hl : l.length ≤ 2000000) :
    ∃ v' w', (Builtin.append_ #[22, 22] 22 #[v, .slice (some ⟨wr.heap.size, 0, none⟩) 1 1]).run Try.prog (wr.alloc (.cells #[.int .i64 x.k, .string x.n, .int .i64 x.s] 28)) = .ok v' w' ∧ Got w w' v' (l ++ [x]) := by
  obtain ⟨v', w', h1, h2, _, h4, _⟩ := run_append_nd x h.1 h.2.size hl
  exact ⟨v', w', h1, h2, h.2.trans h4⟩
theorem Got.row {w wr : World} {v y : Value} {l m : List Nd} (h : Got w wr v l) (hy : Nds wr y m) (hl : l.length + m.length ≤ 2000000) :
    ∃ v' w', (Builtin.append_ #[22, 22] 22 #[v, y]).run Try.prog wr = .ok v' w' ∧ Got w w' v' (l ++ m) := by
  obtain ⟨v', w', h1, h2, _, h4, _⟩ := run_append_nds h.1 h.2.size hy hl
  exact ⟨v', w', h1, h2, h.2.trans h4⟩
theorem Got.new {w wr : World} {v : Value} {l : List Nd} (m : List Nd) (h : Got w wr v l) (hl : l.length + m.length ≤ 2000000) :
    ∃ v' w', (Builtin.append_ #[22, 22] 22 #[v, .slice (some ⟨wr.heap.size, 0, none⟩) m.length m.length]).run Try.prog (wr.alloc (.cells (cls m).toArray 28)) = .ok v' w' ∧ Got w w' v' (l ++ m) :=
  (h.below (below1 wr _)).row (nds_new wr m _) hl
end Go.Proofs.Ytaapnkoooofalaa.Rf

namespace Go.Proofs.Ytaapnkoooofalaa.Tr
open Go Go.RowKit
set_option maxRecDepth 20000
theorem below2 (w : World) (x y : Obj) : Below w.heap.size w ((w.alloc x).alloc y) := ((Below.refl _ _).alloc (Nat.le_refl _) x).alloc (by simp) y
end Go.Proofs.Ytaapnkoooofalaa.Tr

namespace Go.Proofs.Ytaapnkoooofalaa.Se
open Go Go.RowKit Rw So
set_option maxRecDepth 20000
theorem kd14 {a : Tm} (h : kd a = 14) : ∃ s c, a = .fin s c := by
  cases a <;> first | exact ⟨_, _, rfl⟩ | simp [kd, flat, hd, nOf] at h
theorem kd11 {a : Tm} (h : kd a = 11) : ∃ s, a = .over s := by
  cases a <;> first | exact ⟨_, rfl⟩ | simp [kd, flat, hd, nOf] at h
theorem stk_other {a d : Tm} (h : kd a ≠ 14) : stk a d = .stack a d := by
  cases a <;> first | rfl | exact absurd rfl h
end Go.Proofs.Ytaapnkoooofalaa.Se

namespace Go.Proofs.Ytaapnkoooofalaa.Rf
open Go Go.RowKit Rw
set_option maxRecDepth 20000
end Go.Proofs.Ytaapnkoooofalaa.Rf

namespace Go.Proofs.Ytaapnkoooofalaa.Tr
open Go Go.RowKit
set_option maxRecDepth 20000
def pr (p q : Tr) : List Tr := norm ((mx 19 p.a q.a).map fun r => ⟨r, Sg.both p.e q.e⟩)
end Go.Proofs.Ytaapnkoooofalaa.Tr

namespace Go.Proofs.Ytaapnkoooofalaa.Se
open Go Go.RowKit Rw So
set_option maxRecDepth 20000
theorem sPar_11 {s : Int} {d : Tm} (h : kd d ≠ 11) : sPar (.over s) d = .par (.over s) d := by cases d <;> first | rfl | exact absurd rfl h
theorem sPar_14 {s : Int} {c d : Tm} (h : kd d ≠ 14) : sPar (.fin s c) d = .par (.fin s c) d := by cases d <;> first | rfl | exact absurd rfl h
theorem sPar_no {a d : Tm} (h1 : kd a ≠ 11) (h2 : kd a ≠ 14) : sPar a d = .par a d := by cases a <;> first | rfl | exact absurd rfl h1 | exact absurd rfl h2
theorem not14 {a : Tm} (h : is a 3 = true) : kd a ≠ 14 := fun e => by
  obtain ⟨s, c, rfl⟩ := kd14 e
  simp [is] at h
end Go.Proofs.Ytaapnkoooofalaa.Se

namespace Go.Proofs.Ytaapnkoooofalaa.Rf
open Go Go.RowKit Rw
set_option maxRecDepth 20000
end Go.Proofs.Ytaapnkoooofalaa.Rf

namespace Go.Proofs.Ytaapnkoooofalaa.Tr
open Go
theorem mem_pr {p q t : Tr} (h : t ∈ pr p q) : t.a ∈ mx 19 p.a q.a ∧ t.e = Sg.both p.e q.e := by
  unfold pr at h
  obtain ⟨r, hr, rfl⟩ := List.mem_map.1 ((mem_norm _ _).1 h)
  exact ⟨hr, rfl⟩
theorem sub_self : ∀ a : List ByteArray, sub a a = true
  | [] => rfl
  | x :: a => by rw [sub, if_pos rfl]; exact sub_self a
end Go.Proofs.Ytaapnkoooofalaa.Tr

namespace Go.Proofs.Ytaapnkoooofalaa.Se
open Go Go.RowKit Rw So
set_option maxRecDepth 20000
def NdO (base : Nat) (w : World) (v : Value) (t : Tm) : Prop := Ap.RdO (fun g => base ≤ g) w 3 v (flat t).length (cls (flat t))
theorem NdO.nds {base : Nat} {w : World} {v : Value} {t : Tm} (h : NdO base w v t) : Nds w v (flat t) := Ap.RdO.rd h
theorem NdO.below {base : Nat} {w w' : World} {v : Value} {t : Tm} (h : NdO base w v t) (hb : Below w.heap.size w w') : NdO base w' v t := Ap.RdO.below h hb
theorem NdO.more {base base' : Nat} {w : World} {v : Value} {t : Tm} (h : NdO base w v t) (hb : base' ≤ base) : NdO base' w v t := Ap.RdO.imp h fun _ _ h => Nat.le_trans hb h
def OutB (base : Nat) (t : Tm) (w : World) (e : Ending) (w' : World) : Prop := ∃ y, e = .returned y ∧ NdO base w' y t ∧ Below w.heap.size w w'
def nml : List Nd → ByteArray
  | [] => ⟨#[]⟩
  | n :: _ => n.n
def nmT (t : Tm) : ByteArray := nml (flat t)
theorem at0n {l : List Nd} (h : 0 < l.length) : l[0].n = nml l := by
  cases l with
  | nil => simp at h
  | cons n r => rfl
theorem form3 {w : World} {v : Value} {t : Tm} (hv : Nds w v (flat t)) : ∃ b o c, v = .slice (some ⟨b, o, none⟩) (sz t) c ∧ sz t ≤ c ∧ b < w.heap.size ∧ (∀ w', Below w.heap.size w w' → w'.cell? ⟨b, o, none⟩ = some (.int .i64 (kd t)) ∧ w'.cell? ⟨b, o + 1, none⟩ = some (.string (nmT t)) ∧ w'.cell? ⟨b, o + 2, none⟩ = some (.int .i64 (sg t))) ∧ At w b o (flat t) := by
  obtain ⟨b, o, c, rfl, hc, hlt, hw, hat⟩ := form hv
  refine ⟨b, o, c, rfl, hc, hlt, fun w' hb => ⟨(hw w' hb).1, ?_, (hw w' hb).2⟩, hat⟩
  have hp := sz_pos t
  have hl := flat_len t
  have h2 := (hat 0 (by omega)).2.1
  rw [Nat.zero_mul, Nat.add_zero] at h2
  rw [hb.cell (p := ⟨b, o + 1, none⟩) hlt, h2]
  rw [at0n (by omega)]
  rfl
theorem eq_ndP (x y : Nd) (w : World) : (binOp .eql 28 (.agg #[.int .i64 x.k, .string x.n, .int .i64 x.s]) (.agg #[.int .i64 y.k, .string y.n, .int .i64 y.s])).run Try.prog w = .ok (.bool (decide (x = y))) w := by
  rw [run_eql_struct, show (10000 : Nat) = 9998 + 2 from rfl, eql_nd]
  rfl
theorem eq_bare (k s j r : Int) (n : ByteArray) (w : World) : (binOp .eql 28 (.agg #[.int .i64 k, .string n, .int .i64 s]) (.agg #[.int .i64 j, .string ⟨#[]⟩, .int .i64 r])).run Try.prog w = .ok (.bool (decide ((⟨k, n, s⟩ : Nd) = ⟨j, ⟨#[]⟩, r⟩))) w := eq_ndP ⟨k, n, s⟩ ⟨j, ⟨#[]⟩, r⟩ w
theorem overP_any (s : Int) (w : World) : Calls Try.prog 78 #[.int .i64 s] w fun e w' => e = .returned (.agg #[.int .i64 11, .string ⟨#[]⟩, .int .i64 s]) ∧ Below w.heap.size w w' := by
  go_enter Try.func78, Try.ntmps78
  go_wp2_with fail
  refine bodyPost_ret (v := .agg #[.int .i64 11, .string ⟨#[]⟩, .int .i64 s]) (by simp [results, Try.results78, go_sem]) rfl ⟨rfl, ?_⟩
  exact below1 w _
theorem endP_any (s : Int) (w : World) : Calls Try.prog 93 #[.int .i64 s] w fun e w' => e = .returned (.agg #[.int .i64 14, .string ⟨#[]⟩, .int .i64 s]) ∧ Below w.heap.size w w' := by
  go_enter Try.func93, Try.ntmps93
  go_wp2_with fail
  refine bodyPost_ret (v := .agg #[.int .i64 14, .string ⟨#[]⟩, .int .i64 s]) (by simp [results, Try.results93, go_sem]) rfl ⟨rfl, ?_⟩
  exact below1 w _
def goK (k : Int) : Int := if k = 7 then 2 else if k = 5 ∨ k = 8 ∨ k = 9 ∨ k = 12 ∨ k = 13 then 1 else 0
set_option maxHeartbeats 2000000 in
theorem goOn_any (t : Tm) (w : World) : Calls Try.prog 66 #[.int .i64 (kd t)] w fun e w' => e = .returned (.int .i64 (goK (kd t))) ∧ w = w' := by
  have hk := kinds (tre_flat t).ar
  change kd t = 1 ∨ kd t = 2 ∨ kd t = 3 ∨ kd t = 4 ∨ kd t = 5 ∨ kd t = 6 ∨ kd t = 7 ∨ kd t = 8 ∨ kd t = 9 ∨ kd t = 10 ∨ kd t = 11 ∨ kd t = 12 ∨ kd t = 13 ∨ kd t = 14 at hk
  generalize kd t = k at hk
  rcases hk with rfl | rfl | rfl | rfl | rfl | rfl | rfl | rfl | rfl | rfl | rfl | rfl | rfl | rfl
  all_goals go_enter Try.func66, Try.ntmps66
  all_goals go_wp2_with fail
  all_goals go_ret
  all_goals exact ⟨rfl, rfl⟩
theorem rws_two {w : World} {y1 y2 : Value} {l1 l2 : List Nd} (h1 : Nds w y1 l1) (h2 : Nds w y2 l2) (ty : TypeId) : Rws (w.alloc (.cells #[y1, y2] ty)) (.slice (some ⟨w.heap.size, 0, none⟩) 2 2) [l1, l2] := by
  refine ⟨[y1, y2], ⟨rfl, _, 2, rfl, Nat.le_refl _, fun h => (by cases h), fun _ => ⟨w.heap.size, 0, rfl, fun j u hu => ?_⟩⟩, h1.below (below1 w _), h2.below (below1 w _), trivial⟩
  match j, hu with
  | 0, hu => simp at hu; subst hu; simp
  | 1, hu => simp at hu; subst hu; simp
  | j + 2, hu => simp at hu
theorem rws_one {w : World} {y1 : Value} {l1 : List Nd} (h1 : Nds w y1 l1) (ty : TypeId) : Rws (w.alloc (.cells #[y1] ty)) (.slice (some ⟨w.heap.size, 0, none⟩) 1 1) [l1] := by
  refine ⟨[y1], ⟨rfl, _, 1, rfl, Nat.le_refl _, fun h => (by cases h), fun _ => ⟨w.heap.size, 0, rfl, fun j u hu => ?_⟩⟩, h1.below (below1 w _), trivial⟩
  match j, hu with
  | 0, hu => simp at hu; subst hu; simp
  | j + 1, hu => simp at hu
theorem rws_none (w : World) : Rws w (.slice none 0 0) [] := ⟨[], ⟨rfl, none, 0, rfl, Nat.le_refl _, fun _ => ⟨rfl, rfl⟩, fun h => absurd h (Nat.lt_irrefl 0)⟩, trivial⟩
theorem mkP (base : Nat) (x : Nd) (ls : List (List Nd)) (t : Tm) (h : flat t = x :: ls.flatten) (v : Value) (w : World) (hv : Rws w v ls) (hl : ls.length ≤ 2) (hs : sz t ≤ 1000) (hb : base ≤ w.heap.size) :
    Calls Try.prog 65 #[.agg #[.int .i64 x.k, .string x.n, .int .i64 x.s], v] w (OutB base t w) := by
  have e := flat_len t
  rw [h, List.length_cons] at e
  refine (Rx.makeP_any x v ls w hv (by omega) (by omega)).mono ?_
  rintro e w1 ⟨y, rfl, hn, hb1⟩
  refine ⟨y, rfl, ?_, hb1⟩
  unfold NdO
  rw [h]
  exact Ap.RdO.imp hn fun _ _ h => Nat.le_trans hb h
theorem mkP0 (base : Nat) (k s : Int) (t : Tm) (h : flat t = [⟨k, ⟨#[]⟩, s⟩]) (w : World) (hb : base ≤ w.heap.size) :
    Calls Try.prog 65 #[.agg #[.int .i64 k, .string ⟨#[]⟩, .int .i64 s], .slice none 0 0] w (OutB base t w) :=
  mkP base ⟨k, ⟨#[]⟩, s⟩ [] t h _ w (rws_none w) (by simp) (by have := flat_len t; rw [h] at this; simp at this; omega) hb
theorem mkP1 (base : Nat) (k s : Int) (t a : Tm) (h : flat t = ⟨k, ⟨#[]⟩, s⟩ :: flat a) (v : Value) (w : World) (ty : TypeId) (ha : Nds w v (flat a)) (hs : sz t ≤ 1000) (hb : base ≤ w.heap.size) :
    Calls Try.prog 65 #[.agg #[.int .i64 k, .string ⟨#[]⟩, .int .i64 s], .slice (some ⟨w.heap.size, 0, none⟩) 1 1] (w.alloc (.cells #[v] ty)) (OutB base t w) := by
  refine (mkP base ⟨k, ⟨#[]⟩, s⟩ [flat a] t (by rw [h]; simp) _ _ (rws_one ha ty) (by simp) hs (by simp; omega)).mono ?_
  rintro e w1 ⟨y, rfl, hn, hb1⟩
  exact ⟨y, rfl, hn, (below1 w _).trans (hb1.mono (below1 w _).size)⟩
theorem mkP2 (base : Nat) (k s : Int) (t a b : Tm) (h : flat t = ⟨k, ⟨#[]⟩, s⟩ :: (flat a ++ flat b)) (v u : Value) (w : World) (ty : TypeId) (ha : Nds w v (flat a)) (hu : Nds w u (flat b)) (hs : sz t ≤ 1000) (hb : base ≤ w.heap.size) :
    Calls Try.prog 65 #[.agg #[.int .i64 k, .string ⟨#[]⟩, .int .i64 s], .slice (some ⟨w.heap.size, 0, none⟩) 2 2] (w.alloc (.cells #[v, u] ty)) (OutB base t w) := by
  refine (mkP base ⟨k, ⟨#[]⟩, s⟩ [flat a, flat b] t (by rw [h]; simp) _ _ (rws_two ha hu ty) (by simp) hs (by simp; omega)).mono ?_
  rintro e w1 ⟨y, rfl, hn, hb1⟩
  exact ⟨y, rfl, hn, (below1 w _).trans (hb1.mono (below1 w _).size)⟩
theorem mkP2d (base : Nat) (k s : Int) (t a b : Tm) (h : flat t = ⟨k, ⟨#[]⟩, s⟩ :: (flat a ++ flat b)) (v u : Value) (w : World) (ty : TypeId) (ha : Nds w v (flat a)) (hu : Nds w u (flat b)) (hs : sz t ≤ 1000) (hb : base ≤ w.heap.size) :
    Calls Try.prog 65 #[.agg #[.int .i64 k, .string ⟨#[]⟩, .int .i64 s], .slice (some ⟨w.heap.size, 0, none⟩) 2 2] (w.alloc (.cells #[v, u] ty)).drew (OutB base t w) := by
  refine (mkP base ⟨k, ⟨#[]⟩, s⟩ [flat a, flat b] t (by rw [h]; simp) _ _ ((rws_two ha hu ty).below (Below.refl _ _).drew) (by simp) hs (by simp; omega)).mono ?_
  rintro e w1 ⟨y, rfl, hn, hb1⟩
  exact ⟨y, rfl, hn, (below1 w _).drew.trans (hb1.mono (below1 w _).drew.size)⟩
theorem mkPr (base : Nat) (k s : Int) (t a b : Tm) (h : flat t = ⟨k, ⟨#[]⟩, s⟩ :: (flat a ++ flat b)) (v : Value) (w : World) (hv : Rws w v [flat a, flat b]) (hs : sz t ≤ 1000) (hb : base ≤ w.heap.size) :
    Calls Try.prog 65 #[.agg #[.int .i64 k, .string ⟨#[]⟩, .int .i64 s], v] w (OutB base t w) := mkP base ⟨k, ⟨#[]⟩, s⟩ [flat a, flat b] t (by rw [h]; simp) v w hv (by simp) hs hb
theorem box_cells (w : World) (k s : Int) (nm : ByteArray) (ty : TypeId) : ∀ w1, Below (w.alloc (.cells #[.int .i64 k, .string nm, .int .i64 s] ty)).heap.size (w.alloc (.cells #[.int .i64 k, .string nm, .int .i64 s] ty)) w1 → w1.cell? ⟨w.heap.size, 0, none⟩ = some (.int .i64 k) ∧ w1.cell? ⟨w.heap.size, 1, none⟩ = some (.string nm) ∧ w1.cell? ⟨w.heap.size, 2, none⟩ = some (.int .i64 s) := by
  intro w1 hb
  rw [hb.cell (p := ⟨w.heap.size, 0, none⟩) (by simp), hb.cell (p := ⟨w.heap.size, 1, none⟩) (by simp), hb.cell (p := ⟨w.heap.size, 2, none⟩) (by simp)]
  simp [go_sem]
abbrev PS (t : Tm) : Prop := ∀ (v : Value) (w : World), Nds w v (flat t) → Calls Try.prog 52 #[v] w (OutB w.heap.size (S t) w)
end Go.Proofs.Ytaapnkoooofalaa.Se

namespace Go.Proofs.Ytaapnkoooofalaa.Rf
open Go Go.RowKit Rw
set_option maxRecDepth 20000
theorem infoIn : (Try.prog.info? 3).map (fun i => (i.zero, i.size, i.bytes)) = some (some (.int .i64 0), 1, 8) := by kernel_rfl
def GotI (w wr : World) (v : Value) (P : List Nat) : Prop := wr.ownsRow w.heap.size 3 1 v P.length (P.map fun (i : Nat) => .int .i64 (i : Int)) ∧ Below w.heap.size w wr
def Plc (w : World) (v : Value) (P : List Nat) : Prop := Ap.Rd w 1 v P.length (P.map fun (i : Nat) => .int .i64 (i : Int))
theorem Plc.below {w w' : World} {v : Value} {P : List Nat} (h : Plc w v P) (hb : Below w.heap.size w w') : Plc w' v P := Ap.Rd.below h hb
def AtP (w : World) (b off : Nat) (P : List Nat) : Prop := ∀ k, (h : k < P.length) → w.cell? ⟨b, off + k, none⟩ = some (.int .i64 (P[k] : Int))
theorem AtP.below {w w' : World} {b off : Nat} {l : List Nat} (h : AtP w b off l) (hb : Below w.heap.size w w') : AtP w' b off l := fun k hk => by
  rw [hb.cell (Ap.cell_lt (h k hk))]
  exact h k hk
theorem Plc.form {w : World} {v : Value} {P : List Nat} (h : Plc w v P) : (P = [] ∧ ∃ a cap, v = .slice a 0 cap) ∨ ∃ b off cap, v = .slice (some ⟨b, off, none⟩) P.length cap ∧ AtP w b off P := by
  obtain ⟨_, a, cap, rfl, hle, _, hcell⟩ := h
  by_cases h0 : 0 < P.length
  · obtain ⟨b, off, rfl, hj⟩ := hcell h0
    exact Or.inr ⟨b, off, cap, rfl, fun k hk => hj _ _ (by rw [List.getElem?_map, List.getElem?_eq_getElem hk]; rfl)⟩
  · have : P = [] := List.eq_nil_of_length_eq_zero (by omega)
    subst this
    exact Or.inl ⟨rfl, a, cap, rfl⟩
theorem GotI.plc {w wr : World} {v : Value} {P : List Nat} (h : GotI w wr v P) : Plc wr v P := Ap.Rd.owned h.1
theorem GotI.start (w : World) : GotI w w (.slice none 0 0) [] := ⟨⟨rfl, .inl ⟨rfl, rfl⟩⟩, Below.refl _ _⟩
theorem GotI.below {w wr w' : World} {v : Value} {P : List Nat} (h : GotI w wr v P) (hb : Below wr.heap.size wr w') : GotI w w' v P := ⟨Ap.own_below h.1 hb, h.2.trans (hb.mono h.2.size)⟩
theorem GotI.slice {w wr : World} {v : Value} {P : List Nat} (h : GotI w wr v P) : ∃ a c, v = .slice a P.length c := by
  obtain ⟨_, a, c, e, -⟩ := h.plc
  exact ⟨a, c, e⟩
theorem GotI.one {w wr : World} {v : Value} {P : List Nat} (k : Nat) (h : GotI w wr v P) (hl : P.length ≤ 2000000) :
    ∃ v' w', (Builtin.append_ #[51, 51] 51 #[v, .slice (some ⟨wr.heap.size, 0, none⟩) 1 1]).run Try.prog (wr.alloc (.cells #[.int .i64 (k : Int)] 3)) = .ok v' w' ∧ GotI w w' v' (P ++ [k]) := by
  obtain ⟨i0, hi, hz, hs1, hb8⟩ := info_parts infoIn
  obtain ⟨v', w', h1, h2, _, h4, _⟩ := Ap.run_append_one (P := Try.prog) (ty := 51) Try.underlying51 hi hz hs1 hb8 (by rfl) (by omega) h.1 h.2.size #[.int .i64 (k : Int)] rfl
    (by intro u hu; simp at hu; subst hu; rfl) (by unfold maxLen; omega) (by omega)
  exact ⟨v', w', h1, by simpa using h2, h.2.trans h4⟩
end Go.Proofs.Ytaapnkoooofalaa.Rf
