/- Plain: what is settled means what it meant. Rows of traces, and of pairs, in memory, and in which blocks they lie. -/
import Derived.Test.YtgaediondmdnbaaGreatQ17
import Derived.Test.YtgaediondmdnbaaGreatQ12
import Derived.Test.YtgaediondmdnbaaGreatQ04
import Derived.Test.YtgaediondmdnbaaGreatQ10

namespace Go.Proofs.YtgaediondmdnbaaGreat.Se
open Go Go.Proofs.YtgaediondmdnbaaGreat.Rw Go.Proofs.YtgaediondmdnbaaGreat.So Go.Proofs.YtgaediondmdnbaaGreat.Tr Go.Proofs.YtgaediondmdnbaaGreat.Mn

theorem flat_pos (t : Tm) : 0 < (flat t).length := by rw [flat_len]; exact sz_pos t
theorem mt_eq (t : Tm) : Mt (flat t) = Mn.stepT Mt Mp (flat t) := (M_eq (flat_pos t)).1
theorem mp_eq (t : Tm) : Mp (flat t) = Mn.stepP Mt Mp (flat t) := (M_eq (flat_pos t)).2
theorem mt_skip : Mt (flat .skip) = [tick] := by rw [mt_eq]; rfl
theorem mt_throw : Mt (flat .throw) = [bang] := by rw [mt_eq]; rfl
theorem mt_over (s : Int) : Mt (flat (.over s)) = [⟨[], s⟩] := by rw [mt_eq]; rfl
theorem mt_seq (a b : Tm) : Mt (flat (.seq a b)) = norm (two 5 (Mt (flat a)) (Mt (flat b))) := by rw [mt_eq, stepT_2 (l := flat (.seq a b)) (.inl rfl), k0_seq, k1_seq]; rfl
theorem mt_par (a b : Tm) : Mt (flat (.par a b)) = norm (two 7 (Mt (flat a)) (Mt (flat b))) := by rw [mt_eq, stepT_2 (l := flat (.par a b)) (.inr (.inr (.inl rfl))), k0_par, k1_par]; rfl
theorem mt_hand (a b : Tm) : Mt (flat (.hand a b)) = norm (two 8 (Mt (flat a)) (Mt (flat b))) := by rw [mt_eq, stepT_2 (l := flat (.hand a b)) (.inr (.inr (.inr rfl))), k0_hand, k1_hand]; rfl
theorem mt_block (a : Tm) : Mt (flat (.block a)) = norm (blk (Mp (flat a))) := by rw [mt_eq, stepT_9 (l := flat (.block a)) rfl, k0_block]
theorem mp_seq (a b : Tm) : Mp (flat (.seq a b)) = pnorm (seq (Mp (flat a)) (Mp (flat b))) := by rw [mp_eq, stepP_2 (l := flat (.seq a b)) (.inl rfl), k0_seq, k1_seq]; rfl
theorem mp_par (a b : Tm) : Mp (flat (.par a b)) = pnorm (par (Mp (flat a)) (Mp (flat b))) := by rw [mp_eq, stepP_2 (l := flat (.par a b)) (.inr (.inr rfl)), k0_par, k1_par]; rfl
theorem mp_going (a b : Tm) : Mp (flat (.going a b)) = pnorm (going (Mt (flat a)) (Mt (flat b))) := by rw [mp_eq, stepP_12 (l := flat (.going a b)) rfl, k0_going, k1_going]
theorem mp_stack (a b : Tm) : Mp (flat (.stack a b)) = pnorm (stack (Mp (flat a)) (Mt (flat b))) := by rw [mp_eq, stepP_13 (l := flat (.stack a b)) rfl, k0_stack, k1_stack]
theorem mp_fin (s : Int) (c : Tm) : Mp (flat (.fin s c)) = pnorm (fin s (Mt (flat c))) := by rw [mp_eq, stepP_14 (l := flat (.fin s c)) rfl, k0_fin]; rfl
theorem mem_fin {s : Int} {C : List Tr} {z : Pr} : z ∈ fin s C ↔ ∃ c ∈ C, z = ⟨⟨[], s⟩, c⟩ := by
  unfold fin
  rw [List.mem_map]
  exact ⟨fun ⟨c, h, e⟩ => ⟨c, h, e.symm⟩, fun ⟨c, h, e⟩ => ⟨c, h, e.symm⟩⟩
theorem mem_stk {X : List Pr} {C : List Tr} {z : Pr} : z ∈ stack X C ↔ ∃ x ∈ X, ∃ c ∈ C, z = ⟨x.p, thn x.q c⟩ := by
  unfold stack
  rw [List.mem_flatMap]
  constructor
  · rintro ⟨x, hx, h⟩
    obtain ⟨c, hc, e⟩ := List.mem_map.1 h
    exact ⟨x, hx, c, hc, e.symm⟩
  · rintro ⟨x, hx, c, hc, e⟩
    exact ⟨x, hx, List.mem_map.2 ⟨c, hc, e.symm⟩⟩
theorem stk_mean (x d : Tm) : Mp (flat (stk x d)) = pnorm (stack (Mp (flat x)) (Mt (flat d))) := by
  cases x with
  | fin s c =>
    show Mp (flat (.fin s (.seq c d))) = _
    rw [mp_fin, mp_fin, mt_seq]
    refine pnorm_congr fun z => ?_
    rw [mem_fin, mem_stk]
    constructor
    · rintro ⟨q, hq, rfl⟩
      obtain ⟨c', hc', d', hd', rfl⟩ := mem5.1 ((mem_norm _ _).1 hq)
      exact ⟨⟨⟨[], s⟩, c'⟩, (pmem_norm _ _).2 (mem_fin.2 ⟨c', hc', rfl⟩), d', hd', rfl⟩
    · rintro ⟨y, hy, d', hd', rfl⟩
      obtain ⟨c', hc', rfl⟩ := mem_fin.1 ((pmem_norm _ _).1 hy)
      exact ⟨thn c' d', (mem_norm _ _).2 (mem5.2 ⟨c', hc', d', hd', rfl⟩), rfl⟩
  | _ => exact mp_stack _ _
theorem thn_no {s : Int} (h : s ≠ 1) (q : Tr) : thn ⟨[], s⟩ q = ⟨[], s⟩ := by unfold thn; rw [if_neg h]
theorem hnd_no {s : Int} (h : s ≠ 2) (q : Tr) : hnd ⟨[], s⟩ q = ⟨[], s⟩ := by unfold hnd; rw [if_neg h]
theorem seq_no {s : Int} (h : s ≠ 1) {B : List Tr} (hB : B ≠ []) : norm (two 5 [⟨[], s⟩] B) = [⟨[], s⟩] := norm_is (up_one _) fun t => by
  rw [mem5, List.mem_singleton]
  constructor
  · rintro rfl
    obtain ⟨q, hq⟩ := List.exists_mem_of_ne_nil B hB
    exact ⟨_, by simp, q, hq, (thn_no h q).symm⟩
  · rintro ⟨p, hp, q, _, rfl⟩
    rw [List.mem_singleton] at hp
    rw [hp, thn_no h]
theorem hand_no {s : Int} (h : s ≠ 2) {B : List Tr} (hB : B ≠ []) : norm (two 8 [⟨[], s⟩] B) = [⟨[], s⟩] := norm_is (up_one _) fun t => by
  rw [mem8, List.mem_singleton]
  constructor
  · rintro rfl
    obtain ⟨q, hq⟩ := List.exists_mem_of_ne_nil B hB
    exact ⟨_, by simp, q, hq, (hnd_no h q).symm⟩
  · rintro ⟨p, hp, q, _, rfl⟩
    rw [List.mem_singleton] at hp
    rw [hp, hnd_no h]
theorem pr_none (s t : Int) : pr ⟨[], s⟩ ⟨[], t⟩ = [⟨[], Sg.both s t⟩] := rfl
theorem par_over' (s t : Int) : norm (two 7 [⟨[], s⟩] [⟨[], t⟩]) = [⟨[], Sg.both s t⟩] := norm_is (up_one _) fun u => by
  rw [mem7, List.mem_singleton]
  constructor
  · rintro rfl
    exact ⟨⟨[], s⟩, by simp, ⟨[], t⟩, by simp, by rw [pr_none]; simp⟩
  · rintro ⟨p, hp, q, hq, h⟩
    rw [List.mem_singleton] at hp hq
    rw [hp, hq, pr_none, List.mem_singleton] at h
    exact h
theorem par_fin' (s t : Int) (C D : List Tr) : pnorm (par (pnorm (fin s C)) (pnorm (fin t D))) = pnorm (fin (Sg.both s t) (norm (two 7 C D))) := by
  refine pnorm_congr fun z => ?_
  unfold par
  simp only [List.mem_flatMap, mem_par1, pmem_norm, mem_fin]
  constructor
  · rintro ⟨x, ⟨c, hc, rfl⟩, y, ⟨d, hd, rfl⟩, h1, h2⟩
    rw [pr_none, List.mem_singleton] at h1
    refine ⟨z.q, (mem_norm _ _).2 (mem7.2 ⟨c, hc, d, hd, h2⟩), ?_⟩
    cases z
    simp only at h1
    rw [h1]
  · rintro ⟨q, hq, rfl⟩
    obtain ⟨c, hc, d, hd, h⟩ := mem7.1 ((mem_norm _ _).1 hq)
    exact ⟨_, ⟨c, hc, rfl⟩, _, ⟨d, hd, rfl⟩, by rw [pr_none]; simp, h⟩
theorem seq_fin1 (C : List Tr) (Y : List Pr) : pnorm (seq (pnorm (fin 1 C)) Y) = pnorm (stack Y C) := by
  refine pnorm_congr fun z => ?_
  unfold seq
  simp only [List.mem_flatMap, pmem_norm, mem_fin, mem_stk]
  constructor
  · rintro ⟨x, ⟨c, hc, rfl⟩, h⟩
    unfold seq1 at h
    rw [if_pos rfl, List.mem_map] at h
    obtain ⟨y, hy, rfl⟩ := h
    exact ⟨y, hy, c, hc, by rw [show thn ⟨[], 1⟩ y.p = y.p from tick_thn _]⟩
  · rintro ⟨y, hy, c, hc, rfl⟩
    refine ⟨_, ⟨c, hc, rfl⟩, ?_⟩
    unfold seq1
    rw [if_pos rfl, List.mem_map]
    exact ⟨y, hy, by rw [show thn ⟨[], 1⟩ y.p = y.p from tick_thn _]⟩
theorem seq_fin {s : Int} (h : s ≠ 1) (C : List Tr) (Y : List Pr) : pnorm (seq (pnorm (fin s C)) Y) = pnorm (fin s C) := by
  refine pnorm_congr fun z => ?_
  unfold seq
  simp only [List.mem_flatMap, pmem_norm, mem_fin]
  constructor
  · rintro ⟨x, ⟨c, hc, rfl⟩, h1⟩
    unfold seq1 at h1
    rw [if_neg h, List.mem_singleton] at h1
    exact ⟨c, hc, h1⟩
  · rintro ⟨c, hc, rfl⟩
    refine ⟨_, ⟨c, hc, rfl⟩, ?_⟩
    unfold seq1
    rw [if_neg h, List.mem_singleton]
theorem blk_fin1 {C : List Tr} (h : C ≠ []) : norm (blk (pnorm (fin 1 C))) = [⟨[], 1⟩] := norm_is (up_one _) fun t => by
  rw [mem_blk, List.mem_singleton]
  constructor
  · rintro rfl
    obtain ⟨c, hc⟩ := List.exists_mem_of_ne_nil C h
    refine ⟨⟨⟨[], 1⟩, c⟩, (pmem_norm _ _).2 (mem_fin.2 ⟨c, hc, rfl⟩), ?_⟩
    unfold blk1
    rw [if_pos rfl]
    simp
  · rintro ⟨x, hx, h1⟩
    obtain ⟨c, _, rfl⟩ := mem_fin.1 ((pmem_norm _ _).1 hx)
    unfold blk1 at h1
    rw [if_pos rfl, List.mem_singleton] at h1
    exact h1
theorem blk_fin2 {C : List Tr} (h : Up C) : norm (blk (pnorm (fin 2 C))) = C := norm_is h fun t => by
  rw [mem_blk]
  constructor
  · intro ht
    refine ⟨⟨⟨[], 2⟩, t⟩, (pmem_norm _ _).2 (mem_fin.2 ⟨t, ht, rfl⟩), ?_⟩
    unfold blk1
    rw [if_neg (by simp), if_pos rfl, List.mem_singleton]
    rfl
  · rintro ⟨x, hx, h1⟩
    obtain ⟨c, hc, rfl⟩ := mem_fin.1 ((pmem_norm _ _).1 hx)
    unfold blk1 at h1
    rw [if_neg (by simp), if_pos rfl, List.mem_singleton] at h1
    rw [h1]
    exact hc
theorem going_tick (B : List Tr) : going [⟨[], 1⟩] B = fin 1 B := by
  unfold going fin
  simp [going1]
theorem going_no {s : Int} (h : s ≠ 1) (B : List Tr) : going [⟨[], s⟩] B = fin s [tick] := by
  unfold going fin
  simp [going1, h]
theorem up_mt {t : Tm} (h : is t 3 = true) : Up (Mt (flat t)) := (gt (tre_flat t) (by rw [is_flat t 3 (by omega)]; exact h)).up
/-- How many Acts. -/
def ac (t : Tm) : Nat := ct (fun x => decide (x.k = 1) && all x.n) t
theorem acs_ac (t : Tm) : acs (flat t) = ac t := rfl
theorem plainA : Plain (fun x => decide (x.k = 1) && all x.n) := ⟨fun _ => rfl, fun _ => rfl, rfl, rfl, rfl, rfl, rfl⟩
theorem S_ac (t : Tm) : ac (S t) ≤ ac t := S_ct plainA t
theorem ac_two {t a b : Tm} {k : Int} (e : flat t = nOf k :: (flat a ++ flat b)) (hk : k ≠ 1) : ac t = ac a + ac b := by
  unfold ac
  rw [ct_two e]
  simp [nOf, hk]
theorem ac_block (a : Tm) : ac (.block a) = ac a := by unfold ac; rw [ct_block]; rfl
theorem ac_fin (s : Int) (c : Tm) : ac (.fin s c) = ac c := by unfold ac; rw [ct_fin]; rfl
theorem ne_mt {t : Tm} (h : is t 1 = true) (ha : ac t ≤ 19) : Mt (flat t) ≠ [] := (live1 (tre_flat t) ha (by rw [is_flat t 1 (by omega)]; exact h)).ne
/-- What is settled means what it meant. -/
theorem S_mean : ∀ t : Tm, ac t ≤ 19 → (is t 3 = true → Mt (flat (S t)) = Mt (flat t)) ∧ (is t 4 = true → Mp (flat (S t)) = Mp (flat t)) := by
  apply S_ind
  intro t ih ha
  cases t with
  | act s => exact ⟨fun _ => rfl, fun _ => rfl⟩
  | skip => exact ⟨fun _ => by rw [S_skip, mt_over, mt_skip]; rfl, fun h => by simp [is] at h⟩
  | throw => exact ⟨fun _ => by rw [S_throw, mt_over, mt_throw]; rfl, fun h => by simp [is] at h⟩
  | yield => exact ⟨fun _ => rfl, fun _ => rfl⟩
  | over s => exact ⟨fun _ => rfl, fun _ => rfl⟩
  | fin s c => exact ⟨fun _ => rfl, fun _ => rfl⟩
  | alt a b => exact ⟨fun _ => rfl, fun _ => rfl⟩
  | pair a b => exact ⟨fun _ => rfl, fun _ => rfl⟩
  | seq a b =>
    rw [ac_two (k := 5) (a := a) (b := b) rfl (by decide)] at ha
    have ia := ih a (by simp [sz]; omega) (by omega)
    have ib := ih b (by simp [sz]; omega) (by omega)
    have ks := S_is a
    rw [S_seq]
    generalize S a = x at ia ks ⊢
    constructor
    · intro h
      simp [is] at h
      have hb3 := (is13 b).1 h.2
      rw [mt_seq, ← ia.1 h.1]
      have k3 := ks.1 h.1
      cases x with
      | over s =>
        rw [mt_over]
        by_cases hs : s = 1
        · subst hs
          show Mt (flat (S b)) = _
          rw [ib.1 hb3]
          exact (unit_l (up_mt hb3)).symm
        · have e : sSeq S (.over s) b = .over s := by simp [sSeq, hs]
          rw [e, mt_over, seq_no hs (ne_mt h.2 (by omega))]
      | fin s c => simp [is] at k3
      | _ => exact mt_seq _ _
    · intro h
      simp [is] at h
      have hb4 := (is13 b).2 h.2
      rw [mp_seq, ← ia.2 h.1]
      have k4 := ks.2 h.1
      cases x with
      | over s => simp [is] at k4
      | fin s c =>
        rw [mp_fin]
        by_cases hs : s = 1
        · subst hs
          show Mp (flat (stk (S b) c)) = _
          rw [stk_mean, ib.2 hb4, seq_fin1]
        · have e : sSeq S (.fin s c) b = .fin s c := by simp [sSeq, hs]
          rw [e, mp_fin, seq_fin hs]
      | _ => exact mp_seq _ _
  | hand a b =>
    rw [ac_two (k := 8) (a := a) (b := b) rfl (by decide)] at ha
    have ia := ih a (by simp [sz]; omega) (by omega)
    have ib := ih b (by simp [sz]; omega) (by omega)
    have ks := S_is a
    rw [S_hand]
    generalize S a = x at ia ks ⊢
    constructor
    · intro h
      simp [is] at h
      have hb3 := (is13 b).1 h.2
      rw [mt_hand, ← ia.1 h.1]
      have k3 := ks.1 h.1
      cases x with
      | over s =>
        rw [mt_over]
        by_cases hs : s = 2
        · subst hs
          show Mt (flat (S b)) = _
          rw [ib.1 hb3]
          exact (unit_hand (up_mt hb3)).symm
        · have e : sHand S (.over s) b = .over s := by simp [sHand, hs]
          rw [e, mt_over, hand_no hs (ne_mt h.2 (by omega))]
      | _ => exact mt_hand _ _
    · intro h
      simp [is] at h
  | par a b =>
    rw [ac_two (k := 7) (a := a) (b := b) rfl (by decide)] at ha
    have ia := ih a (by simp [sz]; omega) (by omega)
    have ib := ih b (by simp [sz]; omega) (by omega)
    have ks := S_is a
    rw [S_par]
    generalize S a = x at ia ks ⊢
    generalize S b = y at ib ⊢
    constructor
    · intro h
      simp [is] at h
      have k3 := ks.1 h.1
      rw [mt_par, ← ia.1 h.1, ← ib.1 h.2]
      cases x with
      | over s =>
        cases y with
        | over t =>
          show Mt (flat (.over (Sg.both s t))) = _
          rw [mt_over, mt_over, mt_over, par_over']
        | _ => exact mt_par _ _
      | fin s c => simp [is] at k3
      | _ => exact mt_par _ _
    · intro h
      simp [is] at h
      have k4 := ks.2 h.1
      rw [mp_par, ← ia.2 h.1, ← ib.2 h.2]
      cases x with
      | fin s c =>
        cases y with
        | fin t d =>
          show Mp (flat (.fin (Sg.both s t) (.par c d))) = _
          rw [mp_fin, mp_fin, mp_fin, mt_par, par_fin']
        | _ => exact mp_par _ _
      | over s => simp [is] at k4
      | _ => exact mp_par _ _
  | block a =>
    rw [ac_block] at ha
    have ia := ih a (by simp [sz]) ha
    have ks := S_is a
    have hz := S_sz a
    have hc := S_ac a
    rw [S_block]
    generalize S a = x at ia ks hz hc ⊢
    constructor
    · intro h
      simp [is] at h
      rw [mt_block, ← ia.2 h]
      have k4 := ks.2 h
      cases x with
      | fin s c =>
        simp [is] at k4
        simp only [sz] at hz
        rw [ac_fin] at hc
        rw [mp_fin]
        by_cases h1 : s = 1
        · subst h1
          show Mt (flat (.over 1)) = _
          rw [mt_over, blk_fin1 (ne_mt k4 (by omega))]
        · by_cases h2 : s = 2
          · subst h2
            show Mt (flat (S c)) = _
            have k3 := (is13 c).1 k4
            rw [(ih c (by simp [sz]; omega) (by omega)).1 k3, blk_fin2 (up_mt k3)]
          · have e : sBlock S (.fin s c) = .block (.fin s c) := by simp [sBlock, h1, h2]
            rw [e, mt_block, mp_fin]
      | _ => exact mt_block _
    · intro h
      simp [is] at h
  | going a b =>
    rw [ac_two (k := 12) (a := a) (b := b) rfl (by decide)] at ha
    have ia := ih a (by simp [sz]; omega) (by omega)
    rw [S_going]
    generalize S a = x at ia ⊢
    constructor
    · intro h
      simp [is] at h
    · intro h
      simp [is] at h
      rw [mp_going, ← ia.1 h.1]
      cases x with
      | over s =>
        rw [mt_over]
        by_cases hs : s = 1
        · subst hs
          show Mp (flat (.fin 1 b)) = _
          rw [mp_fin, going_tick]
        · have e : sGoing (.over s) b = .fin s .skip := by simp [sGoing, hs]
          rw [e, mp_fin, mt_skip, going_no hs]
      | _ => exact mp_going _ _
  | stack a b =>
    rw [ac_two (k := 13) (a := a) (b := b) rfl (by decide)] at ha
    have ia := ih a (by simp [sz]; omega) (by omega)
    rw [S_stack, stk_mean]
    constructor
    · intro h
      simp [is] at h
    · intro h
      simp [is] at h
      rw [mp_stack, ia.2 h.1]
end Go.Proofs.YtgaediondmdnbaaGreat.Se

namespace Go.Proofs.YtgaediondmdnbaaGreat.Mn
open Go Go.RowKit Tr
set_option maxRecDepth 20000

/-- The cells of a row, element by element, sz cells each. -/
def Cl {α : Type} (E : α → List Value → Prop) (sz : Nat) : List α → List Value → Prop
  | [], cs => cs = []
  | x :: l, cs => E x (cs.take sz) ∧ Cl E sz l (cs.drop sz)
theorem Cl.len {α : Type} {E : α → List Value → Prop} {sz : Nat} (hE : ∀ x cs, E x cs → cs.length = sz) : ∀ {l : List α} {cs : List Value}, Cl E sz l cs → cs.length = l.length * sz
  | [], cs, h => by rw [show cs = [] from h]; simp
  | x :: l, cs, h => by
    have h1 := hE _ _ h.1
    have h2 := Cl.len hE h.2
    rw [List.length_take] at h1
    rw [List.length_drop] at h2
    rw [List.length_cons, Nat.add_mul, Nat.one_mul]
    omega
theorem Cl.imp {α : Type} {E E' : α → List Value → Prop} {sz : Nat} (hE : ∀ x cs, E x cs → E' x cs) : ∀ {l : List α} {cs : List Value}, Cl E sz l cs → Cl E' sz l cs
  | [], _, h => h
  | _ :: _, _, h => ⟨hE _ _ h.1, Cl.imp hE h.2⟩
theorem Cl.append {α : Type} {E : α → List Value → Prop} {sz : Nat} (hE : ∀ x cs, E x cs → cs.length = sz) {m : List α} {ds : List Value} (hd : Cl E sz m ds) : ∀ {l : List α} {cs : List Value}, Cl E sz l cs → Cl E sz (l ++ m) (cs ++ ds)
  | [], cs, h => by rw [show cs = [] from h]; exact hd
  | x :: l, cs, h => by
    have h1 := hE _ _ h.1
    rw [List.length_take] at h1
    refine ⟨?_, ?_⟩
    · rw [List.take_append_of_le_length (by omega)]; exact h.1
    · rw [List.drop_append_of_le_length (by omega)]; exact Cl.append hE hd h.2
theorem Cl.one {α : Type} {E : α → List Value → Prop} {sz : Nat} {x : α} {cs : List Value} (h : E x cs) (hl : cs.length = sz) : Cl E sz [x] cs :=
  ⟨by rw [List.take_of_length_le (by omega)]; exact h, List.drop_eq_nil_of_le (by omega)⟩
theorem Cl.at {α : Type} {E : α → List Value → Prop} {sz : Nat} : ∀ {l : List α} {cs : List Value}, Cl E sz l cs → ∀ k (hk : k < l.length), E l[k] ((cs.drop (k * sz)).take sz)
  | [], _, _, k, hk => by simp at hk
  | x :: l, cs, h, 0, _ => by simpa using h.1
  | x :: l, cs, h, k + 1, hk => by
    have := Cl.at h.2 k (by simpa using hk)
    rw [List.drop_drop] at this
    rw [show (k + 1) * sz = sz + k * sz by rw [Nat.add_mul]; omega]
    exact this
theorem Cl.take {α : Type} {E : α → List Value → Prop} {sz : Nat} (hE : ∀ x cs, E x cs → cs.length = sz) : ∀ {l : List α} {cs : List Value}, Cl E sz l cs → ∀ k, Cl E sz (l.take k) (cs.take (k * sz))
  | [], cs, h, k => by rw [show cs = [] from h]; simp [Cl]
  | x :: l, cs, h, 0 => by simp [Cl]
  | x :: l, cs, h, k + 1 => by
    have h1 := hE _ _ h.1
    rw [List.length_take] at h1
    have e : (k + 1) * sz = k * sz + sz := by rw [Nat.add_mul]; omega
    refine ⟨?_, ?_⟩
    · rw [List.take_take, Nat.min_eq_left (by omega)]; exact h.1
    · rw [List.drop_take, show (k + 1) * sz - sz = k * sz by omega]; exact Cl.take hE h.2 k
theorem Cl.drop {α : Type} {E : α → List Value → Prop} {sz : Nat} : ∀ {l : List α} {cs : List Value}, Cl E sz l cs → ∀ k, Cl E sz (l.drop k) (cs.drop (k * sz))
  | [], cs, h, k => by rw [show cs = [] from h]; simp [Cl]
  | x :: l, cs, h, 0 => by simpa using h
  | x :: l, cs, h, k + 1 => by
    have := Cl.drop h.2 k
    rw [List.drop_drop] at this
    rw [show (k + 1) * sz = sz + k * sz by rw [Nat.add_mul]; omega]
    exact this
theorem Cl.cells {α : Type} {E : α → List Value → Prop} {sz : Nat} (P : Value → Prop) (hE : ∀ x cs, E x cs → ∀ u ∈ cs, P u) : ∀ {l : List α} {cs : List Value}, Cl E sz l cs → ∀ u ∈ cs, P u
  | [], cs, h, u, hu => by rw [show cs = [] from h] at hu; cases hu
  | x :: l, cs, h, u, hu => by
    rw [← List.take_append_drop sz cs] at hu
    rcases List.mem_append.1 hu with hu | hu
    · exact hE _ _ h.1 u hu
    · exact Cl.cells P hE h.2 u hu

/-- The cells of one trace, of one pair. -/
def ET (ok : Nat → Prop) (w : World) (t : Tr) (cs : List Value) : Prop := ∃ a, cs = [a, .int .i64 t.e] ∧ StrsO ok w a t.a
def EP (ok : Nat → Prop) (w : World) (x : Pr) (cs : List Value) : Prop := ∃ a b, cs = [a, .int .i64 x.p.e, b, .int .i64 x.q.e] ∧ StrsO ok w a x.p.a ∧ StrsO ok w b x.q.a
theorem ET.len {ok : Nat → Prop} {w : World} (t : Tr) (cs : List Value) (h : ET ok w t cs) : cs.length = 2 := by
  obtain ⟨a, rfl, _⟩ := h
  rfl
theorem EP.len {ok : Nat → Prop} {w : World} (t : Pr) (cs : List Value) (h : EP ok w t cs) : cs.length = 4 := by
  obtain ⟨a, b, rfl, _⟩ := h
  rfl
theorem strsO_one {ok : Nat → Prop} {w : World} {a : Value} {l : List ByteArray} (h : StrsO ok w a l) : a.oneCell' = true := by
  obtain ⟨_, x, c, rfl, _⟩ := h
  rfl
theorem ET.one {ok : Nat → Prop} {w : World} (t : Tr) (cs : List Value) (h : ET ok w t cs) : ∀ u ∈ cs, u.oneCell' = true := by
  obtain ⟨a, rfl, h⟩ := h
  intro u hu
  simp only [List.mem_cons, List.mem_nil_iff, or_false] at hu
  rcases hu with rfl | rfl
  · exact strsO_one h
  · rfl
theorem EP.one {ok : Nat → Prop} {w : World} (t : Pr) (cs : List Value) (h : EP ok w t cs) : ∀ u ∈ cs, u.oneCell' = true := by
  obtain ⟨a, b, rfl, h, h'⟩ := h
  intro u hu
  simp only [List.mem_cons, List.mem_nil_iff, or_false] at hu
  rcases hu with rfl | rfl | rfl | rfl
  · exact strsO_one h
  · rfl
  · exact strsO_one h'
  · rfl
theorem ET.map {ok ok' : Nat → Prop} {w w' : World} (h : ∀ v l, StrsO ok w v l → StrsO ok' w' v l) (t : Tr) (cs : List Value) (hx : ET ok w t cs) : ET ok' w' t cs := by
  obtain ⟨a, rfl, hx⟩ := hx
  exact ⟨a, rfl, h _ _ hx⟩
theorem EP.map {ok ok' : Nat → Prop} {w w' : World} (h : ∀ v l, StrsO ok w v l → StrsO ok' w' v l) (t : Pr) (cs : List Value) (hx : EP ok w t cs) : EP ok' w' t cs := by
  obtain ⟨a, b, rfl, hx, hy⟩ := hx
  exact ⟨a, b, rfl, h _ _ hx, h _ _ hy⟩

/-- Rows of traces, of pairs, all in blocks that are as ok says. -/
def TsO (ok : Nat → Prop) (w : World) (v : Value) (l : List Tr) : Prop := ∃ cs, Ap.RdO ok w 2 v l.length cs ∧ Cl (ET ok w) 2 l cs
def PsO (ok : Nat → Prop) (w : World) (v : Value) (l : List Pr) : Prop := ∃ cs, Ap.RdO ok w 4 v l.length cs ∧ Cl (EP ok w) 4 l cs
abbrev any : Nat → Prop := fun _ => True
theorem TsO.imp {ok ok' : Nat → Prop} {w : World} {v : Value} {l : List Tr} (h : TsO ok w v l) (hi : ∀ b, b < w.heap.size → ok b → ok' b) : TsO ok' w v l := by
  obtain ⟨cs, h1, h2⟩ := h
  exact ⟨cs, h1.imp hi, h2.imp (ET.map fun _ _ h => Ap.RdO.imp h hi)⟩
theorem PsO.imp {ok ok' : Nat → Prop} {w : World} {v : Value} {l : List Pr} (h : PsO ok w v l) (hi : ∀ b, b < w.heap.size → ok b → ok' b) : PsO ok' w v l := by
  obtain ⟨cs, h1, h2⟩ := h
  exact ⟨cs, h1.imp hi, h2.imp (EP.map fun _ _ h => Ap.RdO.imp h hi)⟩
theorem TsO.below {ok : Nat → Prop} {w w' : World} {v : Value} {l : List Tr} (h : TsO ok w v l) (hb : Below w.heap.size w w') : TsO ok w' v l := by
  obtain ⟨cs, h1, h2⟩ := h
  exact ⟨cs, h1.below hb, h2.imp (ET.map fun _ _ h => Ap.RdO.below h hb)⟩
theorem PsO.below {ok : Nat → Prop} {w w' : World} {v : Value} {l : List Pr} (h : PsO ok w v l) (hb : Below w.heap.size w w') : PsO ok w' v l := by
  obtain ⟨cs, h1, h2⟩ := h
  exact ⟨cs, h1.below hb, h2.imp (EP.map fun _ _ h => Ap.RdO.below h hb)⟩
theorem so_below {ok : Nat → Prop} {w w' : World} {v : Value} {l : List ByteArray} (h : StrsO ok w v l) (hb : Below w.heap.size w w') : StrsO ok w' v l := Ap.RdO.below h hb
theorem so_strs {ok : Nat → Prop} {w : World} {v : Value} {l : List ByteArray} (h : StrsO ok w v l) : Strs w v l := Ap.RdO.rd h
theorem so_of {w : World} {v : Value} {l : List ByteArray} (h : Strs w v l) : StrsO any w v l := Ap.RdO.of (by omega) h
theorem cells_cl {w : World} : ∀ {cs : List Value} {l : List Tr}, TrCells w cs l → Cl (ET any w) 2 l cs
  | [], [], _ => rfl
  | a :: e :: cs, t :: l, h => ⟨⟨a, by simp [h.2.1], so_of h.1⟩, by simpa using cells_cl h.2.2⟩
  | [], _ :: _, h => h.elim
  | [_], [], h => h.elim
  | [_], _ :: _, h => h.elim
  | _ :: _ :: _, [], h => h.elim
theorem cl_cells {ok : Nat → Prop} {w : World} : ∀ {l : List Tr} {cs : List Value}, Cl (ET ok w) 2 l cs → TrCells w cs l
  | [], cs, h => by rw [show cs = [] from h]; trivial
  | t :: l, cs, h => by
    obtain ⟨⟨a, h1, h2⟩, h3⟩ := h
    match cs, h1, h3 with
    | x :: y :: cs, h1, h3 =>
      simp only [List.take_succ_cons, List.take_zero, List.cons.injEq, and_true] at h1
      obtain ⟨rfl, rfl⟩ := h1
      exact ⟨so_strs h2, rfl, cl_cells h3⟩
    | [x], h1, _ => simp at h1
    | [], h1, _ => simp at h1
theorem TsO.of {w : World} {v : Value} {l : List Tr} (h : Trs w v l) : TsO any w v l := by
  obtain ⟨cs, h1, h2⟩ := h
  exact ⟨cs, Ap.RdO.of (by omega) h1, cells_cl h2⟩
theorem TsO.trs {ok : Nat → Prop} {w : World} {v : Value} {l : List Tr} (h : TsO ok w v l) : Trs w v l := by
  obtain ⟨cs, h1, h2⟩ := h
  exact ⟨cs, h1.rd, cl_cells h2⟩
theorem take2 {cs : List Value} {k : Nat} {a b : Value} (h : (cs.drop (k * 2)).take 2 = [a, b]) : cs[2 * k]? = some a ∧ cs[2 * k + 1]? = some b := by
  have h0 : ((cs.drop (k * 2)).take 2)[0]? = some a := by rw [h]; rfl
  have h1 : ((cs.drop (k * 2)).take 2)[1]? = some b := by rw [h]; rfl
  rw [List.getElem?_take_of_lt (by omega), List.getElem?_drop] at h0 h1
  rw [Nat.mul_comm] at h0 h1
  exact ⟨by simpa using h0, h1⟩
theorem take4 {cs : List Value} {k : Nat} {a b c d : Value} (h : (cs.drop (k * 4)).take 4 = [a, b, c, d]) : cs[k * 4]? = some a ∧ cs[k * 4 + 1]? = some b ∧ cs[k * 4 + 2]? = some c ∧ cs[k * 4 + 3]? = some d := by
  have h0 : ((cs.drop (k * 4)).take 4)[0]? = some a := by rw [h]; rfl
  have h1 : ((cs.drop (k * 4)).take 4)[1]? = some b := by rw [h]; rfl
  have h2 : ((cs.drop (k * 4)).take 4)[2]? = some c := by rw [h]; rfl
  have h3 : ((cs.drop (k * 4)).take 4)[3]? = some d := by rw [h]; rfl
  rw [List.getElem?_take_of_lt (by omega), List.getElem?_drop] at h0 h1 h2 h3
  exact ⟨by simpa using h0, h1, h2, h3⟩
/-- A trace of a row: its two cells. -/
theorem TsO.val {ok : Nat → Prop} {w : World} {v : Value} {l : List Tr} (h : TsO ok w v l) : ∃ a cap, v = .slice a l.length cap ∧ l.length ≤ cap ∧
    ∀ k, (hk : k < l.length) → ∃ b off x, a = some ⟨b, off, none⟩ ∧ ok b ∧ w.cell? ⟨b, off + k * 2, none⟩ = some x ∧ w.cell? ⟨b, off + k * 2 + 1, none⟩ = some (.int .i64 l[k].e) ∧ StrsO ok w x l[k].a := by
  obtain ⟨cs, ⟨_, a, cap, rfl, hcap, _, hcell⟩, hc⟩ := h
  refine ⟨a, cap, rfl, hcap, fun k hk => ?_⟩
  obtain ⟨b, off, rfl, ho, _, hj⟩ := hcell (by omega)
  obtain ⟨x, h1, h2⟩ := hc.at k hk
  obtain ⟨e1, e2⟩ := take2 h1
  rw [Nat.mul_comm] at e1 e2
  exact ⟨b, off, x, rfl, ho, hj _ _ e1, by rw [Nat.add_assoc]; exact hj _ _ e2, h2⟩
theorem PsO.val {ok : Nat → Prop} {w : World} {v : Value} {l : List Pr} (h : PsO ok w v l) : ∃ a cap, v = .slice a l.length cap ∧ l.length ≤ cap ∧
    ∀ k, (hk : k < l.length) → ∃ b off x y, a = some ⟨b, off, none⟩ ∧ ok b ∧ w.cell? ⟨b, off + k * 4, none⟩ = some x ∧ w.cell? ⟨b, off + k * 4 + 1, none⟩ = some (.int .i64 l[k].p.e) ∧ w.cell? ⟨b, off + k * 4 + 2, none⟩ = some y ∧ w.cell? ⟨b, off + k * 4 + 3, none⟩ = some (.int .i64 l[k].q.e) ∧ StrsO ok w x l[k].p.a ∧ StrsO ok w y l[k].q.a := by
  obtain ⟨cs, ⟨_, a, cap, rfl, hcap, _, hcell⟩, hc⟩ := h
  refine ⟨a, cap, rfl, hcap, fun k hk => ?_⟩
  obtain ⟨b, off, rfl, ho, _, hj⟩ := hcell (by omega)
  obtain ⟨x, y, h1, h2, h3⟩ := hc.at k hk
  obtain ⟨e1, e2, e3, e4⟩ := take4 h1
  exact ⟨b, off, x, y, rfl, ho, hj _ _ e1, by rw [Nat.add_assoc]; exact hj _ _ e2, by rw [Nat.add_assoc]; exact hj _ _ e3, by rw [Nat.add_assoc]; exact hj _ _ e4, h2, h3⟩

/-- A call that tells a row: all of it in blocks that were there, as ok says, or in new ones. -/
def OutT (ok : Nat → Prop) (l : List Tr) (w : World) (e : Ending) (w' : World) : Prop := ∃ a c, e = .returned (.slice a l.length c) ∧ TsO (fun b => ok b ∨ w.heap.size ≤ b) w' (.slice a l.length c) l ∧ Below w.heap.size w w'
def OutP (ok : Nat → Prop) (l : List Pr) (w : World) (e : Ending) (w' : World) : Prop := ∃ a c, e = .returned (.slice a l.length c) ∧ PsO (fun b => ok b ∨ w.heap.size ≤ b) w' (.slice a l.length c) l ∧ Below w.heap.size w w'
theorem OutT.up {ok ok' : Nat → Prop} {l : List Tr} {w w1 w2 : World} {e : Ending} (h : OutT ok' l w1 e w2) (hb : Below w.heap.size w w1) (hi : ∀ b, ok' b → ok b ∨ w.heap.size ≤ b) : OutT ok l w e w2 := by
  obtain ⟨a, c, rfl, ht, hb'⟩ := h
  have := hb.size
  exact ⟨a, c, rfl, ht.imp fun b _ h => h.elim (hi b) fun h => .inr (by omega), hb.trans (hb'.mono hb.size)⟩
theorem OutP.up {ok ok' : Nat → Prop} {l : List Pr} {w w1 w2 : World} {e : Ending} (h : OutP ok' l w1 e w2) (hb : Below w.heap.size w w1) (hi : ∀ b, ok' b → ok b ∨ w.heap.size ≤ b) : OutP ok l w e w2 := by
  obtain ⟨a, c, rfl, ht, hb'⟩ := h
  have := hb.size
  exact ⟨a, c, rfl, ht.imp fun b _ h => h.elim (hi b) fun h => .inr (by omega), hb.trans (hb'.mono hb.size)⟩
end Go.Proofs.YtgaediondmdnbaaGreat.Mn
