/- Plain: which places wait, what will end by a throw, what is beside a place. -/
import Derived.Test.YtekblibhaipioaaGreatQ18

namespace Go.Proofs.YtekblibhaipioaaGreat.Do
open Go Rw So Se Tr Mn
def wt : Tm → Nat → List Nat
  | .act _, i => [i]
  | .yield, i => [i]
  | .alt _ _, i => [i]
  | .pair _ _, i => [i]
  | .seq a _, i => wt a (i + 1)
  | .hand a _, i => wt a (i + 1)
  | .going a _, i => wt a (i + 1)
  | .stack a _, i => wt a (i + 1)
  | .block a, i => wt a (i + 1)
  | .par a b, i => wt a (i + 1) ++ wt b (i + 1 + sz a)
  | _, _ => []
def bangT : Tm → Bool
  | .over s => s == 2
  | .fin s _ => s == 2
  | .seq a _ => bangT a
  | .going a _ => bangT a
  | .stack a _ => bangT a
  | .par a b => bangT a || bangT b
  | _ => false
theorem wt_in : ∀ (t : Tm) (i : Nat), ∀ k ∈ wt t i, i ≤ k ∧ k < i + sz t := by
  intro t
  induction t with
  | par a b ia ib =>
    intro i k hk
    simp only [wt, List.mem_append] at hk
    simp only [sz]
    rcases hk with hk | hk
    · have := ia _ _ hk; omega
    · have := ib _ _ hk; omega
  | seq a b ia ib => intro i k hk; have := ia _ _ (by simpa [wt] using hk); simp only [sz]; omega
  | hand a b ia ib => intro i k hk; have := ia _ _ (by simpa [wt] using hk); simp only [sz]; omega
  | going a b ia ib => intro i k hk; have := ia _ _ (by simpa [wt] using hk); simp only [sz]; omega
  | stack a b ia ib => intro i k hk; have := ia _ _ (by simpa [wt] using hk); simp only [sz]; omega
  | block a ia => intro i k hk; have := ia _ _ (by simpa [wt] using hk); simp only [sz]; omega
  | skip => intro i k hk; simp [wt] at hk
  | throw => intro i k hk; simp [wt] at hk
  | over s => intro i k hk; simp [wt] at hk
  | fin s c => intro i k hk; simp [wt] at hk
  | _ => intro i k hk; simp only [wt, List.mem_singleton] at hk; simp only [sz]; omega
theorem both_bang {a b : Int} (ha : Sgn a) (hb : Sgn b) (h : a = 2 ∨ b = 2) : Sg.both a b = 2 := by
  rcases ha with rfl | rfl | rfl <;> rcases hb with rfl | rfl | rfl <;> first | rfl | (exfalso; omega)
theorem st_mt {t : Tm} (h : is t 3 = true) (hr : rg t = true) : ST (Mt (flat t)) := (gt (tre_flat t) (by rw [is_flat t 3 (by omega)]; exact h)).sg hr
theorem sp_mp {t : Tm} (h : is t 4 = true) (hr : rg t = true) : SP (Mp (flat t)) := (gp (tre_flat t) (by rw [is_flat t 4 (by omega)]; exact h)).sg hr
theorem bang_means : ∀ t : Tm, rg t = true → bangT t = true → (is t 3 = true → ∀ x ∈ Mt (flat t), x.e = 2) ∧ (is t 4 = true → ∀ x ∈ Mp (flat t), x.p.e = 2) := by
  intro t
  induction t with
  | over s =>
    intro _ hb
    refine ⟨fun _ x hx => ?_, fun h => by simp [is] at h⟩
    rw [mt_over, List.mem_singleton] at hx
    rw [hx]
    simpa [bangT] using hb
  | fin s c _ =>
    intro _ hb
    refine ⟨fun h => by simp [is] at h, fun _ x hx => ?_⟩
    rw [mp_fin, pmem_norm] at hx
    obtain ⟨q, _, rfl⟩ := Se.mem_fin.1 hx
    simpa [bangT] using hb
  | seq a b ia _ =>
    intro hr hb
    rw [rg_seq, Bool.and_eq_true] at hr
    obtain ⟨i1, i2⟩ := ia hr.1 (by simpa [bangT] using hb)
    constructor
    · intro h x hx
      simp [is] at h
      rw [mt_seq, mem_norm] at hx
      obtain ⟨p, hp, q, _, rfl⟩ := mem5.1 hx
      have := i1 h.1 p hp
      unfold thn
      rw [if_neg (by omega)]
      exact this
    · intro h x hx
      simp [is] at h
      rw [mp_seq, pmem_norm] at hx
      unfold Mn.seq at hx
      obtain ⟨p, hp, hx⟩ := List.mem_flatMap.1 hx
      have := i2 h.1 p hp
      unfold seq1 at hx
      rw [if_neg (by omega), List.mem_singleton] at hx
      rw [hx]
      exact this
  | going a b ia _ =>
    intro hr hb
    rw [rg_going, Bool.and_eq_true] at hr
    obtain ⟨i1, _⟩ := ia hr.1 (by simpa [bangT] using hb)
    refine ⟨fun h => by simp [is] at h, fun h x hx => ?_⟩
    simp [is] at h
    rw [mp_going, pmem_norm] at hx
    unfold Mn.going at hx
    obtain ⟨p, hp, hx⟩ := List.mem_flatMap.1 hx
    have := i1 h.1 p hp
    unfold going1 at hx
    rw [if_neg (by omega), List.mem_singleton] at hx
    rw [hx]
    exact this
  | stack a b ia _ =>
    intro hr hb
    rw [rg_stack, Bool.and_eq_true] at hr
    obtain ⟨_, i2⟩ := ia hr.1 (by simpa [bangT] using hb)
    refine ⟨fun h => by simp [is] at h, fun h x hx => ?_⟩
    simp [is] at h
    rw [mp_stack, pmem_norm] at hx
    obtain ⟨p, hp, c, _, rfl⟩ := mem_stk.1 hx
    exact i2 h.1 p hp
  | par a b ia ib =>
    intro hr hb
    rw [rg_par, Bool.and_eq_true] at hr
    have hb' : bangT a = true ∨ bangT b = true := by simpa [bangT] using hb
    constructor
    · intro h x hx
      simp [is] at h
      rw [mt_par, mem_norm] at hx
      obtain ⟨p, hp, q, hq, hx⟩ := mem7.1 hx
      rw [(mem_pr hx).2]
      exact both_bang (st_mt h.1 hr.1 p hp) (st_mt h.2 hr.2 q hq) (hb'.imp (fun k => (ia hr.1 k).1 h.1 p hp) fun k => (ib hr.2 k).1 h.2 q hq)
    · intro h x hx
      simp [is] at h
      rw [mp_par, pmem_norm] at hx
      unfold Mn.par at hx
      simp only [List.mem_flatMap, mem_par1] at hx
      obtain ⟨p, hp, q, hq, hx, _⟩ := hx
      rw [(mem_pr hx).2]
      exact both_bang (sp_mp h.1 hr.1 p hp).1 (sp_mp h.2 hr.2 q hq).1 (hb'.imp (fun k => (ia hr.1 k).2 h.1 p hp) fun k => (ib hr.2 k).2 h.2 q hq)
  | _ => intro _ hb; simp [bangT] at hb
end Go.Proofs.YtekblibhaipioaaGreat.Do
