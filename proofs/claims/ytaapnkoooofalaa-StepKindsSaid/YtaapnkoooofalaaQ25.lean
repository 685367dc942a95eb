/- Plain: another tree in the place of one that waits. Plain: the moves of a row; rows of moves in memory. The document's bang, Doomed: the walks. Plain: moves of two side by side; a refused action. The program's waits, second, kids: the walks. The document's waits, Active: the walks. The document's Path: the walk. -/
import Derived.Test.YtaapnkoooofalaaQ23
import Derived.Test.YtaapnkoooofalaaQ11
import Derived.Test.YtaapnkoooofalaaQ05
import Derived.Deep.QuietTactic
import Derived.Test.YtaapnkoooofalaaQ24
import Derived.Test.YtaapnkoooofalaaQ06

namespace Go.Proofs.Ytaapnkoooofalaa.Sp
open Go Rw So Se Tr Mn Do
def sub : Tm → Nat → Nat → Tm
  | .seq a _, i, p => sub a (i + 1) p
  | .hand a _, i, p => sub a (i + 1) p
  | .going a _, i, p => sub a (i + 1) p
  | .stack a _, i, p => sub a (i + 1) p
  | .block a, i, p => sub a (i + 1) p
  | .par a b, i, p => if p < i + 1 + sz a then sub a (i + 1) p else sub b (i + 1 + sz a) p
  | t, _, _ => t
def plug : Tm → Nat → Nat → Tm → Tm
  | .seq a b, i, p, u => if i = p then u else .seq (plug a (i + 1) p u) b
  | .hand a b, i, p, u => if i = p then u else .hand (plug a (i + 1) p u) b
  | .going a b, i, p, u => if i = p then u else .going (plug a (i + 1) p u) b
  | .stack a b, i, p, u => if i = p then u else .stack (plug a (i + 1) p u) b
  | .block a, i, p, u => if i = p then u else .block (plug a (i + 1) p u)
  | .par a b, i, p, u => if i = p then u else if p < i + 1 + sz a then .par (plug a (i + 1) p u) b else .par a (plug b (i + 1 + sz a) p u)
  | _, _, _, u => u
def leafB : Tm → Bool
  | .act _ => true
  | .alt _ _ => true
  | .yield => true
  | .pair _ _ => true
  | _ => false
theorem plug_at (t : Tm) (i : Nat) (u : Tm) : plug t i i u = u := by cases t <;> simp [plug]
theorem wt_ind {P : Tm → Nat → Nat → Prop} (leaf : ∀ t i, leafB t = true → P t i i)
    (seq : ∀ a b i p, p ∈ wt a (i + 1) → P a (i + 1) p → P (.seq a b) i p) (hand : ∀ a b i p, p ∈ wt a (i + 1) → P a (i + 1) p → P (.hand a b) i p)
    (going : ∀ a b i p, p ∈ wt a (i + 1) → P a (i + 1) p → P (.going a b) i p) (stack : ∀ a b i p, p ∈ wt a (i + 1) → P a (i + 1) p → P (.stack a b) i p)
    (block : ∀ a i p, p ∈ wt a (i + 1) → P a (i + 1) p → P (.block a) i p)
    (parl : ∀ a b i p, p ∈ wt a (i + 1) → P a (i + 1) p → P (.par a b) i p) (parr : ∀ a b i p, p ∈ wt b (i + 1 + sz a) → P b (i + 1 + sz a) p → P (.par a b) i p) :
    ∀ (t : Tm) (i p : Nat), p ∈ wt t i → P t i p := by
  intro t
  induction t with
  | act s => intro i p h; simp only [wt, List.mem_singleton] at h; subst h; exact leaf _ _ rfl
  | alt a b => intro i p h; simp only [wt, List.mem_singleton] at h; subst h; exact leaf _ _ rfl
  | yield => intro i p h; simp only [wt, List.mem_singleton] at h; subst h; exact leaf _ _ rfl
  | pair a b => intro i p h; simp only [wt, List.mem_singleton] at h; subst h; exact leaf _ _ rfl
  | seq a b ia ib => intro i p h; exact seq a b i p h (ia _ _ h)
  | hand a b ia ib => intro i p h; exact hand a b i p h (ia _ _ h)
  | going a b ia ib => intro i p h; exact going a b i p h (ia _ _ h)
  | stack a b ia ib => intro i p h; exact stack a b i p h (ia _ _ h)
  | block a ia => intro i p h; exact block a i p h (ia _ _ h)
  | par a b ia ib =>
    intro i p h
    rcases List.mem_append.1 h with h | h
    · exact parl a b i p h (ia _ _ h)
    · exact parr a b i p h (ib _ _ h)
  | _ => intro i p h; exact absurd h (by simp [wt])
theorem plug_sub : ∀ (t : Tm) (i p : Nat), p ∈ wt t i → plug t i p (sub t i p) = t := by
  refine wt_ind (P := fun t i p => plug t i p (sub t i p) = t) ?_ ?_ ?_ ?_ ?_ ?_ ?_ ?_
  · intro t i h; rw [plug_at]; cases t <;> first | rfl | cases h
  · intro a b i p hp h; have := wt_in a _ p hp; simp only [sub, plug]; rw [if_neg (by omega), h]
  · intro a b i p hp h; have := wt_in a _ p hp; simp only [sub, plug]; rw [if_neg (by omega), h]
  · intro a b i p hp h; have := wt_in a _ p hp; simp only [sub, plug]; rw [if_neg (by omega), h]
  · intro a b i p hp h; have := wt_in a _ p hp; simp only [sub, plug]; rw [if_neg (by omega), h]
  · intro a i p hp h; have := wt_in a _ p hp; simp only [sub, plug]; rw [if_neg (by omega), h]
  · intro a b i p hp h; have := wt_in a _ p hp; simp only [sub, plug]; rw [if_neg (by omega), if_pos this.2, if_pos this.2, h]
  · intro a b i p hp h; have := wt_in b _ p hp; simp only [sub, plug]; rw [if_neg (by omega), if_neg (by omega), if_neg (by omega), h]
theorem plug_row : ∀ (t : Tm) (i p : Nat), p ∈ wt t i → ∃ pre post, p = i + pre.length ∧ ∀ u, flat (plug t i p u) = pre ++ (flat u ++ post) := by
  have down : ∀ {a : Tm} {i j p : Nat} (f : Tm → Tm) (n x : List Nd), j = i + n.length → (∀ c, flat (f c) = n ++ (flat c ++ x)) → (∃ pre post, p = j + pre.length ∧ ∀ u, flat (plug a j p u) = pre ++ (flat u ++ post)) →
      ∀ (q : Tm → Tm), (∀ u, q u = f (plug a j p u)) → ∃ pre post, p = i + pre.length ∧ ∀ u, flat (q u) = pre ++ (flat u ++ post) := by
    rintro a i j p f n x hj hf ⟨pre, post, h1, h2⟩ q hq
    refine ⟨n ++ pre, post ++ x, by rw [List.length_append]; omega, fun u => ?_⟩
    rw [hq, hf, h2]
    simp
  refine wt_ind (P := fun t i p => ∃ pre post, p = i + pre.length ∧ ∀ u, flat (plug t i p u) = pre ++ (flat u ++ post)) ?_ ?_ ?_ ?_ ?_ ?_ ?_ ?_
  · intro t i h; exact ⟨[], [], rfl, fun u => by rw [plug_at]; simp⟩
  · intro a b i p hp h; have hin := wt_in a _ p hp; exact down (j := i + 1) (.seq · b) [nOf 5] (flat b) rfl (fun _ => rfl) h _ fun u => by rw [plug, if_neg (by omega)]
  · intro a b i p hp h; have hin := wt_in a _ p hp; exact down (j := i + 1) (.hand · b) [nOf 8] (flat b) rfl (fun _ => rfl) h _ fun u => by rw [plug, if_neg (by omega)]
  · intro a b i p hp h; have hin := wt_in a _ p hp; exact down (j := i + 1) (.going · b) [nOf 12] (flat b) rfl (fun _ => rfl) h _ fun u => by rw [plug, if_neg (by omega)]
  · intro a b i p hp h; have hin := wt_in a _ p hp; exact down (j := i + 1) (.stack · b) [nOf 13] (flat b) rfl (fun _ => rfl) h _ fun u => by rw [plug, if_neg (by omega)]
  · intro a i p hp h; have hin := wt_in a _ p hp; exact down (j := i + 1) .block [nOf 9] [] rfl (fun _ => by simp [flat]) h _ fun u => by rw [plug, if_neg (by omega)]
  · intro a b i p hp h; have hin := wt_in a _ p hp; exact down (j := i + 1) (.par · b) [nOf 7] (flat b) rfl (fun _ => rfl) h _ fun u => by rw [plug, if_neg (by omega), if_pos hin.2]
  · intro a b i p hp h; have hin := wt_in b _ p hp; exact down (j := i + 1 + sz a) (.par a ·) (nOf 7 :: flat a) [] (by rw [List.length_cons, Se.flat_len]; omega) (fun _ => by simp [flat]) h _ fun u => by rw [plug, if_neg (by omega), if_neg (by omega)]
theorem leaf_ends {u : Tm} (h : leafB u = true) : isOver u = false ∧ isFin u = false ∧ isGone u = false ∧ Nf u := by cases u <;> first | exact ⟨rfl, rfl, rfl, trivial⟩ | cases h
theorem plug_ends : ∀ (t : Tm) (i p : Nat), p ∈ wt t i → ∀ u, leafB u = true → isOver (plug t i p u) = false ∧ isFin (plug t i p u) = false ∧ isGone (plug t i p u) = false := by
  refine wt_ind (P := fun t i p => ∀ u, leafB u = true → isOver (plug t i p u) = false ∧ isFin (plug t i p u) = false ∧ isGone (plug t i p u) = false) ?_ ?_ ?_ ?_ ?_ ?_ ?_ ?_
  · intro t i _ u h; rw [plug_at]; have := leaf_ends h; exact ⟨this.1, this.2.1, this.2.2.1⟩
  · intro a b i p hp h u _; have hin := wt_in a _ p hp; rw [plug, if_neg (by omega)]; exact ⟨rfl, rfl, rfl⟩
  · intro a b i p hp h u _; have hin := wt_in a _ p hp; rw [plug, if_neg (by omega)]; exact ⟨rfl, rfl, rfl⟩
  · intro a b i p hp h u _; have hin := wt_in a _ p hp; rw [plug, if_neg (by omega)]; exact ⟨rfl, rfl, rfl⟩
  · intro a b i p hp h u _; have hin := wt_in a _ p hp; rw [plug, if_neg (by omega)]; exact ⟨rfl, rfl, rfl⟩
  · intro a i p hp h u _; have hin := wt_in a _ p hp; rw [plug, if_neg (by omega)]; exact ⟨rfl, rfl, rfl⟩
  · intro a b i p hp h u _; have hin := wt_in a _ p hp; rw [plug, if_neg (by omega), if_pos hin.2]; exact ⟨rfl, rfl, rfl⟩
  · intro a b i p hp h u _; have hin := wt_in b _ p hp; rw [plug, if_neg (by omega), if_neg (by omega)]; exact ⟨rfl, rfl, rfl⟩
theorem plug_nf : ∀ (t : Tm) (i p : Nat), p ∈ wt t i → Nf t → ∀ u, leafB u = true → Nf (plug t i p u) := by
  refine wt_ind (P := fun t i p => Nf t → ∀ u, leafB u = true → Nf (plug t i p u)) ?_ ?_ ?_ ?_ ?_ ?_ ?_ ?_
  · intro t i _ _ u h; rw [plug_at]; exact (leaf_ends h).2.2.2
  · intro a b i p hp h hn u hu; have hin := wt_in a _ p hp; rw [plug, if_neg (by omega)]; have := plug_ends a _ p hp u hu; exact ⟨h hn.1 u hu, this.1, this.2.1⟩
  · intro a b i p hp h hn u hu; have hin := wt_in a _ p hp; rw [plug, if_neg (by omega)]; have := plug_ends a _ p hp u hu; exact ⟨h hn.1 u hu, this.1⟩
  · intro a b i p hp h hn u hu; have hin := wt_in a _ p hp; rw [plug, if_neg (by omega)]; have := plug_ends a _ p hp u hu; exact ⟨h hn.1 u hu, this.1⟩
  · intro a b i p hp h hn u hu; have hin := wt_in a _ p hp; rw [plug, if_neg (by omega)]; have := plug_ends a _ p hp u hu; exact ⟨h hn.1 u hu, this.2.1⟩
  · intro a i p hp h hn u hu; have hin := wt_in a _ p hp; rw [plug, if_neg (by omega)]; have := plug_ends a _ p hp u hu; exact ⟨h hn.1 u hu, this.2.2⟩
  · intro a b i p hp h hn u hu; have hin := wt_in a _ p hp; rw [plug, if_neg (by omega), if_pos hin.2]; have := plug_ends a _ p hp u hu; exact ⟨h hn.1 u hu, hn.2.1, by rw [this.1]; rfl, by rw [this.2.1]; rfl⟩
  · intro a b i p hp h hn u hu; have hin := wt_in b _ p hp; rw [plug, if_neg (by omega), if_neg (by omega)]; have := plug_ends b _ p hp u hu; exact ⟨hn.1, h hn.2.1 u hu, by rw [this.1, Bool.and_false], by rw [this.2.1, Bool.and_false]⟩
theorem plug_rg : ∀ (t : Tm) (i p : Nat), p ∈ wt t i → rg t = true → (rg (sub t i p) = true ∧ ∀ u, rg u = true → rg (plug t i p u) = true) := by
  refine wt_ind (P := fun t i p => rg t = true → (rg (sub t i p) = true ∧ ∀ u, rg u = true → rg (plug t i p u) = true)) ?_ ?_ ?_ ?_ ?_ ?_ ?_ ?_
  · intro t i hl hr; exact ⟨by (cases t <;> first | exact hr | cases hl), fun u h => by rw [plug_at]; exact h⟩
  · intro a b i p hp h hr; have hin := wt_in a _ p hp; rw [rg_seq, Bool.and_eq_true] at hr; exact ⟨(h hr.1).1, fun u hu => by rw [plug, if_neg (by omega), rg_seq, (h hr.1).2 u hu, hr.2]; rfl⟩
  · intro a b i p hp h hr; have hin := wt_in a _ p hp; rw [rg_hand, Bool.and_eq_true] at hr; exact ⟨(h hr.1).1, fun u hu => by rw [plug, if_neg (by omega), rg_hand, (h hr.1).2 u hu, hr.2]; rfl⟩
  · intro a b i p hp h hr; have hin := wt_in a _ p hp; rw [rg_going, Bool.and_eq_true] at hr; exact ⟨(h hr.1).1, fun u hu => by rw [plug, if_neg (by omega), rg_going, (h hr.1).2 u hu, hr.2]; rfl⟩
  · intro a b i p hp h hr; have hin := wt_in a _ p hp; rw [rg_stack, Bool.and_eq_true] at hr; exact ⟨(h hr.1).1, fun u hu => by rw [plug, if_neg (by omega), rg_stack, (h hr.1).2 u hu, hr.2]; rfl⟩
  · intro a i p hp h hr; have hin := wt_in a _ p hp; rw [rg_block] at hr; exact ⟨(h hr).1, fun u hu => by rw [plug, if_neg (by omega), rg_block, (h hr).2 u hu]⟩
  · intro a b i p hp h hr; have hin := wt_in a _ p hp; rw [rg_par, Bool.and_eq_true] at hr; exact ⟨by rw [sub, if_pos hin.2]; exact (h hr.1).1, fun u hu => by rw [plug, if_neg (by omega), if_pos hin.2, rg_par, (h hr.1).2 u hu, hr.2]; rfl⟩
  · intro a b i p hp h hr; have hin := wt_in b _ p hp; rw [rg_par, Bool.and_eq_true] at hr; exact ⟨by rw [sub, if_neg (by omega)]; exact (h hr.2).1, fun u hu => by rw [plug, if_neg (by omega), if_neg (by omega), rg_par, (h hr.2).2 u hu, hr.1]; rfl⟩
theorem plug_is : ∀ (t : Tm) (i p : Nat), p ∈ wt t i → ∀ u, (∀ s, s = 3 ∨ s = 4 → is (sub t i p) s = true → is u s = true) → ∀ s, s = 3 ∨ s = 4 → is t s = true → is (plug t i p u) s = true := by
  refine wt_ind (P := fun t i p => ∀ u, (∀ s, s = 3 ∨ s = 4 → is (sub t i p) s = true → is u s = true) → ∀ s, s = 3 ∨ s = 4 → is t s = true → is (plug t i p u) s = true) ?_ ?_ ?_ ?_ ?_ ?_ ?_ ?_
  · intro t i hl u h s hs k; rw [plug_at]; refine h s hs ?_; cases t <;> first | exact k | cases hl
  · intro a b i p hp h u hu s hs k; have hin := wt_in a _ p hp; rw [plug, if_neg (by omega)]; rcases hs with rfl | rfl <;> simp [is] at k ⊢ <;> exact ⟨h u hu _ (by omega) k.1, k.2⟩
  · intro a b i p hp h u hu s hs k; have hin := wt_in a _ p hp; rw [plug, if_neg (by omega)]; rcases hs with rfl | rfl <;> simp [is] at k ⊢; exact ⟨h u hu _ (by omega) k.1, k.2⟩
  · intro a b i p hp h u hu s hs k; have hin := wt_in a _ p hp; rw [plug, if_neg (by omega)]; rcases hs with rfl | rfl <;> simp [is] at k ⊢; exact ⟨h u hu _ (by omega) k.1, k.2⟩
  · intro a b i p hp h u hu s hs k; have hin := wt_in a _ p hp; rw [plug, if_neg (by omega)]; rcases hs with rfl | rfl <;> simp [is] at k ⊢; exact ⟨h u hu _ (by omega) k.1, k.2⟩
  · intro a i p hp h u hu s hs k; have hin := wt_in a _ p hp; rw [plug, if_neg (by omega)]; rcases hs with rfl | rfl <;> simp [is] at k ⊢; exact h u hu _ (by omega) k
  · intro a b i p hp h u hu s hs k
    have hin := wt_in a _ p hp
    rw [sub, if_pos hin.2] at hu
    rw [plug, if_neg (by omega), if_pos hin.2]
    simp only [is, Bool.and_eq_true] at k ⊢
    exact ⟨h u hu s hs k.1, k.2⟩
  · intro a b i p hp h u hu s hs k
    have hin := wt_in b _ p hp
    rw [sub, if_neg (by omega)] at hu
    rw [plug, if_neg (by omega), if_neg (by omega)]
    simp only [is, Bool.and_eq_true] at k ⊢
    exact ⟨k.1, h u hu s hs k.2⟩
theorem mvs_plug : ∀ (t : Tm) (i p : Nat), p ∈ wt t i → ∀ d, ∃ f, ∀ u, leafB u = true → ∀ n ∈ mvs f u p, ⟨n.p, n.h, n.l, plug t i p n.r⟩ ∈ mvs d (plug t i p u) i := by
  have up : ∀ {a : Tm} {j p : Nat} {f d d' : Bool} {i : Nat} {u : Tm} (g : Tm → Tm) (x : Tm), x = g (plug a j p u) → mvs d x i = (mvs d' (plug a j p u) j).map (upm g) →
      (∀ n ∈ mvs f u p, (⟨n.p, n.h, n.l, plug a j p n.r⟩ : Mo) ∈ mvs d' (plug a j p u) j) → ∀ n ∈ mvs f u p, (⟨n.p, n.h, n.l, g (plug a j p n.r)⟩ : Mo) ∈ mvs d x i := by
    intro a j p f d d' i u g x e1 e2 h n hn
    rw [e2]
    exact List.mem_map.2 ⟨_, h n hn, rfl⟩
  refine wt_ind (P := fun t i p => ∀ d, ∃ f, ∀ u, leafB u = true → ∀ n ∈ mvs f u p, ⟨n.p, n.h, n.l, plug t i p n.r⟩ ∈ mvs d (plug t i p u) i) ?_ ?_ ?_ ?_ ?_ ?_ ?_ ?_
  · intro t i _ d; exact ⟨d, fun u _ n hn => by rw [plug_at, plug_at]; exact hn⟩
  · intro a b i p hp h d
    have hin := wt_in a _ p hp
    obtain ⟨f, hf⟩ := h d
    have e : ∀ w, plug (.seq a b) i p w = .seq (plug a (i + 1) p w) b := fun w => by rw [plug, if_neg (by omega)]
    exact ⟨f, fun u hu n hn => by rw [e, e]; exact up (.seq · b) _ rfl rfl (hf u hu) n hn⟩
  · intro a b i p hp h d
    have hin := wt_in a _ p hp
    obtain ⟨f, hf⟩ := h d
    have e : ∀ w, plug (.hand a b) i p w = .hand (plug a (i + 1) p w) b := fun w => by rw [plug, if_neg (by omega)]
    exact ⟨f, fun u hu n hn => by rw [e, e]; exact up (.hand · b) _ rfl rfl (hf u hu) n hn⟩
  · intro a b i p hp h d
    have hin := wt_in a _ p hp
    obtain ⟨f, hf⟩ := h d
    have e : ∀ w, plug (.going a b) i p w = .going (plug a (i + 1) p w) b := fun w => by rw [plug, if_neg (by omega)]
    exact ⟨f, fun u hu n hn => by rw [e, e]; exact up (.going · b) _ rfl rfl (hf u hu) n hn⟩
  · intro a b i p hp h d
    have hin := wt_in a _ p hp
    obtain ⟨f, hf⟩ := h d
    have e : ∀ w, plug (.stack a b) i p w = .stack (plug a (i + 1) p w) b := fun w => by rw [plug, if_neg (by omega)]
    exact ⟨f, fun u hu n hn => by rw [e, e]; exact up (.stack · b) _ rfl rfl (hf u hu) n hn⟩
  · intro a i p hp h d
    have hin := wt_in a _ p hp
    obtain ⟨f, hf⟩ := h false
    have e : ∀ w, plug (.block a) i p w = .block (plug a (i + 1) p w) := fun w => by rw [plug, if_neg (by omega)]
    exact ⟨f, fun u hu n hn => by rw [e, e]; exact up .block _ rfl rfl (hf u hu) n hn⟩
  · intro a b i p hp h d
    have hin := wt_in a _ p hp
    obtain ⟨f, hf⟩ := h (d || bangT b)
    have e : ∀ w, plug (.par a b) i p w = .par (plug a (i + 1) p w) b := fun w => by rw [plug, if_neg (by omega), if_pos hin.2]
    exact ⟨f, fun u hu n hn => by rw [e, e]; exact List.mem_append_left _ (List.mem_map.2 ⟨_, hf u hu n hn, rfl⟩)⟩
  · intro a b i p hp h d
    have hin := wt_in b _ p hp
    obtain ⟨f, hf⟩ := h (d || bangT a)
    have e : ∀ w, plug (.par a b) i p w = .par a (plug b (i + 1 + sz a) p w) := fun w => by rw [plug, if_neg (by omega), if_neg (by omega)]
    exact ⟨f, fun u hu n hn => by rw [e, e]; exact List.mem_append_right _ (List.mem_map.2 ⟨_, hf u hu n hn, rfl⟩)⟩
theorem mv_plug : ∀ (t : Tm) (d : Bool) (i : Nat), ∀ m ∈ mvs d t i, m.p ∈ wt t i ∧ ∃ u, Made (sub t i m.p) m.h m.l u ∧ m.r = plug t i m.p u := by
  intro t
  induction t with
  | act s => intro d i m hm; simp only [mvs, List.mem_singleton] at hm; subst hm; exact ⟨by simp [wt], _, .act s, rfl⟩
  | alt a b =>
    intro d i m hm
    simp only [mvs, List.mem_cons, List.not_mem_nil, or_false] at hm
    rcases hm with rfl | rfl
    · exact ⟨by simp [wt], _, .altl a b, rfl⟩
    · exact ⟨by simp [wt], _, .altr a b, rfl⟩
  | yield =>
    intro d i m hm
    have hm : m = ⟨i, 4, none, .over 1⟩ ∨ m = ⟨i, 5, none, .over 3⟩ := by
      cases d <;> simp [mvs] at hm
      · exact .inl hm
      · exact hm
    rcases hm with rfl | rfl
    · exact ⟨by simp [wt], _, .yieldg, rfl⟩
    · exact ⟨by simp [wt], _, .yields, rfl⟩
  | pair a b =>
    intro d i m hm
    have hm : m = ⟨i, 4, none, .going a b⟩ ∨ m = ⟨i, 5, none, .fin 3 .skip⟩ := by
      cases d <;> simp [mvs] at hm
      · exact .inl hm
      · exact hm
    rcases hm with rfl | rfl
    · exact ⟨by simp [wt], _, .pairg a b, rfl⟩
    · exact ⟨by simp [wt], _, .pairs a b, rfl⟩
  | seq a b ia ib => intro d i m hm; obtain ⟨n, hn, rfl⟩ := List.mem_map.1 hm; obtain ⟨h1, u, h2, h3⟩ := ia _ _ n hn; have hin := wt_in a _ _ h1; exact ⟨h1, u, h2, by simp only [upm]; rw [h3, plug, if_neg (by omega)]⟩
  | hand a b ia ib => intro d i m hm; obtain ⟨n, hn, rfl⟩ := List.mem_map.1 hm; obtain ⟨h1, u, h2, h3⟩ := ia _ _ n hn; have hin := wt_in a _ _ h1; exact ⟨h1, u, h2, by simp only [upm]; rw [h3, plug, if_neg (by omega)]⟩
  | going a b ia ib => intro d i m hm; obtain ⟨n, hn, rfl⟩ := List.mem_map.1 hm; obtain ⟨h1, u, h2, h3⟩ := ia _ _ n hn; have hin := wt_in a _ _ h1; exact ⟨h1, u, h2, by simp only [upm]; rw [h3, plug, if_neg (by omega)]⟩
  | stack a b ia ib => intro d i m hm; obtain ⟨n, hn, rfl⟩ := List.mem_map.1 hm; obtain ⟨h1, u, h2, h3⟩ := ia _ _ n hn; have hin := wt_in a _ _ h1; exact ⟨h1, u, h2, by simp only [upm]; rw [h3, plug, if_neg (by omega)]⟩
  | block a ia => intro d i m hm; obtain ⟨n, hn, rfl⟩ := List.mem_map.1 hm; obtain ⟨h1, u, h2, h3⟩ := ia _ _ n hn; have hin := wt_in a _ _ h1; exact ⟨h1, u, h2, by simp only [upm]; rw [h3, plug, if_neg (by omega)]⟩
  | par a b ia ib =>
    intro d i m hm
    rcases List.mem_append.1 hm with hm | hm
    · obtain ⟨n, hn, rfl⟩ := List.mem_map.1 hm
      obtain ⟨h1, u, h2, h3⟩ := ia _ _ n hn
      have hin := wt_in a _ _ h1
      refine ⟨List.mem_append_left _ h1, u, ?_, ?_⟩
      · show Made (sub (.par a b) i n.p) _ _ _
        rw [sub, if_pos hin.2]; exact h2
      · simp only [upm]; rw [h3, plug, if_neg (by omega), if_pos hin.2]
    · obtain ⟨n, hn, rfl⟩ := List.mem_map.1 hm
      obtain ⟨h1, u, h2, h3⟩ := ib _ _ n hn
      have hin := wt_in b _ _ h1
      refine ⟨List.mem_append_right _ h1, u, ?_, ?_⟩
      · show Made (sub (.par a b) i n.p) _ _ _
        rw [sub, if_neg (by omega)]; exact h2
      · simp only [upm]; rw [h3, plug, if_neg (by omega), if_neg (by omega)]
  | _ => intro d i m hm; exact absurd hm (by simp [mvs])
end Go.Proofs.Ytaapnkoooofalaa.Sp

namespace Go.Proofs.Ytaapnkoooofalaa.Me
open Go Go.RowKit Rw So Se Do
set_option maxRecDepth 20000
structure Mv where
  p : Int
  h : Int
deriving DecidableEq
def hw (k : Int) (f : Bool) (z : Int) : List Mv := if k = 1 then [⟨z, 1⟩] else if k = 6 then [⟨z, 2⟩, ⟨z, 3⟩] else ⟨z, 4⟩ :: if f then [⟨z, 5⟩] else []
def kn (l : List Nd) (z : Int) : Int := match l[z.toNat]? with | some x => x.k | none => 0
noncomputable def enR (l : List Nd) : List Mv := (av l).flatMap fun z => hw (kn l z) (fr l z) z
theorem hw_len (k : Int) (f : Bool) (z : Int) : (hw k f z).length ≤ 2 := by
  unfold hw
  split
  · simp
  · split
    · simp
    · cases f <;> simp
theorem flat_two {α β : Type} (f : α → List β) (h : ∀ a, (f a).length ≤ 2) : ∀ l : List α, (l.flatMap f).length ≤ 2 * l.length
  | [] => by simp
  | a :: l => by
    rw [List.flatMap_cons, List.length_append, List.length_cons]
    have := h a
    have := flat_two f h l
    omega
theorem enR_len (l : List Nd) : (enR l).length ≤ 2 * l.length := by
  have h1 := flat_two (fun z => hw (kn l z) (fr l z) z) (fun z => hw_len _ _ _) (av l)
  have h2 := av_len l
  unfold enR
  omega
def mcl (m : Mv) : List Value := [.int .i64 m.p, .int .i64 m.h]
def mcls : List Mv → List Value
  | [] => []
  | m :: l => mcl m ++ mcls l
theorem mcls_len : ∀ l : List Mv, (mcls l).length = l.length * 2
  | [] => rfl
  | m :: l => by rw [mcls, List.length_append, mcls_len l]; simp [mcl]; omega
theorem mcls_append : ∀ l m : List Mv, mcls (l ++ m) = mcls l ++ mcls m
  | [], _ => rfl
  | x :: l, m => by rw [List.cons_append, mcls, mcls_append l m, mcls, List.append_assoc]
theorem mcls_at : ∀ (l : List Mv) (k : Nat) (h : k < l.length), (mcls l)[k * 2]? = some (.int .i64 l[k].p) ∧ (mcls l)[k * 2 + 1]? = some (.int .i64 l[k].h)
  | [], k, h => by simp at h
  | x :: l, 0, _ => ⟨rfl, rfl⟩
  | x :: l, k + 1, h => by
    have := mcls_at l k (by simpa using h)
    simpa [mcls, mcl, show (k + 1) * 2 = k * 2 + 1 + 1 by omega] using this
def Mvs (w : World) (v : Value) (l : List Mv) : Prop := Ap.Rd w 2 v l.length (mcls l)
theorem Mvs.below {w w' : World} {v : Value} {l : List Mv} (h : Mvs w v l) (hb : Below w.heap.size w w') : Mvs w' v l := Ap.Rd.below h hb
def AtM (w : World) (b off : Nat) (l : List Mv) : Prop := ∀ k, (h : k < l.length) → w.cell? ⟨b, off + k * 2, none⟩ = some (.int .i64 l[k].p) ∧ w.cell? ⟨b, off + k * 2 + 1, none⟩ = some (.int .i64 l[k].h)
theorem AtM.below {w w' : World} {b off : Nat} {l : List Mv} (h : AtM w b off l) (hb : Below w.heap.size w w') : AtM w' b off l := fun k hk => by
  obtain ⟨h1, h2⟩ := h k hk
  exact ⟨by rw [hb.cell (Ap.cell_lt h1)]; exact h1, by rw [hb.cell (Ap.cell_lt h2)]; exact h2⟩
theorem Mvs.form {w : World} {v : Value} {l : List Mv} (h : Mvs w v l) :
    (l = [] ∧ ∃ a cap, v = .slice a 0 cap) ∨ ∃ b off cap, v = .slice (some ⟨b, off, none⟩) l.length cap ∧ l.length ≤ cap ∧ AtM w b off l := by
  obtain ⟨_, a, cap, rfl, hle, _, hcell⟩ := h
  by_cases h0 : 0 < l.length
  · obtain ⟨b, off, rfl, hj⟩ := hcell h0
    refine Or.inr ⟨b, off, cap, rfl, hle, fun k hk => ?_⟩
    obtain ⟨h1, h2⟩ := mcls_at l k hk
    exact ⟨hj _ _ h1, by rw [Nat.add_assoc]; exact hj _ _ h2⟩
  · have : l = [] := List.eq_nil_of_length_eq_zero (by omega)
    subst this
    exact Or.inl ⟨rfl, a, cap, rfl⟩
theorem mvs_new (w : World) (l : List Mv) (ty : TypeId) : Mvs (w.alloc (.cells (mcls l).toArray ty)) (.slice (some ⟨w.heap.size, 0, none⟩) l.length l.length) l := by
  refine ⟨mcls_len l, some ⟨w.heap.size, 0, none⟩, l.length, rfl, Nat.le_refl _, fun h => (by cases h), fun _ => ⟨w.heap.size, 0, rfl, fun j u hu => ?_⟩⟩
  rw [Nat.zero_add, World.cell?_alloc_new]
  simpa using hu
theorem infoMv : (Try.prog.info? 33).map (fun i => (i.zero, i.size, i.bytes)) = some (some (.agg #[.int .i64 0, .int .i64 0]), 2, 16) := by kernel_rfl
def GotM (base : Nat) (w : World) (v : Value) (l : List Mv) : Prop := w.ownsRow base 33 2 v l.length (mcls l) ∧ base ≤ w.heap.size
theorem GotM.mvs {base : Nat} {w : World} {v : Value} {l : List Mv} (h : GotM base w v l) : Mvs w v l := Ap.Rd.owned h.1
theorem GotM.start {base : Nat} {w : World} (hb : base ≤ w.heap.size) : GotM base w (.slice none 0 0) [] := ⟨⟨rfl, .inl ⟨rfl, rfl⟩⟩, hb⟩
theorem GotM.below {base : Nat} {w w' : World} {v : Value} {l : List Mv} (h : GotM base w v l) (hb : Below w.heap.size w w') : GotM base w' v l := ⟨Ap.own_below h.1 hb, Nat.le_trans h.2 hb.size⟩
theorem GotM.row {base : Nat} {w : World} {v y : Value} {l m : List Mv} (h : GotM base w v l) (hy : Mvs w y m) (hl : l.length + m.length ≤ 1000000) :
    ∃ v' w', (Builtin.append_ #[30, 30] 30 #[v, y]).run Try.prog w = .ok v' w' ∧ GotM base w' v' (l ++ m) ∧ Below base w w' := by
  obtain ⟨i0, hi, hz, hs1, hb8⟩ := info_parts infoMv
  have one : ∀ l : List Mv, ∀ u ∈ mcls l, u.oneCell' = true := by
    intro l
    induction l with
    | nil => intro u hu; cases hu
    | cons x l ih =>
      intro u hu
      simp only [mcls, mcl, List.cons_append, List.nil_append, List.mem_cons] at hu
      rcases hu with rfl | rfl | hu
      · rfl
      · rfl
      · exact ih u hu
  obtain ⟨v', w', h1, h2, _, h4, _⟩ := Ap.run_append_rd (P := Try.prog) (ty := 30) Try.underlying30 hi hz hs1 hb8 (by rfl) (by omega) h.1 h.2 hy (one m) (by unfold maxLen; omega) (by omega)
  exact ⟨v', w', h1, ⟨by rw [List.length_append, mcls_append]; exact h2, Nat.le_trans h.2 h4.size⟩, h4⟩
theorem GotM.new {base : Nat} {w : World} {v : Value} {l : List Mv} (m : List Mv) (h : GotM base w v l) (hl : l.length + m.length ≤ 1000000) :
    ∃ v' w', (Builtin.append_ #[30, 30] 30 #[v, .slice (some ⟨w.heap.size, 0, none⟩) m.length m.length]).run Try.prog (w.alloc (.cells (mcls m).toArray 33)) = .ok v' w' ∧ GotM base w' v' (l ++ m) ∧ Below base w w' := by
  obtain ⟨v', w', h1, h2, h3⟩ := (h.below (below1 w _)).row (mvs_new w m 33) hl
  exact ⟨v', w', h1, h2, ((below1 w _).mono h.2).trans h3⟩
end Go.Proofs.Ytaapnkoooofalaa.Me

namespace Go.Proofs.Ytaapnkoooofalaa.Do
open Go Go.RowKit Rw So Se
set_option maxRecDepth 20000
end Go.Proofs.Ytaapnkoooofalaa.Do

namespace Go.Proofs.Ytaapnkoooofalaa.Sp
open Go Rw So Se Tr Mn Do
def far (k : Nat) (m : Mo) : Mo := ⟨m.p + k, m.h, m.l, m.r⟩
theorem far_up (k : Nat) (f : Tm → Tm) (l : List Mo) : (l.map (far k)).map (upm f) = (l.map (upm f)).map (far k) := by
  rw [List.map_map, List.map_map]
  rfl
theorem mvs_far (k : Nat) : ∀ (t : Tm) (d : Bool) (i : Nat), mvs d t (i + k) = (mvs d t i).map (far k) := by
  intro t
  induction t with
  | act s => intro d i; rfl
  | alt a b => intro d i; rfl
  | yield => intro d i; cases d <;> rfl
  | pair a b => intro d i; cases d <;> rfl
  | seq a b ia ib => intro d i; simp only [mvs]; rw [show i + k + 1 = i + 1 + k by omega, ia, far_up]
  | hand a b ia ib => intro d i; simp only [mvs]; rw [show i + k + 1 = i + 1 + k by omega, ia, far_up]
  | going a b ia ib => intro d i; simp only [mvs]; rw [show i + k + 1 = i + 1 + k by omega, ia, far_up]
  | stack a b ia ib => intro d i; simp only [mvs]; rw [show i + k + 1 = i + 1 + k by omega, ia, far_up]
  | block a ia => intro d i; simp only [mvs]; rw [show i + k + 1 = i + 1 + k by omega, ia, far_up]
  | par a b ia ib =>
    intro d i
    simp only [mvs]
    rw [show i + k + 1 + sz a = i + 1 + sz a + k by omega, ib, show i + k + 1 = i + 1 + k by omega, ia, far_up, far_up, List.map_append]
  | _ => intro d i; rfl
theorem mv_over {t : Tm} {d : Bool} {i : Nat} {m : Mo} (h : m ∈ mvs d t i) : isOver t = false ∧ isFin t = false := by
  cases t <;> first | exact ⟨rfl, rfl⟩ | exact absurd h (by simp [mvs])
theorem mv_par_l {a b : Tm} {m : Mo} (h : m ∈ mvs true a 0) : (⟨m.p + 1, m.h, m.l, .par m.r b⟩ : Mo) ∈ mvs true (.par a b) 0 := by
  refine List.mem_append_left _ (List.mem_map.2 ⟨far 1 m, ?_, rfl⟩)
  rw [Bool.true_or, mvs_far 1 a true 0]
  exact List.mem_map.2 ⟨m, h, rfl⟩
theorem mv_par_r {a b : Tm} {m : Mo} (h : m ∈ mvs true b 0) : (⟨m.p + (1 + sz a), m.h, m.l, .par a m.r⟩ : Mo) ∈ mvs true (.par a b) 0 := by
  refine List.mem_append_right _ (List.mem_map.2 ⟨far (1 + sz a) m, ?_, rfl⟩)
  have e : mvs true b (0 + 1 + sz a) = (mvs true b 0).map (far (1 + sz a)) := by rw [← mvs_far (1 + sz a) b true 0, ← Nat.add_assoc]
  rw [Bool.true_or, e]
  exact List.mem_map.2 ⟨m, h, rfl⟩
theorem par_stay_r {x b : Tm} (hb : isOver b = false ∧ isFin b = false) : sPar x b = .par x b := by
  cases x <;> try rfl
  · cases b <;> first | rfl | cases hb.1
  · cases b <;> first | rfl | cases hb.2
theorem par_stay_l {a y : Tm} (ha : isOver a = false ∧ isFin a = false) : sPar a y = .par a y := by
  cases a <;> first | rfl | exact Bool.noConfusion ha.1 | exact Bool.noConfusion ha.2
theorem beside {a b : Tm} (na : Nf a) (nb : Nf b) {m n : Mo} (hm : m ∈ mvs true a 0) (hn : n ∈ mvs true b 0) :
    S (.par m.r b) = .par (S m.r) b ∧ S (.par a n.r) = .par a (S n.r) ∧
    (⟨n.p + (1 + sz (S m.r)), n.h, n.l, .par (S m.r) n.r⟩ : Mo) ∈ mvs true (.par (S m.r) b) 0 ∧ (⟨m.p + 1, m.h, m.l, .par m.r (S n.r)⟩ : Mo) ∈ mvs true (.par a (S n.r)) 0 ∧
    S (.par (S m.r) n.r) = S (.par m.r (S n.r)) := by
  refine ⟨?_, ?_, mv_par_r hn, mv_par_l hm, ?_⟩
  · rw [S_par, nf_S b nb]; exact par_stay_r (mv_over hn)
  · rw [S_par, nf_S a na]; exact par_stay_l (mv_over hm)
  · rw [S_par, S_par, S_twice, S_twice]
theorem refused {t : Tm} (hn : Nf t) {m : Mo} (hm : m ∈ mvs true t 0) (h1 : m.h = 1) : ∃ s, sub t 0 m.p = .act s ∧ m.l = some s ∧ m.p ∈ wt t 0 ∧
    Nf (plug t 0 m.p (.alt (.act s) .throw)) ∧
    (⟨m.p, 3, none, plug t 0 m.p .throw⟩ : Mo) ∈ mvs true (plug t 0 m.p (.alt (.act s) .throw)) 0 ∧
    (⟨m.p, 2, none, t⟩ : Mo) ∈ mvs true (plug t 0 m.p (.alt (.act s) .throw)) 0 := by
  obtain ⟨hw, u, hu, hr⟩ := mv_plug t true 0 m hm
  obtain ⟨p, h, l, r⟩ := m
  simp only at *
  subst h1
  have : ∀ {x : Tm} {k : Int}, Made x k l u → k = 1 → ∃ s, x = .act s ∧ l = some s := by
    intro x k hx hk
    cases hx with
    | act s => exact ⟨s, rfl, rfl⟩
    | _ => exact absurd hk (by decide)
  obtain ⟨s, e1, e2⟩ := this hu rfl
  obtain ⟨f, hf⟩ := mvs_plug t 0 p hw true
  refine ⟨s, e1, e2, hw, plug_nf t 0 p hw hn _ rfl, ?_, ?_⟩
  · exact hf (.alt (.act s) .throw) rfl ⟨p, 3, none, .throw⟩ (by simp [mvs])
  · have := hf (.alt (.act s) .throw) rfl ⟨p, 2, none, .act s⟩ (by simp [mvs])
    rw [← e1, plug_sub t 0 p hw] at this
    rw [← e1]
    exact this
end Go.Proofs.Ytaapnkoooofalaa.Sp

namespace Go.Proofs.Ytaapnkoooofalaa.Do
open Go Go.RowKit Rw So Se
set_option maxRecDepth 20000
set_option maxHeartbeats 1000000 in
theorem waitsP_any (k : Int) (w : World) : Calls Try.prog 44 #[.int .i64 k] w fun e w' => e = .returned (.bool (wk k)) ∧ w = w' := by
  rcases cases15 k with rfl | rfl | rfl | rfl | rfl | rfl | rfl | rfl | rfl | rfl | rfl | rfl | rfl | rfl | h
  case inr.inr.inr.inr.inr.inr.inr.inr.inr.inr.inr.inr.inr.inr =>
    obtain ⟨h1, h2, h3, h4, h5, h6, h7, h8, h9, h10, h11, h12, h13, h14⟩ := h
    have g1 : (k == 1) = false := beq_eq_false_iff_ne.2 h1
    have g6 : (k == 6) = false := beq_eq_false_iff_ne.2 h6
    have g4 : (k == 4) = false := beq_eq_false_iff_ne.2 h4
    have g10 : (k == 10) = false := beq_eq_false_iff_ne.2 h10
    have hr : Hid (wk k = false) := Lib.hid (by unfold wk; rw [g1, g6, g4, g10]; rfl)
    clear h1 h2 h3 h4 h5 h6 h7 h8 h9 h10 h11 h12 h13 h14
    go_enter Try.func44, Try.ntmps44
    go_wp2_with fail
    go_ret
    exact ⟨ret_bool hr.out.symm, rfl⟩
  all_goals
    go_enter Try.func44, Try.ntmps44
    go_wp2_with fail
    go_ret
    exact ⟨rfl, rfl⟩
theorem nds_drop {w : World} {b off c : Nat} {l : List Nd} (h : At w b off l) (hc : l.length ≤ c) (d : Nat) (hd : d ≤ l.length) : Nds w (.slice (some ⟨b, off + d * 3, none⟩) (l.length - d) (c - d)) (l.drop d) := by
  have := part_nds h d (l.length - d) (c - d) (by omega) (by omega)
  rwa [List.take_of_length_le (by rw [List.length_drop]; exact Nat.le_refl _)] at this
set_option maxHeartbeats 1000000 in
theorem second_any (b off c : Nat) (l : List Nd) (i : Nat) (w : World) (hat : At w b off l) (hc : l.length ≤ c) (hl : l.length ≤ 1000) (hi : i + 1 < l.length) :
    Calls Try.prog 59 #[.slice (some ⟨b, off, none⟩) l.length c, .int .i64 (i : Int)] w fun e w' => e = .returned (.int .i64 (i + 1 + size (l.drop (i + 1)) : Nat)) ∧ Below w.heap.size w w' := by
  have HN := Lib.hid (nds_drop hat hc (i + 1) (by omega))
  have HL : Hid ((l.drop (i + 1)).length ≤ 1000000) := Lib.hid (by rw [List.length_drop]; omega)
  have hs : size (l.drop (i + 1)) ≤ 1000 := Nat.le_trans (size_le _) (by rw [List.length_drop]; omega)
  obtain ⟨z, hz⟩ : ∃ z, size (l.drop (i + 1)) = z := ⟨_, rfl⟩
  rw [hz] at hs ⊢
  have HZ := Lib.hid hz
  clear hat hz
  go_enter Try.func59, Try.ntmps59
  go_wp2_with fail
  refine (Rx.sizeP_any _ (l.drop (i + 1)) _ HN.out HL.out).mono ?_
  rw [HZ.out]
  rintro e w' ⟨rfl, hb⟩
  have HB := Lib.hid hb
  clear hb
  go_wp2_with fail
  go_ret
  exact ⟨by congr 2, HB.out⟩
def Chain (fn : Nat) (caps : Array Value) (Q : World → Prop) : List Nat → World → Prop
  | [], w => Q w
  | k :: ks, w => Calls Try.prog fn (#[.int .i64 (k : Int)] ++ caps) w fun e w1 => e = .returned (.tuple #[]) ∧ Chain fn caps Q ks w1
theorem kdA_get {l : List Nd} {i : Nat} (hi : i < l.length) : kdA l i = kdK l i l[i].k := kdA_at (List.getElem?_eq_getElem hi)
set_option maxHeartbeats 2000000 in
theorem kids_any (fn : Nat) (caps : Array Value) (eg : ∀ args w, (callFunc fn args).run Try.prog w = .ok (.enter fn args) w) (Q : World → Prop) (b off c : Nat) (l : List Nd) (i : Nat) (w : World) (hat : At w b off l) (hc : l.length ≤ c) (hl : l.length ≤ 1000)
    (hi : i < l.length) (h7 : l[i].k = 7 → i + 1 < l.length) (H : ∀ w0, Below w.heap.size w w0 → Chain fn caps Q (kdA l i) w0) :
    Calls Try.prog 45 #[.slice (some ⟨b, off, none⟩) l.length c, .int .i64 (i : Int), .func (.func fn) #[] caps] w fun e w' => e = .returned (.tuple #[]) ∧ Q w' := by
  rw [kdA_get hi] at H
  have e0 := (hat i hi).1
  have hi2 : (i : Int) < l.length := by omega
  have c1 : ((i + 1 : Nat) : Int) = (i : Int) + 1 := by omega
  obtain ⟨k, hk⟩ : ∃ k, l[i].k = k := ⟨_, rfl⟩
  rw [hk] at e0 H h7
  have HAT := Lib.hid hat
  have HH := Lib.hid H
  clear hat H hk
  have grp : ∀ k : Int, (k = 5 ∨ k = 8 ∨ k = 9 ∨ k = 12 ∨ k = 13) → kdK l i k = [i + 1] := fun k h => by unfold kdK; rw [if_neg (by omega), if_pos h]
  have non : ∀ k : Int, k ≠ 7 → ¬ (k = 5 ∨ k = 8 ∨ k = 9 ∨ k = 12 ∨ k = 13) → kdK l i k = [] := fun k h1 h2 => by unfold kdK; rw [if_neg h1, if_neg h2]
  have GRP := Lib.hid grp
  have NON := Lib.hid non
  clear grp non
  by_cases k7 : k = 7
  · subst k7
    have h8 := h7 rfl
    have HS := Lib.hid (second_any b off c l i w HAT.out hc hl h8)
    have C : Hid (∀ w0, Below w.heap.size w w0 → Calls Try.prog fn (#[.int .i64 ((i + 1 + size (l.drop (i + 1)) : Nat) : Int)] ++ caps) w0 fun e w1 => e = .returned (.tuple #[]) ∧ Calls Try.prog fn (#[.int .i64 ((i : Int) + 1)] ++ caps) w1 fun e w2 => e = .returned (.tuple #[]) ∧ Q w2) := Lib.hid fun w0 hb => by
      have := HH.out w0 hb
      rw [show kdK l i 7 = [i + 1 + size (l.drop (i + 1)), i + 1] from rfl] at this
      rw [← c1]
      exact this
    generalize ((i + 1 + size (l.drop (i + 1)) : Nat) : Int) = z at HS C
    clear HH GRP NON h7 c1
    go_enter Try.func45, Try.ntmps45
    go_wp2_with fail
    refine HS.out.mono ?_
    rintro e w1 ⟨rfl, hb1⟩
    have D1 := Lib.hid hb1
    clear hb1
    go_wp2_with fail
    refine (C.out _ D1.out).mono ?_
    rintro e w2 ⟨rfl, h2⟩
    have C2 := Lib.hid h2
    clear h2
    go_wp2_with fail
    refine C2.out.mono ?_
    rintro e w3 ⟨rfl, h3⟩
    have C3 := Lib.hid h3
    clear h3
    go_wp2_with fail
    go_end0
    exact ⟨rfl, C3.out⟩
  · by_cases kg : k = 5 ∨ k = 8 ∨ k = 9 ∨ k = 12 ∨ k = 13
    · have C : Hid (Calls Try.prog fn (#[.int .i64 ((i : Int) + 1)] ++ caps) w fun e w2 => e = .returned (.tuple #[]) ∧ Q w2) := Lib.hid (by
        have := HH.out w (Below.refl _ _)
        rw [GRP.out _ kg] at this
        rw [← c1]
        exact this)
      clear HH GRP NON h7 c1
      rcases kg with rfl | rfl | rfl | rfl | rfl
      all_goals
        clear k7
        go_enter Try.func45, Try.ntmps45
        go_wp2_with fail
        refine C.out.mono ?_
        rintro e w3 ⟨rfl, h3⟩
        have C3 := Lib.hid h3
        clear h3
        go_wp2_with fail
        go_end0
        exact ⟨rfl, C3.out⟩
    · have C : Hid (Q w) := Lib.hid (by
        have := HH.out w (Below.refl _ _)
        rw [NON.out _ k7 kg] at this
        exact this)
      have g5 : (k == 5) = false := beq_eq_false_iff_ne.2 (by omega)
      have g8 : (k == 8) = false := beq_eq_false_iff_ne.2 (by omega)
      have g9 : (k == 9) = false := beq_eq_false_iff_ne.2 (by omega)
      have g12 : (k == 12) = false := beq_eq_false_iff_ne.2 (by omega)
      have g13 : (k == 13) = false := beq_eq_false_iff_ne.2 (by omega)
      have g7 : (k == 7) = false := beq_eq_false_iff_ne.2 k7
      clear HH GRP NON h7 c1 k7 kg
      go_enter Try.func45, Try.ntmps45
      go_wp2_with fail
      go_end0
      exact ⟨rfl, C.out⟩
end Go.Proofs.Ytaapnkoooofalaa.Do

namespace Go.Proofs.Ytaapnkoooofalaa.Do
open Go Go.RowKit Rw So Se
set_option maxRecDepth 20000
end Go.Proofs.Ytaapnkoooofalaa.Do

namespace Go.Proofs.Ytaapnkoooofalaa.Do
open Go Go.RowKit Rw So Se
set_option maxRecDepth 20000
theorem infoRw : (Try.prog.info? 22).map (fun i => (i.zero, i.size, i.bytes)) = some (some (.slice none 0 0), 1, 24) := by kernel_rfl
def GotR (w0 : World) (base : Nat) (w : World) (v : Value) (ls : List (List Nd)) : Prop := ∃ cs, w.ownsRow base 22 1 v ls.length cs ∧ RwC w0 cs ls ∧ base ≤ w.heap.size
theorem GotR.rws {w0 : World} {base : Nat} {w : World} {v : Value} {ls : List (List Nd)} (h : GotR w0 base w v ls) (hb : Below w0.heap.size w0 w) : Rws w v ls := by
  obtain ⟨cs, h1, h2, _⟩ := h
  exact ⟨cs, Ap.Rd.owned h1, h2.below hb⟩
theorem GotR.start {w0 : World} {base : Nat} {w : World} (hb : base ≤ w.heap.size) : GotR w0 base w (.slice none 0 0) [] := ⟨[], ⟨rfl, .inl ⟨rfl, rfl⟩⟩, trivial, hb⟩
theorem GotR.more {w0 : World} {base base' : Nat} {w : World} {v : Value} {ls : List (List Nd)} (h : GotR w0 base w v ls) (hb : base' ≤ base) : GotR w0 base' w v ls := by
  obtain ⟨cs, h1, h2, h3⟩ := h
  exact ⟨cs, Ap.own_base h1 hb, h2, Nat.le_trans hb h3⟩
theorem GotR.below {w0 : World} {base : Nat} {w w' : World} {v : Value} {ls : List (List Nd)} (h : GotR w0 base w v ls) (hb : Below w.heap.size w w') : GotR w0 base w' v ls := by
  obtain ⟨cs, h1, h2, h3⟩ := h
  exact ⟨cs, Ap.own_below h1 hb, h2, Nat.le_trans h3 hb.size⟩
theorem GotR.one {w0 : World} {base : Nat} {w : World} {v : Value} {ls : List (List Nd)} {a : Option Addr} {n c : Nat} {l : List Nd} (h : GotR w0 base w v ls) (hy : Nds w0 (.slice a n c) l) (hl : ls.length ≤ 100000) :
    ∃ v' w', (Builtin.append_ #[75, 75] 75 #[v, .slice (some ⟨w.heap.size, 0, none⟩) 1 1]).run Try.prog (w.alloc (.cells #[.slice a n c] 22)) = .ok v' w' ∧ GotR w0 base w' v' (ls ++ [l]) ∧ Below base w w' := by
  obtain ⟨cs, h1, h2, h3⟩ := h
  obtain ⟨i0, hi, hz, hs1, hb8⟩ := info_parts infoRw
  obtain ⟨v', w', k1, k2, _, k4, _⟩ := Ap.run_append_one (P := Try.prog) (ty := 75) Try.underlying75 hi hz hs1 hb8 (by rfl) (by omega) h1 h3 #[.slice a n c] rfl
    (by intro u hu; simp at hu; subst hu; rfl) (by unfold maxLen; omega) (by omega)
  exact ⟨v', w', k1, ⟨cs ++ [.slice a n c], by rw [List.length_append]; exact k2, h2.snoc hy, Nat.le_trans h3 k4.size⟩, k4⟩
theorem pth_len : ∀ (t : Tm) (i p : Nat), (pth t i p).1.length ≤ sz t := by
  intro t
  induction t with
  | par a b ia ib =>
    intro i p
    have h1 := ia (i + 1) p
    have h2 := ib (i + 1 + sz a) p
    have := sz_pos a
    have := sz_pos b
    simp only [pth, sz]
    split
    · simp
    · split
      · split
        · omega
        · simp; omega
      · split
        · omega
        · simp; omega
  | block a ia => intro i p; have := ia (i + 1) p; simp only [pth, sz]; split; simp; simp; omega
  | fin s c ic => intro i p; have := ic (i + 1) p; simp only [pth, sz]; split; simp; omega
  | seq a b ia ib => intro i p; have := ia (i + 1) p; have := ib (i + 1 + sz a) p; simp only [pth, sz]; split; simp; split <;> omega
  | alt a b ia ib => intro i p; have := ia (i + 1) p; have := ib (i + 1 + sz a) p; simp only [pth, sz]; split; simp; split <;> omega
  | hand a b ia ib => intro i p; have := ia (i + 1) p; have := ib (i + 1 + sz a) p; simp only [pth, sz]; split; simp; split <;> omega
  | pair a b ia ib => intro i p; have := ia (i + 1) p; have := ib (i + 1 + sz a) p; simp only [pth, sz]; split; simp; split <;> omega
  | going a b ia ib => intro i p; have := ia (i + 1) p; have := ib (i + 1 + sz a) p; simp only [pth, sz]; split; simp; split <;> omega
  | stack a b ia ib => intro i p; have := ia (i + 1) p; have := ib (i + 1 + sz a) p; simp only [pth, sz]; split; simp; split <;> omega
  | _ => intro i p; simp [pth]
end Go.Proofs.Ytaapnkoooofalaa.Do
