/- slices.Reverse over numbers. Plain: what a tree costs: how many moves at most, or at least; each move leaves fewer. Plain: what is beside a place, and whether a block is above it. The statements' own first look at package settle: the walk. Plain: which places of a row wait, whether it will end by a throw, what is beside a place, whether it may give way. Plain: the moves of a tree are those of its places that wait, in order; what stands there then. The document's Settled, on, in, Ints, and rows of integers of a call's own: the walks. -/
import Derived.BigQuiet
import Derived.Test.YtaapnkoooofalaaQ22
import Derived.Test.YtaapnkoooofalaaQ16
import Derived.Test.YtaapnkoooofalaaQ18
import Derived.Test.YtaapnkoooofalaaQ13
import Derived.Test.YtaapnkoooofalaaQ05
import Derived.Test.YtaapnkoooofalaaQ21
import Derived.Deep.QuietTactic

namespace Go.Proofs.Ytaapnkoooofalaa.Do
open Go Go.RowKit Rw So Se
set_option maxRecDepth 20000
structure Nums (n g : Nat) (f : Nat → Nat) (w : World) : Prop where
  cell : ∀ j : Nat, j < n → w.cell? ⟨g, j, none⟩ = some (.int .i64 (f j : Int))
  soft : ∀ j : Nat, w.frozen? ⟨g, j, none⟩ = false
theorem Nums.below {n g M : Nat} {f : Nat → Nat} {w w' : World} (h : Nums n g f w) (hb : Below M w w') (hg : g < M) : Nums n g f w' :=
  ⟨fun j hj => by rw [hb.cell (p := ⟨g, j, none⟩) hg]; exact h.cell j hj, fun j => (World.frozen?_of_block (hb.block _ hg)).trans (h.soft j)⟩
def rv (n : Nat) (f : Nat → Nat) (k m : Nat) : Nat := if m < k ∨ n < m + k + 1 then f (n - 1 - m) else f m
theorem Nums.swap {n g : Nat} {f : Nat → Nat} {k : Nat} {w : World} (h : Nums n g (rv n f k) w) (hk : k + k + 1 < n) :
    Nums n g (rv n f (k + 1)) ((w.setCell ⟨g, k, none⟩ (.int .i64 (rv n f k (n - 1 - k) : Int))).setCell ⟨g, n - 1 - k, none⟩ (.int .i64 (rv n f k k : Int))) := by
  refine ⟨fun j hj => ?_, fun j => by rw [frozen_set, frozen_set]; exact h.soft j⟩
  by_cases e1 : j = n - 1 - k
  · subst e1
    rw [cell_set_eq (u := .int .i64 (rv n f k (n - 1 - k) : Int)) (by rw [cell_set_o (by omega)]; exact h.cell _ hj)]
    congr 3
    unfold rv
    rw [if_neg (by omega), if_pos (by omega)]
    congr 1
    omega
  · rw [cell_set_o (fun e => e1 e.symm)]
    by_cases e2 : j = k
    · subst e2
      rw [cell_set_eq (h.cell _ hj)]
      congr 3
      unfold rv
      rw [if_neg (by omega), if_pos (by omega)]
    · rw [cell_set_o (fun e => e2 e.symm), h.cell j hj]
      congr 3
      unfold rv
      by_cases e3 : j < k ∨ n < j + k + 1
      · rw [if_pos e3, if_pos (by omega)]
      · rw [if_neg e3, if_neg (by omega)]
theorem rev_empty (a : Option Addr) (c : Nat) (w : World) : Calls Try.prog 89 #[.slice a 0 c] w fun e w' => e = .returned (.tuple #[]) ∧ w' = w := by
  go_enter Try.func89, Try.ntmps89
  go_wp2_with fail
  refine Go.wp_loop_rounds 1 ?_
  rw [rounds_succ]
  go_wp2_with fail
  go_end0
  exact ⟨rfl, rfl⟩
set_option maxHeartbeats 4000000 in
theorem rev_any (g c n : Nat) (f : Nat → Nat) (w : World) (_hc : n ≤ c) (hn : 1 ≤ n) (hl : n ≤ 1000) (h : Nums n g f w) :
    Calls Try.prog 89 #[.slice (some ⟨g, 0, none⟩) n c] w fun e w' => e = .returned (.tuple #[]) ∧ Nums n g (fun m => f (n - 1 - m)) w' ∧ Below g w w' := by
  have H := Lib.hid h
  clear h
  go_enter Try.func89, Try.ntmps89
  go_wp2_with fail
  go_loopw [2, 3] (fun i j wr => ∃ k : Nat, k + k ≤ n ∧ i = .int .i64 k ∧ j = .int .i64 ((n : Int) - 1 - k) ∧ Hid (Below g w wr) ∧ Hid (Nums n g (rv n f k) wr)) (fun i _ _ => n - (intOf i).toNat)
  case atStart => exact ⟨0, by omega, rfl, by go_num, Lib.hid (Below.refl _ _), Lib.hid ⟨fun j hj => by rw [H.out.cell j hj]; congr 3; unfold rv; rw [if_neg (by omega)], H.out.soft⟩⟩
  case round =>
    obtain ⟨k, hk, rfl, rfl, HB, HS⟩ := hrel
    by_cases hlt : (k : Int) < (n : Int) - 1 - k
    · have hk2 : k + k + 1 < n := by omega
      obtain ⟨j, hj⟩ : ∃ j, n - 1 - k = j := ⟨_, rfl⟩
      have hj2 : (n : Int) - 1 - k = j := by omega
      have e1 := HS.out.cell k (by omega)
      have e2 := HS.out.cell j (by omega)
      have f1 := HS.out.soft k
      have f2 := HS.out.soft j
      have NW := Lib.hid (HS.out.swap hk2)
      rw [hj] at NW
      rw [hj2] at hlt ⊢
      have jn : (j : Int) < n := by omega
      have kn : (k : Int) < n := by omega
      generalize (rv n f k k : Int) = x at e1 NW
      generalize (rv n f k j : Int) = y at e2 NW
      have kj : (k : Int) ≠ j := by omega
      have ckj : wr.cell? ⟨g, k, none⟩ = some (.int .i64 x) := e1
      have HJ : Hid ((j : Int) = (n : Int) - 1 - k ∧ k + k + 1 < n) := Lib.hid ⟨hj2.symm, hk2⟩
      clear hj hj2 hk2
      go_wp2_with fail
      go_region
      go_wp2_with fail
      go_roundw
      case rel => exact ⟨k + 1, by have := HJ.out; omega, by go_num, by have := HJ.out; go_num, Lib.hid (Rx.below_setCell (Rx.below_setCell HB.out g _ _ (Nat.le_refl _)) g _ _ (Nat.le_refl _)).drew, Lib.hid ⟨NW.out.cell, NW.out.soft⟩⟩
      case measure => simp [intOf]; omega
    · have H2 : Hid (Nums n g (fun m => f (n - 1 - m)) wr) := Lib.hid ⟨fun j hj => by
        rw [HS.out.cell j hj]
        congr 3
        unfold rv
        split
        · rfl
        · congr 1
          omega, HS.out.soft⟩
      clear HS
      go_wp2_with fail
      go_end0
      exact ⟨rfl, H2.out, HB.out⟩
end Go.Proofs.Ytaapnkoooofalaa.Do

namespace Go.Proofs.Ytaapnkoooofalaa.Co
open Go Rw So Se Do Sp
def mo : Tm → Nat
  | .act _ => 1
  | .yield => 1
  | .alt a b => 1 + max (mo a) (mo b)
  | .pair a b => mo a + mo b + 1
  | .seq a b => mo a + mo b
  | .par a b => mo a + mo b
  | .hand a b => mo a + mo b
  | .going a b => mo a + mo b
  | .stack a b => mo a + mo b
  | .block a => mo a
  | .fin _ c => mo c
  | _ => 0
def le : Tm → Nat
  | .act _ => 1
  | .yield => 1
  | .alt a b => 1 + min (le a) (le b)
  | .pair a b => le a + le b + 1
  | .seq a b => le a + le b
  | .par a b => le a + le b
  | .hand a b => le a + le b
  | .going a b => le a + le b
  | .stack a b => le a + le b
  | .block a => le a
  | .fin _ c => le c
  | _ => 0
def ch (t : Tm) : Nat := ct (fun x => decide (x.k = 1) || decide (x.k = 4) || decide (x.k = 6) || decide (x.k = 10)) t
theorem plainC : Plain (fun x => decide (x.k = 1) || decide (x.k = 4) || decide (x.k = 6) || decide (x.k = 10)) := ⟨fun _ => rfl, fun _ => rfl, rfl, rfl, rfl, rfl, rfl⟩
theorem S_ch (t : Tm) : ch (S t) ≤ ch t := S_ct plainC t
theorem ch_two {t a b : Tm} {k : Int} (e : flat t = nOf k :: (flat a ++ flat b)) : ch t = ch a + ch b + (if k = 6 ∨ k = 10 ∨ k = 1 ∨ k = 4 then 1 else 0) := by
  unfold ch
  rw [ct_two e]
  congr 1
  show (if (decide (k = 1) || decide (k = 4) || decide (k = 6) || decide (k = 10)) = true then 1 else 0) = _
  by_cases h1 : k = 1 <;> by_cases h2 : k = 4 <;> by_cases h3 : k = 6 <;> by_cases h4 : k = 10 <;> simp [h1, h2, h3, h4]
theorem ch_seq (a b : Tm) : ch (.seq a b) = ch a + ch b := ch_two (k := 5) rfl
theorem ch_par (a b : Tm) : ch (.par a b) = ch a + ch b := ch_two (k := 7) rfl
theorem ch_hand (a b : Tm) : ch (.hand a b) = ch a + ch b := ch_two (k := 8) rfl
theorem ch_going (a b : Tm) : ch (.going a b) = ch a + ch b := ch_two (k := 12) rfl
theorem ch_stack (a b : Tm) : ch (.stack a b) = ch a + ch b := ch_two (k := 13) rfl
theorem ch_alt (a b : Tm) : ch (.alt a b) = ch a + ch b + 1 := ch_two (k := 6) rfl
theorem ch_pair (a b : Tm) : ch (.pair a b) = ch a + ch b + 1 := ch_two (k := 10) rfl
theorem ch_block (a : Tm) : ch (.block a) = ch a := by unfold ch; rw [ct_block]; rfl
theorem ch_fin (s : Int) (c : Tm) : ch (.fin s c) = ch c := by unfold ch; rw [ct_fin]; rfl
theorem ch_act (s : ByteArray) : ch (.act s) = 1 := rfl
theorem ch_yield : ch .yield = 1 := rfl
theorem ch_over (s : Int) : ch (.over s) = 0 := rfl
theorem ch_skip : ch .skip = 0 := rfl
theorem mv_ch : ∀ (t : Tm) (d : Bool) (i : Nat), ∀ m ∈ mvs d t i, ch m.r < ch t := by
  refine mv_ind (P := fun t m => ch m.r < ch t) ?_ ?_ ?_ ?_ ?_ ?_ ?_ ?_ ?_ ?_ ?_ ?_ ?_ ?_
  all_goals intros
  all_goals simp only [upm, ch_seq, ch_par, ch_hand, ch_going, ch_stack, ch_alt, ch_pair, ch_block, ch_fin, ch_act, ch_yield, ch_over, ch_skip] at *
  all_goals omega
end Go.Proofs.Ytaapnkoooofalaa.Co

namespace Go.Proofs.Ytaapnkoooofalaa.Do
open Go Rw So Se
def pth : Tm → Nat → Nat → List Tm × Bool
  | .par a b, i, p => if i = p then ([], false) else if p < i + 1 + sz a then (if (pth a (i + 1) p).2 then pth a (i + 1) p else ((pth a (i + 1) p).1 ++ [b], false)) else (if (pth b (i + 1 + sz a) p).2 then pth b (i + 1 + sz a) p else ((pth b (i + 1 + sz a) p).1 ++ [a], false))
  | .block a, i, p => if i = p then ([], false) else ((pth a (i + 1) p).1, true)
  | .seq a b, i, p => if i = p then ([], false) else if p < i + 1 + sz a then pth a (i + 1) p else pth b (i + 1 + sz a) p
  | .alt a b, i, p => if i = p then ([], false) else if p < i + 1 + sz a then pth a (i + 1) p else pth b (i + 1 + sz a) p
  | .hand a b, i, p => if i = p then ([], false) else if p < i + 1 + sz a then pth a (i + 1) p else pth b (i + 1 + sz a) p
  | .pair a b, i, p => if i = p then ([], false) else if p < i + 1 + sz a then pth a (i + 1) p else pth b (i + 1 + sz a) p
  | .going a b, i, p => if i = p then ([], false) else if p < i + 1 + sz a then pth a (i + 1) p else pth b (i + 1 + sz a) p
  | .stack a b, i, p => if i = p then ([], false) else if p < i + 1 + sz a then pth a (i + 1) p else pth b (i + 1 + sz a) p
  | .fin _ c, i, p => if i = p then ([], false) else pth c (i + 1) p
  | _, _, _ => ([], false)
end Go.Proofs.Ytaapnkoooofalaa.Do

namespace Go.Proofs.Ytaapnkoooofalaa.Se
open Go Go.RowKit Rw So
set_option maxRecDepth 20000
theorem nds_new (w : World) (l : List Nd) (ty : TypeId) : Nds (w.alloc (.cells (cls l).toArray ty)) (.slice (some ⟨w.heap.size, 0, none⟩) l.length l.length) l := by
  refine ⟨cls_len l, some ⟨w.heap.size, 0, none⟩, l.length, rfl, Nat.le_refl _, fun h => (by cases h), fun _ => ⟨w.heap.size, 0, rfl, fun j u hu => ?_⟩⟩
  rw [Nat.zero_add, World.cell?_alloc_new]
  simpa using hu
def OutN' (n : Nat) (l : List Nd) (w : World) (e : Ending) (w' : World) : Prop := ∃ a c, e = .returned (.slice a n c) ∧ Nds w' (.slice a n c) l ∧ Below w.heap.size w w'
theorem OutL.n {n : Nat} {l : List Nd} {w w' : World} {e : Ending} (hn : l.length = n) (h : OutL l w e w') : OutN' n l w e w' := by
  obtain ⟨y, rfl, hy, hb⟩ := h
  obtain ⟨_, a, c, rfl, -⟩ := id hy
  rw [hn] at hy ⊢
  exact ⟨a, c, rfl, hy, hb⟩
end Go.Proofs.Ytaapnkoooofalaa.Se

namespace Go.Proofs.Ytaapnkoooofalaa.Do
open Go Rw So Se
noncomputable def setB (l : List Nd) : Bool := decide (0 < l.length) && sameN (st l) l
theorem set_iff {l : List Nd} : setB l = true ↔ ∃ t, flat t = l ∧ Goes t ∧ Nf t := by
  unfold setB sameN
  rw [Bool.and_eq_true, decide_eq_true_eq, decide_eq_true_eq]
  constructor
  · rintro ⟨h0, h⟩
    have hn : st l ≠ [] := fun e => by rw [e] at h; rw [← h] at h0; simp at h0
    obtain ⟨t, rfl, hg, e⟩ := st_some hn
    rw [e] at h
    have := flat_inj _ _ h
    exact ⟨t, rfl, hg, by rw [← this]; exact S_nf t⟩
  · rintro ⟨t, rfl, hg, hn⟩
    exact ⟨by rw [Se.flat_len]; exact sz_pos t, by rw [st_go hg, nf_S t hn]⟩
theorem set_go {t : Tm} (hg : Goes t) : setB (flat t) = true ↔ Nf t := by
  rw [set_iff]
  constructor
  · rintro ⟨u, e, _, h⟩
    rw [← flat_inj _ _ e]; exact h
  · intro h; exact ⟨t, rfl, hg, h⟩
noncomputable def av (l : List Nd) : List Int := if h : setB l = true then (wt (set_iff.1 h).choose 0).map Int.ofNat else []
theorem av_go {t : Tm} (hg : Goes t) (hn : Nf t) : av (flat t) = (wt t 0).map Int.ofNat := by
  have h : setB (flat t) = true := (set_go hg).2 hn
  unfold av
  rw [dif_pos h, flat_inj _ _ (set_iff.1 h).choose_spec.1]
theorem av_no {l : List Nd} (h : setB l = false) : av l = [] := dif_neg (by rw [h]; simp)
noncomputable def dm (l : List Nd) : Bool := if h : setB l = true then bangT (set_iff.1 h).choose else false
theorem dm_go {t : Tm} (hg : Goes t) (hn : Nf t) : dm (flat t) = bangT t := by
  have h : setB (flat t) = true := (set_go hg).2 hn
  unfold dm
  rw [dif_pos h, flat_inj _ _ (set_iff.1 h).choose_spec.1]
theorem dm_no {l : List Nd} (h : setB l = false) : dm l = false := dif_neg (by rw [h]; simp)
noncomputable def bs (l : List Nd) (p : Int) : List (List Nd) := if h : setB l = true ∧ p ∈ av l then (pth (set_iff.1 h.1).choose 0 p.toNat).1.map flat else []
noncomputable def fr (l : List Nd) (p : Int) : Bool := if h : setB l = true ∧ p ∈ av l then (!(pth (set_iff.1 h.1).choose 0 p.toNat).2) || (pth (set_iff.1 h.1).choose 0 p.toNat).1.any bangT else false
theorem mem_av {t : Tm} (hg : Goes t) (hn : Nf t) {p : Int} : p ∈ av (flat t) ↔ ∃ k ∈ wt t 0, p = (k : Int) := by
  rw [av_go hg hn, List.mem_map]
  exact ⟨fun ⟨k, h, e⟩ => ⟨k, h, e.symm⟩, fun ⟨k, h, e⟩ => ⟨k, h, e.symm⟩⟩
theorem bs_go {t : Tm} (hg : Goes t) (hn : Nf t) {k : Nat} (hk : k ∈ wt t 0) : bs (flat t) (k : Int) = (pth t 0 k).1.map flat := by
  have h : setB (flat t) = true ∧ (k : Int) ∈ av (flat t) := ⟨(set_go hg).2 hn, (mem_av hg hn).2 ⟨k, hk, rfl⟩⟩
  unfold bs
  rw [dif_pos h, flat_inj _ _ (set_iff.1 h.1).choose_spec.1]
  rfl
theorem fr_go {t : Tm} (hg : Goes t) (hn : Nf t) {k : Nat} (hk : k ∈ wt t 0) : fr (flat t) (k : Int) = ((!(pth t 0 k).2) || (pth t 0 k).1.any bangT) := by
  have h : setB (flat t) = true ∧ (k : Int) ∈ av (flat t) := ⟨(set_go hg).2 hn, (mem_av hg hn).2 ⟨k, hk, rfl⟩⟩
  unfold fr
  rw [dif_pos h, flat_inj _ _ (set_iff.1 h.1).choose_spec.1]
  rfl
theorem bs_no {l : List Nd} {p : Int} (h : p ∉ av l) : bs l p = [] := dif_neg fun k => h k.2
theorem fr_no {l : List Nd} {p : Int} (h : p ∉ av l) : fr l p = false := dif_neg fun k => h k.2
theorem pth_goes : ∀ (t : Tm) (i p : Nat), p ∈ wt t i → Goes t → Nf t → ∀ u ∈ (pth t i p).1, Goes u ∧ Nf u := by
  intro t
  induction t with
  | act s => intro i p _ _ _ u hu; simp [pth] at hu
  | skip => intro i p h; simp [wt] at h
  | throw => intro i p h; simp [wt] at h
  | yield => intro i p _ _ _ u hu; simp [pth] at hu
  | over s => intro i p h; simp [wt] at h
  | fin s c ic => intro i p h; simp [wt] at h
  | alt a b ia ib => intro i p h _ _ u hu; simp only [wt, List.mem_singleton] at h; subst h; simp [pth] at hu
  | pair a b ia ib => intro i p h _ _ u hu; simp only [wt, List.mem_singleton] at h; subst h; simp [pth] at hu
  | block a ia =>
    intro i p h hg hn u hu
    have hin := wt_in a _ _ h
    obtain ⟨g1, g2, g3⟩ := hg
    rw [rg_block] at g1
    simp only [sz] at g2
    simp [is] at g3
    rw [pth, if_neg (by omega)] at hu
    exact ia _ _ h ⟨g1, by omega, .inr g3⟩ hn.1 u hu
  | seq a b ia ib =>
    intro i p h hg hn u hu
    have hin := wt_in a _ _ h
    obtain ⟨g1, g2, g3⟩ := hg
    rw [rg_seq, Bool.and_eq_true] at g1
    simp only [sz] at g2
    simp [is] at g3
    rw [pth, if_neg (by omega), if_pos hin.2] at hu
    exact ia _ _ h ⟨g1.1, by omega, g3.imp (·.1) (·.1)⟩ hn.1 u hu
  | hand a b ia ib =>
    intro i p h hg hn u hu
    have hin := wt_in a _ _ h
    obtain ⟨g1, g2, g3⟩ := hg
    rw [rg_hand, Bool.and_eq_true] at g1
    simp only [sz] at g2
    simp [is] at g3
    rw [pth, if_neg (by omega), if_pos hin.2] at hu
    exact ia _ _ h ⟨g1.1, by omega, .inl g3.1⟩ hn.1 u hu
  | going a b ia ib =>
    intro i p h hg hn u hu
    have hin := wt_in a _ _ h
    obtain ⟨g1, g2, g3⟩ := hg
    rw [rg_going, Bool.and_eq_true] at g1
    simp only [sz] at g2
    simp [is] at g3
    rw [pth, if_neg (by omega), if_pos hin.2] at hu
    exact ia _ _ h ⟨g1.1, by omega, .inl g3.1⟩ hn.1 u hu
  | stack a b ia ib =>
    intro i p h hg hn u hu
    have hin := wt_in a _ _ h
    obtain ⟨g1, g2, g3⟩ := hg
    rw [rg_stack, Bool.and_eq_true] at g1
    simp only [sz] at g2
    simp [is] at g3
    rw [pth, if_neg (by omega), if_pos hin.2] at hu
    exact ia _ _ h ⟨g1.1, by omega, .inr g3.1⟩ hn.1 u hu
  | par a b ia ib =>
    intro i p h hg hn u hu
    obtain ⟨g1, g2, g3⟩ := hg
    rw [rg_par, Bool.and_eq_true] at g1
    simp only [sz] at g2
    have ga : Goes a := ⟨g1.1, by omega, by simp [is] at g3; exact g3.imp (·.1) (·.1)⟩
    have gb : Goes b := ⟨g1.2, by omega, by simp [is] at g3; exact g3.imp (·.2) (·.2)⟩
    rcases List.mem_append.1 h with h | h
    · have hin := wt_in a _ _ h
      rw [pth, if_neg (by omega), if_pos hin.2] at hu
      split at hu
      · exact ia _ _ h ga hn.1 u hu
      · rcases List.mem_append.1 hu with hu | hu
        · exact ia _ _ h ga hn.1 u hu
        · rw [List.mem_singleton] at hu; subst hu; exact ⟨gb, hn.2.1⟩
    · have hin := wt_in b _ _ h
      rw [pth, if_neg (by omega), if_neg (by omega)] at hu
      split at hu
      · exact ib _ _ h gb hn.2.1 u hu
      · rcases List.mem_append.1 hu with hu | hu
        · exact ib _ _ h gb hn.2.1 u hu
        · rw [List.mem_singleton] at hu; subst hu; exact ⟨ga, hn.1⟩
theorem wt_few : ∀ (t : Tm) (i : Nat), (wt t i).length ≤ sz t := by
  intro t
  induction t with
  | par a b ia ib => intro i; simp only [wt, List.length_append, sz]; have := ia (i + 1); have := ib (i + 1 + sz a); omega
  | seq a b ia ib => intro i; simp only [wt, sz]; have := ia (i + 1); omega
  | hand a b ia ib => intro i; simp only [wt, sz]; have := ia (i + 1); omega
  | going a b ia ib => intro i; simp only [wt, sz]; have := ia (i + 1); omega
  | stack a b ia ib => intro i; simp only [wt, sz]; have := ia (i + 1); omega
  | block a ia => intro i; simp only [wt, sz]; have := ia (i + 1); omega
  | _ => intro i; simp [wt, sz]
theorem av_len (l : List Nd) : (av l).length ≤ l.length := by
  cases h : setB l with
  | false => rw [av_no h]; exact Nat.zero_le _
  | true =>
    obtain ⟨t, rfl, hg, hn⟩ := set_iff.1 h
    rw [av_go hg hn, List.length_map, Se.flat_len]
    exact wt_few t 0
theorem av_in {l : List Nd} {p : Int} (h : p ∈ av l) : 0 ≤ p ∧ p < l.length := by
  cases hs : setB l with
  | false => rw [av_no hs] at h; cases h
  | true =>
    obtain ⟨t, rfl, hg, hn⟩ := set_iff.1 hs
    obtain ⟨k, hk, rfl⟩ := (mem_av hg hn).1 h
    have := wt_in t 0 k hk
    rw [Se.flat_len]
    omega
end Go.Proofs.Ytaapnkoooofalaa.Do

namespace Go.Proofs.Ytaapnkoooofalaa.Sp
open Go Rw So Se Tr Mn Do
def kat (t : Tm) (i p : Nat) : Int := match (flat t)[p - i]? with | some x => x.k | none => 0
def freeAt (d : Bool) (t : Tm) (i p : Nat) : Bool := (!(pth t i p).2 && d) || (pth t i p).1.any bangT
def hows (k : Int) (f : Bool) (p : Nat) : List (Nat × Int) :=
  if k = 1 then [(p, 1)] else if k = 6 then [(p, 2), (p, 3)] else (p, 4) :: if f then [(p, 5)] else []
def en (d : Bool) (t : Tm) (i : Nat) : List (Nat × Int) := (wt t i).flatMap fun p => hows (kat t i p) (freeAt d t i p) p
theorem kat_l {t a : Tm} {n : Nd} {x : List Nd} (e : flat t = n :: (flat a ++ x)) {i p : Nat} (h1 : i + 1 ≤ p) (h2 : p < i + 1 + sz a) : kat t i p = kat a (i + 1) p := by
  unfold kat
  rw [e, show p - i = (p - (i + 1)) + 1 by omega, List.getElem?_cons_succ, List.getElem?_append_left (by rw [Se.flat_len]; omega)]
theorem kat_r {t a b : Tm} {n : Nd} (e : flat t = n :: (flat a ++ flat b)) {i p : Nat} (h1 : i + 1 + sz a ≤ p) : kat t i p = kat b (i + 1 + sz a) p := by
  unfold kat
  rw [e, show p - i = (p - (i + 1)) + 1 by omega, List.getElem?_cons_succ, List.getElem?_append_right (by rw [Se.flat_len]; omega), Se.flat_len, show p - (i + 1) - sz a = p - (i + 1 + sz a) by omega]
theorem kat_1 {t a : Tm} {n : Nd} (e : flat t = n :: flat a) {i p : Nat} (h1 : i + 1 ≤ p) (h2 : p < i + 1 + sz a) : kat t i p = kat a (i + 1) p :=
  kat_l (x := []) (by rw [e, List.append_nil]) h1 h2
theorem en_ctx {t a : Tm} {d d' : Bool} {i j : Nat} (h : ∀ p ∈ wt a j, kat t i p = kat a j p ∧ freeAt d t i p = freeAt d' a j p) :
    (wt a j).flatMap (fun p => hows (kat t i p) (freeAt d t i p) p) = en d' a j := by
  unfold en
  have : ∀ l : List Nat, (∀ p ∈ l, kat t i p = kat a j p ∧ freeAt d t i p = freeAt d' a j p) → l.flatMap (fun p => hows (kat t i p) (freeAt d t i p) p) = l.flatMap (fun p => hows (kat a j p) (freeAt d' a j p) p) := by
    intro l
    induction l with
    | nil => intro _; rfl
    | cons p l ih =>
      intro h
      rw [List.flatMap_cons, List.flatMap_cons, ih fun q hq => h q (List.mem_cons_of_mem _ hq), (h p List.mem_cons_self).1, (h p List.mem_cons_self).2]
  exact this _ h
theorem kat_0 {t : Tm} {n : Nd} {x : List Nd} (e : flat t = n :: x) (i : Nat) : kat t i i = n.k := by
  unfold kat
  rw [e, Nat.sub_self]
  rfl
theorem up_ph (f : Tm → Tm) (l : List Mo) : (l.map (upm f)).map (fun m => (m.p, m.h)) = l.map (fun m => (m.p, m.h)) := by
  rw [List.map_map]
  rfl
theorem en_mvs : ∀ (t : Tm) (d : Bool) (i : Nat), (mvs d t i).map (fun m => (m.p, m.h)) = en d t i := by
  have one : ∀ {t a : Tm} {x : List Nd} {n : Nd} (e : flat t = n :: (flat a ++ x)) (f : Tm → Tm) (d : Bool) (i : Nat), mvs d t i = (mvs d a (i + 1)).map (upm f) → wt t i = wt a (i + 1) →
      (∀ p, i + 1 ≤ p → p < i + 1 + sz a → pth t i p = pth a (i + 1) p) → (mvs d a (i + 1)).map (fun m => (m.p, m.h)) = en d a (i + 1) → (mvs d t i).map (fun m => (m.p, m.h)) = en d t i := by
    intro t a x n e f d i h1 h2 h3 ih
    rw [h1, up_ph, ih]
    unfold en
    rw [h2]
    refine (en_ctx fun p hp => ?_).symm
    have hin := wt_in a _ p hp
    refine ⟨kat_l e hin.1 hin.2, ?_⟩
    unfold freeAt
    rw [h3 p hin.1 hin.2]
  intro t
  induction t with
  | act s => intro d i; simp only [mvs, en, wt, List.flatMap_cons, List.flatMap_nil, kat_0 (t := .act s) rfl]; rfl
  | alt a b => intro d i; simp only [mvs, en, wt, List.flatMap_cons, List.flatMap_nil, kat_0 (t := .alt a b) rfl]; rfl
  | yield =>
    intro d i
    have hf : freeAt d .yield i i = d := by simp [freeAt, pth]
    simp only [mvs, en, wt, List.flatMap_cons, List.flatMap_nil, kat_0 (t := .yield) rfl, hf]
    cases d <;> rfl
  | pair a b =>
    intro d i
    have hf : freeAt d (.pair a b) i i = d := by simp [freeAt, pth]
    simp only [mvs, en, wt, List.flatMap_cons, List.flatMap_nil, kat_0 (t := .pair a b) rfl, hf]
    cases d <;> rfl
  | seq a b ia ib => intro d i; exact one (t := .seq a b) rfl _ d i rfl rfl (fun p h1 h2 => by rw [pth, if_neg (by omega), if_pos h2]) (ia d (i + 1))
  | hand a b ia ib => intro d i; exact one (t := .hand a b) rfl _ d i rfl rfl (fun p h1 h2 => by rw [pth, if_neg (by omega), if_pos h2]) (ia d (i + 1))
  | going a b ia ib => intro d i; exact one (t := .going a b) rfl _ d i rfl rfl (fun p h1 h2 => by rw [pth, if_neg (by omega), if_pos h2]) (ia d (i + 1))
  | stack a b ia ib => intro d i; exact one (t := .stack a b) rfl _ d i rfl rfl (fun p h1 h2 => by rw [pth, if_neg (by omega), if_pos h2]) (ia d (i + 1))
  | block a ia =>
    intro d i
    show ((mvs false a (i + 1)).map (upm .block)).map (fun m => (m.p, m.h)) = _
    rw [up_ph, ia false (i + 1)]
    refine (en_ctx (t := .block a) (d := d) (i := i) fun p hp => ?_).symm
    have hin := wt_in a _ p hp
    refine ⟨kat_1 (t := .block a) rfl hin.1 hin.2, ?_⟩
    unfold freeAt
    rw [pth, if_neg (by omega)]
    simp
  | par a b ia ib =>
    intro d i
    show ((mvs (d || bangT b) a (i + 1)).map (upm (.par · b)) ++ (mvs (d || bangT a) b (i + 1 + sz a)).map (upm (.par a ·))).map (fun m => (m.p, m.h)) = _
    rw [List.map_append, up_ph, up_ph, ia, ib]
    unfold en
    rw [show wt (.par a b) i = wt a (i + 1) ++ wt b (i + 1 + sz a) from rfl, List.flatMap_append]
    have e1 := en_ctx (t := .par a b) (a := a) (d := d) (d' := d || bangT b) (i := i) (j := i + 1) fun p hp => by
      have hin := wt_in a _ p hp
      refine ⟨kat_l (t := .par a b) rfl hin.1 hin.2, ?_⟩
      unfold freeAt
      rw [pth, if_neg (by omega), if_pos hin.2]
      obtain ⟨o, ins⟩ := pth a (i + 1) p
      cases ins <;> simp
      cases d <;> cases bangT b <;> simp
    have e2 := en_ctx (t := .par a b) (a := b) (d := d) (d' := d || bangT a) (i := i) (j := i + 1 + sz a) fun p hp => by
      have hin := wt_in b _ p hp
      refine ⟨kat_r (t := .par a b) rfl hin.1, ?_⟩
      unfold freeAt
      rw [pth, if_neg (by omega), if_neg (by omega)]
      obtain ⟨o, ins⟩ := pth b (i + 1 + sz a) p
      cases ins <;> simp
      cases d <;> cases bangT a <;> simp
    rw [e1, e2]
    rfl
  | _ => intro d i; rfl
inductive Made : Tm → Int → Option ByteArray → Tm → Prop
  | act (s) : Made (.act s) 1 (some s) (.over 1)
  | altl (a b) : Made (.alt a b) 2 none a
  | altr (a b) : Made (.alt a b) 3 none b
  | yieldg : Made .yield 4 none (.over 1)
  | yields : Made .yield 5 none (.over 3)
  | pairg (a b) : Made (.pair a b) 4 none (.going a b)
  | pairs (a b) : Made (.pair a b) 5 none (.fin 3 .skip)
theorem mv_put : ∀ (t : Tm) (d : Bool) (i : Nat), ∀ m ∈ mvs d t i, ∃ pre s post u, flat t = pre ++ (flat s ++ post) ∧ m.p = i + pre.length ∧ flat m.r = pre ++ (flat u ++ post) ∧ Made s m.h m.l u := by
  have here : ∀ {t : Tm} {m : Mo} {i : Nat}, m.p = i → Made t m.h m.l m.r → ∃ pre s post u, flat t = pre ++ (flat s ++ post) ∧ m.p = i + pre.length ∧ flat m.r = pre ++ (flat u ++ post) ∧ Made s m.h m.l u :=
    fun {t m i} h k => ⟨[], t, [], m.r, by simp, by simp [h], by simp, k⟩
  have down : ∀ {a : Tm} {m : Mo} {i : Nat} (f : Tm → Tm) (n x : List Nd), (∀ c, flat (f c) = n ++ (flat c ++ x)) → (∃ pre s post u, flat a = pre ++ (flat s ++ post) ∧ m.p = (i + n.length) + pre.length ∧ flat m.r = pre ++ (flat u ++ post) ∧ Made s m.h m.l u) →
      ∃ pre s post u, flat (f a) = pre ++ (flat s ++ post) ∧ (upm f m).p = i + pre.length ∧ flat (upm f m).r = pre ++ (flat u ++ post) ∧ Made s (upm f m).h (upm f m).l u := by
    rintro a m i f n x hf ⟨pre, s, post, u, h1, h2, h3, h4⟩
    refine ⟨n ++ pre, s, post ++ x, u, by rw [hf, h1]; simp, ?_, ?_, h4⟩
    · show m.p = _
      rw [h2, List.length_append]
      omega
    · show flat (f m.r) = _
      rw [hf, h3]
      simp
  intro t
  induction t with
  | act s => intro d i m hm; simp only [mvs, List.mem_singleton] at hm; subst hm; exact here rfl (.act s)
  | alt a b =>
    intro d i m hm
    simp only [mvs, List.mem_cons, List.not_mem_nil, or_false] at hm
    rcases hm with rfl | rfl
    · exact here rfl (.altl a b)
    · exact here rfl (.altr a b)
  | yield =>
    intro d i m hm
    cases d <;> simp [mvs] at hm
    · subst hm; exact here rfl .yieldg
    · rcases hm with rfl | rfl
      · exact here rfl .yieldg
      · exact here rfl .yields
  | pair a b =>
    intro d i m hm
    cases d <;> simp [mvs] at hm
    · subst hm; exact here rfl (.pairg a b)
    · rcases hm with rfl | rfl
      · exact here rfl (.pairg a b)
      · exact here rfl (.pairs a b)
  | seq a b ia ib => intro d i m hm; obtain ⟨n, hn, rfl⟩ := List.mem_map.1 hm; exact down (.seq · b) [nOf 5] (flat b) (fun _ => rfl) (ia _ _ n hn)
  | hand a b ia ib => intro d i m hm; obtain ⟨n, hn, rfl⟩ := List.mem_map.1 hm; exact down (.hand · b) [nOf 8] (flat b) (fun _ => rfl) (ia _ _ n hn)
  | going a b ia ib => intro d i m hm; obtain ⟨n, hn, rfl⟩ := List.mem_map.1 hm; exact down (.going · b) [nOf 12] (flat b) (fun _ => rfl) (ia _ _ n hn)
  | stack a b ia ib => intro d i m hm; obtain ⟨n, hn, rfl⟩ := List.mem_map.1 hm; exact down (.stack · b) [nOf 13] (flat b) (fun _ => rfl) (ia _ _ n hn)
  | block a ia => intro d i m hm; obtain ⟨n, hn, rfl⟩ := List.mem_map.1 hm; exact down .block [nOf 9] [] (fun _ => by simp [flat]) (ia _ _ n hn)
  | par a b ia ib =>
    intro d i m hm
    rcases List.mem_append.1 hm with hm | hm
    · obtain ⟨n, hn, rfl⟩ := List.mem_map.1 hm; exact down (.par · b) [nOf 7] (flat b) (fun _ => rfl) (ia _ _ n hn)
    · obtain ⟨n, hn, rfl⟩ := List.mem_map.1 hm
      refine down (.par a ·) (nOf 7 :: flat a) [] (fun _ => by simp [flat]) ?_
      have := ib _ _ n hn
      rw [List.length_cons, Se.flat_len, show i + (sz a + 1) = i + 1 + sz a by omega]
      exact this
  | _ => intro d i m hm; exact absurd hm (by simp [mvs])
end Go.Proofs.Ytaapnkoooofalaa.Sp

namespace Go.Proofs.Ytaapnkoooofalaa.Do
open Go Go.RowKit Rw So Se
set_option maxRecDepth 20000
theorem infoInt : (Try.prog.info? 3).map (fun i => (i.zero, i.size, i.bytes)) = some (some (.int .i64 0), 1, 8) := by kernel_rfl
def GotJ (base : Nat) (w : World) (v : Value) (l : List Int) : Prop := w.ownsRow base 3 1 v l.length (l.map (.int .i64)) ∧ base ≤ w.heap.size
theorem GotJ.ints {base : Nat} {w : World} {v : Value} {l : List Int} (h : GotJ base w v l) : Ints w v l := Ap.Rd.owned h.1
theorem GotJ.start (base : Nat) (w : World) (hb : base ≤ w.heap.size) : GotJ base w (.slice none 0 0) [] := ⟨⟨rfl, .inl ⟨rfl, rfl⟩⟩, hb⟩
theorem GotJ.below {base : Nat} {w w' : World} {v : Value} {l : List Int} (h : GotJ base w v l) (hb : Below w.heap.size w w') : GotJ base w' v l := ⟨Ap.own_below h.1 hb, Nat.le_trans h.2 hb.size⟩
theorem GotJ.slice {base : Nat} {w : World} {v : Value} {l : List Int} (h : GotJ base w v l) : ∃ a c, v = .slice a l.length c := by
  obtain ⟨_, a, c, e, -⟩ := h.ints
  exact ⟨a, c, e⟩
theorem GotJ.row {base : Nat} {w : World} {v y : Value} {l m : List Int} (h : GotJ base w v l) (hy : Ints w y m) (hl : l.length + m.length ≤ 2000000) :
    ∃ v' w', (Builtin.append_ #[51, 51] 51 #[v, y]).run Try.prog w = .ok v' w' ∧ GotJ base w' v' (l ++ m) ∧ Below base w w' := by
  obtain ⟨i0, hi, hz, hs1, hb8⟩ := info_parts infoInt
  obtain ⟨v', w', h1, h2, _, h4, _⟩ := Ap.run_append_rd (P := Try.prog) (ty := 51) Try.underlying51 hi hz hs1 hb8 (by rfl) (by omega) h.1 h.2 hy
    (by intro u hu; obtain ⟨x, _, rfl⟩ := List.mem_map.1 hu; rfl) (by unfold maxLen; omega) (by omega)
  exact ⟨v', w', h1, ⟨by rw [List.length_append, List.map_append]; exact h2, Nat.le_trans h.2 h4.size⟩, h4⟩
theorem int_new (w : World) (x : Int) (ty : TypeId) : Ints (w.alloc (.cells #[.int .i64 x] ty)) (.slice (some ⟨w.heap.size, 0, none⟩) 1 1) [x] := by
  refine ⟨rfl, some ⟨w.heap.size, 0, none⟩, 1, rfl, Nat.le_refl _, fun h => (by cases h), fun _ => ⟨w.heap.size, 0, rfl, fun j u hu => ?_⟩⟩
  rw [Nat.zero_add, World.cell?_alloc_new]
  simpa using hu
theorem ints_nil (w : World) : Ints w (.slice none 0 0) [] := ⟨rfl, none, 0, rfl, Nat.le_refl _, fun _ => ⟨rfl, rfl⟩, fun h => absurd h (Nat.lt_irrefl 0)⟩
theorem AtI.below {w w' : World} {b off : Nat} {l : List Int} (h : AtI w b off l) (hb : Below w.heap.size w w') : AtI w' b off l := fun k hk => by
  rw [hb.cell (Ap.cell_lt (h k hk))]
  exact h k hk
end Go.Proofs.Ytaapnkoooofalaa.Do
