/- Trees, their kids; what the walks of sorts need. The program's Size and Depth: the walk of measure. What the program's package row is asked to do, as contracts of its calls; and the statements' own first look at it, walked from them. Where the nodes of a tree stand: plain. Which nodes are above any one, how many leaves come ahead of it; no two at one point, all within the box. The document's plain, paired, plainOn, pairedOn and Is, walked kind by kind. The program's Depth. The statements' own first look at package row, from its contracts. Where the nodes of a tree stand: plain. The node above, no two at one point, all within the box, trees below and beside one another. The document's Is, Of, On and Right. Plain: the sorts kind by kind; terms have no node of what goes on, and what goes on has one. The nodes above, and how many trees each is still to have: plain. Plain: the sorts of kids, of blocks, of what is made of two. What may be refused: plain. Rows of which some actions are put in an Alt with a Throw; places; what is stripped. What may be refused: plain. Places, marks; all names of some; all marks are the whole rewritten. -/
import Derived.Test.YtlipkhmidgogdaaQ04
import Derived.Test.YtlipkhmidgogdaaQ01

namespace Go.Proofs.Ytlipkhmidgogdaa.So
open Go Go.RowKit Go.Proofs.Ytlipkhmidgogdaa.Rw
set_option maxRecDepth 20000

/-- Just one tree. -/
def Tre (l : List Nd) : Prop := ∃ d, T l = some (l.length, d)
theorem Tre.pos {l : List Nd} (h : Tre l) : 0 < l.length := by
  obtain ⟨d, h⟩ := h
  exact (T_bd h).1
theorem Tre.size {l : List Nd} (h : Tre l) : Rw.size l = l.length := by
  obtain ⟨d, h⟩ := h
  unfold Rw.size
  rw [h]
theorem Tre.of_size {l : List Nd} (h : Rw.size l = l.length) (h0 : l ≠ []) : Tre l := by
  unfold Rw.size at h
  cases ht : T l with
  | none =>
    rw [ht] at h
    exact absurd (List.eq_nil_of_length_eq_zero h.symm) h0
  | some x =>
    rw [ht] at h
    obtain ⟨c, d⟩ := x
    simp only at h
    exact ⟨d, by rw [ht, h]⟩
theorem Tre.of_head {l : List Nd} {c d : Nat} (h : T l = some (c, d)) : Tre (l.take c) := by
  have hh := T_head h
  have hb := T_bd h
  exact ⟨d, by rw [hh, List.length_take, Nat.min_eq_left hb.2.1]⟩
theorem kidsN_tre : ∀ (j : Nat) (r : List Nd) (c d : Nat), S j r = some (c, d) → ∀ t ∈ kidsN j r, Tre t
  | 0, _, _, _, _, t, ht => by cases ht
  | j + 1, r, c, d, h, t, ht => by
    rw [S_succ] at h
    cases hj : S j r with
    | none => rw [hj] at h; cases h
    | some x =>
      obtain ⟨c1, d1⟩ := x
      rw [hj] at h
      simp only at h
      cases hx : T (r.drop c1) with
      | none => rw [hx] at h; cases h
      | some y =>
        obtain ⟨c2, d2⟩ := y
        rw [kidsN, hj, List.mem_append, List.mem_singleton] at ht
        rcases ht with ht | ht
        · exact kidsN_tre j r c1 d1 hj t ht
        · rw [ht]
          simp only [Option.getD_some]
          have hs : Rw.size (r.drop c1) = c2 := by unfold Rw.size; rw [hx]
          rw [hs]
          exact Tre.of_head hx
theorem Tre.ar {l : List Nd} (h : Tre l) : 0 ≤ Rw.ar (hd l) := by
  obtain ⟨d, h⟩ := h
  cases l with
  | nil => rw [T_nil] at h; cases h
  | cons n r =>
    rw [T_cons] at h
    split at h
    · cases h
    · rename_i hk
      show 0 ≤ Rw.ar n.k
      omega
theorem Tre.kids {l : List Nd} (h : Tre l) : (Rw.kids l).length = (Rw.ar (hd l)).toNat ∧ ∀ t ∈ Rw.kids l, Tre t := by
  have hs : Rw.size l ≠ 0 := by rw [h.size]; have := h.pos; omega
  have ha := h.ar
  obtain ⟨d, h⟩ := h
  cases l with
  | nil => rw [T_nil] at h; cases h
  | cons n r =>
    unfold Rw.kids
    rw [if_neg hs]
    refine ⟨kidsN_len _ _, ?_⟩
    rw [T_cons] at h
    split at h
    · cases h
    · cases hj : S (Rw.ar n.k).toNat r with
      | none => rw [hj] at h; cases h
      | some x => exact kidsN_tre _ r x.1 x.2 hj
theorem Tre.two {l : List Nd} (h : Tre l) (h2 : Rw.ar (hd l) = 2) : ∃ a b, Rw.kids l = [a, b] ∧ Tre a ∧ Tre b ∧ a.length < l.length ∧ b.length < l.length := by
  obtain ⟨hl, ht⟩ := h.kids
  rw [h2] at hl
  match hk : Rw.kids l, hl with
  | [a, b], _ =>
    have ha : a ∈ Rw.kids l := by rw [hk]; simp
    have hb : b ∈ Rw.kids l := by rw [hk]; simp
    exact ⟨a, b, rfl, ht a ha, ht b hb, kids_short ha, kids_short hb⟩
theorem Tre.one {l : List Nd} (h : Tre l) (h1 : Rw.ar (hd l) = 1) : ∃ a, Rw.kids l = [a] ∧ Tre a ∧ a.length < l.length := by
  obtain ⟨hl, ht⟩ := h.kids
  rw [h1] at hl
  match hk : Rw.kids l, hl with
  | [a], _ =>
    have ha : a ∈ Rw.kids l := by rw [hk]; simp
    exact ⟨a, rfl, ht a ha, kids_short ha⟩
theorem kinds {k : Int} (h : 0 ≤ Rw.ar k) : k = 1 ∨ k = 2 ∨ k = 3 ∨ k = 4 ∨ k = 5 ∨ k = 6 ∨ k = 7 ∨ k = 8 ∨ k = 9 ∨ k = 10 ∨ k = 11 ∨ k = 12 ∨ k = 13 ∨ k = 14 := by
  rcases cases15 k with h1 | h1 | h1 | h1 | h1 | h1 | h1 | h1 | h1 | h1 | h1 | h1 | h1 | h1 | h1
  case inr.inr.inr.inr.inr.inr.inr.inr.inr.inr.inr.inr.inr.inr => rw [ar_no h1] at h; exact absurd h (by decide)
  all_goals omega
end Go.Proofs.Ytlipkhmidgogdaa.So

namespace Go.Proofs.Ytlipkhmidgogdaa.Rx
open Go Go.RowKit Rw
set_option maxRecDepth 20000

set_option maxHeartbeats 2000000 in
theorem measure_cells (b off cap : Nat) (l : List Nd) (w : World) (hat : At w b off l) (hl : l.length ≤ 4398046511104) :
    Calls Try.prog 37 #[.slice (some ⟨b, off, none⟩) l.length cap] w fun e w' => e = .returned (.tuple #[.int .i64 (size l), .int .i64 (depth l)]) ∧ Below w.heap.size w w' := by
  have HA := Lib.hid hat
  clear hat
  obtain ⟨i0, hi0, hz0, hs0, hb0⟩ := info_parts infoI
  go_enter Try.func37, Try.ntmps37
  go_wp2_with fail
  go_step3
  go_wp2_with (at_make; refine wpList_make_own _ rfl _ _ 37 rfl w.heap.size 3 i0 _ 1 Try.underlying37 hi0 hz0 hs0 .i64 .i64 _ 16 rfl rfl rfl (by rw [hb0]; omega) (by unfold maxLen; omega) (Nat.le_refl _) ?_; intro w0 hown0 hgrow0)
  go_step3
  go_wp2_with fail
  go_loopg [3, 4, 12] l.length (fun g0 dv ov iv wr => ∃ (k d g c : Nat) (st : List Nat), k + g0 = l.length ∧ d ≤ k ∧ st.length ≤ k ∧ dv = .int .i64 d ∧ ov = .slice (some ⟨g, 0, none⟩) st.length c ∧ iv = .int .i64 k ∧ Hid (Stk w.heap.size wr g c st) ∧ Hid (Below w.heap.size w wr) ∧ Hid (Rest l k st d) ∧ Hid (∀ y ∈ st, y ≤ 2))
  case atStart =>
    exact ⟨0, 0, w.heap.size, 16, [], Nat.zero_add _, Nat.le_refl _, Nat.le_refl _, rfl, rfl, rfl, Lib.hid hown0, Lib.hid ((Below.refl _ _).grown hgrow0 (Nat.le_refl _) (fun k hk => by cases hk)), Lib.hid (Rest.start l), Lib.hid (fun y hy => by cases hy)⟩
  case round =>
    obtain ⟨k, d, g, c, st, hk, hd, hst, rfl, rfl, rfl, HS, HB, HR, HY⟩ := hrel
    by_cases hlt : k < l.length
    · obtain ⟨e1, e2, e3⟩ := HA.out k hlt
      have c1 : wr.cell? ⟨b, off + k * 3, none⟩ = some (.int .i64 l[k].k) := by rw [HB.out.cell (Ap.cell_lt e1)]; exact e1
      have c2 : wr.cell? ⟨b, off + k * 3 + 1, none⟩ = some (.string l[k].n) := by rw [HB.out.cell (Ap.cell_lt e2)]; exact e2
      have c3 : wr.cell? ⟨b, off + k * 3 + 2, none⟩ = some (.int .i64 l[k].s) := by rw [HB.out.cell (Ap.cell_lt e3)]; exact e3
      have H1 := Lib.hid (fun ha => HR.out.stop hlt ha)
      have H2 := Lib.hid (fun a ha hp => HR.out.end (a := a) hlt ha hp)
      have H3 := Lib.hid (fun a s ha hp => HR.out.more (a := a) (s := s) hlt ha hp)
      obtain ⟨x, hx⟩ : ∃ x, l[k] = x := ⟨_, rfl⟩
      rw [hx] at c1 c2 c3 H1 H2 H3
      clear hx e1 e2 e3
      obtain ⟨a, ha⟩ : ∃ a, ar x.k = a := ⟨_, rfl⟩
      rw [ha] at H1 H2 H3
      have HAR := Lib.hid ha
      have HBD : Hid (a ≤ 2) := by have := ar_le x.k; rw [ha] at this; exact this.2
      clear ha
      by_cases h0 : a < 0
      · have HZ := Lib.hid (H1.out h0)
        have d1 : decide (a < 0) = true := decide_eq_true h0
        go_wp2_with fail
        refine (arP_eq x.k _).mono ?_
        rw [HAR.out]
        rintro e w' ⟨rfl, rfl⟩
        go_wp2_with fail
        rw [Exit.noGoto_ret]
        go_ret2
        rw [HZ.out.1, HZ.out.2]
        exact ⟨rfl, HB.out.alloc HB.out.size _⟩
      · obtain ⟨a, rfl⟩ : ∃ a' : Nat, a = (a' : Int) := ⟨a.toNat, by omega⟩
        have d1 : decide ((a : Int) < 0) = false := decide_eq_false h0
        have HB1 : Hid (Below w.heap.size w (wr.alloc (nb x))) := HB.out.alloc HB.out.size _
        have hS1 : Stk w.heap.size (wr.alloc (nb x)) g c st := Ap.own_below HS.out (below1 wr (nb x))
        obtain ⟨g', c', w2, hrun, hS2, hB2⟩ := hS1.push a HB1.out.size (by omega)
        rw [show (wr.alloc (nb x)).heap.size = wr.heap.size + 1 by simp] at hrun
        have R := Lib.hid hrun
        have HYA : Hid (∀ y ∈ st ++ [a], y ≤ 2) := Lib.hid fun y hy => by
          rcases List.mem_append.1 hy with h | h
          · exact HY.out y h
          · rw [List.mem_singleton] at h; have := HBD.out; omega
        have HL : Hid ((st ++ [a]).length = st.length + 1) := by show _ = _; simp
        have HS2 := Lib.hid hS2
        have HB2 := Lib.hid (HB1.out.trans hB2)
        have HG : Hid (w.heap.size ≤ g') := by obtain ⟨_, _, hb', _⟩ := hS2.parts; exact hb'
        obtain ⟨n, hn⟩ : ∃ n, st.length = n := ⟨_, rfl⟩
        rw [hn] at R H2 H3 hst HL
        clear hrun hS2 hB2 hS1
        go_wp2_with fail
        refine (arP_eq x.k _).mono ?_
        rw [HAR.out]
        rintro e w' ⟨rfl, rfl⟩
        go_wp2_with (at_builtin; refine Ap.wpList_append_run (by rfl) (.tmp 22) (.tmp 24) _ _ rfl _ _ rfl rfl _ w2 R.out ?_)
        all_goals
          go_loopg [4, 8] (n + 1) (fun g2 sv lv wy => w2 = wy ∧ sv = .slice (some ⟨g', 0, none⟩) (n + 1) c' ∧ g2 ≤ n + 1 ∧ Hid (pop (st ++ [a]).reverse = pop ((st ++ [a]).take g2).reverse) ∧ ((g2 = 0 ∧ lv = .int .i64 (-1)) ∨ ∃ i : Nat, g2 = i + 1 ∧ lv = .int .i64 i))
          case atStart => exact ⟨rfl, rfl, Nat.le_refl _, Lib.hid (by rw [List.take_of_length_le (by rw [HL.out]; exact Nat.le_refl _)]), Or.inr ⟨n, rfl, rfl⟩⟩
          case round =>
            obtain ⟨rfl, rfl, hg2, HP, ⟨rfl, rfl⟩ | ⟨i, rfl, rfl⟩⟩ := hrel
            · have HE := Lib.hid (H2.out a rfl HP.out)
              go_wp2_with fail
              rw [Exit.noGoto_ret]
              go_ret2
              rw [HE.out.1, HE.out.2]
              refine ⟨?_, HB2.out⟩
              first
                | (rw [Nat.max_eq_left (by omega)]; rfl)
                | (rw [Nat.max_eq_right (by omega)]; rfl)
            · have hi : i < (st ++ [a]).length := by rw [HL.out]; omega
              have ci := HS2.out.cell i hi
              have HPI := Lib.hid (HP.out.trans (congrArg pop (pop_last hi)))
              obtain ⟨y, hy⟩ : ∃ y, (st ++ [a])[i] = y := ⟨_, rfl⟩
              rw [hy] at ci HPI
              have HY2 : Hid (y ≤ 2) := HYA.out y (by rw [← hy]; exact List.getElem_mem hi)
              clear hy
              cases y with
              | zero =>
                go_wp2_with fail
                go_roundg i
                case measure => omega
                case rel =>
                  refine ⟨rfl, rfl, by omega, HPI, ?_⟩
                  cases i with
                  | zero => exact Or.inl ⟨rfl, rfl⟩
                  | succ j => exact Or.inr ⟨j, rfl, by go_num⟩
              | succ z =>
                have hwz : wrap64 ((z : Nat) : Int) = (z : Int) := by have := HY2.out; unfold wrap64; omega
                have HYZ : Hid (∀ y ∈ (st ++ [a]).take i ++ [z], y ≤ 2) := Lib.hid fun y hy => by
                  rcases List.mem_append.1 hy with h | h
                  · exact HYA.out y (List.mem_of_mem_take h)
                  · rw [List.mem_singleton] at h; have := HY2.out; omega
                have hic : i + 1 ≤ c' := by have := HS2.out.cap.1; omega
                have HZ := Lib.hid (HS2.out.down i z hi)
                have HN : Hid (Rest l (k + 1) ((st ++ [a]).take i ++ [z]) (max d (n + 1))) := H3.out a _ rfl (HPI.out.trans (by rw [List.reverse_concat]; rfl))
                have HLZ : Hid (((st ++ [a]).take i ++ [z]).length = i + 1) := by
                  show _ = _
                  rw [List.length_append, List.length_take]
                  simp only [List.length_cons, List.length_nil]
                  omega
                have fi := HS2.out.soft i
                go_wp2_with fail
                go_roundg (gk - 1)
                case measure => omega
                case rel =>
                  refine ⟨k + 1, max d (n + 1), g', c', (st ++ [a]).take i ++ [z], by omega, by omega, by rw [HLZ.out]; omega, ?_, by rw [HLZ.out], rfl, HZ, Lib.hid (below_setCell HB2.out _ _ _ HG.out), HN, HYZ⟩
                  first
                    | (rw [Nat.max_eq_left (by omega)]; done)
                    | (rw [Nat.max_eq_right (by omega)]; rfl)
    · have HZ := Lib.hid (HR.out.out hlt)
      go_wp2_with fail
      rw [Exit.noGoto_ret]
      go_ret2
      rw [HZ.out.1, HZ.out.2]
      exact ⟨rfl, HB.out⟩
set_option maxHeartbeats 1000000 in
theorem measure_empty (a : Option Addr) (cap : Nat) (w : World) :
    Calls Try.prog 37 #[.slice a 0 cap] w fun e w' => e = .returned (.tuple #[.int .i64 0, .int .i64 0]) ∧ Below w.heap.size w w' := by
  obtain ⟨i0, hi0, hz0, hs0, hb0⟩ := info_parts infoI
  go_enter Try.func37, Try.ntmps37
  go_wp2_with fail
  go_step3
  go_wp2_with (at_make; refine wpList_make_own _ rfl _ _ 37 rfl w.heap.size 3 i0 _ 1 Try.underlying37 hi0 hz0 hs0 .i64 .i64 _ 16 rfl rfl rfl (by rw [hb0]; omega) (by unfold maxLen; omega) (Nat.le_refl _) ?_; intro w0 hown0 hgrow0)
  go_step3
  go_wp2_with fail
  refine Go.wp_loop_rounds 1 ?_
  rw [rounds_succ]
  go_wp2_with fail
  rw [Exit.noGoto_ret]
  go_ret2
  exact ⟨rfl, (Below.refl _ _).grown hgrow0 (Nat.le_refl _) (fun k hk => by cases hk)⟩
theorem measure_big (v : Value) (l : List Nd) (w : World) (h : Nds w v l) (hl : l.length ≤ 4398046511104) :
    Calls Try.prog 37 #[v] w fun e w' => e = .returned (.tuple #[.int .i64 (size l), .int .i64 (depth l)]) ∧ Below w.heap.size w w' := by
  rcases h.form with ⟨rfl, a, cap, rfl⟩ | ⟨b, off, cap, rfl, _, hat⟩
  · exact measure_empty a cap w
  · exact measure_cells b off cap l w hat hl
set_option maxHeartbeats 400000 in
theorem sizeP_big (v : Value) (l : List Nd) (w : World) (h : Nds w v l) (hl : l.length ≤ 4398046511104) :
    Calls Try.prog 24 #[v] w fun e w' => e = .returned (.int .i64 (size l)) ∧ Below w.heap.size w w' := by
  have H := Lib.hid h
  clear h
  go_enter Try.func24, Try.ntmps24
  go_wp2_with fail
  refine (measure_big v l _ H.out hl).mono ?_
  rintro e w' ⟨rfl, hb⟩
  have HB := Lib.hid hb
  clear hb
  go_wp2_with fail
  go_ret
  exact ⟨rfl, HB.out⟩
end Go.Proofs.Ytlipkhmidgogdaa.Rx

namespace Go.Proofs.Ytlipkhmidgogdaa.Rw
open Go Go.RowKit
set_option maxRecDepth 20000

/-- The tree of the first look. -/
def n0 : Nd := ⟨5, ⟨#[]⟩, 0⟩
def n1 : Nd := ⟨1, ⟨#[97]⟩, 0⟩
def n2 : Nd := ⟨6, ⟨#[]⟩, 0⟩
def n3 : Nd := ⟨2, ⟨#[]⟩, 0⟩
def n4 : Nd := ⟨3, ⟨#[]⟩, 0⟩
def aL : List Nd := [n0, n1, n2, n3, n4]
end Go.Proofs.Ytlipkhmidgogdaa.Rw

namespace Go.Proofs.Ytlipkhmidgogdaa.Pl
open Go Rw Go.Proofs.Ytlipkhmidgogdaa.So

/-- All trees within a tree: where they end, and how deep they are. -/
theorem inner : ∀ (m : Nat) (l : List Nd), l.length ≤ m → ∀ c d, T l = some (c, d) → ∀ i, i < c → ∃ c' d', T (l.drop i) = some (c', d') ∧ i + c' ≤ c ∧ (0 < i → d' + 1 ≤ d)
  | 0, l, h, c, d, e, _, _ => by
    have : l = [] := List.eq_nil_of_length_eq_zero (by omega)
    subst this
    rw [T_nil] at e
    cases e
  | m + 1, [], h, c, d, e, _, _ => by rw [T_nil] at e; cases e
  | m + 1, n :: r, h, c, d, e, 0, _ => ⟨c, d, e, by omega, fun h => absurd h (Nat.lt_irrefl 0)⟩
  | m + 1, n :: r, h, c, d, e, i + 1, hi => by
    rw [T_cons] at e
    split at e
    · cases e
    · cases hs : S (Rw.ar n.k).toNat r with
      | none => rw [hs] at e; cases e
      | some x =>
        obtain ⟨c1, d1⟩ := x
        rw [hs] at e
        simp only [Option.some.injEq, Prod.mk.injEq] at e
        obtain ⟨rfl, rfl⟩ := e
        have hr : r.length ≤ m := by simpa using h
        have key : ∀ j c d, S j r = some (c, d) → ∀ i, i < c → ∃ c' d', T (r.drop i) = some (c', d') ∧ i + c' ≤ c ∧ d' ≤ d := by
          intro j
          induction j with
          | zero => intro c d e i hi; rw [S_zero] at e; cases e; exact absurd hi (Nat.not_lt_zero _)
          | succ j ih =>
            intro c d e i hi
            rw [S_succ] at e
            cases h1 : S j r with
            | none => rw [h1] at e; cases e
            | some x =>
              obtain ⟨c1, d1⟩ := x
              rw [h1] at e
              simp only at e
              cases h2 : T (r.drop c1) with
              | none => rw [h2] at e; cases e
              | some y =>
                obtain ⟨c2, d2⟩ := y
                rw [h2] at e
                simp only [Option.some.injEq, Prod.mk.injEq] at e
                obtain ⟨rfl, rfl⟩ := e
                by_cases hic : i < c1
                · obtain ⟨c', d', g1, g2, g3⟩ := ih c1 d1 h1 i hic
                  exact ⟨c', d', g1, by omega, by omega⟩
                · obtain ⟨c', d', g1, g2, g3⟩ := inner m (r.drop c1) (by rw [List.length_drop]; omega) c2 d2 h2 (i - c1) (by omega)
                  rw [List.drop_drop, show c1 + (i - c1) = i by omega] at g1
                  refine ⟨c', d', g1, by omega, ?_⟩
                  by_cases h0 : 0 < i - c1
                  · have := g3 h0
                    omega
                  · rw [show c1 = i by omega, g1] at h2
                    simp only [Option.some.injEq, Prod.mk.injEq] at h2
                    omega
        obtain ⟨c', d', h1, h2, h3⟩ := key _ c1 d1 hs i (by omega)
        exact ⟨c', d', by rw [List.drop_succ_cons]; exact h1, by omega, fun _ => by omega⟩

/-- How many nodes the tree at a place has. -/
def zz (l : List Nd) (j : Nat) : Nat := Rw.size (l.drop j)
def dd (l : List Nd) (j : Nat) : Nat := Rw.depth (l.drop j)
theorem zz_some {l : List Nd} {j c d : Nat} (h : T (l.drop j) = some (c, d)) : zz l j = c ∧ dd l j = d := by
  unfold zz dd Rw.size Rw.depth
  rw [h]
  exact ⟨rfl, rfl⟩
/-- In a tree each place has a tree, which ends within it. -/
theorem in_tree {l : List Nd} (h : Tre l) {j : Nat} (hj : j < l.length) : T (l.drop j) = some (zz l j, dd l j) ∧ 1 ≤ zz l j ∧ j + zz l j ≤ l.length := by
  obtain ⟨d, hd⟩ := h
  obtain ⟨c', d', h1, h2, _⟩ := inner _ l (Nat.le_refl _) _ d hd j hj
  obtain ⟨e1, e2⟩ := zz_some h1
  rw [e1, e2]
  exact ⟨h1, (T_bd h1).1, h2⟩
/-- A tree that begins within another one ends within it, and is less deep. -/
theorem nest {l : List Nd} (h : Tre l) {i j : Nat} (hi : i < j) (hj : j < i + zz l i) (hjl : j < l.length) : j + zz l j ≤ i + zz l i ∧ dd l j + 1 ≤ dd l i := by
  obtain ⟨h1, h2, h3⟩ := in_tree h (j := i) (by omega)
  obtain ⟨c', d', g1, g2, g3⟩ := inner _ (l.drop i) (Nat.le_refl _) _ _ h1 (j - i) (by omega)
  rw [List.drop_drop, show i + (j - i) = j by omega] at g1
  obtain ⟨e1, e2⟩ := zz_some g1
  rw [e1, e2]
  exact ⟨by omega, g3 (by omega)⟩
/-- A node has no others behind it in its tree just if it has arity 0. -/
theorem leaf_iff {l : List Nd} (h : Tre l) {j : Nat} (hj : j < l.length) : zz l j = 1 ↔ Rw.ar l[j].k = 0 := by
  obtain ⟨h1, h2, h3⟩ := in_tree h hj
  rw [List.drop_eq_getElem_cons hj, T_cons] at h1
  split at h1
  · cases h1
  · rename_i hneg
    cases hs : S (Rw.ar l[j].k).toNat (l.drop (j + 1)) with
    | none => rw [hs] at h1; cases h1
    | some x =>
      obtain ⟨c, d⟩ := x
      rw [hs] at h1
      simp only [Option.some.injEq, Prod.mk.injEq] at h1
      constructor
      · intro hz
        have hc : c = 0 := by omega
        have hpos : ∀ a c d, S (a + 1) (l.drop (j + 1)) = some (c, d) → 1 ≤ c := by
          intro a c d e
          rw [S_succ] at e
          cases h1 : S a (l.drop (j + 1)) with
          | none => rw [h1] at e; cases e
          | some x =>
            obtain ⟨c1, d1⟩ := x
            rw [h1] at e
            simp only at e
            cases h2 : T ((l.drop (j + 1)).drop c1) with
            | none => rw [h2] at e; cases e
            | some y =>
              obtain ⟨c2, d2⟩ := y
              rw [h2] at e
              simp only [Option.some.injEq, Prod.mk.injEq] at e
              have := (T_bd h2).1
              omega
        by_cases ha : (Rw.ar l[j].k).toNat = 0
        · omega
        · obtain ⟨a, hae⟩ : ∃ a, (Rw.ar l[j].k).toNat = a + 1 := ⟨(Rw.ar l[j].k).toNat - 1, by omega⟩
          rw [hae] at hs
          have := hpos a c d hs
          omega
      · intro ha
        rw [ha] at hs
        rw [show ((0 : Int).toNat) = 0 from rfl, S_zero] at hs
        cases hs
        omega

/-- The places of the nodes above one. -/
def ov (l : List Nd) (k : Nat) : List Nat := (List.range k).filter fun j => decide (k < j + zz l j)
theorem mem_ov {l : List Nd} {k j : Nat} : j ∈ ov l k ↔ j < k ∧ k < j + zz l j := by
  unfold ov
  rw [List.mem_filter, List.mem_range, decide_eq_true_eq]
theorem ov_zero (l : List Nd) : ov l 0 = [] := rfl
/-- How many leaves come ahead of a place. -/
def xl (l : List Nd) (k : Nat) : Nat := (l.take k).countP fun x => decide (Rw.ar x.k = 0)
theorem xl_succ {l : List Nd} {k : Nat} (h : k < l.length) : xl l (k + 1) = xl l k + if Rw.ar l[k].k = 0 then 1 else 0 := by
  unfold xl
  rw [List.take_succ_eq_append_getElem h, List.countP_append]
  congr 1
  by_cases h0 : Rw.ar l[k].k = 0 <;> simp [h0]
theorem xl_mono {l : List Nd} {j k : Nat} (h : j ≤ k) : xl l j ≤ xl l k := by
  unfold xl
  exact ((List.take_sublist_take_left h).countP_le)
/-- One that has others behind it is above the next one. -/
theorem ov_next {l : List Nd} (h : Tre l) {k : Nat} (hk : k + 1 < l.length) (ha : Rw.ar l[k].k ≠ 0) : ov l (k + 1) = ov l k ++ [k] := by
  obtain ⟨_, h2, _⟩ := in_tree h (j := k) (by omega)
  have hz : 2 ≤ zz l k := by
    have : zz l k ≠ 1 := fun e => ha ((leaf_iff h (by omega)).1 e)
    omega
  unfold ov
  rw [List.range_succ, List.filter_append]
  congr 1
  · refine List.filter_congr fun j hj => decide_eq_decide.2 ?_
    have hjk := List.mem_range.1 hj
    constructor
    · intro h; omega
    · intro hlt
      have := (nest h hjk hlt (by omega)).1
      omega
  · simp
    omega
end Go.Proofs.Ytlipkhmidgogdaa.Pl

namespace Go.Proofs.Ytlipkhmidgogdaa.So
open Go Go.RowKit Go.Proofs.Ytlipkhmidgogdaa.Rw
set_option maxRecDepth 20000

end Go.Proofs.Ytlipkhmidgogdaa.So

namespace Go.Proofs.Ytlipkhmidgogdaa.Rx
open Go Go.RowKit Rw
set_option maxRecDepth 20000
set_option maxHeartbeats 400000 in
theorem depthP_big (v : Value) (l : List Nd) (w : World) (h : Nds w v l) (hl : l.length ≤ 4398046511104) :
    Calls Try.prog 31 #[v] w fun e w' => e = .returned (.int .i64 (depth l)) ∧ Below w.heap.size w w' := by
  have H := Lib.hid h
  clear h
  go_enter Try.func31, Try.ntmps31
  go_wp2_with fail
  refine (measure_big v l _ H.out hl).mono ?_
  rintro e w' ⟨rfl, hb⟩
  have HB := Lib.hid hb
  clear hb
  go_wp2_with fail
  go_ret
  exact ⟨rfl, HB.out⟩
end Go.Proofs.Ytlipkhmidgogdaa.Rx

namespace Go.Proofs.Ytlipkhmidgogdaa.Rw
open Go Go.RowKit
set_option maxRecDepth 20000

/-- Nodes in a block of their own. -/
theorem nds_new (w : World) (l : List Nd) (ty : TypeId) : Nds (w.alloc (.cells (cls l).toArray ty)) (.slice (some ⟨w.heap.size, 0, none⟩) l.length l.length) l := by
  refine ⟨cls_len l, some ⟨w.heap.size, 0, none⟩, l.length, rfl, Nat.le_refl _, fun h => (by cases h), fun _ => ⟨w.heap.size, 0, rfl, fun j u hu => ?_⟩⟩
  rw [Nat.zero_add, World.cell?_alloc_new]
  simpa using hu
/-- The tree, in the block of number B. -/
structure Al (w0 : World) (B : Nat) (w : World) : Prop where
  bel : Below w0.heap.size w0 w
  lt : B < w.heap.size
  at' : At w B 0 aL
theorem Al.below {w0 w w' : World} {B : Nat} (h : Al w0 B w) (hb : Below w.heap.size w w') : Al w0 B w' :=
  ⟨h.bel.trans (hb.mono h.bel.size), Nat.lt_of_lt_of_le h.lt hb.size, fun k hk => by
    obtain ⟨h1, h2, h3⟩ := h.at' k hk
    exact ⟨by rw [hb.cell (p := ⟨B, 0 + k * 3, none⟩) h.lt]; exact h1, by rw [hb.cell (p := ⟨B, 0 + k * 3 + 1, none⟩) h.lt]; exact h2, by rw [hb.cell (p := ⟨B, 0 + k * 3 + 2, none⟩) h.lt]; exact h3⟩⟩
theorem Al.all {w0 w : World} {B : Nat} (h : Al w0 B w) : Nds w (.slice (some ⟨B, 0, none⟩) 5 5) aL := part_nds h.at' 0 5 5 (by decide) (by decide)
theorem Al.cells {w0 w : World} {B : Nat} (h : Al w0 B w) : w.cell? ⟨B, 0, none⟩ = some (.int .i64 5) ∧ w.cell? ⟨B, 1, none⟩ = some (.string ⟨#[]⟩) ∧ w.cell? ⟨B, 2, none⟩ = some (.int .i64 0) ∧ w.cell? ⟨B, 3, none⟩ = some (.int .i64 1) ∧ w.cell? ⟨B, 4, none⟩ = some (.string ⟨#[97]⟩) ∧ w.cell? ⟨B, 5, none⟩ = some (.int .i64 0) :=
  ⟨(h.at' 0 (by decide)).1, (h.at' 0 (by decide)).2.1, (h.at' 0 (by decide)).2.2, (h.at' 1 (by decide)).1, (h.at' 1 (by decide)).2.1, (h.at' 1 (by decide)).2.2⟩
theorem Al.new (w : World) (ty : TypeId) : Al w w.heap.size (w.alloc (.cells #[.int .i64 5, .string ⟨#[]⟩, .int .i64 0, .int .i64 1, .string ⟨#[97]⟩, .int .i64 0, .int .i64 6, .string ⟨#[]⟩, .int .i64 0, .int .i64 2, .string ⟨#[]⟩, .int .i64 0, .int .i64 3, .string ⟨#[]⟩, .int .i64 0] ty)) := by
  refine ⟨below1 w _, by simp, ?_⟩
  rcases (nds_new w aL ty).form with ⟨h, _⟩ | ⟨b, off, cap, he, _, hat⟩
  · cases h
  · cases he
    exact hat
/-- The tree, and its kids. -/
structure Al2 (w0 : World) (B b o c : Nat) (b0 : Option Addr) (c0 : Nat) (b1 : Option Addr) (c1 : Nat) (w : World) : Prop where
  al : Al w0 B w
  rws : Rws w (.slice (some ⟨b, o, none⟩) 2 c) [[n1], [n2, n3, n4]]
  k0 : w.cell? ⟨b, o, none⟩ = some (.slice b0 1 c0)
  k1 : w.cell? ⟨b, o + 1, none⟩ = some (.slice b1 3 c1)
theorem Al2.below {w0 w w' : World} {B b o c c0 c1 : Nat} {b0 b1 : Option Addr} (h : Al2 w0 B b o c b0 c0 b1 c1 w) (hb : Below w.heap.size w w') : Al2 w0 B b o c b0 c0 b1 c1 w' :=
  ⟨h.al.below hb, h.rws.below hb, by rw [hb.cell (Ap.cell_lt h.k0)]; exact h.k0, by rw [hb.cell (Ap.cell_lt h.k1)]; exact h.k1⟩

end Go.Proofs.Ytlipkhmidgogdaa.Rw

namespace Go.Proofs.Ytlipkhmidgogdaa.Pl
open Go Rw Go.Proofs.Ytlipkhmidgogdaa.So

/-- The last of those that are asked for. -/
theorem filter_last {p : Nat → Bool} : ∀ {c : Nat} {P : List Nat} {q : Nat}, (List.range c).filter p = P ++ [q] → q < c ∧ p q = true ∧ (List.range q).filter p = P ∧ ∀ i, q < i → i < c → p i = false
  | 0, P, q, e => by cases P <;> cases e
  | c + 1, P, q, e => by
    rw [List.range_succ, List.filter_append] at e
    cases hh : p c with
    | true =>
      simp only [List.filter_cons, hh, if_true, List.filter_nil] at e
      obtain ⟨e1, e2⟩ := List.append_inj' e rfl
      injection e2 with e2
      subst e2
      exact ⟨Nat.lt_succ_self _, hh, e1, fun i h1 h2 => by omega⟩
    | false =>
      simp only [List.filter_cons, hh, Bool.false_eq_true, if_false, List.filter_nil, List.append_nil] at e
      obtain ⟨h1, h2, h3, h4⟩ := filter_last e
      refine ⟨by omega, h2, h3, fun i g1 g2 => ?_⟩
      by_cases hi : i = c
      · subst hi; exact hh
      · exact h4 i g1 (by omega)
theorem zz_zero {l : List Nd} (h : Tre l) : zz l 0 = l.length := by
  unfold zz
  rw [List.drop_zero]
  exact h.size
/-- The node above: the last of those above. -/
theorem parent {l : List Nd} (h : Tre l) {k : Nat} (h0 : 0 < k) (hk : k < l.length) : ∃ o, o < k ∧ k < o + zz l o ∧ ov l k = ov l o ++ [o] := by
  have hne : ov l k ≠ [] := fun e => by
    have : 0 ∈ ov l k := mem_ov.2 ⟨h0, by rw [zz_zero h]; omega⟩
    rw [e] at this
    cases this
  obtain ⟨P, o, e⟩ : ∃ P o, ov l k = P ++ [o] := ⟨_, _, (List.dropLast_concat_getLast hne).symm⟩
  obtain ⟨h1, h2, h3, _⟩ := filter_last e
  have h2' : k < o + zz l o := of_decide_eq_true h2
  refine ⟨o, h1, h2', ?_⟩
  rw [e, ← h3]
  congr 1
  unfold ov
  refine List.filter_congr fun j hj => decide_eq_decide.2 ?_
  have hjo := List.mem_range.1 hj
  constructor
  · intro hlt; omega
  · intro hlt
    have := (nest h hjo hlt (by omega)).1
    omega
/-- The deeper a node stands, the less deep is its tree. -/
theorem deep {l : List Nd} (h : Tre l) : ∀ (m k : Nat), k ≤ m → k < l.length → (ov l k).length + dd l k ≤ dd l 0
  | 0, k, hm, _ => by
    obtain rfl : k = 0 := by omega
    rw [ov_zero]
    simp
  | m + 1, k, hm, hk => by
    by_cases h0 : k = 0
    · subst h0
      rw [ov_zero]
      simp
    · obtain ⟨o, h1, h2, h3⟩ := parent h (by omega) hk
      have ih := deep h m o (by omega) (by omega)
      have := (nest h h1 h2 hk).2
      rw [h3, List.length_append, List.length_singleton]
      omega
theorem dd_zero (l : List Nd) : dd l 0 = Rw.depth l := by unfold dd; rw [List.drop_zero]
theorem below_box {l : List Nd} (h : Tre l) {k : Nat} (hk : k < l.length) : (ov l k).length < Rw.depth l := by
  have h1 := deep h k k (Nat.le_refl _) hk
  obtain ⟨g1, _, _⟩ := in_tree h hk
  have := (T_bd g1).2.2.1
  rw [dd_zero] at h1
  omega
/-- The last node is a leaf. -/
theorem last_leaf {l : List Nd} (h : Tre l) : xl l l.length = xl l (l.length - 1) + 1 := by
  have hp := h.pos
  have hlt : l.length - 1 < l.length := by omega
  obtain ⟨_, h2, h3⟩ := in_tree h hlt
  have ha := (leaf_iff h hlt).1 (by omega)
  have := xl_succ hlt
  rw [show l.length - 1 + 1 = l.length by omega, if_pos ha] at this
  exact this
theorem in_box {l : List Nd} (h : Tre l) {k : Nat} (hk : k < l.length) : xl l k < xl l l.length := by
  rw [last_leaf h]
  have := xl_mono (l := l) (show k ≤ l.length - 1 by omega)
  omega
/-- Where no leaf comes between, each next one is one deeper. -/
theorem chain {l : List Nd} (h : Tre l) (a : Nat) : ∀ n, a + n < l.length → xl l (a + n) = xl l a → (ov l (a + n)).length = (ov l a).length + n
  | 0, _, _ => rfl
  | n + 1, hk, e => by
    have h1 := xl_mono (l := l) (show a ≤ a + n by omega)
    have hlt : a + n < l.length := by omega
    have h2 := xl_succ hlt
    rw [show a + (n + 1) = a + n + 1 by omega] at e ⊢
    have hne : Rw.ar (l[a + n]'hlt).k ≠ 0 := fun h0 => by
      rw [if_pos h0] at h2
      omega
    rw [if_neg hne] at h2
    rw [ov_next h (by omega) hne, List.length_append, chain h a n hlt (by omega), List.length_singleton]
    omega
theorem apart {l : List Nd} (h : Tre l) {a b : Nat} (hab : a < b) (hb : b < l.length) : ¬ (xl l a = xl l b ∧ (ov l a).length = (ov l b).length) := by
  rintro ⟨e1, e2⟩
  have := chain h a (b - a) (by omega) (by rw [show a + (b - a) = b by omega]; exact e1.symm)
  rw [show a + (b - a) = b by omega] at this
  omega

/-! ### Below one node more, and beside one another -/
theorem zz_cons (n : Nd) (l : List Nd) (j : Nat) : zz (n :: l) (j + 1) = zz l j := by unfold zz; rw [List.drop_succ_cons]
theorem xl_cons {n : Nd} (hn : Rw.ar n.k ≠ 0) (l : List Nd) (k : Nat) : xl (n :: l) (k + 1) = xl l k := by
  unfold xl
  rw [List.take_succ_cons, List.countP_cons_of_neg (by simpa using hn)]
theorem zz_left {a : List Nd} (h : Tre a) (b : List Nd) {j : Nat} (hj : j < a.length) : zz (a ++ b) j = zz a j := by
  obtain ⟨h1, _, _⟩ := in_tree h hj
  unfold zz
  rw [List.drop_append_of_le_length (by omega)]
  have := T_append b h1
  unfold Rw.size
  rw [this, h1]
theorem zz_right (a b : List Nd) (j : Nat) : zz (a ++ b) (a.length + j) = zz b j := by
  unfold zz
  rw [List.drop_append, List.drop_eq_nil_of_le (by omega), List.nil_append, show a.length + j - a.length = j by omega]
theorem ov_cons {n : Nd} {l : List Nd} {k : Nat} (h0 : k + 1 < zz (n :: l) 0) : (ov (n :: l) (k + 1)).length = (ov l k).length + 1 := by
  unfold ov
  rw [List.range_succ_eq_map, List.filter_cons, if_pos (by simpa using h0), List.length_cons, List.filter_map, List.length_map]
  congr 2
  refine List.filter_congr fun j _ => ?_
  simp only [Function.comp, Nat.succ_eq_add_one, zz_cons]
  exact decide_eq_decide.2 (by omega)
theorem ov_left {a : List Nd} (h : Tre a) (b : List Nd) {k : Nat} (hk : k < a.length) : ov (a ++ b) k = ov a k := by
  unfold ov
  refine List.filter_congr fun j hj => ?_
  rw [zz_left h b (by have := List.mem_range.1 hj; omega)]
theorem xl_left (a b : List Nd) {k : Nat} (hk : k ≤ a.length) : xl (a ++ b) k = xl a k := by
  unfold xl
  rw [List.take_append_of_le_length hk]
theorem xl_right (a b : List Nd) (k : Nat) : xl (a ++ b) (a.length + k) = xl a a.length + xl b k := by
  unfold xl
  rw [List.take_append, List.take_of_length_le (by omega), show a.length + k - a.length = k by omega, List.countP_append, List.take_length]
theorem ov_right {a b : List Nd} (h : Tre a) (k : Nat) : (ov (a ++ b) (a.length + k)).length = (ov b k).length := by
  unfold ov
  rw [List.range_add, List.filter_append, List.length_append, List.filter_map, List.length_map]
  have e : (List.range a.length).filter (fun j => decide (a.length + k < j + zz (a ++ b) j)) = [] := by
    rw [List.filter_eq_nil_iff]
    intro j hj
    have hjl := List.mem_range.1 hj
    have := (in_tree h hjl).2.2
    rw [zz_left h b hjl]
    simp
    omega
  rw [e, List.length_nil, Nat.zero_add]
  congr 1
  refine List.filter_congr fun j _ => ?_
  simp only [Function.comp, zz_right]
  exact decide_eq_decide.2 (by omega)
/-- A row that is one tree. -/
def one (l : List Nd) : Bool := decide (0 < l.length) && decide (Rw.size l = l.length)
theorem one_tre {l : List Nd} : one l = true ↔ Tre l := by
  unfold one
  rw [Bool.and_eq_true, decide_eq_true_eq, decide_eq_true_eq]
  constructor
  · rintro ⟨h1, h2⟩
    exact Tre.of_size h2 (fun e => by rw [e] at h1; exact absurd h1 (Nat.lt_irrefl 0))
  · intro h
    exact ⟨h.pos, h.size⟩
end Go.Proofs.Ytlipkhmidgogdaa.Pl

namespace Go.Proofs.Ytlipkhmidgogdaa.So
open Go Go.RowKit Go.Proofs.Ytlipkhmidgogdaa.Rw
set_option maxRecDepth 20000

/-- No sort below s. -/
def Not (l : List Nd) (s : Nat) : Prop := ∀ i, 1 ≤ i → i < s → Is i l = false
theorem Not.next {l : List Nd} {s : Nat} (h : Not l s) (hs : Is s l = false) : Not l (s + 1) := fun i h1 h2 => by
  rcases Nat.lt_or_ge i s with h' | h'
  · exact h i h1 h'
  · rw [show i = s by omega]
    exact hs

end Go.Proofs.Ytlipkhmidgogdaa.So

namespace Go.Proofs.Ytlipkhmidgogdaa.So
open Go Go.Proofs.Ytlipkhmidgogdaa.Rw

/-- How many nodes are of what goes on. -/
def on (l : List Nd) : Nat := cnt l [11, 12, 13, 14]
end Go.Proofs.Ytlipkhmidgogdaa.So

namespace Go.Proofs.Ytlipkhmidgogdaa.Pl
open Go Go.Proofs.Ytlipkhmidgogdaa.Rw Go.Proofs.Ytlipkhmidgogdaa.So

theorem front {c n d : Nat} {r : List Nd} (h : S (c + 1) r = some (n, d)) : ∃ n1 d1 n2 d2, T r = some (n1, d1) ∧ S c (r.drop n1) = some (n2, d2) ∧ n = n1 + n2 := by
  rw [Rx.S_front] at h
  cases h1 : T r with
  | none => rw [h1] at h; cases h
  | some x =>
    obtain ⟨n1, d1⟩ := x
    rw [h1] at h
    simp only at h
    cases h2 : S c (r.drop n1) with
    | none => rw [h2] at h; cases h
    | some y =>
      obtain ⟨n2, d2⟩ := y
      rw [h2] at h
      simp only [Option.some.injEq, Prod.mk.injEq] at h
      exact ⟨n1, d1, n2, d2, rfl, h2, h.1.symm⟩
/-- Innermost first: what stands behind e is what is still to come of each. -/
def Ch (l : List Nd) : Nat → List Nat → List Nat → Prop
  | e, [], [] => e = l.length
  | e, a :: ab, c :: st => (∃ n d, S c (l.drop e) = some (n, d) ∧ e + n = a + zz l a) ∧ Ch l (a + zz l a) ab st
  | _, [], _ :: _ => False
  | _, _ :: _, [] => False
theorem Ch.le {l : List Nd} : ∀ {ab st : List Nat} {e : Nat}, Ch l e ab st → ∀ x ∈ ab, e ≤ x + zz l x
  | [], _, _, _, x, hx => by cases hx
  | _ :: _, [], _, h, _, _ => h.elim
  | a :: ab, c :: st, e, h, x, hx => by
    obtain ⟨⟨n, d, _, h2⟩, h3⟩ := h
    rcases List.mem_cons.1 hx with rfl | hx
    · omega
    · have := h3.le x hx
      omega
theorem Ch.zero {l : List Nd} {ab st : List Nat} {e a : Nat} (h : Ch l e (a :: ab) (0 :: st)) : a + zz l a = e ∧ Ch l e ab st := by
  obtain ⟨⟨n, d, h1, h2⟩, h3⟩ := h
  rw [S_zero] at h1
  cases h1
  exact ⟨by omega, by rw [show e = a + zz l a by omega]; exact h3⟩
theorem Ch.succ {l : List Nd} {ab st : List Nat} {e a c : Nat} (h : Ch l e (a :: ab) ((c + 1) :: st)) : e < l.length ∧ e < a + zz l a ∧ Ch l (e + zz l e) (a :: ab) (c :: st) := by
  obtain ⟨⟨n, d, h1, h2⟩, h3⟩ := h
  obtain ⟨n1, d1, n2, d2, g1, g2, rfl⟩ := front h1
  obtain ⟨z1, _⟩ := zz_some g1
  obtain ⟨b1, b2, _⟩ := T_bd g1
  rw [List.length_drop] at b2
  refine ⟨by omega, by omega, ⟨n2, d2, ?_, by omega⟩, h3⟩
  rw [z1, ← List.drop_drop]
  exact g2
theorem Ch.push {l : List Nd} (ht : Tre l) {k : Nat} (hk : k < l.length) {ab st : List Nat} (h : Ch l (k + zz l k) ab st) : Ch l (k + 1) (k :: ab) ((Rw.ar l[k].k).toNat :: st) := by
  obtain ⟨h1, h2, h3⟩ := in_tree ht hk
  rw [List.drop_eq_getElem_cons hk, T_cons] at h1
  split at h1
  · cases h1
  · cases hs : S (Rw.ar l[k].k).toNat (l.drop (k + 1)) with
    | none => rw [hs] at h1; cases h1
    | some x =>
      obtain ⟨c, d⟩ := x
      rw [hs] at h1
      simp only [Option.some.injEq, Prod.mk.injEq] at h1
      exact ⟨⟨c, d, hs, by omega⟩, h⟩
theorem ar_tree {l : List Nd} (ht : Tre l) {k : Nat} (hk : k < l.length) : 0 ≤ Rw.ar l[k].k := by
  obtain ⟨h1, h2, h3⟩ := in_tree ht hk
  rw [List.drop_eq_getElem_cons hk, T_cons] at h1
  split at h1
  · cases h1
  · omega

/-- Ahead of node k. -/
structure Op (l : List Nd) (k : Nat) (ab st : List Nat) : Prop where
  eq : ab = ov l k
  len : st.length = ab.length
  ch : Ch l (k + zz l k) ab.reverse st.reverse
/-- Behind node k, the last ones being taken off. -/
structure Pp (l : List Nd) (k g : Nat) (ab st : List Nat) : Prop where
  len : st.length = ab.length
  ch : Ch l (k + 1) (ab.take g).reverse (st.take g).reverse
  eq : ov l (k + 1) = (ab.take g).filter fun j => decide (k + 1 < j + zz l j)
theorem Op.start {l : List Nd} (ht : Tre l) : Op l 0 [] [] := ⟨rfl, rfl, by rw [zz_zero ht, Nat.zero_add]; rfl⟩
theorem Op.push {l : List Nd} (ht : Tre l) {k : Nat} (hk : k < l.length) {ab st : List Nat} (h : Op l k ab st) {r n : Nat} (hr : Rw.ar l[k].k = (r : Int)) (hn : n = ab.length) : Pp l k (n + 1) (ab ++ [k]) (st ++ [r]) := by
  subst hn
  have h1 : (ab ++ [k]).take (ab.length + 1) = ab ++ [k] := List.take_of_length_le (by simp)
  have h2 : (st ++ [r]).take (ab.length + 1) = st ++ [r] := List.take_of_length_le (by simp [h.len])
  refine ⟨by simp [h.len], ?_, ?_⟩
  · rw [h1, h2, List.reverse_append, List.reverse_append]
    have := h.ch.push ht hk
    rw [hr] at this
    exact this
  · rw [h1, List.filter_append, h.eq]
    unfold ov
    rw [List.range_succ, List.filter_append, List.filter_filter]
    congr 1
    refine List.filter_congr fun j _ => ?_
    rw [Bool.eq_iff_iff]
    simp
    omega
theorem rev_take {ab : List Nat} {i : Nat} (h : i < ab.length) : (ab.take (i + 1)).reverse = ab[i] :: (ab.take i).reverse := by
  rw [List.take_succ_eq_append_getElem h, List.reverse_append]
  rfl
theorem Pp.zero {l : List Nd} {k i : Nat} {ab st : List Nat} (h : Pp l k (i + 1) ab st) (hi : i < st.length) (h0 : st[i] = 0) : Pp l k i ab st := by
  have hc := h.ch
  rw [rev_take hi, rev_take (by rw [← h.len]; exact hi), h0] at hc
  obtain ⟨h1, h2⟩ := hc.zero
  refine ⟨h.len, h2, ?_⟩
  rw [h.eq, List.take_succ_eq_append_getElem (by rw [← h.len]; exact hi), List.filter_append]
  have : List.filter (fun j => decide (k + 1 < j + zz l j)) [ab[i]'(by rw [← h.len]; exact hi)] = [] := by
    simp
    omega
  rw [this, List.append_nil]
theorem Pp.none {l : List Nd} {k : Nat} {ab st : List Nat} (h : Pp l k 0 ab st) : k + 1 = l.length := by
  have := h.ch
  simp only [List.take_zero, List.reverse_nil] at this
  exact this
theorem Pp.some {l : List Nd} {k i c : Nat} {ab st : List Nat} (h : Pp l k (i + 1) ab st) (hi : i < st.length) (h0 : st[i] = c + 1) : k + 1 < l.length ∧ Op l (k + 1) (ab.take (i + 1)) (st.take i ++ [c]) := by
  have hl := h.len
  have hc := h.ch
  rw [rev_take hi, rev_take (by omega), h0] at hc
  obtain ⟨h1, h2, h3⟩ := hc.succ
  refine ⟨h1, ?_, ?_, ?_⟩
  · rw [h.eq, List.filter_eq_self.2]
    intro x hx
    rw [decide_eq_true_eq]
    rw [List.take_succ_eq_append_getElem (by omega), List.mem_append, List.mem_singleton] at hx
    rcases hx with hx | rfl
    · have := h3.2.le x (by rwa [List.mem_reverse])
      omega
    · exact h2
  · simp
    omega
  · rw [List.reverse_append, rev_take (by omega)]
    exact h3
end Go.Proofs.Ytlipkhmidgogdaa.Pl

namespace Go.Proofs.Ytlipkhmidgogdaa.So
open Go Go.Proofs.Ytlipkhmidgogdaa.Rw

/-- A block of one. -/
def nBlk : Nd := ⟨9, ⟨#[]⟩, 0⟩
theorem T_blk (l : List Nd) : T (nBlk :: l) = match T l with | none => none | some (c, d) => some (c + 1, d + 1) := by
  rw [T_cons, if_neg (show ¬ ar nBlk.k < 0 by decide), show (ar nBlk.k).toNat = 0 + 1 from rfl, S_succ, S_zero]
  simp only [List.drop_zero]
  cases T l with
  | none => rfl
  | some x => obtain ⟨c, d⟩ := x; simp
theorem tre_blk {l : List Nd} : Tre (nBlk :: l) ↔ Tre l := by
  unfold Tre
  rw [T_blk]
  cases T l with
  | none => simp
  | some x => obtain ⟨c, d⟩ := x; simp
/-- A node of two. -/
def nOf (k : Int) : Nd := ⟨k, ⟨#[]⟩, 0⟩
end Go.Proofs.Ytlipkhmidgogdaa.So

namespace Go.Proofs.Ytlipkhmidgogdaa.Rf
open Go Rw Go.Proofs.Ytlipkhmidgogdaa.So

/-- An Alt, a Throw; an action that is asked for. -/
abbrev alt : Nd := So.nOf 6
abbrev thr : Nd := So.nOf 3
def hit (f : ByteArray → Bool) (x : Nd) : Bool := decide (x.k = 1) && f x.n
def sub1 (f : ByteArray → Bool) (x : Nd) : List Nd := if hit f x then [alt, x, thr] else [x]
def sub (f : ByteArray → Bool) (l : List Nd) : List Nd := l.flatMap (sub1 f)
/-- The trees of a row, and those of the row rewritten. -/
theorem leaf (x : Nd) (hx : ar x.k = 0) (r : List Nd) : T (x :: r) = some (1, 1) := by
  rw [T_cons, hx, if_neg (by decide), show ((0 : Int).toNat) = 0 from rfl, S_zero]
end Go.Proofs.Ytlipkhmidgogdaa.Rf

namespace Go.Proofs.Ytlipkhmidgogdaa.Rf
open Go Rw Go.Proofs.Ytlipkhmidgogdaa.So

/-- The places of the actions that are asked for, of the first k nodes. -/
def plk (f : ByteArray → Bool) (l : List Nd) (k : Nat) : List Nat := (List.range k).filter fun i => l[i]?.any (hit f)
def plc (f : ByteArray → Bool) (l : List Nd) : List Nat := plk f l l.length
end Go.Proofs.Ytlipkhmidgogdaa.Rf
