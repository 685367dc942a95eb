/- The statements' own first look at package row, from its contracts. Where the nodes of a tree stand: plain. Which nodes are above any one, how many leaves come ahead of it; no two at one point, all within the box. The document's Cat: two rows of actions as one of the call's own. The document's Is, Of, On and Right. The program's fit and made: what kids a node may have, and what it then is. The laws of rows from the contracts: RowTrees, RowNodes. Where the nodes of a tree stand: plain. The node above, no two at one point, all within the box, trees below and beside one another. The document's Then: the walk. Plain: the sorts kind by kind; terms have no node of what goes on, and what goes on has one. The document's On. The program's first: the sort of the tree with which a row begins, and what lies behind it. The document's Right. -/
import Derived.Test.YtdkaoiomndkbjaaDoorQ06
import Derived.Test.YtdkaoiomndkbjaaDoorQ05
import Derived.Deep.RegionHeld3
import Derived.Deep.QuietTactic
import Derived.BigQuiet
import Derived.Test.YtdkaoiomndkbjaaDoorQ04

namespace Go.Proofs.YtdkaoiomndkbjaaDoor.Rw
open Go Go.RowKit
set_option maxRecDepth 20000
structure Al (w0 : World) (B : Nat) (w : World) : Prop where
  bel : Below w0.heap.size w0 w
  lt : B < w.heap.size
  at' : At w B 0 aL
structure Al2 (w0 : World) (B b o c : Nat) (b0 : Option Addr) (c0 : Nat) (b1 : Option Addr) (c1 : Nat) (w : World) : Prop where
  al : Al w0 B w
  rws : Rws w (.slice (some ⟨b, o, none⟩) 2 c) [[n1], [n2, n3, n4]]
  k0 : w.cell? ⟨b, o, none⟩ = some (.slice b0 1 c0)
  k1 : w.cell? ⟨b, o + 1, none⟩ = some (.slice b1 3 c1)
end Go.Proofs.YtdkaoiomndkbjaaDoor.Rw

namespace Go.Proofs.YtdkaoiomndkbjaaDoor.Pl
open Go Rw So
theorem inner : ∀ (m : Nat) (l : List Nd), l.length ≤ m → ∀ c d, T l = some (c, d) → ∀ i, i < c → ∃ c' d', T (l.drop i) = some (c', d') ∧ i + c' ≤ c ∧ (0 < i → d' + 1 ≤ d)
  | 0, l, h, c, d, e, _, _ => by
    have : l = [] := List.eq_nil_of_length_eq_zero (by omega)
    subst this
    rw [T_nil] at e
    cases e
  | m + 1, [], h, c, d, e, _, _ => by rw [T_nil] at e; cases e
  | m + 1, n :: r, h, c, d, e, 0, _ => ⟨c, d, e, by omega, fun h => absurd h (Nat.lt_irrefl 0)⟩
  | m + 1, n :: r, h, c, d, e, i + 1, hi => by
    rw [T_cons] at e
    split at e
    · cases e
    · cases hs : S (Rw.ar n.k).toNat r with
      | none => rw [hs] at e; cases e
      | some x =>
        obtain ⟨c1, d1⟩ := x
        rw [hs] at e
        simp only [Option.some.injEq, Prod.mk.injEq] at e
        obtain ⟨rfl, rfl⟩ := e
        have hr : r.length ≤ m := by simpa using h
        have key : ∀ j c d, S j r = some (c, d) → ∀ i, i < c → ∃ c' d', T (r.drop i) = some (c', d') ∧ i + c' ≤ c ∧ d' ≤ d := by
          intro j
          induction j with
          | zero => intro c d e i hi; rw [S_zero] at e; cases e; exact absurd hi (Nat.not_lt_zero _)
          | succ j ih =>
            intro c d e i hi
            rw [S_succ] at e
            cases h1 : S j r with
            | none => rw [h1] at e; cases e
            | some x =>
              obtain ⟨c1, d1⟩ := x
              rw [h1] at e
              simp only at e
              cases h2 : T (r.drop c1) with
              | none => rw [h2] at e; cases e
              | some y =>
                obtain ⟨c2, d2⟩ := y
                rw [h2] at e
                simp only [Option.some.injEq, Prod.mk.injEq] at e
                obtain ⟨rfl, rfl⟩ := e
                by_cases hic : i < c1
                · obtain ⟨c', d', g1, g2, g3⟩ := ih c1 d1 h1 i hic
                  exact ⟨c', d', g1, by omega, by omega⟩
                · obtain ⟨c', d', g1, g2, g3⟩ := inner m (r.drop c1) (by rw [List.length_drop]; omega) c2 d2 h2 (i - c1) (by omega)
                  rw [List.drop_drop, show c1 + (i - c1) = i by omega] at g1
                  refine ⟨c', d', g1, by omega, ?_⟩
                  by_cases h0 : 0 < i - c1
                  · have := g3 h0
                    omega
                  · rw [show c1 = i by omega, g1] at h2
                    simp only [Option.some.injEq, Prod.mk.injEq] at h2
                    omega
        obtain ⟨c', d', h1, h2, h3⟩ := key _ c1 d1 hs i (by omega)
        exact ⟨c', d', by rw [List.drop_succ_cons]; exact h1, by omega, fun _ => by omega⟩
def zz (l : List Nd) (j : Nat) : Nat := Rw.size (l.drop j)
def dd (l : List Nd) (j : Nat) : Nat := Rw.depth (l.drop j)
theorem zz_some {l : List Nd} {j c d : Nat} (h : T (l.drop j) = some (c, d)) : zz l j = c ∧ dd l j = d := by
  unfold zz dd Rw.size Rw.depth
  rw [h]
  exact ⟨rfl, rfl⟩
theorem in_tree {l : List Nd} (h : Tre l) {j : Nat} (hj : j < l.length) : T (l.drop j) = some (zz l j, dd l j) ∧ 1 ≤ zz l j ∧ j + zz l j ≤ l.length := by
  obtain ⟨d, hd⟩ := h
  obtain ⟨c', d', h1, h2, _⟩ := inner _ l (Nat.le_refl _) _ d hd j hj
  obtain ⟨e1, e2⟩ := zz_some h1
  rw [e1, e2]
  exact ⟨h1, (T_bd h1).1, h2⟩
theorem nest {l : List Nd} (h : Tre l) {i j : Nat} (hi : i < j) (hj : j < i + zz l i) (hjl : j < l.length) : j + zz l j ≤ i + zz l i ∧ dd l j + 1 ≤ dd l i := by
  obtain ⟨h1, h2, h3⟩ := in_tree h (j := i) (by omega)
  obtain ⟨c', d', g1, g2, g3⟩ := inner _ (l.drop i) (Nat.le_refl _) _ _ h1 (j - i) (by omega)
  rw [List.drop_drop, show i + (j - i) = j by omega] at g1
  obtain ⟨e1, e2⟩ := zz_some g1
  rw [e1, e2]
  exact ⟨by omega, g3 (by omega)⟩
def ov (l : List Nd) (k : Nat) : List Nat := (List.range k).filter fun j => decide (k < j + zz l j)
theorem mem_ov {l : List Nd} {k j : Nat} : j ∈ ov l k ↔ j < k ∧ k < j + zz l j := by
  unfold ov
  rw [List.mem_filter, List.mem_range, decide_eq_true_eq]
theorem ov_zero (l : List Nd) : ov l 0 = [] := rfl
def xl (l : List Nd) (k : Nat) : Nat := (l.take k).countP fun x => decide (Rw.ar x.k = 0)
theorem xl_succ {l : List Nd} {k : Nat} (h : k < l.length) : xl l (k + 1) = xl l k + if Rw.ar l[k].k = 0 then 1 else 0 := by
  unfold xl
  rw [List.take_succ_eq_append_getElem h, List.countP_append]
  congr 1
  by_cases h0 : Rw.ar l[k].k = 0 <;> simp [h0]
theorem xl_mono {l : List Nd} {j k : Nat} (h : j ≤ k) : xl l j ≤ xl l k := by
  unfold xl
  exact ((List.take_sublist_take_left h).countP_le)
end Go.Proofs.YtdkaoiomndkbjaaDoor.Pl

namespace Go.Proofs.YtdkaoiomndkbjaaDoor.Tr
open Go Go.RowKit
set_option maxRecDepth 20000
end Go.Proofs.YtdkaoiomndkbjaaDoor.Tr

namespace Go.Proofs.YtdkaoiomndkbjaaDoor.So
open Go Go.RowKit Rw
set_option maxRecDepth 20000
theorem whole_tre {l : List Nd} (h : whole l = true) : Tre l := by
  unfold whole at h
  simp only [Bool.and_eq_true, decide_eq_true_eq] at h
  exact Tre.of_size h.2 (fun e => by rw [e] at h; exact absurd h.1.2.1 (by decide))
def Not (l : List Nd) (s : Nat) : Prop := ∀ i, 1 ≤ i → i < s → Is i l = false
end Go.Proofs.YtdkaoiomndkbjaaDoor.So

namespace Go.Proofs.YtdkaoiomndkbjaaDoor.Sx
open Go Go.RowKit Rw So
set_option maxRecDepth 20000
theorem five {a : Nat} (h : a ≤ 4) : a = 0 ∨ a = 1 ∨ a = 2 ∨ a = 3 ∨ a = 4 := by omega
set_option maxHeartbeats 400000 in
theorem plP (a : Nat) (w : World) (h : a ≤ 4) : Calls Tryd.prog 63 #[.int .i64 a] w fun e w' => e = .returned (.bool (pl a)) ∧ w = w' := by
  rcases five h with rfl | rfl | rfl | rfl | rfl
  all_goals
    go_enter Tryd.func63, Tryd.ntmps63
    go_wp2_with fail
    go_ret
    exact ⟨rfl, rfl⟩
set_option maxHeartbeats 400000 in
theorem pdP (a : Nat) (w : World) (h : a ≤ 4) : Calls Tryd.prog 61 #[.int .i64 a] w fun e w' => e = .returned (.bool (pd a)) ∧ w = w' := by
  rcases five h with rfl | rfl | rfl | rfl | rfl
  all_goals
    go_enter Tryd.func61, Tryd.ntmps61
    go_wp2_with fail
    go_ret
    exact ⟨rfl, rfl⟩
set_option maxHeartbeats 400000 in
theorem onP (a : Nat) (w : World) (h : a ≤ 4) : Calls Tryd.prog 97 #[.int .i64 a] w fun e w' => e = .returned (.bool (on a)) ∧ w = w' := by
  rcases five h with rfl | rfl | rfl | rfl | rfl
  all_goals
    go_enter Tryd.func97, Tryd.ntmps97
    go_wp2_with fail
    go_ret
    exact ⟨rfl, rfl⟩
set_option maxHeartbeats 2000000 in
theorem fit_leaf (k : Int) (w : World) (h : k = 1 ∨ k = 2 ∨ k = 3 ∨ k = 4 ∨ k = 11) : Calls Tryd.prog 90 #[.int .i64 k, .int .i64 0, .int .i64 0] w fun e w' => e = .returned (.bool (fit k 0 0)) ∧ w = w' := by
  rcases h with rfl | rfl | rfl | rfl | rfl
  all_goals
    go_enter Tryd.func90, Tryd.ntmps90
    go_wp2_with fail
    go_ret
    exact ⟨rfl, rfl⟩
set_option maxHeartbeats 2000000 in
theorem fit_9 (a : Nat) (w : World) (ha : a ≤ 4) : Calls Tryd.prog 90 #[.int .i64 9, .int .i64 a, .int .i64 0] w fun e w' => e = .returned (.bool (fit 9 a 0)) ∧ w = w' := by
  go_enter Tryd.func90, Tryd.ntmps90
  go_wp2_with fail
  refine (pdP a _ ha).mono ?_
  rintro e w' ⟨rfl, rfl⟩
  go_wp2_with fail
  go_ret
  exact ⟨rfl, rfl⟩
set_option maxHeartbeats 2000000 in
theorem fit_14 (a : Nat) (w : World) (ha : a ≤ 4) : Calls Tryd.prog 90 #[.int .i64 14, .int .i64 a, .int .i64 0] w fun e w' => e = .returned (.bool (fit 14 a 0)) ∧ w = w' := by
  rcases five ha with rfl | rfl | rfl | rfl | rfl
  all_goals
    go_enter Tryd.func90, Tryd.ntmps90
    go_wp2_with fail
    go_ret
    exact ⟨rfl, rfl⟩
set_option maxHeartbeats 4000000 in
theorem fit_5 (a b : Nat) (w : World) (ha : a ≤ 4) (hb : b ≤ 4) : Calls Tryd.prog 90 #[.int .i64 5, .int .i64 a, .int .i64 b] w fun e w' => e = .returned (.bool (fit 5 a b)) ∧ w = w' := by
  have c_onb := fun w => onP b w hb
  have c_pla := fun w => plP a w ha
  have c_pda := fun w => pdP a w ha
  have c_pdb := fun w => pdP b w hb
  have c_plb := fun w => plP b w hb
  have hr : fit 5 a b = (!on b && (pl a && pl b || pd a && pd b)) := rfl
  rw [hr]
  clear hr
  generalize on b = x_onb at *
  generalize pl a = x_pla at *
  generalize pd a = x_pda at *
  generalize pd b = x_pdb at *
  generalize pl b = x_plb at *
  go_enter Tryd.func90, Tryd.ntmps90
  go_wp2_with fail
  refine (c_onb _).mono ?_
  rintro e w' ⟨rfl, rfl⟩
  cases x_onb
  · go_wp2_with fail
    refine (c_pla _).mono ?_
    rintro e w' ⟨rfl, rfl⟩
    cases x_pla
    · go_wp2_with fail
      refine (c_pda _).mono ?_
      rintro e w' ⟨rfl, rfl⟩
      cases x_pda
      · go_wp2_with fail
        go_ret
        exact ⟨rfl, rfl⟩
      · go_wp2_with fail
        refine (c_pdb _).mono ?_
        rintro e w' ⟨rfl, rfl⟩
        cases x_pdb
        · go_wp2_with fail
          go_ret
          exact ⟨rfl, rfl⟩
        · go_wp2_with fail
          go_ret
          exact ⟨rfl, rfl⟩
    · go_wp2_with fail
      refine (c_plb _).mono ?_
      rintro e w' ⟨rfl, rfl⟩
      cases x_plb
      · go_wp2_with fail
        refine (c_pda _).mono ?_
        rintro e w' ⟨rfl, rfl⟩
        cases x_pda
        · go_wp2_with fail
          go_ret
          exact ⟨rfl, rfl⟩
        · go_wp2_with fail
          refine (c_pdb _).mono ?_
          rintro e w' ⟨rfl, rfl⟩
          cases x_pdb
          · go_wp2_with fail
            go_ret
            exact ⟨rfl, rfl⟩
          · go_wp2_with fail
            go_ret
            exact ⟨rfl, rfl⟩
      · go_wp2_with fail
        go_ret
        exact ⟨rfl, rfl⟩
  · go_wp2_with fail
    go_ret
    exact ⟨rfl, rfl⟩
set_option maxHeartbeats 4000000 in
theorem fit_6 (a b : Nat) (w : World) (ha : a ≤ 4) (hb : b ≤ 4) : Calls Tryd.prog 90 #[.int .i64 6, .int .i64 a, .int .i64 b] w fun e w' => e = .returned (.bool (fit 6 a b)) ∧ w = w' := by
  have c_ona := fun w => onP a w ha
  have c_onb := fun w => onP b w hb
  have c_pla := fun w => plP a w ha
  have c_pda := fun w => pdP a w ha
  have c_pdb := fun w => pdP b w hb
  have c_plb := fun w => plP b w hb
  have hr : fit 6 a b = (!on a && (!on b && (pl a && pl b || pd a && pd b))) := rfl
  rw [hr]
  clear hr
  generalize on a = x_ona at *
  generalize on b = x_onb at *
  generalize pl a = x_pla at *
  generalize pd a = x_pda at *
  generalize pd b = x_pdb at *
  generalize pl b = x_plb at *
  go_enter Tryd.func90, Tryd.ntmps90
  go_wp2_with fail
  refine (c_ona _).mono ?_
  rintro e w' ⟨rfl, rfl⟩
  cases x_ona
  · go_wp2_with fail
    refine (c_onb _).mono ?_
    rintro e w' ⟨rfl, rfl⟩
    cases x_onb
    · go_wp2_with fail
      refine (c_pla _).mono ?_
      rintro e w' ⟨rfl, rfl⟩
      cases x_pla
      · go_wp2_with fail
        refine (c_pda _).mono ?_
        rintro e w' ⟨rfl, rfl⟩
        cases x_pda
        · go_wp2_with fail
          go_ret
          exact ⟨rfl, rfl⟩
        · go_wp2_with fail
          refine (c_pdb _).mono ?_
          rintro e w' ⟨rfl, rfl⟩
          cases x_pdb
          · go_wp2_with fail
            go_ret
            exact ⟨rfl, rfl⟩
          · go_wp2_with fail
            go_ret
            exact ⟨rfl, rfl⟩
      · go_wp2_with fail
        refine (c_plb _).mono ?_
        rintro e w' ⟨rfl, rfl⟩
        cases x_plb
        · go_wp2_with fail
          refine (c_pda _).mono ?_
          rintro e w' ⟨rfl, rfl⟩
          cases x_pda
          · go_wp2_with fail
            go_ret
            exact ⟨rfl, rfl⟩
          · go_wp2_with fail
            refine (c_pdb _).mono ?_
            rintro e w' ⟨rfl, rfl⟩
            cases x_pdb
            · go_wp2_with fail
              go_ret
              exact ⟨rfl, rfl⟩
            · go_wp2_with fail
              go_ret
              exact ⟨rfl, rfl⟩
        · go_wp2_with fail
          go_ret
          exact ⟨rfl, rfl⟩
    · go_wp2_with fail
      go_ret
      exact ⟨rfl, rfl⟩
  · go_wp2_with fail
    go_ret
    exact ⟨rfl, rfl⟩
set_option maxHeartbeats 4000000 in
theorem fit_7 (a b : Nat) (w : World) (ha : a ≤ 4) (hb : b ≤ 4) : Calls Tryd.prog 90 #[.int .i64 7, .int .i64 a, .int .i64 b] w fun e w' => e = .returned (.bool (fit 7 a b)) ∧ w = w' := by
  have c_pla := fun w => plP a w ha
  have c_pda := fun w => pdP a w ha
  have c_pdb := fun w => pdP b w hb
  have c_plb := fun w => plP b w hb
  have hr : fit 7 a b = (pl a && pl b || pd a && pd b) := rfl
  rw [hr]
  clear hr
  generalize pl a = x_pla at *
  generalize pd a = x_pda at *
  generalize pd b = x_pdb at *
  generalize pl b = x_plb at *
  go_enter Tryd.func90, Tryd.ntmps90
  go_wp2_with fail
  refine (c_pla _).mono ?_
  rintro e w' ⟨rfl, rfl⟩
  cases x_pla
  · go_wp2_with fail
    refine (c_pda _).mono ?_
    rintro e w' ⟨rfl, rfl⟩
    cases x_pda
    · go_wp2_with fail
      go_ret
      exact ⟨rfl, rfl⟩
    · go_wp2_with fail
      refine (c_pdb _).mono ?_
      rintro e w' ⟨rfl, rfl⟩
      cases x_pdb
      · go_wp2_with fail
        go_ret
        exact ⟨rfl, rfl⟩
      · go_wp2_with fail
        go_ret
        exact ⟨rfl, rfl⟩
  · go_wp2_with fail
    refine (c_plb _).mono ?_
    rintro e w' ⟨rfl, rfl⟩
    cases x_plb
    · go_wp2_with fail
      refine (c_pda _).mono ?_
      rintro e w' ⟨rfl, rfl⟩
      cases x_pda
      · go_wp2_with fail
        go_ret
        exact ⟨rfl, rfl⟩
      · go_wp2_with fail
        refine (c_pdb _).mono ?_
        rintro e w' ⟨rfl, rfl⟩
        cases x_pdb
        · go_wp2_with fail
          go_ret
          exact ⟨rfl, rfl⟩
        · go_wp2_with fail
          go_ret
          exact ⟨rfl, rfl⟩
    · go_wp2_with fail
      go_ret
      exact ⟨rfl, rfl⟩
set_option maxHeartbeats 4000000 in
theorem fit_8 (a b : Nat) (w : World) (ha : a ≤ 4) : Calls Tryd.prog 90 #[.int .i64 8, .int .i64 a, .int .i64 b] w fun e w' => e = .returned (.bool (fit 8 a b)) ∧ w = w' := by
  have c_pla := fun w => plP a w ha
  have hr : fit 8 a b = (pl a && (b == 1)) := rfl
  rw [hr]
  clear hr
  generalize pl a = x_pla at *
  have hi : ((b : Int) == 1) = (b == 1) := by rw [Bool.eq_iff_iff, beq_iff_eq, beq_iff_eq]; omega
  generalize (b == 1) = q at *
  cases q
  all_goals
    go_enter Tryd.func90, Tryd.ntmps90
    go_wp2_with fail
    refine (c_pla _).mono ?_
    rintro e w' ⟨rfl, rfl⟩
    cases x_pla
    · go_wp2_with fail
      go_ret
      exact ⟨rfl, rfl⟩
    · go_wp2_with fail
      go_ret
      exact ⟨rfl, rfl⟩
set_option maxHeartbeats 4000000 in
theorem fit_10 (a b : Nat) (w : World) (ha : a ≤ 4) : Calls Tryd.prog 90 #[.int .i64 10, .int .i64 a, .int .i64 b] w fun e w' => e = .returned (.bool (fit 10 a b)) ∧ w = w' := by
  have c_ona := fun w => onP a w ha
  have c_pla := fun w => plP a w ha
  have hr : fit 10 a b = (!on a && (pl a && (b == 1))) := rfl
  rw [hr]
  clear hr
  generalize on a = x_ona at *
  generalize pl a = x_pla at *
  have hi : ((b : Int) == 1) = (b == 1) := by rw [Bool.eq_iff_iff, beq_iff_eq, beq_iff_eq]; omega
  generalize (b == 1) = q at *
  cases q
  all_goals
    go_enter Tryd.func90, Tryd.ntmps90
    go_wp2_with fail
    refine (c_ona _).mono ?_
    rintro e w' ⟨rfl, rfl⟩
    cases x_ona
    · go_wp2_with fail
      refine (c_pla _).mono ?_
      rintro e w' ⟨rfl, rfl⟩
      cases x_pla
      · go_wp2_with fail
        go_ret
        exact ⟨rfl, rfl⟩
      · go_wp2_with fail
        go_ret
        exact ⟨rfl, rfl⟩
    · go_wp2_with fail
      go_ret
      exact ⟨rfl, rfl⟩
set_option maxHeartbeats 4000000 in
theorem fit_12 (a b : Nat) (w : World) (ha : a ≤ 4) : Calls Tryd.prog 90 #[.int .i64 12, .int .i64 a, .int .i64 b] w fun e w' => e = .returned (.bool (fit 12 a b)) ∧ w = w' := by
  have c_pla := fun w => plP a w ha
  have hr : fit 12 a b = (pl a && (b == 1)) := rfl
  rw [hr]
  clear hr
  generalize pl a = x_pla at *
  have hi : ((b : Int) == 1) = (b == 1) := by rw [Bool.eq_iff_iff, beq_iff_eq, beq_iff_eq]; omega
  generalize (b == 1) = q at *
  cases q
  all_goals
    go_enter Tryd.func90, Tryd.ntmps90
    go_wp2_with fail
    refine (c_pla _).mono ?_
    rintro e w' ⟨rfl, rfl⟩
    cases x_pla
    · go_wp2_with fail
      go_ret
      exact ⟨rfl, rfl⟩
    · go_wp2_with fail
      go_ret
      exact ⟨rfl, rfl⟩
set_option maxHeartbeats 4000000 in
theorem fit_13 (a b : Nat) (w : World) (ha : a ≤ 4) : Calls Tryd.prog 90 #[.int .i64 13, .int .i64 a, .int .i64 b] w fun e w' => e = .returned (.bool (fit 13 a b)) ∧ w = w' := by
  have c_pda := fun w => pdP a w ha
  have hr : fit 13 a b = (pd a && (b == 1)) := rfl
  rw [hr]
  clear hr
  generalize pd a = x_pda at *
  have hi : ((b : Int) == 1) = (b == 1) := by rw [Bool.eq_iff_iff, beq_iff_eq, beq_iff_eq]; omega
  generalize (b == 1) = q at *
  cases q
  all_goals
    go_enter Tryd.func90, Tryd.ntmps90
    go_wp2_with fail
    refine (c_pda _).mono ?_
    rintro e w' ⟨rfl, rfl⟩
    cases x_pda
    · go_wp2_with fail
      go_ret
      exact ⟨rfl, rfl⟩
    · go_wp2_with fail
      go_ret
      exact ⟨rfl, rfl⟩
theorem fit_any (k : Int) (a b : Nat) (w : World) (hk : 0 ≤ Rw.ar k) (ha : a ≤ 4) (hb : b ≤ 4) (h0 : Rw.ar k = 0 → a = 0) (h1 : Rw.ar k ≤ 1 → b = 0) : Calls Tryd.prog 90 #[.int .i64 k, .int .i64 a, .int .i64 b] w fun e w' => e = .returned (.bool (fit k a b)) ∧ w = w' := by
  rcases kinds hk with rfl | rfl | rfl | rfl | rfl | rfl | rfl | rfl | rfl | rfl | rfl | rfl | rfl | rfl
  case inr.inr.inr.inr.inl => exact fit_5 a b w ha hb
  case inr.inr.inr.inr.inr.inl => exact fit_6 a b w ha hb
  case inr.inr.inr.inr.inr.inr.inl => exact fit_7 a b w ha hb
  case inr.inr.inr.inr.inr.inr.inr.inl => exact fit_8 a b w ha
  case inr.inr.inr.inr.inr.inr.inr.inr.inl => obtain rfl := h1 (by decide); exact fit_9 a w ha
  case inr.inr.inr.inr.inr.inr.inr.inr.inr.inl => exact fit_10 a b w ha
  case inr.inr.inr.inr.inr.inr.inr.inr.inr.inr.inr.inl => exact fit_12 a b w ha
  case inr.inr.inr.inr.inr.inr.inr.inr.inr.inr.inr.inr.inl => exact fit_13 a b w ha
  case inr.inr.inr.inr.inr.inr.inr.inr.inr.inr.inr.inr.inr => obtain rfl := h1 (by decide); exact fit_14 a w ha
  all_goals
    obtain rfl := h0 (by decide)
    obtain rfl := h1 (by decide)
    exact fit_leaf _ w (by decide)
set_option maxHeartbeats 2000000 in
theorem made_two (k : Int) (a b : Nat) (w : World) (h : k = 5 ∨ k = 6 ∨ k = 7 ∨ k = 8) : Calls Tryd.prog 91 #[.int .i64 k, .int .i64 a, .int .i64 b] w fun e w' => e = .returned (.int .i64 (made k a b)) ∧ w = w' := by
  have hm : made k a b = max a b := by unfold made; rw [if_pos h]
  have HM : Hid (((max a b : Nat) : Int) = (made k a b : Nat)) := by show _ = _; rw [hm]
  clear hm
  rcases h with rfl | rfl | rfl | rfl
  all_goals
    go_enter Tryd.func91, Tryd.ntmps91
    go_wp2_with fail
  all_goals
    go_ret
    exact ⟨ret_int (by rw [← HM.out]; omega), rfl⟩
set_option maxHeartbeats 2000000 in
theorem made_9 (a b : Nat) (w : World) (ha : a ≤ 4) : Calls Tryd.prog 91 #[.int .i64 9, .int .i64 a, .int .i64 b] w fun e w' => e = .returned (.int .i64 (made 9 a b)) ∧ w = w' := by
  rcases five ha with rfl | rfl | rfl | rfl | rfl
  all_goals
    go_enter Tryd.func91, Tryd.ntmps91
    go_wp2_with fail
    go_ret
    exact ⟨rfl, rfl⟩
set_option maxHeartbeats 2000000 in
theorem made_other (k : Int) (a b : Nat) (w : World) (h : k = 1 ∨ k = 2 ∨ k = 3 ∨ k = 4 ∨ k = 10 ∨ k = 11 ∨ k = 12 ∨ k = 13 ∨ k = 14) : Calls Tryd.prog 91 #[.int .i64 k, .int .i64 a, .int .i64 b] w fun e w' => e = .returned (.int .i64 (made k a b)) ∧ w = w' := by
  rcases h with rfl | rfl | rfl | rfl | rfl | rfl | rfl | rfl | rfl
  all_goals
    go_enter Tryd.func91, Tryd.ntmps91
    go_wp2_with fail
    go_ret
    exact ⟨rfl, rfl⟩
theorem made_any (k : Int) (a b : Nat) (w : World) (hk : 0 ≤ Rw.ar k) (ha : a ≤ 4) : Calls Tryd.prog 91 #[.int .i64 k, .int .i64 a, .int .i64 b] w fun e w' => e = .returned (.int .i64 (made k a b)) ∧ w = w' := by
  by_cases h2 : k = 5 ∨ k = 6 ∨ k = 7 ∨ k = 8
  · exact made_two k a b w h2
  · by_cases h9 : k = 9
    · subst h9
      exact made_9 a b w ha
    · exact made_other k a b w (by have := kinds hk; omega)
end Go.Proofs.YtdkaoiomndkbjaaDoor.Sx

namespace Go.Proofs.YtdkaoiomndkbjaaDoor.Rw
open Go Go.RowKit
set_option maxRecDepth 20000
structure Kp (w0 : World) (v : Value) (l : List Nd) (w : World) : Prop where
  bel : Below w0.heap.size w0 w
  nds : Nds w v l
end Go.Proofs.YtdkaoiomndkbjaaDoor.Rw

namespace Go.Proofs.YtdkaoiomndkbjaaDoor.Pl
open Go Rw So
theorem zz_zero {l : List Nd} (h : Tre l) : zz l 0 = l.length := by
  unfold zz
  rw [List.drop_zero]
  exact h.size
/-! ### Below one node more, and beside one another -/
def one (l : List Nd) : Bool := decide (0 < l.length) && decide (Rw.size l = l.length)
theorem one_tre {l : List Nd} : one l = true ↔ Tre l := by
  unfold one
  rw [Bool.and_eq_true, decide_eq_true_eq, decide_eq_true_eq]
  constructor
  · rintro ⟨h1, h2⟩
    exact Tre.of_size h2 (fun e => by rw [e] at h1; exact absurd h1 (Nat.lt_irrefl 0))
  · intro h
    exact ⟨h.pos, h.size⟩
end Go.Proofs.YtdkaoiomndkbjaaDoor.Pl

namespace Go.Proofs.YtdkaoiomndkbjaaDoor.Tr
open Go Go.RowKit
set_option maxRecDepth 20000
def thn (p q : Tr) : Tr := if p.e = 1 then ⟨p.a ++ q.a, q.e⟩ else p
end Go.Proofs.YtdkaoiomndkbjaaDoor.Tr

namespace Go.Proofs.YtdkaoiomndkbjaaDoor.So
open Go Rw
theorem eq_1_1 {l : List Nd} (h : hd l = 1) : Is 1 l = true := by
  rw [Is_one]
  unfold plainB
  rw [h]
  rfl
theorem eq_1_2 {l : List Nd} (h : hd l = 1) : Is 2 l = false := by
  rw [Is_two]
  unfold pairedB
  rw [h]
  rfl
theorem eq_1_3 {l : List Nd} (h : hd l = 1) : Is 3 l = (true || false) := by
  rw [Is_three]
  unfold plainB plainOnB
  rw [h]
  rfl
theorem eq_1_4 {l : List Nd} (h : hd l = 1) : Is 4 l = (false || false) := by
  rw [Is_four]
  unfold pairedB pairedOnB
  rw [h]
  rfl
theorem eq_2_1 {l : List Nd} (h : hd l = 2) : Is 1 l = true := by
  rw [Is_one]
  unfold plainB
  rw [h]
  rfl
theorem eq_2_2 {l : List Nd} (h : hd l = 2) : Is 2 l = false := by
  rw [Is_two]
  unfold pairedB
  rw [h]
  rfl
theorem eq_2_3 {l : List Nd} (h : hd l = 2) : Is 3 l = (true || false) := by
  rw [Is_three]
  unfold plainB plainOnB
  rw [h]
  rfl
theorem eq_2_4 {l : List Nd} (h : hd l = 2) : Is 4 l = (false || false) := by
  rw [Is_four]
  unfold pairedB pairedOnB
  rw [h]
  rfl
theorem eq_3_1 {l : List Nd} (h : hd l = 3) : Is 1 l = true := by
  rw [Is_one]
  unfold plainB
  rw [h]
  rfl
theorem eq_3_2 {l : List Nd} (h : hd l = 3) : Is 2 l = false := by
  rw [Is_two]
  unfold pairedB
  rw [h]
  rfl
theorem eq_3_3 {l : List Nd} (h : hd l = 3) : Is 3 l = (true || false) := by
  rw [Is_three]
  unfold plainB plainOnB
  rw [h]
  rfl
theorem eq_3_4 {l : List Nd} (h : hd l = 3) : Is 4 l = (false || false) := by
  rw [Is_four]
  unfold pairedB pairedOnB
  rw [h]
  rfl
theorem eq_4_1 {l : List Nd} (h : hd l = 4) : Is 1 l = true := by
  rw [Is_one]
  unfold plainB
  rw [h]
  rfl
theorem eq_4_2 {l : List Nd} (h : hd l = 4) : Is 2 l = false := by
  rw [Is_two]
  unfold pairedB
  rw [h]
  rfl
theorem eq_4_3 {l : List Nd} (h : hd l = 4) : Is 3 l = (true || false) := by
  rw [Is_three]
  unfold plainB plainOnB
  rw [h]
  rfl
theorem eq_4_4 {l : List Nd} (h : hd l = 4) : Is 4 l = (false || false) := by
  rw [Is_four]
  unfold pairedB pairedOnB
  rw [h]
  rfl
theorem eq_5_1 {l : List Nd} (h : hd l = 5) : Is 1 l = (Is 1 (k0 l) && Is 1 (k1 l)) := by
  rw [Is_one]
  unfold plainB
  rw [h]
  rfl
theorem eq_5_2 {l : List Nd} (h : hd l = 5) : Is 2 l = (Is 2 (k0 l) && Is 2 (k1 l)) := by
  rw [Is_two]
  unfold pairedB
  rw [h]
  rfl
theorem eq_5_3 {l : List Nd} (h : hd l = 5) : Is 3 l = ((Is 1 (k0 l) && Is 1 (k1 l)) || (Is 3 (k0 l) && Is 1 (k1 l))) := by
  rw [Is_three]
  unfold plainB plainOnB
  rw [h]
  rfl
theorem eq_5_4 {l : List Nd} (h : hd l = 5) : Is 4 l = ((Is 2 (k0 l) && Is 2 (k1 l)) || (Is 4 (k0 l) && Is 2 (k1 l))) := by
  rw [Is_four]
  unfold pairedB pairedOnB
  rw [h]
  rfl
theorem eq_6_1 {l : List Nd} (h : hd l = 6) : Is 1 l = (Is 1 (k0 l) && Is 1 (k1 l)) := by
  rw [Is_one]
  unfold plainB
  rw [h]
  rfl
theorem eq_6_2 {l : List Nd} (h : hd l = 6) : Is 2 l = (Is 2 (k0 l) && Is 2 (k1 l)) := by
  rw [Is_two]
  unfold pairedB
  rw [h]
  rfl
theorem eq_6_3 {l : List Nd} (h : hd l = 6) : Is 3 l = ((Is 1 (k0 l) && Is 1 (k1 l)) || false) := by
  rw [Is_three]
  unfold plainB plainOnB
  rw [h]
  rfl
theorem eq_6_4 {l : List Nd} (h : hd l = 6) : Is 4 l = ((Is 2 (k0 l) && Is 2 (k1 l)) || false) := by
  rw [Is_four]
  unfold pairedB pairedOnB
  rw [h]
  rfl
theorem eq_7_1 {l : List Nd} (h : hd l = 7) : Is 1 l = (Is 1 (k0 l) && Is 1 (k1 l)) := by
  rw [Is_one]
  unfold plainB
  rw [h]
  rfl
theorem eq_7_2 {l : List Nd} (h : hd l = 7) : Is 2 l = (Is 2 (k0 l) && Is 2 (k1 l)) := by
  rw [Is_two]
  unfold pairedB
  rw [h]
  rfl
theorem eq_7_3 {l : List Nd} (h : hd l = 7) : Is 3 l = ((Is 1 (k0 l) && Is 1 (k1 l)) || (Is 3 (k0 l) && Is 3 (k1 l))) := by
  rw [Is_three]
  unfold plainB plainOnB
  rw [h]
  rfl
theorem eq_7_4 {l : List Nd} (h : hd l = 7) : Is 4 l = ((Is 2 (k0 l) && Is 2 (k1 l)) || (Is 4 (k0 l) && Is 4 (k1 l))) := by
  rw [Is_four]
  unfold pairedB pairedOnB
  rw [h]
  rfl
theorem eq_8_1 {l : List Nd} (h : hd l = 8) : Is 1 l = (Is 1 (k0 l) && Is 1 (k1 l)) := by
  rw [Is_one]
  unfold plainB
  rw [h]
  rfl
theorem eq_8_2 {l : List Nd} (h : hd l = 8) : Is 2 l = false := by
  rw [Is_two]
  unfold pairedB
  rw [h]
  rfl
theorem eq_8_3 {l : List Nd} (h : hd l = 8) : Is 3 l = ((Is 1 (k0 l) && Is 1 (k1 l)) || (Is 3 (k0 l) && Is 1 (k1 l))) := by
  rw [Is_three]
  unfold plainB plainOnB
  rw [h]
  rfl
theorem eq_8_4 {l : List Nd} (h : hd l = 8) : Is 4 l = (false || false) := by
  rw [Is_four]
  unfold pairedB pairedOnB
  rw [h]
  rfl
theorem eq_9_1 {l : List Nd} (h : hd l = 9) : Is 1 l = Is 2 (k0 l) := by
  rw [Is_one]
  unfold plainB
  rw [h]
  rfl
theorem eq_9_2 {l : List Nd} (h : hd l = 9) : Is 2 l = false := by
  rw [Is_two]
  unfold pairedB
  rw [h]
  rfl
theorem eq_9_3 {l : List Nd} (h : hd l = 9) : Is 3 l = (Is 2 (k0 l) || Is 4 (k0 l)) := by
  rw [Is_three]
  unfold plainB plainOnB
  rw [h]
  rfl
theorem eq_9_4 {l : List Nd} (h : hd l = 9) : Is 4 l = (false || false) := by
  rw [Is_four]
  unfold pairedB pairedOnB
  rw [h]
  rfl
theorem eq_10_1 {l : List Nd} (h : hd l = 10) : Is 1 l = false := by
  rw [Is_one]
  unfold plainB
  rw [h]
  rfl
theorem eq_10_2 {l : List Nd} (h : hd l = 10) : Is 2 l = (Is 1 (k0 l) && Is 1 (k1 l)) := by
  rw [Is_two]
  unfold pairedB
  rw [h]
  rfl
theorem eq_10_3 {l : List Nd} (h : hd l = 10) : Is 3 l = (false || false) := by
  rw [Is_three]
  unfold plainB plainOnB
  rw [h]
  rfl
theorem eq_10_4 {l : List Nd} (h : hd l = 10) : Is 4 l = ((Is 1 (k0 l) && Is 1 (k1 l)) || false) := by
  rw [Is_four]
  unfold pairedB pairedOnB
  rw [h]
  rfl
theorem eq_11_1 {l : List Nd} (h : hd l = 11) : Is 1 l = false := by
  rw [Is_one]
  unfold plainB
  rw [h]
  rfl
theorem eq_11_2 {l : List Nd} (h : hd l = 11) : Is 2 l = false := by
  rw [Is_two]
  unfold pairedB
  rw [h]
  rfl
theorem eq_11_3 {l : List Nd} (h : hd l = 11) : Is 3 l = (false || true) := by
  rw [Is_three]
  unfold plainB plainOnB
  rw [h]
  rfl
theorem eq_11_4 {l : List Nd} (h : hd l = 11) : Is 4 l = (false || false) := by
  rw [Is_four]
  unfold pairedB pairedOnB
  rw [h]
  rfl
theorem eq_12_1 {l : List Nd} (h : hd l = 12) : Is 1 l = false := by
  rw [Is_one]
  unfold plainB
  rw [h]
  rfl
theorem eq_12_2 {l : List Nd} (h : hd l = 12) : Is 2 l = false := by
  rw [Is_two]
  unfold pairedB
  rw [h]
  rfl
theorem eq_12_3 {l : List Nd} (h : hd l = 12) : Is 3 l = (false || false) := by
  rw [Is_three]
  unfold plainB plainOnB
  rw [h]
  rfl
theorem eq_12_4 {l : List Nd} (h : hd l = 12) : Is 4 l = (false || (Is 3 (k0 l) && Is 1 (k1 l))) := by
  rw [Is_four]
  unfold pairedB pairedOnB
  rw [h]
  rfl
theorem eq_13_1 {l : List Nd} (h : hd l = 13) : Is 1 l = false := by
  rw [Is_one]
  unfold plainB
  rw [h]
  rfl
theorem eq_13_2 {l : List Nd} (h : hd l = 13) : Is 2 l = false := by
  rw [Is_two]
  unfold pairedB
  rw [h]
  rfl
theorem eq_13_3 {l : List Nd} (h : hd l = 13) : Is 3 l = (false || false) := by
  rw [Is_three]
  unfold plainB plainOnB
  rw [h]
  rfl
theorem eq_13_4 {l : List Nd} (h : hd l = 13) : Is 4 l = (false || (Is 4 (k0 l) && Is 1 (k1 l))) := by
  rw [Is_four]
  unfold pairedB pairedOnB
  rw [h]
  rfl
theorem eq_14_1 {l : List Nd} (h : hd l = 14) : Is 1 l = false := by
  rw [Is_one]
  unfold plainB
  rw [h]
  rfl
theorem eq_14_2 {l : List Nd} (h : hd l = 14) : Is 2 l = false := by
  rw [Is_two]
  unfold pairedB
  rw [h]
  rfl
theorem eq_14_3 {l : List Nd} (h : hd l = 14) : Is 3 l = (false || false) := by
  rw [Is_three]
  unfold plainB plainOnB
  rw [h]
  rfl
theorem eq_14_4 {l : List Nd} (h : hd l = 14) : Is 4 l = (false || Is 1 (k0 l)) := by
  rw [Is_four]
  unfold pairedB pairedOnB
  rw [h]
  rfl
def on (l : List Nd) : Nat := cnt l [11, 12, 13, 14]
theorem Tre.flat {l : List Nd} (h : Tre l) : ∃ x, hd l = x.k ∧ l = x :: (Rw.kids l).flatten := by
  have hs := h.size
  have hp := h.pos
  cases l with
  | nil => exact absurd hp (Nat.lt_irrefl 0)
  | cons x r =>
    refine ⟨x, rfl, ?_⟩
    have := kids_flat (n := x) (r := r) (by rw [hs]; omega)
    rw [hs, List.take_length] at this
    exact this.symm
end Go.Proofs.YtdkaoiomndkbjaaDoor.So

namespace Go.Proofs.YtdkaoiomndkbjaaDoor.So
open Go Go.RowKit Rw
set_option maxRecDepth 20000
def onB (l : List Nd) (p : Bool) : Bool := if p then of l == 2 || of l == 4 else of l == 1 || of l == 3
end Go.Proofs.YtdkaoiomndkbjaaDoor.So

namespace Go.Proofs.YtdkaoiomndkbjaaDoor.Sx
open Go Go.RowKit Rw So
set_option maxRecDepth 20000
def FirstC (m : Nat) : Prop := ∀ (L R : List Nd) (w0 w : World) (v : Value), L.length < m → Tre L → Nds w0 v (L ++ R) → Below w0.heap.size w0 w →
  Calls Tryd.prog 77 #[v] w fun e w' => ∃ y, e = .returned (.tuple #[.int .i64 (So.first L), y]) ∧ Nds w0 y R ∧ Below w.heap.size w w'
structure Loc (w wx : World) (n : Nd) (x0 x1 : Int) : Prop where
  bel : Below w.heap.size w wx
  sz : w.heap.size + 1 < wx.heap.size
  c0 : wx.cell? ⟨w.heap.size, 0, none⟩ = some (.int .i64 n.k)
  k0 : wx.cell? ⟨w.heap.size + 1, 0, none⟩ = some (.int .i64 x0)
  k1 : wx.cell? ⟨w.heap.size + 1, 1, none⟩ = some (.int .i64 x1)
  f0 : wx.frozen? ⟨w.heap.size + 1, 0, none⟩ = false
  f1 : wx.frozen? ⟨w.heap.size + 1, 1, none⟩ = false
theorem Loc.below {w wx wy : World} {n : Nd} {x0 x1 : Int} (h : Loc w wx n x0 x1) (hb : Below wx.heap.size wx wy) : Loc w wy n x0 x1 := by
  have hs := h.sz
  exact ⟨h.bel.trans (hb.mono h.bel.size), Nat.lt_of_lt_of_le h.sz hb.size, by rw [hb.cell (p := ⟨w.heap.size, 0, none⟩) (by show w.heap.size < _; omega)]; exact h.c0,
    by rw [hb.cell (p := ⟨w.heap.size + 1, 0, none⟩) hs]; exact h.k0, by rw [hb.cell (p := ⟨w.heap.size + 1, 1, none⟩) hs]; exact h.k1,
    by rw [hb.frozen (p := ⟨w.heap.size + 1, 0, none⟩) hs]; exact h.f0, by rw [hb.frozen (p := ⟨w.heap.size + 1, 1, none⟩) hs]; exact h.f1⟩
theorem Loc.start (w : World) (n : Nd) : Loc w ((w.alloc (.cells #[.int .i64 n.k, .string n.n, .int .i64 n.s] 37)).alloc (.cells #[.int .i64 0, .int .i64 0] 108)).drew n 0 0 := by
  constructor
  · exact (((Below.refl _ _).alloc (Nat.le_refl _) _).alloc (by simp) _).drew
  all_goals simp
theorem set_size (w : World) (p : Addr) (v : Value) : (w.setCell p v).heap.size = w.heap.size := by simp [World.setCell]
theorem Loc.set0 {w wx : World} {n : Nd} {x0 x1 : Int} (h : Loc w wx n x0 x1) (y : Int) : Loc w (wx.setCell ⟨w.heap.size + 1, 0, none⟩ (.int .i64 y)) n y x1 := by
  have hs := h.sz
  obtain ⟨h1, h2, h3, h4, h5, h6, h7⟩ := h
  exact ⟨h1.setCell (by show w.heap.size ≤ w.heap.size + 1; omega) _, (by rw [set_size]; exact h2), (by rw [World.cell?_setCell_other _ _ _ _ (by intro e; injection e with e1 e2; omega)]; exact h3),
    World.cell?_setCell_same _ _ _ h4, (by rw [World.cell?_setCell_other _ _ _ _ (by intro e; injection e with e1 e2; omega)]; exact h5), (by rw [World.frozen?_setCell]; exact h6), (by rw [World.frozen?_setCell]; exact h7)⟩
theorem Loc.set1 {w wx : World} {n : Nd} {x0 x1 : Int} (h : Loc w wx n x0 x1) (y : Int) : Loc w (wx.setCell ⟨w.heap.size + 1, 1, none⟩ (.int .i64 y)) n x0 y := by
  have hs := h.sz
  obtain ⟨h1, h2, h3, h4, h5, h6, h7⟩ := h
  exact ⟨h1.setCell (by show w.heap.size ≤ w.heap.size + 1; omega) _, (by rw [set_size]; exact h2), (by rw [World.cell?_setCell_other _ _ _ _ (by intro e; injection e with e1 e2; omega)]; exact h3),
    (by rw [World.cell?_setCell_other _ _ _ _ (by intro e; injection e with e1 e2; omega)]; exact h4), World.cell?_setCell_same _ _ _ h5, (by rw [World.frozen?_setCell]; exact h6), (by rw [World.frozen?_setCell]; exact h7)⟩
theorem tail_nds {w : World} {b o c : Nat} {n : Nd} {R : List Nd} (h : At w b o (n :: R)) (hc : (n :: R).length ≤ c) :
    ∃ a, (if c = 1 then some (⟨b, o, none⟩ : Addr) else some ⟨b, o + 3, none⟩) = a ∧ Nds w (.slice a R.length (c - 1)) R := by
  refine ⟨_, rfl, ?_⟩
  have hl : R.length + 1 ≤ c := hc
  split
  · rename_i h0
    have : R = [] := List.eq_nil_of_length_eq_zero (by omega)
    subst this
    exact ⟨rfl, _, _, rfl, by simp, fun h => (by cases h), fun h => absurd h (Nat.lt_irrefl 0)⟩
  · have := part_nds h 1 R.length (c - 1) (by simp; omega) (by omega)
    simpa using this
theorem ret_two {z z' : Nat} {y : Value} (h : z = z') : Ending.returned (.tuple #[.int .i64 (z' : Int), y]) = Ending.returned (.tuple #[.int .i64 (z : Int), y]) := by rw [h]
set_option maxHeartbeats 2000000 in
theorem first0 (L R : List Nd) (w0 w : World) (v : Value) (h : Tre L) (h0 : Rw.ar (hd L) = 0) (hv : Nds w0 v (L ++ R)) (hw : Below w0.heap.size w0 w) :
    Calls Tryd.prog 77 #[v] w fun e w' => ∃ y, e = .returned (.tuple #[.int .i64 (So.first L), y]) ∧ Nds w0 y R ∧ Below w.heap.size w w' := by
  obtain ⟨n, hn, rfl, hf⟩ := parts0 h h0
  rw [hn] at h0
  have H0 := Lib.hid h0
  have HF := Lib.hid hf
  have HK := Lib.hid (show 0 ≤ Rw.ar n.k by rw [h0]; decide)
  rcases hv.form with ⟨hx, _⟩ | ⟨b0, o, c, rfl, hc, hat⟩
  · cases hx
  have hz : [n] ++ R = n :: R := by simp
  rw [hz] at hat hc ⊢
  obtain ⟨e1, e2, e3⟩ := hat 0 (by simp)
  rw [Nat.zero_mul, Nat.add_zero] at e1 e2 e3
  simp only [List.getElem_cons_zero] at e1 e2 e3
  rw [← hw.cell (Ap.cell_lt e1)] at e1
  rw [← hw.cell (Ap.cell_lt e2)] at e2
  rw [← hw.cell (Ap.cell_lt e3)] at e3
  have HW := Lib.hid hw
  obtain ⟨a1, hsl, hnd⟩ := tail_nds hat hc
  have ND := Lib.hid hnd
  have HL := Lib.hid (Loc.start w n)
  rw [List.length_cons]
  obtain ⟨N, hN⟩ : ∃ N, R.length = N := ⟨_, rfl⟩
  rw [hN] at ND ⊢
  obtain ⟨F, hF⟩ : ∃ F, So.first [n] = F := ⟨_, rfl⟩
  rw [hF] at HF ⊢
  have g1 : (1 : Int) ≤ (N : Int) + 1 := by omega
  have lt : b0 < w.heap.size := Ap.cell_lt e1
  clear hat hc hnd hz hN hF hn hf h0 h hv hw
  go_enter Tryd.func77, Tryd.ntmps77
  go_wp2_with fail
  go_region
  go_wp2_with fail
  refine (Rx.arP_eq n.k _).mono ?_
  rw [H0.out]
  rintro e w' ⟨rfl, rfl⟩
  go_wp2_with fail
  refine Go.wp_loop_rounds 1 ?_
  rw [rounds_succ]
  go_wp2_with fail
  refine (fit_any n.k 0 0 _ HK.out (by omega) (by omega) (fun _ => rfl) (fun _ => rfl)).mono ?_
  rintro e w' ⟨rfl, rfl⟩
  cases hq : fit n.k 0 0 with
  | false =>
    have HZ : Hid (F = 0) := by
      show _ = _
      rw [HF.out]
      unfold comb
      rw [hq]
      rfl
    clear hq
    go_wp2_with fail
    go_ret2
    exact ⟨_, ret_two HZ.out, ND.out, HL.out.bel⟩
  | true =>
    have HZ : Hid (F = made n.k 0 0) := by
      show _ = _
      rw [HF.out]
      unfold comb
      rw [hq]
      rfl
    clear hq
    go_wp2_with fail
    refine (made_any n.k 0 0 _ HK.out (by omega)).mono ?_
    rintro e w' ⟨rfl, rfl⟩
    go_wp2_with fail
    go_ret2
    exact ⟨_, ret_two HZ.out, ND.out, HL.out.bel⟩
set_option maxHeartbeats 2000000 in
theorem first1 (m : Nat) (IH : FirstC m) (L R : List Nd) (w0 w : World) (v : Value) (hm : L.length ≤ m) (h : Tre L) (h0 : Rw.ar (hd L) = 1) (hv : Nds w0 v (L ++ R)) (hw : Below w0.heap.size w0 w) :
    Calls Tryd.prog 77 #[v] w fun e w' => ∃ y, e = .returned (.tuple #[.int .i64 (So.first L), y]) ∧ Nds w0 y R ∧ Below w.heap.size w w' := by
  obtain ⟨n, a, hn, rfl, hta, hf⟩ := parts1 h h0
  rw [hn] at h0
  have H0 := Lib.hid h0
  have HF := Lib.hid hf
  have HK := Lib.hid (show 0 ≤ Rw.ar n.k by rw [h0]; decide)
  have HTA := Lib.hid hta
  have HA4 := Lib.hid (first_le a)
  have la : a.length < m := by simp at hm; omega
  rcases hv.form with ⟨hx, _⟩ | ⟨b0, o, c, rfl, hc, hat⟩
  · cases hx
  have hz : (n :: a) ++ R = n :: (a ++ R) := by simp
  rw [hz] at hat hc ⊢
  obtain ⟨e1, e2, e3⟩ := hat 0 (by simp)
  rw [Nat.zero_mul, Nat.add_zero] at e1 e2 e3
  simp only [List.getElem_cons_zero] at e1 e2 e3
  rw [← hw.cell (Ap.cell_lt e1)] at e1
  rw [← hw.cell (Ap.cell_lt e2)] at e2
  rw [← hw.cell (Ap.cell_lt e3)] at e3
  have HW := Lib.hid hw
  obtain ⟨a1, hsl, hnd⟩ := tail_nds hat hc
  have ND := Lib.hid hnd
  have HL := Lib.hid (Loc.start w n)
  rw [List.length_cons]
  obtain ⟨N, hN⟩ : ∃ N, (a ++ R).length = N := ⟨_, rfl⟩
  rw [hN] at ND ⊢
  obtain ⟨F, hF⟩ : ∃ F, So.first (n :: a) = F := ⟨_, rfl⟩
  rw [hF] at HF ⊢
  have g1 : (1 : Int) ≤ (N : Int) + 1 := by omega
  have lt : b0 < w.heap.size := Ap.cell_lt e1
  obtain ⟨A, hA⟩ : ∃ A, So.first a = A := ⟨_, rfl⟩
  rw [hA] at HF HA4
  have HA := Lib.hid hA
  clear hA hta
  clear hat hc hnd hz hN hF hn hf h0 h hv hw hm
  go_enter Tryd.func77, Tryd.ntmps77
  go_wp2_with fail
  go_region
  go_wp2_with fail
  refine (Rx.arP_eq n.k _).mono ?_
  rw [H0.out]
  rintro e w' ⟨rfl, rfl⟩
  go_wp2_with fail
  refine Go.wp_loop_rounds 2 ?_
  rw [rounds_succ]
  go_wp2_with fail
  refine (IH a R w0 _ _ la HTA.out ND.out (HW.out.trans (HL.out.bel.mono HW.out.size))).mono ?_
  rw [HA.out]
  rintro e w1 ⟨y1, rfl, hy, hb⟩
  have HY := Lib.hid hy
  have HM := Lib.hid (HL.out.below hb)
  obtain ⟨_, a2, c2, rfl, -⟩ := hy
  clear hb e1 e2 e3 lt
  obtain ⟨k1, k2, k3, k4, k5, k6, k7⟩ := HM.out
  go_wp2_with fail
  rw [rounds_succ]
  go_wp2_with fail
  refine (fit_any n.k A 0 _ HK.out HA4.out (by omega) (fun h => by rw [H0.out] at h; exact absurd h (by decide)) (fun _ => rfl)).mono ?_
  rintro e w' ⟨rfl, rfl⟩
  cases hq : fit n.k A 0 with
  | false =>
    have HZ : Hid (F = 0) := by
      show _ = _
      rw [HF.out]
      unfold comb
      rw [hq]
      rfl
    clear hq
    go_wp2_with fail
    go_ret2
    exact ⟨_, ret_two HZ.out, HY.out, (HM.out.set0 A).bel⟩
  | true =>
    have HZ : Hid (F = made n.k A 0) := by
      show _ = _
      rw [HF.out]
      unfold comb
      rw [hq]
      rfl
    clear hq
    go_wp2_with fail
    refine (made_any n.k A 0 _ HK.out HA4.out).mono ?_
    rintro e w' ⟨rfl, rfl⟩
    go_wp2_with fail
    go_ret2
    exact ⟨_, ret_two HZ.out, HY.out, (HM.out.set0 A).bel⟩
set_option maxHeartbeats 2000000 in
theorem first2 (m : Nat) (IH : FirstC m) (L R : List Nd) (w0 w : World) (v : Value) (hm : L.length ≤ m) (h : Tre L) (h0 : Rw.ar (hd L) = 2) (hv : Nds w0 v (L ++ R)) (hw : Below w0.heap.size w0 w) :
    Calls Tryd.prog 77 #[v] w fun e w' => ∃ y, e = .returned (.tuple #[.int .i64 (So.first L), y]) ∧ Nds w0 y R ∧ Below w.heap.size w w' := by
  obtain ⟨n, a, b, hn, rfl, hta, htb, hf⟩ := parts2 h h0
  rw [hn] at h0
  have H0 := Lib.hid h0
  have HF := Lib.hid hf
  have HK := Lib.hid (show 0 ≤ Rw.ar n.k by rw [h0]; decide)
  have HTA := Lib.hid hta
  have HA4 := Lib.hid (first_le a)
  have la : a.length < m := by simp at hm; omega
  have HTB := Lib.hid htb
  have HB4 := Lib.hid (first_le b)
  have lb : b.length < m := by simp at hm; omega
  rcases hv.form with ⟨hx, _⟩ | ⟨b0, o, c, rfl, hc, hat⟩
  · cases hx
  have hz : (n :: (a ++ b)) ++ R = n :: (a ++ (b ++ R)) := by simp
  rw [hz] at hat hc ⊢
  obtain ⟨e1, e2, e3⟩ := hat 0 (by simp)
  rw [Nat.zero_mul, Nat.add_zero] at e1 e2 e3
  simp only [List.getElem_cons_zero] at e1 e2 e3
  rw [← hw.cell (Ap.cell_lt e1)] at e1
  rw [← hw.cell (Ap.cell_lt e2)] at e2
  rw [← hw.cell (Ap.cell_lt e3)] at e3
  have HW := Lib.hid hw
  obtain ⟨a1, hsl, hnd⟩ := tail_nds hat hc
  have ND := Lib.hid hnd
  have HL := Lib.hid (Loc.start w n)
  rw [List.length_cons]
  obtain ⟨N, hN⟩ : ∃ N, (a ++ (b ++ R)).length = N := ⟨_, rfl⟩
  rw [hN] at ND ⊢
  obtain ⟨F, hF⟩ : ∃ F, So.first (n :: (a ++ b)) = F := ⟨_, rfl⟩
  rw [hF] at HF ⊢
  have g1 : (1 : Int) ≤ (N : Int) + 1 := by omega
  have lt : b0 < w.heap.size := Ap.cell_lt e1
  obtain ⟨A, hA⟩ : ∃ A, So.first a = A := ⟨_, rfl⟩
  rw [hA] at HF HA4
  have HA := Lib.hid hA
  clear hA hta
  obtain ⟨B, hB⟩ : ∃ B, So.first b = B := ⟨_, rfl⟩
  rw [hB] at HF HB4
  have HB := Lib.hid hB
  clear hB htb
  clear hat hc hnd hz hN hF hn hf h0 h hv hw hm
  go_enter Tryd.func77, Tryd.ntmps77
  go_wp2_with fail
  go_region
  go_wp2_with fail
  refine (Rx.arP_eq n.k _).mono ?_
  rw [H0.out]
  rintro e w' ⟨rfl, rfl⟩
  go_wp2_with fail
  refine Go.wp_loop_rounds 3 ?_
  rw [rounds_succ]
  go_wp2_with fail
  refine (IH a (b ++ R) w0 _ _ la HTA.out ND.out (HW.out.trans (HL.out.bel.mono HW.out.size))).mono ?_
  rw [HA.out]
  rintro e w1 ⟨y1, rfl, hy, hb⟩
  have HY := Lib.hid hy
  have HM := Lib.hid (HL.out.below hb)
  obtain ⟨_, a2, c2, rfl, -⟩ := hy
  obtain ⟨M, hM⟩ : ∃ M, (b ++ R).length = M := ⟨_, rfl⟩
  rw [hM] at HY ⊢
  clear hM
  clear hb e1 e2 e3 lt
  obtain ⟨k1, k2, k3, k4, k5, k6, k7⟩ := HM.out
  go_wp2_with fail
  rw [rounds_succ]
  go_wp2_with fail
  refine (IH b R w0 _ _ lb HTB.out HY.out (HW.out.trans ((HM.out.set0 A).bel.mono HW.out.size))).mono ?_
  rw [HB.out]
  rintro e w2 ⟨y2, rfl, hy, hb⟩
  have HY2 := Lib.hid hy
  have HM2 := Lib.hid ((HM.out.set0 A).below hb)
  obtain ⟨_, a3, c3, rfl, -⟩ := hy
  clear hb k1 k2 k3 k4 k5 k6 k7
  obtain ⟨k1, k2, k3, k4, k5, k6, k7⟩ := HM2.out
  go_wp2_with fail
  rw [rounds_succ]
  go_wp2_with fail
  refine (fit_any n.k A B _ HK.out HA4.out HB4.out (fun h => by rw [H0.out] at h; exact absurd h (by decide)) (fun h => by rw [H0.out] at h; exact absurd h (by decide))).mono ?_
  rintro e w' ⟨rfl, rfl⟩
  cases hq : fit n.k A B with
  | false =>
    have HZ : Hid (F = 0) := by
      show _ = _
      rw [HF.out]
      unfold comb
      rw [hq]
      rfl
    clear hq
    go_wp2_with fail
    go_ret2
    exact ⟨_, ret_two HZ.out, HY2.out, (HM2.out.set1 B).bel⟩
  | true =>
    have HZ : Hid (F = made n.k A B) := by
      show _ = _
      rw [HF.out]
      unfold comb
      rw [hq]
      rfl
    clear hq
    go_wp2_with fail
    refine (made_any n.k A B _ HK.out HA4.out).mono ?_
    rintro e w' ⟨rfl, rfl⟩
    go_wp2_with fail
    go_ret2
    exact ⟨_, ret_two HZ.out, HY2.out, (HM2.out.set1 B).bel⟩
theorem first_all : ∀ m, FirstC m
  | 0 => fun _ _ _ _ _ h => absurd h (Nat.not_lt_zero _)
  | m + 1 => fun L R w0 w v hl h hv hw => by
    have ha := h.ar
    rcases ar_cases (hd L) with h0 | h0 | h0 | h0
    · rw [h0] at ha
      exact absurd ha (by decide)
    · exact first0 L R w0 w v h h0 hv hw
    · exact first1 m (first_all m) L R w0 w v (by omega) h h0 hv hw
    · exact first2 m (first_all m) L R w0 w v (by omega) h h0 hv hw
theorem first_any (L R : List Nd) (w : World) (v : Value) (h : Tre L) (hv : Nds w v (L ++ R)) :
    Calls Tryd.prog 77 #[v] w fun e w' => ∃ y, e = .returned (.tuple #[.int .i64 (So.first L), y]) ∧ Nds w y R ∧ Below w.heap.size w w' :=
  first_all (L.length + 1) L R w w v (by omega) h hv (Below.refl _ _)
end Go.Proofs.YtdkaoiomndkbjaaDoor.Sx

namespace Go.Proofs.YtdkaoiomndkbjaaDoor.So
open Go Go.RowKit Rw
set_option maxRecDepth 20000
end Go.Proofs.YtdkaoiomndkbjaaDoor.So
