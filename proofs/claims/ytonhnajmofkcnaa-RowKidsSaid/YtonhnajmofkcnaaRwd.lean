/- RowDeep from the contracts: a tree is one deeper than the deepest of its kids, and has one node more than all of them. -/
import Derived.Test.YtonhnajmofkcnaaRwa
namespace Go.Proofs.Ytonhnajmofkcnaa.Rw
open Go Go.RowKit
set_option maxRecDepth 20000

def deepest : List (List Nd) → Nat
  | [] => 0
  | r :: rs => max (depth r) (deepest rs)
def total : List (List Nd) → Nat
  | [] => 0
  | r :: rs => size r + total rs
theorem deepest_snoc : ∀ (ls : List (List Nd)) (r : List Nd), deepest (ls ++ [r]) = max (deepest ls) (depth r)
  | [], r => by simp [deepest]
  | x :: ls, r => by rw [List.cons_append, deepest, deepest_snoc ls r, deepest]; omega
theorem total_snoc : ∀ (ls : List (List Nd)) (r : List Nd), total (ls ++ [r]) = total ls + size r
  | [], r => by simp [total]
  | x :: ls, r => by rw [List.cons_append, total, total_snoc ls r, total]; omega
theorem deepest_take {ls : List (List Nd)} {i : Nat} (h : i < ls.length) : deepest (ls.take (i + 1)) = max (deepest (ls.take i)) (depth ls[i]) := by
  rw [List.take_succ_eq_append_getElem h, deepest_snoc]
theorem total_take {ls : List (List Nd)} {i : Nat} (h : i < ls.length) : total (ls.take (i + 1)) = total (ls.take i) + size ls[i] := by
  rw [List.take_succ_eq_append_getElem h, total_snoc]
theorem total_mono (ls : List (List Nd)) : ∀ i, total (ls.take i) ≤ total ls
  | 0 => by simp [total]
  | i + 1 => by
    rcases Nat.lt_or_ge i ls.length with h | h
    · have : total ls = total (ls.take (i + 1)) + total (ls.drop (i + 1)) := by
        have key : ∀ (a b : List (List Nd)), total (a ++ b) = total a + total b := by
          intro a b
          induction a with
          | nil => simp [total]
          | cons x a ih => rw [List.cons_append, total, ih, total]; omega
        rw [← key, List.take_append_drop]
      omega
    · rw [List.take_of_length_le (by omega)]
      exact Nat.le_refl _
theorem far_sums {l : List Nd} : ∀ (k p d : Nat), Far l 0 k p d → deepest (kidsN k (l.drop 1)) = d ∧ total (kidsN k (l.drop 1)) + 1 = p
  | 0, p, d, h => by
    obtain ⟨c, hs, rfl⟩ := h
    rw [S_zero] at hs
    cases hs
    exact ⟨rfl, rfl⟩
  | k + 1, p, d, h => by
    obtain ⟨c, hs, rfl⟩ := h
    rw [S_succ] at hs
    cases hj : S k (l.drop (0 + 1)) with
    | none => rw [hj] at hs; cases hs
    | some x =>
      obtain ⟨c1, d1⟩ := x
      rw [hj] at hs
      simp only at hs
      cases ht : T ((l.drop (0 + 1)).drop c1) with
      | none => rw [ht] at hs; cases hs
      | some y =>
        obtain ⟨c2, d2⟩ := y
        rw [ht] at hs
        simp only [Option.some.injEq, Prod.mk.injEq] at hs
        obtain ⟨rfl, rfl⟩ := hs
        rw [List.drop_drop] at ht
        have hf : Far l 0 k (0 + 1 + c1) d1 := ⟨c1, hj, rfl⟩
        obtain ⟨h1, h2⟩ := far_sums k _ _ hf
        have hh := T_head ht
        rw [kids_next hf ht, deepest_snoc, total_snoc, h1]
        have e1 : depth ((l.drop (0 + 1 + c1)).take c2) = d2 := by unfold depth; rw [hh]
        have e2 : size ((l.drop (0 + 1 + c1)).take c2) = c2 := by unfold size; rw [hh]
        rw [e1, e2]
        omega
theorem kids_sums {l : List Nd} (hs : size l ≠ 0) : deepest (kids l) + 1 = depth l ∧ total (kids l) + 1 = size l := by
  have h0 : 0 < l.length := by have := size_le l; omega
  rw [kids_of h0 hs]
  have hT : T l ≠ none := fun e => hs (size_pos.2 e)
  have hk : ¬ ar l[0].k < 0 := fun h => hT (by have := T_no (l := l) h0 h; rwa [List.drop_zero] at this)
  have ha := T_at (l := l) (i := 0) h0 hk
  rw [List.drop_zero] at ha
  cases hj : S (ar l[0].k).toNat (l.drop (0 + 1)) with
  | none => rw [hj] at ha; exact absurd ha hT
  | some x =>
    obtain ⟨c, d⟩ := x
    rw [hj] at ha
    simp only at ha
    have hf : Far l 0 (ar l[0].k).toNat (0 + 1 + c) d := ⟨c, hj, rfl⟩
    obtain ⟨h1, h2⟩ := far_sums _ _ _ hf
    have e1 : depth l = d + 1 := by unfold depth; rw [ha]
    have e2 : size l = c + 1 := by unfold size; rw [ha]
    omega
theorem kids_count (l : List Nd) : (kids l).length ≤ 2 := by
  unfold kids
  split
  · exact Nat.zero_le _
  · split
    · exact Nat.zero_le _
    · rename_i n r _
      rw [kidsN_len]
      have := ar_le n.k
      omega
theorem kids_lens {l : List Nd} (h : size l ≠ 0) : ∀ r ∈ kids l, r.length ≤ l.length := by
  intro r hr
  have h0 : 0 < l.length := by have := size_le l; omega
  cases l with
  | nil => simp at h0
  | cons n rs =>
    have := kids_flat h
    have h1 : r.length ≤ (kids (n :: rs)).flatten.length := by
      obtain ⟨s, t, hst⟩ := List.append_of_mem hr
      rw [hst]
      simp
      omega
    have h2 : (kids (n :: rs)).flatten.length + 1 = ((n :: rs).take (size (n :: rs))).length := by rw [← this]; simp
    rw [List.length_take] at h2
    omega
theorem RwC.at {w : World} : ∀ {cs : List Value} {ls : List (List Nd)}, RwC w cs ls → ∀ i (h : i < ls.length), ∃ a, cs[i]? = some a ∧ Nds w a ls[i]
  | [], [], _, i, h => by simp at h
  | a :: _, _ :: _, hr, 0, _ => ⟨a, rfl, hr.1⟩
  | _ :: cs, _ :: ls, hr, i + 1, h => by
    obtain ⟨a, h1, h2⟩ := RwC.at hr.2 i (by simpa using h)
    exact ⟨a, by simpa using h1, by simpa using h2⟩
  | [], _ :: _, h, _, _ => h.elim
  | _ :: _, [], h, _, _ => h.elim
/-- The rows' cells. -/
def AtR (w : World) (b off : Nat) (ls : List (List Nd)) : Prop := ∀ i, (h : i < ls.length) → ∃ a, w.cell? ⟨b, off + i, none⟩ = some a ∧ Nds w a ls[i]
theorem Rws.form {w : World} {v : Value} {ls : List (List Nd)} (h : Rws w v ls) :
    (ls = [] ∧ ∃ a cap, v = .slice a 0 cap) ∨ ∃ b off cap, v = .slice (some ⟨b, off, none⟩) ls.length cap ∧ AtR w b off ls := by
  obtain ⟨cs, ⟨_, a, cap, rfl, hle, _, hcell⟩, hr⟩ := h
  by_cases h0 : 0 < ls.length
  · obtain ⟨b, off, rfl, hj⟩ := hcell h0
    refine Or.inr ⟨b, off, cap, rfl, fun i hi => ?_⟩
    obtain ⟨a, h1, h2⟩ := hr.at i hi
    exact ⟨a, hj _ _ h1, h2⟩
  · have : ls = [] := List.eq_nil_of_length_eq_zero (by omega)
    subst this
    exact Or.inl ⟨rfl, a, cap, rfl⟩

theorem AtR.below {w w' : World} {b off : Nat} {ls : List (List Nd)} (h : AtR w b off ls) (hb : Below w.heap.size w w') : AtR w' b off ls := fun i hi => by
  obtain ⟨a, h1, h2⟩ := h i hi
  exact ⟨a, by rw [hb.cell (Ap.cell_lt h1)]; exact h1, h2.below hb⟩
theorem depth_le (l : List Nd) : depth l ≤ size l := by
  unfold depth size
  cases h : T l with
  | none => exact Nat.le_refl _
  | some x => exact (T_bd h).2.2.2
/-- A row of nodes, and rows of them. -/
structure Kr (w0 : World) (v : Value) (l : List Nd) (b o : Nat) (ls : List (List Nd)) (w : World) : Prop where
  kp : Kp w0 v l w
  at' : AtR w b o ls
theorem Kr.below {w0 w w' : World} {v : Value} {l : List Nd} {b o : Nat} {ls : List (List Nd)} (h : Kr w0 v l b o ls w) (hb : Below w.heap.size w w') : Kr w0 v l b o ls w' := ⟨h.kp.below hb, h.at'.below hb⟩

set_option maxHeartbeats 4000000 in
theorem deep_law (C : Con) (v : Value) (l : List Nd) (w : World) (hv : Nds w v l) :
    Calls Try.prog 8 #[v] w fun e w' => e = .returned (.bool true) ∧ Below w.heap.size w w' := by
  have I := Lib.hid (Kp.start hv)
  obtain ⟨_, a, cap, rfl, -⟩ := hv
  go_enter Try.func8, Try.ntmps8
  go_wp2_with fail
  refine (few_any _ l _ I.out.nds).mono ?_
  rintro e w' ⟨rfl, rfl⟩
  by_cases hf : l.length ≤ 250
  case neg =>
    rw [decide_eq_false hf]
    go_wp2_with fail
    refine (alive_any C _).mono ?_
    rintro e wn ⟨rfl, hb⟩
    go_wp2_with fail
    go_ret
    exact ⟨rfl, hb⟩
  rw [decide_eq_true hf]
  go_wp2_with fail
  refine (C.cSize _ l _ I.out.nds (by omega)).mono ?_
  by_cases hz : size l = 0
  case pos =>
    rw [hz]
    rintro e wn ⟨rfl, hb⟩
    replace I := Lib.hid (I.out.below hb)
    clear hb hz
    go_wp2_with fail
    refine (alive_any C _).mono ?_
    rintro e wn ⟨rfl, hb⟩
    replace I := Lib.hid (I.out.below hb)
    clear hb
    go_wp2_with fail
    go_ret
    exact ⟨rfl, I.out.bel⟩
  have HS := Lib.hid (kids_sums hz)
  have hdl := depth_le l
  have HL := Lib.hid (kids_lens hz)
  have zle := size_le l
  obtain ⟨s, hs⟩ : ∃ s, size l = s := ⟨_, rfl⟩
  rw [hs] at hz HS zle hdl ⊢
  obtain ⟨d, hd⟩ : ∃ d, depth l = d := ⟨_, rfl⟩
  rw [hd] at HS hdl
  have HSZ := Lib.hid hs
  have HDD := Lib.hid hd
  have gz : ((s : Int) == 0) = false := by rw [beq_eq_false_iff_ne]; omega
  rintro e wn ⟨rfl, hb⟩
  replace I := Lib.hid (I.out.below hb)
  clear hb hs hd
  go_wp2_with fail
  refine (C.cKids _ l _ I.out.nds (by omega)).mono ?_
  have hcount := kids_count l
  obtain ⟨ls, hls⟩ : ∃ ls, kids l = ls := ⟨_, rfl⟩
  rw [hls] at HS HL hcount ⊢
  clear hls
  rintro e w1 ⟨y, cs, rfl, hy, ho, hb⟩
  replace I := Lib.hid (I.out.below hb)
  have hrw : Rws w1 y ls := ⟨cs, hy.rd, ho.rwc⟩
  have HT := Lib.hid (total_mono ls)
  have hts : total ls + 1 = s := HS.out.2
  have hds : deepest ls + 1 = d := HS.out.1
  clear hb hy ho
  rcases hrw.form with ⟨rfl, a', cap', rfl⟩ | ⟨b, o, cap', rfl, hat⟩
  · obtain rfl : s = 0 + 1 := hts.symm
    obtain rfl : d = 0 + 1 := hds.symm
    have KP := I
    clear hrw HT hts hds I HS HL hcount
    go_wp2_with fail
    refine Go.wp_loop_rounds 1 ?_
    rw [rounds_succ]
    go_wp2_with fail
    refine (alive_any C _).mono ?_
    rintro e wn ⟨rfl, hb⟩
    replace KP := Lib.hid (KP.out.below hb)
    clear hb
    go_wp2_with fail
    refine (C.cDepth _ l _ KP.out.nds (by omega)).mono ?_
    rw [HDD.out]
    rintro e wn ⟨rfl, hb⟩
    replace KP := Lib.hid (KP.out.below hb)
    clear hb
    go_wp2_with fail
    refine (C.cSize _ l _ KP.out.nds (by omega)).mono ?_
    rw [HSZ.out]
    rintro e wn ⟨rfl, hb⟩
    replace KP := Lib.hid (KP.out.below hb)
    clear hb
    go_wp2_with fail
    go_ret
    exact ⟨ret_bool (by simp), KP.out.bel⟩
  · have R : Hid (Kr w (.slice a l.length cap) l b o ls w1) := ⟨I.out, hat⟩
    clear hrw hat I HS
    go_wp2_with fail
    go_loopw [3, 4, 19] (fun dd mm i wr => ∃ (j D M : Nat), j ≤ ls.length ∧ D ≤ 250 ∧ M ≤ 250 ∧ i = .int .i64 j ∧ dd = .int .i64 D ∧ mm = .int .i64 M ∧ Hid (deepest (ls.take j) = D) ∧ Hid (total (ls.take j) = M) ∧ Hid (Kr w (.slice a l.length cap) l b o ls wr)) (fun _ _ i _ => ls.length - (intOf i).toNat)
    case atStart => exact ⟨0, 0, 0, Nat.zero_le _, by omega, by omega, rfl, rfl, rfl, Lib.hid rfl, Lib.hid rfl, R⟩
    case round =>
      clear R
      obtain ⟨j, D, M, hj, hD, hM, rfl, rfl, rfl, HD, HM, R⟩ := hrel
      by_cases hlt : j < ls.length
      · obtain ⟨x, c0, hx⟩ := R.out.at' j hlt
        have hrl := HL.out _ (List.getElem_mem hlt)
        have hd1 := deepest_take hlt
        have ht1 := total_take hlt
        have ht2 := HT.out (j + 1)
        rw [HD.out] at hd1
        rw [HM.out] at ht1
        obtain ⟨r, hr⟩ : ∃ r, ls[j] = r := ⟨_, rfl⟩
        rw [hr] at hx hrl hd1 ht1
        have hdr := depth_le r
        obtain ⟨p, hp⟩ : ∃ p, depth r = p := ⟨_, rfl⟩
        obtain ⟨q, hq⟩ : ∃ q, size r = q := ⟨_, rfl⟩
        rw [hp] at hd1 hdr
        rw [hq] at ht1 hdr
        rw [ht1] at ht2
        have HP := Lib.hid hp
        have HQ := Lib.hid hq
        have HX := Lib.hid hx
        have HD1 := Lib.hid hd1
        have HT1 := Lib.hid ht1
        obtain ⟨_, xa, xc, rfl, -⟩ := hx
        clear hr hp hq hd1 ht1
        go_wp2_with fail
        refine (C.cDepth _ r _ HX.out (by omega)).mono ?_
        rw [HP.out]
        rintro e wn ⟨rfl, hb⟩
        replace R := Lib.hid (R.out.below hb)
        replace HX := Lib.hid (HX.out.below hb)
        clear hb c0
        by_cases hpd : D < p
        · go_wp2_with fail
          refine (C.cSize _ r _ HX.out (by omega)).mono ?_
          rw [HQ.out]
          rintro e wn ⟨rfl, hb⟩
          replace R := Lib.hid (R.out.below hb)
          clear hb
          go_wp2_with fail
          go_roundw
          case rel => exact ⟨j + 1, p, M + q, by omega, by omega, by omega, by go_num, rfl, by go_num, Lib.hid (by rw [HD1.out]; omega), HT1, R⟩
          case measure => simp [intOf]; omega
        · go_wp2_with fail
          refine (C.cSize _ r _ HX.out (by omega)).mono ?_
          rw [HQ.out]
          rintro e wn ⟨rfl, hb⟩
          replace R := Lib.hid (R.out.below hb)
          clear hb
          go_wp2_with fail
          go_roundw
          case rel => exact ⟨j + 1, D, M + q, by omega, by omega, by omega, by go_num, rfl, by go_num, Lib.hid (by rw [HD1.out]; omega), HT1, R⟩
          case measure => simp [intOf]; omega
      · have hje : j = ls.length := by omega
        have KP := Lib.hid R.out.kp
        have e1 : D = deepest ls := by rw [← HD.out, hje, List.take_length]
        have e2 : M = total ls := by rw [← HM.out, hje, List.take_length]
        obtain rfl : s = M + 1 := by omega
        obtain rfl : d = D + 1 := by omega
        clear e1 e2 hje hts hds R HD HM HL HT
        go_wp2_with fail
        refine (alive_any C _).mono ?_
        rintro e wn ⟨rfl, hb⟩
        replace KP := Lib.hid (KP.out.below hb)
        clear hb
        go_wp2_with fail
        refine (C.cDepth _ l _ KP.out.nds (by omega)).mono ?_
        rw [HDD.out]
        rintro e wn ⟨rfl, hb⟩
        replace KP := Lib.hid (KP.out.below hb)
        clear hb
        go_wp2_with fail
        refine (C.cSize _ l _ KP.out.nds (by omega)).mono ?_
        rw [HSZ.out]
        rintro e wn ⟨rfl, hb⟩
        replace KP := Lib.hid (KP.out.below hb)
        clear hb
        go_wp2_with fail
        go_ret
        exact ⟨ret_bool (by simp), KP.out.bel⟩
end Go.Proofs.Ytonhnajmofkcnaa.Rw
