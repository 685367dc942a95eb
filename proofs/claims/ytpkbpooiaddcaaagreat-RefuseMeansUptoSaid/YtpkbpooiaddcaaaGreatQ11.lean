/- The program's Of, Term, Right. The document's Acts and Texts: rows of texts. What may be refused: plain. Rows of which some actions are put in an Alt with a Throw; places; what is stripped. The document's mixed: all rows of two, the walk. The program's On. Plain: the sort of what is made of two trees. The program's Acts: a map of the names that were told. What may be refused: plain. Places, marks; all names of some; all marks are the whole rewritten. The document's mixed at any two rows: the walk of the step. Rows of texts, and nodes appended in a call's own row: what the walks of layer 8 need. The document's mixed at any two rows. Arguments that are rows of texts: how they lie in memory. The document's Par: the walk. The program's layer 8: isAct, and the two functions that say which may be refused. The document's 'in' and 'may' of layer 8. All traces of two, and all rows of two: what they are. The document's Rewrite of layer 8. Rows mixed: that order does not matter, and that each row has the actions of both in their order. -/
import Derived.Test.YtpkbpooiaddcaaaGreatQ10
import Derived.Test.YtpkbpooiaddcaaaGreatQ09
import Derived.Maps.Views
import Derived.Maps.OwnOps
import Derived.Deep.DeepCutAuto
import Derived.Test.YtpkbpooiaddcaaaGreatQ05
import Derived.Test.YtpkbpooiaddcaaaGreatQ02
import Derived.SliceStrings
import Derived.Deep.Slices
import Derived.Lib.SmallJoins
import Derived.Test.YtpkbpooiaddcaaaGreatQ03
import Derived.Deep.QuietTactic
import Derived.BigQuiet

namespace Go.Proofs.YtpkbpooiaddcaaaGreat.Sx
open Go Go.RowKit Go.Proofs.YtpkbpooiaddcaaaGreat.Rw Go.Proofs.YtpkbpooiaddcaaaGreat.So
set_option maxRecDepth 20000

theorem whole_tre {l : List Nd} (h : whole l = true) : Tre l := by
  unfold whole at h
  simp only [Bool.and_eq_true, decide_eq_true_eq] at h
  exact Tre.of_size h.2 (fun e => by rw [e] at h; exact absurd h.1.2.1 (by decide))
set_option maxHeartbeats 400000 in
theorem ofP_any (l : List Nd) (v : Value) (w : World) (hv : Nds w v l) (hl : l.length ≤ 1000) (hm : Nms l) :
    Calls Tryz.prog 18 #[v] w fun e w' => e = .returned (.int .i64 (of l)) ∧ Below w.heap.size w w' := by
  have HV := Lib.hid hv
  have HM := Lib.hid hm
  obtain ⟨_, a, cap, rfl, -⟩ := hv
  clear hm
  cases hq : whole l with
  | false =>
    have HZ : Hid (of l = 0) := by
      show _ = _
      unfold of
      rw [hq]
      rfl
    have HQ := Lib.hid hq
    clear hq
    go_enter Tryz.func18, Tryz.ntmps18
    go_wp2_with fail
    refine (Rx.wholeP_any _ l _ HV.out hl HM.out).mono ?_
    rw [HQ.out]
    rintro e w' ⟨rfl, hb⟩
    have HB := Lib.hid hb
    clear hb
    go_wp2_with fail
    go_ret
    exact ⟨ret_int (by rw [HZ.out]; rfl), HB.out⟩
  | true =>
    have HZ : Hid (of l = So.first l) := by
      show _ = _
      unfold of
      rw [hq]
      rfl
    have HT := Lib.hid (whole_tre hq)
    have HQ := Lib.hid hq
    obtain ⟨F, hF⟩ : ∃ F, So.first l = F := ⟨_, rfl⟩
    rw [hF] at HZ
    have HF := Lib.hid hF
    clear hq hF
    go_enter Tryz.func18, Tryz.ntmps18
    go_wp2_with fail
    refine (Rx.wholeP_any _ l _ HV.out hl HM.out).mono ?_
    rw [HQ.out]
    rintro e w' ⟨rfl, hb⟩
    have HB := Lib.hid hb
    have HV1 : Hid (Nds w' (.slice a l.length cap) (l ++ [])) := by
      show Nds _ _ _
      rw [List.append_nil]
      exact HV.out.below hb
    clear hb
    go_wp2_with fail
    refine (first_any l [] _ _ HT.out HV1.out).mono ?_
    rw [HF.out]
    rintro e w2 ⟨y, rfl, _, hb⟩
    have HB2 := Lib.hid hb
    clear hb
    go_wp2_with fail
    go_ret
    exact ⟨ret_int (by rw [HZ.out]), HB.out.trans (HB2.out.mono HB.out.size)⟩
set_option maxHeartbeats 400000 in
theorem termP_any (l : List Nd) (v : Value) (w : World) (hv : Nds w v l) (hl : l.length ≤ 1000) (hm : Nms l) :
    Calls Tryz.prog 7 #[v] w fun e w' => e = .returned (.bool (of l == 1)) ∧ Below w.heap.size w w' := by
  have HV := Lib.hid hv
  have HC := Lib.hid (fun w h => ofP_any l v w h hl hm)
  have hz := of_cases l
  obtain ⟨z, hzz⟩ : ∃ z, of l = z := ⟨_, rfl⟩
  rw [hzz] at hz HC
  rw [hzz]
  obtain ⟨_, a, cap, rfl, -⟩ := hv
  clear hm hzz
  rcases hz with rfl | rfl | rfl | rfl | rfl
  all_goals
    go_enter Tryz.func7, Tryz.ntmps7
    go_wp2_with fail
    refine (HC.out _ HV.out).mono ?_
    rintro e w1 ⟨rfl, hb⟩
    have HB := Lib.hid hb
    clear hb
    go_wp2_with fail
    go_ret
    exact ⟨rfl, HB.out⟩
end Go.Proofs.YtpkbpooiaddcaaaGreat.Sx

namespace Go.Proofs.YtpkbpooiaddcaaaGreat.So
open Go Go.RowKit Go.Proofs.YtpkbpooiaddcaaaGreat.Rw
set_option maxRecDepth 20000

/-- A slice of texts that reads as these. -/
def Strs (w : World) (v : Value) (l : List ByteArray) : Prop := Ap.Rd w 1 v l.length (l.map .string)
theorem Strs.below {w w' : World} {v : Value} {l : List ByteArray} (h : Strs w v l) (hb : Below w.heap.size w w') : Strs w' v l := Ap.Rd.below h hb
def AtS (w : World) (b off : Nat) (l : List ByteArray) : Prop := ∀ k, (h : k < l.length) → w.cell? ⟨b, off + k, none⟩ = some (.string l[k])
theorem Strs.form {w : World} {v : Value} {l : List ByteArray} (h : Strs w v l) :
    (l = [] ∧ ∃ a cap, v = .slice a 0 cap) ∨ ∃ b off cap, v = .slice (some ⟨b, off, none⟩) l.length cap ∧ AtS w b off l := by
  obtain ⟨_, a, cap, rfl, hle, _, hcell⟩ := h
  by_cases h0 : 0 < l.length
  · obtain ⟨b, off, rfl, hj⟩ := hcell h0
    exact Or.inr ⟨b, off, cap, rfl, fun k hk => hj _ _ (by rw [List.getElem?_map, List.getElem?_eq_getElem hk]; rfl)⟩
  · have : l = [] := List.eq_nil_of_length_eq_zero (by omega)
    subst this
    exact Or.inl ⟨rfl, a, cap, rfl⟩
theorem AtS.below {w w' : World} {b off : Nat} {l : List ByteArray} (h : AtS w b off l) (hb : Below w.heap.size w w') : AtS w' b off l := fun k hk => by
  rw [hb.cell (Ap.cell_lt (h k hk))]
  exact h k hk
theorem bytes_eq {s t : ByteArray} (h : s = t) : (s.toList == t.toList) = true := by rw [h]; simp
theorem bytes_ne {s t : ByteArray} (h : ¬ s = t) : (s.toList == t.toList) = false := by
  rw [ByteArray.toList_eq t]
  exact str_ne' fun e => h (by rw [e])

theorem infoS : (Tryz.prog.info? 9).map (fun i => (i.zero, i.size, i.bytes)) = some (some (.string ⟨#[]⟩), 1, 16) := by kernel_rfl
/-- What the loop has made. -/
def Got (w wr : World) (v : Value) (os : List ByteArray) : Prop := wr.ownsRow w.heap.size 9 1 v os.length (os.map .string) ∧ Below w.heap.size w wr
theorem Got.form {w wr : World} {v : Value} {os : List ByteArray} (h : Got w wr v os) : Strs wr v os := Ap.Rd.owned h.1
theorem Got.drew {w wr : World} {v : Value} {os : List ByteArray} (n : Nat) (h : Got w wr v os) : Got w (wr.drewN n) v os := ⟨Ap.own_below h.1 (Below.drewN _ _ _), h.2.trans (Below.drewN _ _ _)⟩
theorem Got.add {w wr : World} {v : Value} {os : List ByteArray} (s : ByteArray) (h : Got w wr v os) (hl : os.length ≤ 1000000) :
    ∃ v' w', (Builtin.append_ #[37, 37] 37 #[v, .slice (some ⟨wr.heap.size, 0, none⟩) 1 1]).run Tryz.prog (wr.alloc (.cells #[.string s] 9)) = .ok v' w' ∧ Got w w' v' (os ++ [s]) := by
  obtain ⟨i0, hi, hz, hs1, hb8⟩ := info_parts infoS
  obtain ⟨v', w', h1, h2, h3, h4, h5⟩ := Ap.run_append_one (P := Tryz.prog) (ty := 37) Tryz.underlying37 hi hz hs1 hb8 (by rfl) (by omega) h.1 h.2.size #[.string s] rfl
    (by intro u hu; simp at hu; subst hu; rfl) (by unfold maxLen; omega) (by omega)
  exact ⟨v', w', h1, by simpa using h2, h.2.trans h4⟩

end Go.Proofs.YtpkbpooiaddcaaaGreat.So

namespace Go.Proofs.YtpkbpooiaddcaaaGreat.Rf
open Go Rw Go.Proofs.YtpkbpooiaddcaaaGreat.So

/-- An Alt, a Throw; an action that is asked for. -/
abbrev alt : Nd := So.nOf 6
abbrev thr : Nd := So.nOf 3
def hit (f : ByteArray → Bool) (x : Nd) : Bool := decide (x.k = 1) && f x.n
def sub1 (f : ByteArray → Bool) (x : Nd) : List Nd := if hit f x then [alt, x, thr] else [x]
def sub (f : ByteArray → Bool) (l : List Nd) : List Nd := l.flatMap (sub1 f)
theorem hit_k {f : ByteArray → Bool} {x : Nd} (h : hit f x = true) : x.k = 1 := by
  unfold hit at h
  rw [Bool.and_eq_true, decide_eq_true_eq] at h
  exact h.1
theorem hit_no {f : ByteArray → Bool} {x : Nd} (h : x.k ≠ 1) : hit f x = false := by
  unfold hit
  rw [decide_eq_false h, Bool.false_and]
theorem sub_nil (f : ByteArray → Bool) : sub f [] = [] := rfl
theorem sub_cons (f : ByteArray → Bool) (x : Nd) (l : List Nd) : sub f (x :: l) = sub1 f x ++ sub f l := by unfold sub; rw [List.flatMap_cons]
theorem sub_append (f : ByteArray → Bool) (l m : List Nd) : sub f (l ++ m) = sub f l ++ sub f m := by unfold sub; rw [List.flatMap_append]
theorem sub_no {f : ByteArray → Bool} {x : Nd} (h : hit f x = false) (l : List Nd) : sub f (x :: l) = x :: sub f l := by
  rw [sub_cons]
  unfold sub1
  rw [h]
  rfl
theorem sub_yes {f : ByteArray → Bool} {x : Nd} (h : hit f x = true) (l : List Nd) : sub f (x :: l) = alt :: x :: thr :: sub f l := by
  rw [sub_cons]
  unfold sub1
  rw [h]
  rfl
theorem sub_take (f : ByteArray → Bool) (l : List Nd) (k : Nat) (h : k < l.length) : sub f (l.take (k + 1)) = sub f (l.take k) ++ sub1 f l[k] := by
  rw [List.take_succ_eq_append_getElem h, sub_append, sub_cons, sub_nil, List.append_nil]
theorem sub_len (f : ByteArray → Bool) : ∀ l : List Nd, (sub f l).length = l.length + 2 * l.countP (hit f)
  | [] => rfl
  | x :: l => by
    have ih := sub_len f l
    cases h : hit f x with
    | true => rw [sub_yes h, List.countP_cons_of_pos h]; simp only [List.length_cons]; omega
    | false => rw [sub_no h, List.countP_cons_of_neg (by simp [h])]; simp only [List.length_cons]; omega
theorem sub_le (f : ByteArray → Bool) (l : List Nd) : l.length ≤ (sub f l).length ∧ (sub f l).length ≤ 3 * l.length := by
  have h1 := sub_len f l
  have h2 : l.countP (hit f) ≤ l.length := List.countP_le_length
  omega
theorem sub_none {f : ByteArray → Bool} : ∀ {l : List Nd}, (∀ x ∈ l, hit f x = false) → sub f l = l
  | [], _ => rfl
  | x :: l, h => by rw [sub_no (h x (by simp)), sub_none fun y hy => h y (by simp [hy])]
theorem sub_cnt (f g : ByteArray → Bool) : ∀ l : List Nd, (sub f l).countP (hit g) = l.countP (hit g)
  | [] => rfl
  | x :: l => by
    have ih := sub_cnt f g l
    cases h : hit f x with
    | true =>
      rw [sub_yes h, List.countP_cons_of_neg (by rw [hit_no (by decide)]; decide), List.countP_cons, List.countP_cons_of_neg (by rw [hit_no (by decide)]; decide), List.countP_cons, ih]
    | false => rw [sub_no h, List.countP_cons, List.countP_cons, ih]
theorem sub_acts (f : ByteArray → Bool) : ∀ l : List Nd, cnt (sub f l) [1] = cnt l [1]
  | [] => rfl
  | x :: l => by
    have ih := sub_acts f l
    unfold cnt at ih ⊢
    cases h : hit f x with
    | true =>
      rw [sub_yes h, List.countP_cons_of_neg (by decide), List.countP_cons, List.countP_cons_of_neg (by decide), List.countP_cons, ih]
    | false => rw [sub_no h, List.countP_cons, List.countP_cons, ih]
theorem sub_rgt (f : ByteArray → Bool) : ∀ l : List Nd, (sub f l).all rgt = l.all rgt
  | [] => rfl
  | x :: l => by
    have ih := sub_rgt f l
    cases h : hit f x with
    | true =>
      rw [sub_yes h, List.all_cons, List.all_cons, List.all_cons, List.all_cons, ih]
      rw [show rgt alt = true by decide, show rgt thr = true by decide]
      simp
    | false => rw [sub_no h, List.all_cons, List.all_cons, ih]

/-- The trees of a row, and those of the row rewritten. -/
theorem leaf (x : Nd) (hx : ar x.k = 0) (r : List Nd) : T (x :: r) = some (1, 1) := by
  rw [T_cons, hx, if_neg (by decide), show ((0 : Int).toNat) = 0 from rfl, S_zero]
theorem T_alt (x : Nd) (hx : ar x.k = 0) (r : List Nd) : T (alt :: x :: thr :: r) = some (3, 2) := by
  have e1 : S 1 (x :: thr :: r) = some (1, 1) := by
    rw [show (1 : Nat) = 0 + 1 from rfl, S_succ, S_zero]
    simp only [List.drop_zero, leaf x hx]
    rfl
  have e2 : S 2 (x :: thr :: r) = some (2, 1) := by
    rw [show (2 : Nat) = 1 + 1 from rfl, S_succ, e1]
    simp only [List.drop_succ_cons, List.drop_zero, leaf thr rfl]
    rfl
  rw [T_cons, show ar alt.k = 2 from rfl, if_neg (by decide), show ((2 : Int).toNat) = 2 from rfl, e2]
theorem S_sub (f : ByteArray → Bool) (r : List Nd) (h : ∀ c, (T (sub f (r.drop c))).map (·.1) = (T (r.drop c)).map fun x => (sub f ((r.drop c).take x.1)).length) :
    ∀ j, (S j (sub f r)).map (·.1) = (S j r).map fun x => (sub f (r.take x.1)).length
  | 0 => by rw [S_zero, S_zero]; rfl
  | j + 1 => by
    have ih := S_sub f r h j
    rw [S_succ, S_succ]
    cases hs : S j r with
    | none =>
      rw [hs] at ih
      cases hs' : S j (sub f r) with
      | none => rfl
      | some y => rw [hs'] at ih; cases ih
    | some y =>
      obtain ⟨c, d⟩ := y
      rw [hs] at ih
      cases hs' : S j (sub f r) with
      | none => rw [hs'] at ih; cases ih
      | some y' =>
        obtain ⟨c', d'⟩ := y'
        rw [hs'] at ih
        simp only [Option.map_some, Option.some.injEq] at ih
        simp only
        have hd : (sub f r).drop c' = sub f (r.drop c) := by
          have : sub f r = sub f (r.take c) ++ sub f (r.drop c) := by rw [← sub_append, List.take_append_drop]
          rw [this, ih, List.drop_append_of_le_length (Nat.le_refl _), List.drop_length, List.nil_append]
        have hc := h c
        rw [hd]
        cases ht : T (r.drop c) with
        | none =>
          rw [ht] at hc
          cases ht' : T (sub f (r.drop c)) with
          | none => rfl
          | some z => rw [ht'] at hc; cases hc
        | some z =>
          obtain ⟨e, g⟩ := z
          rw [ht] at hc
          cases ht' : T (sub f (r.drop c)) with
          | none => rw [ht'] at hc; cases hc
          | some z' =>
            obtain ⟨e', g'⟩ := z'
            rw [ht'] at hc
            simp only [Option.map_some, Option.some.injEq] at hc ⊢
            rw [ih, hc, List.take_add, sub_append, List.length_append]
theorem T_sub (f : ByteArray → Bool) : ∀ (m : Nat) (l : List Nd), l.length ≤ m → (T (sub f l)).map (·.1) = (T l).map fun x => (sub f (l.take x.1)).length
  | 0, l, h => by
    have : l = [] := List.eq_nil_of_length_eq_zero (by omega)
    subst this
    rfl
  | m + 1, [], _ => rfl
  | m + 1, n :: r, hm => by
    have hr : r.length ≤ m := by simpa using hm
    cases h : hit f n with
    | true =>
      have hk : ar n.k = 0 := by rw [hit_k h]; rfl
      rw [sub_yes h, T_alt n hk, leaf n hk]
      simp only [Option.map_some, List.take_succ_cons, List.take_zero]
      rw [sub_yes h, sub_nil]
      rfl
    | false =>
      rw [sub_no h, T_cons, T_cons]
      by_cases h0 : ar n.k < 0
      · rw [if_pos h0, if_pos h0]; rfl
      · rw [if_neg h0, if_neg h0]
        have hs := S_sub f r (fun c => T_sub f m (r.drop c) (by rw [List.length_drop]; omega)) (ar n.k).toNat
        cases h1 : S (ar n.k).toNat r with
        | none =>
          rw [h1] at hs
          cases h2 : S (ar n.k).toNat (sub f r) with
          | none => rfl
          | some y => rw [h2] at hs; cases hs
        | some y =>
          obtain ⟨c, d⟩ := y
          rw [h1] at hs
          cases h2 : S (ar n.k).toNat (sub f r) with
          | none => rw [h2] at hs; cases hs
          | some y' =>
            obtain ⟨c', d'⟩ := y'
            rw [h2] at hs
            simp only [Option.map_some, Option.some.injEq] at hs ⊢
            rw [hs, List.take_succ_cons, sub_no h, List.length_cons]
theorem T_subs (f : ByteArray → Bool) (l : List Nd) : (T (sub f l)).map (·.1) = (T l).map fun x => (sub f (l.take x.1)).length := T_sub f l.length l (Nat.le_refl _)
theorem S_subs (f : ByteArray → Bool) (j : Nat) (r : List Nd) : (S j (sub f r)).map (·.1) = (S j r).map fun x => (sub f (r.take x.1)).length := S_sub f r (fun _ => T_subs f _) j
theorem size_map (l : List Nd) : size l = ((T l).map (·.1)).getD 0 := by
  unfold size
  cases T l with
  | none => rfl
  | some x => rfl
theorem size_sub (f : ByteArray → Bool) (l : List Nd) : size (sub f l) = (sub f (l.take (size l))).length := by
  rw [size_map, T_subs, size_map]
  cases T l with
  | none => rfl
  | some x => rfl
theorem take_sub (f : ByteArray → Bool) (l : List Nd) (c : Nat) : (sub f l).take (sub f (l.take c)).length = sub f (l.take c) := by
  have : sub f l = sub f (l.take c) ++ sub f (l.drop c) := by rw [← sub_append, List.take_append_drop]
  rw [this, List.take_append_of_le_length (Nat.le_refl _), List.take_length]
theorem drop_sub (f : ByteArray → Bool) (l : List Nd) (c : Nat) : (sub f l).drop (sub f (l.take c)).length = sub f (l.drop c) := by
  have : sub f l = sub f (l.take c) ++ sub f (l.drop c) := by rw [← sub_append, List.take_append_drop]
  rw [this, List.drop_append_of_le_length (Nat.le_refl _), List.drop_length, List.nil_append]
theorem kidsN_sub (f : ByteArray → Bool) : ∀ (j : Nat) (r : List Nd), S j r ≠ none → kidsN j (sub f r) = (kidsN j r).map (sub f)
  | 0, _, _ => rfl
  | j + 1, r, h => by
    have hj : S j r ≠ none := fun e => h (by rw [S_succ, e])
    rw [kidsN, kidsN, List.map_append, kidsN_sub f j r hj]
    congr 1
    have hs := S_subs f j r
    cases h1 : S j r with
    | none => exact absurd h1 hj
    | some y =>
      rw [h1] at hs
      cases h2 : S j (sub f r) with
      | none => rw [h2] at hs; cases hs
      | some y' =>
        rw [h2] at hs
        simp only [Option.map_some, Option.some.injEq] at hs
        simp only [Option.getD_some, List.map_cons, List.map_nil]
        rw [hs, drop_sub, size_sub, take_sub]
theorem size_zero (f : ByteArray → Bool) (l : List Nd) : size (sub f l) = 0 ↔ size l = 0 := by
  rw [size_sub]
  constructor
  · intro h
    have h1 := (sub_le f (l.take (size l))).1
    rw [List.length_take, Nat.min_eq_left (size_le l)] at h1
    omega
  · intro h
    rw [h]
    rfl
theorem kids_sub {f : ByteArray → Bool} {n : Nd} (h : hit f n = false) (r : List Nd) : kids (sub f (n :: r)) = (kids (n :: r)).map (sub f) := by
  have hz := size_zero f (n :: r)
  unfold kids
  by_cases h0 : size (n :: r) = 0
  · rw [if_pos h0, if_pos (hz.2 h0)]; rfl
  · rw [if_neg h0, if_neg (fun e => h0 (hz.1 e)), sub_no h]
    simp only
    refine kidsN_sub f _ r fun e => h0 ?_
    rw [size_pos, T_cons]
    split
    · rfl
    · rw [e]
theorem kids_alt (x : Nd) (hx : ar x.k = 0) (r : List Nd) : kids (alt :: x :: thr :: r) = [[x], [thr]] := by
  have hs : size (alt :: x :: thr :: r) = 3 := by unfold size; rw [T_alt x hx]
  have e1 : S 1 (x :: thr :: r) = some (1, 1) := by
    rw [show (1 : Nat) = 0 + 1 from rfl, S_succ, S_zero]
    simp only [List.drop_zero, leaf x hx]
    rfl
  unfold kids
  rw [if_neg (by rw [hs]; decide)]
  simp only [show (ar alt.k).toNat = 1 + 1 from rfl]
  rw [kidsN, e1, show (1 : Nat) = 0 + 1 from rfl, kidsN, S_zero, kidsN]
  have z1 : size (x :: thr :: r) = 1 := by unfold size; rw [leaf x hx]
  have z2 : size (thr :: r) = 1 := by unfold size; rw [leaf thr rfl]
  simp only [Option.getD_some, List.drop_zero, List.drop_succ_cons, z1, z2, List.take_succ_cons, List.take_zero, List.nil_append]
  rfl
theorem getD_sub {f : ByteArray → Bool} {n : Nd} (h : hit f n = false) (r : List Nd) (i : Nat) : (kids (sub f (n :: r))).getD i [] = sub f ((kids (n :: r)).getD i []) := by
  rw [kids_sub h, List.getD_eq_getElem?_getD, List.getD_eq_getElem?_getD, List.getElem?_map]
  cases (kids (n :: r))[i]? with
  | none => rfl
  | some y => rfl
theorem hd_sub {f : ByteArray → Bool} {n : Nd} (h : hit f n = false) (r : List Nd) : hd (sub f (n :: r)) = hd (n :: r) := by rw [sub_no h]; rfl
theorem stepB_sub {f : ByteArray → Bool} {n : Nd} (h : hit f n = false) (r : List Nd) (t : Nat → List Nd → Bool) (s : Nat) : stepB t s (sub f (n :: r)) = stepB (fun s k => t s (sub f k)) s (n :: r) := by
  unfold stepB plainB pairedB plainOnB pairedOnB k0 k1
  simp only [getD_sub h, hd_sub h]
theorem Is_act {x : Nd} (hx : x.k = 1) (r : List Nd) (s : Nat) (h1 : 1 ≤ s) (h4 : s ≤ 4) : Is s (x :: r) = (s == 1 || s == 3) := by
  have hh : hd (x :: r) = 1 := hx
  have c : s = 1 ∨ s = 2 ∨ s = 3 ∨ s = 4 := by omega
  rcases c with rfl | rfl | rfl | rfl
  · rw [Is_one]; unfold plainB; rw [hh]; rfl
  · rw [Is_two]; unfold pairedB; rw [hh]; rfl
  · rw [Is_three]; unfold plainB; rw [hh]; rfl
  · rw [Is_four]; unfold pairedB pairedOnB; rw [hh]; rfl
theorem Is_thr (r : List Nd) : Is 1 (thr :: r) = true ∧ Is 2 (thr :: r) = false ∧ Is 3 (thr :: r) = true ∧ Is 4 (thr :: r) = false := by
  have hh : hd (thr :: r) = 3 := rfl
  refine ⟨?_, ?_, ?_, ?_⟩
  · rw [Is_one]; unfold plainB; rw [hh]; rfl
  · rw [Is_two]; unfold pairedB; rw [hh]; rfl
  · rw [Is_three]; unfold plainB; rw [hh]; rfl
  · rw [Is_four]; unfold pairedB pairedOnB; rw [hh]; rfl
theorem Is_alt {x : Nd} (hx : x.k = 1) (r : List Nd) (s : Nat) (h1 : 1 ≤ s) (h4 : s ≤ 4) : Is s (alt :: x :: thr :: r) = (s == 1 || s == 3) := by
  have hh : hd (alt :: x :: thr :: r) = 6 := rfl
  have hk := kids_alt x (by rw [hx]; rfl) r
  have e0 : k0 (alt :: x :: thr :: r) = [x] := by unfold k0; rw [hk]; rfl
  have e1 : k1 (alt :: x :: thr :: r) = [thr] := by unfold k1; rw [hk]; rfl
  have c : s = 1 ∨ s = 2 ∨ s = 3 ∨ s = 4 := by omega
  have p1 : plainB Is (alt :: x :: thr :: r) = true := by
    unfold plainB
    rw [hh, e0, e1, Is_act hx [] 1 (by omega) (by omega), (Is_thr []).1]
    rfl
  have p2 : pairedB Is (alt :: x :: thr :: r) = false := by
    unfold pairedB
    rw [hh, e0, e1, Is_act hx [] 2 (by omega) (by omega), (Is_thr []).2.1]
    rfl
  rcases c with rfl | rfl | rfl | rfl
  · rw [Is_one, p1]; rfl
  · rw [Is_two, p2]; rfl
  · rw [Is_three, p1]; rfl
  · rw [Is_four, p2]; unfold pairedOnB; rw [hh]; rfl
/-- Rewritten, a row is of the sort that it was. -/
theorem Is_sub (f : ByteArray → Bool) : ∀ (m : Nat) (l : List Nd) (s : Nat), l.length ≤ m → 1 ≤ s → s ≤ 4 → Is s (sub f l) = Is s l
  | 0, l, s, h, _, _ => by
    have : l = [] := List.eq_nil_of_length_eq_zero (by omega)
    subst this
    rfl
  | m + 1, [], _, _, _, _ => rfl
  | m + 1, n :: r, s, hm, h1, h4 => by
    cases h : hit f n with
    | true => rw [sub_yes h, Is_alt (hit_k h) _ s h1 h4, Is_act (hit_k h) _ s h1 h4]
    | false =>
      have hk : ∀ s i, 1 ≤ s → s ≤ 4 → Is s (sub f ((kids (n :: r)).getD i [])) = Is s ((kids (n :: r)).getD i []) := fun s i h1 h4 => Is_sub f m _ s (by have := getD_short (n :: r) i (by simp); omega) h1 h4
      rw [Is_eq s (sub f (n :: r)), stepB_sub h, Is_eq s (n :: r)]
      unfold stepB plainB pairedB plainOnB pairedOnB k0 k1
      simp only [hk 1 _ (by omega) (by omega), hk 2 _ (by omega) (by omega), hk 3 _ (by omega) (by omega), hk 4 _ (by omega) (by omega)]
theorem whole_sub (f : ByteArray → Bool) (l : List Nd) (h : (sub f l).length ≤ 200) : whole (sub f l) = whole l := by
  have hl := sub_le f l
  unfold whole
  rw [sub_rgt]
  congr 1
  · congr 1
    rw [show decide ((sub f l).length ≤ 200) = true from decide_eq_true h, show decide (l.length ≤ 200) = true from decide_eq_true (by omega), decide_eq_decide.2 (show 1 ≤ (sub f l).length ↔ 1 ≤ l.length by omega)]
  · refine decide_eq_decide.2 ?_
    rw [size_sub]
    have hz := size_le l
    constructor
    · intro e
      have h1 := sub_len f (l.take (size l))
      have h2 := sub_len f l
      have h3 : (l.take (size l)).countP (hit f) ≤ l.countP (hit f) := (List.take_sublist _ _).countP_le
      rw [List.length_take, Nat.min_eq_left hz] at h1
      omega
    · intro e
      rw [e, List.take_length]
theorem of_sub (f : ByteArray → Bool) (l : List Nd) (h : (sub f l).length ≤ 200) : of (sub f l) = of l := by
  unfold of first
  rw [whole_sub f l h, Is_sub f _ l 1 (Nat.le_refl _) (by omega) (by omega), Is_sub f _ l 2 (Nat.le_refl _) (by omega) (by omega), Is_sub f _ l 3 (Nat.le_refl _) (by omega) (by omega), Is_sub f _ l 4 (Nat.le_refl _) (by omega) (by omega)]

/-- Without what may be refused. -/
def strip : List Nd → List Nd
  | a :: x :: b :: l => if a = alt ∧ x.k = 1 ∧ b = thr then x :: strip l else a :: strip (x :: b :: l)
  | [a, x] => [a, x]
  | [a] => [a]
  | [] => []
/-- Does a row begin so? -/
def pat : List Nd → Prop
  | a :: x :: b :: _ => a = alt ∧ x.k = 1 ∧ b = thr
  | _ => False
theorem strip_pat (x : Nd) (hx : x.k = 1) (l : List Nd) : strip (alt :: x :: thr :: l) = x :: strip l := by
  rw [strip, if_pos ⟨rfl, hx, rfl⟩]
theorem strip_not {a : Nd} {l : List Nd} (h : ¬ pat (a :: l)) : strip (a :: l) = a :: strip l := by
  match l with
  | [] => rfl
  | [x] => rfl
  | x :: b :: l => rw [strip, if_neg (show ¬ (a = alt ∧ x.k = 1 ∧ b = thr) from h)]
end Go.Proofs.YtpkbpooiaddcaaaGreat.Rf

namespace Go.Proofs.YtpkbpooiaddcaaaGreat.Tr
open Go Go.RowKit
set_option maxRecDepth 20000

/-- All rows that have the actions of both, each in order. -/
def mx : Nat → List ByteArray → List ByteArray → List (List ByteArray)
  | _, [], b => [b]
  | _, a, [] => [a]
  | 0, _, _ => []
  | n + 1, x :: a, y :: b => (mx n a (y :: b)).map (x :: ·) ++ (mx n (x :: a) b).map (y :: ·)
theorem mx_nil (n : Nat) (b : List ByteArray) : mx n [] b = [b] := by cases n <;> rfl
theorem mx_nil_r (n : Nat) (x : ByteArray) (a : List ByteArray) : mx n (x :: a) [] = [x :: a] := by cases n <;> rfl
theorem mx_len : ∀ (n : Nat) (a b : List ByteArray), (mx n a b).length ≤ 2 ^ n
  | n, [], b => by rw [mx_nil]; exact Nat.one_le_two_pow
  | n, x :: a, [] => by rw [mx_nil_r]; exact Nat.one_le_two_pow
  | 0, x :: a, y :: b => by simp [mx]
  | n + 1, x :: a, y :: b => by
    simp only [mx, List.length_append, List.length_map]
    have h1 := mx_len n a (y :: b)
    have h2 := mx_len n (x :: a) b
    rw [Nat.pow_succ]
    omega
/-- The rest behind the first, wherever an empty rest is said to lie. -/
theorem Strs.tail {w : World} {b off cap : Nat} {x : ByteArray} {l : List ByteArray} (h : Strs w (.slice (some ⟨b, off, none⟩) (l.length + 1) cap) (x :: l)) (o : Nat) (ho : o = off + 1 ∨ cap = 1) :
    Strs w (.slice (some ⟨b, o, none⟩) l.length (cap - 1)) l := by
  obtain ⟨hl, a, cap', hv, hc, hn, hcell⟩ := h
  cases hv
  simp at hc
  refine ⟨by simp, some ⟨b, o, none⟩, cap - 1, rfl, by omega, fun h => (by cases h), fun h0 => ?_⟩
  obtain ⟨b', off', ha, hj⟩ := hcell (by simp)
  cases ha
  rcases ho with rfl | h1
  · refine ⟨b, off + 1, rfl, fun j u hu => ?_⟩
    rw [show off + 1 + j = off + (j + 1) by omega]
    exact hj (j + 1) u (by simpa using hu)
  · omega

end Go.Proofs.YtpkbpooiaddcaaaGreat.Tr

namespace Go.Proofs.YtpkbpooiaddcaaaGreat.Sx
open Go Go.RowKit Go.Proofs.YtpkbpooiaddcaaaGreat.Rw Go.Proofs.YtpkbpooiaddcaaaGreat.So
set_option maxRecDepth 20000
set_option maxHeartbeats 800000 in
theorem onP_any (l : List Nd) (p : Bool) (v : Value) (w : World) (hv : Nds w v l) (hl : l.length ≤ 1000) (hm : Nms l) :
    Calls Tryz.prog 35 #[v, .bool p] w fun e w' => e = .returned (.bool (onB l p)) ∧ Below w.heap.size w w' := by
  have HV := Lib.hid hv
  have HC := Lib.hid (fun w h => ofP_any l v w h hl hm)
  have hr : onB l p = if p then pd (of l) else pl (of l) := rfl
  have h4 := of_le l
  obtain ⟨z, hzz⟩ : ∃ z, of l = z := ⟨_, rfl⟩
  rw [hzz] at hr HC h4
  rw [hr]
  obtain ⟨_, a, cap, rfl, -⟩ := hv
  clear hm hzz hr
  cases p
  · rw [if_neg (by decide)]
    go_enter Tryz.func35, Tryz.ntmps35
    go_wp2_with fail
    refine (HC.out _ HV.out).mono ?_
    rintro e w1 ⟨rfl, hb⟩
    have HB := Lib.hid hb
    clear hb
    go_wp2_with fail
    refine (plP z _ h4).mono ?_
    rintro e w2 ⟨rfl, rfl⟩
    go_wp2_with fail
    go_ret
    exact ⟨rfl, HB.out⟩
  · rw [if_pos rfl]
    go_enter Tryz.func35, Tryz.ntmps35
    go_wp2_with fail
    refine (HC.out _ HV.out).mono ?_
    rintro e w1 ⟨rfl, hb⟩
    have HB := Lib.hid hb
    clear hb
    go_wp2_with fail
    refine (pdP z _ h4).mono ?_
    rintro e w2 ⟨rfl, rfl⟩
    go_wp2_with fail
    go_ret
    exact ⟨rfl, HB.out⟩
end Go.Proofs.YtpkbpooiaddcaaaGreat.Sx

namespace Go.Proofs.YtpkbpooiaddcaaaGreat.So
open Go Go.RowKit Go.Proofs.YtpkbpooiaddcaaaGreat.Rw
set_option maxRecDepth 20000

end Go.Proofs.YtpkbpooiaddcaaaGreat.So

namespace Go.Proofs.YtpkbpooiaddcaaaGreat.Sx
open Go Go.RowKit Go.Maps Go.WideMaps Go.Proofs.YtpkbpooiaddcaaaGreat.Rw Go.Proofs.YtpkbpooiaddcaaaGreat.So
set_option maxRecDepth 20000

/-- A map's datum that says of each text whether it is one of these. -/
def TD (os : List ByteArray) (D : DataW Unit) : Prop := IsMap D ∧ ∀ s : ByteArray, D.atKey (.string s.data.toList) (.lit (.bool false)) = .lit (.bool (os.any fun o => decide (o = s)))
theorem TD.none : TD [] (.map []) := ⟨isMap_empty, fun _ => rfl⟩
theorem TD.put {os : List ByteArray} {D : DataW Unit} (h : TD os D) (x : ByteArray) : TD (os ++ [x]) (D.put (.string x.data.toList) (.lit (.bool true))) := by
  refine ⟨h.1.put _ _, fun s => ?_⟩
  by_cases hs : s = x
  · subst hs
    rw [atKey_put_same h.1 (by simp [WideAt.IsKeyLit])]
    simp
  · have hne : Lit.string s.data.toList ≠ Lit.string x.data.toList := by
      intro e
      injection e with e
      apply hs
      cases s; cases x
      simp at e
      rw [e]
    rw [atKey_put_other hne, h.2 s]
    have hs' : ¬ x = s := fun e => hs e.symm
    simp [hs']
theorem lawS : Keyed Tryz.prog 9 := string_keyed Tryz.underlying9
theorem bool_inv {v : Value} {z : DataW Unit × List MemPlace} {q : Bool} (h : plainElem Tryz.prog 4 v = some z) (hz : z.1 = .lit (.bool q)) : v = .bool q := by
  unfold plainElem at h
  rw [Tryz.underlying4] at h
  cases v <;> simp at h
  subst h
  simp at hz
  rw [hz]
theorem zeroB (w : World) : (zeroValue 4).run Tryz.prog w = .ok (.bool false) w := by kernel_rfl
theorem look {w : World} {b n : Nat} {os : List ByteArray} {D : DataW Unit} (h : w.ownsMap Tryz.prog 9 (plainElem Tryz.prog 4) b n D) (hd : TD os D) (s : ByteArray) (hs : s.size ≤ maxLen) :
    (Instr.lookup 38 (.map (some b)) (.string s) false).run Tryz.prog w = .ok (.bool (os.any fun o => decide (o = s))) w := by
  obtain ⟨v, ps, hrun, hv⟩ := h.lookup lawS Tryz.underlying38 (zeroB w) (plainElem_bool Tryz.underlying4 false) (keyOf_string_mk Tryz.underlying9 hs)
  rw [hd.2 s] at hv
  rw [hrun, bool_inv hv rfl]
/-- What the loop has made: the names, and the map that tells them. -/
def Gm (w wr : World) (v : Value) (os : List ByteArray) : Prop :=
  (∃ D, wr.ownsMap Tryz.prog 9 (plainElem Tryz.prog 4) w.heap.size os.length D ∧ TD os D) ∧ wr.ownsRow (w.heap.size + 1) 9 1 v os.length (os.map .string) ∧ Below w.heap.size w wr ∧ w.heap.size + 1 ≤ wr.heap.size
theorem Gm.start (w : World) : Gm w (w.alloc (.map #[] 0)) (.slice none 0 0) [] :=
  ⟨⟨_, World.ownsMap_made _ _ _ _, TD.none⟩, ⟨rfl, .inl ⟨rfl, rfl⟩⟩, (Below.refl _ _).alloc (Nat.le_refl _) _, by simp⟩
theorem Gm.alloc {w wr : World} {v : Value} {os : List ByteArray} (h : Gm w wr v os) (o : Obj) : Gm w (wr.alloc o) v os := by
  obtain ⟨⟨D, h1, h2⟩, h3, h4, h5⟩ := h
  exact ⟨⟨D, h1.alloc _, h2⟩, h3.alloc _, h4.alloc h4.size _, by simp; omega⟩
theorem own_turn {w w' : World} {B size n : Nat} {e : TypeId} {v : Value} {xs : List Value} (h : w.ownsRow (B + 1) e size v n xs) (hg : w.grownBy w' (some B)) : w'.ownsRow (B + 1) e size v n xs := by
  obtain ⟨hl, h | ⟨g, cap, cur, rfl, hb, hh, h1, h2, h3, h4⟩⟩ := h
  · exact ⟨hl, .inl h⟩
  · refine ⟨hl, .inr ⟨g, cap, cur, rfl, hb, ?_, h1, h2, h3, h4⟩⟩
    rw [hg.block g (Nat.lt_of_not_le fun hle => by rw [Array.getElem?_eq_none hle] at hh; cases hh) (fun e => by injection e with e; omega)]
    exact hh
theorem Gm.add {w wr w1 : World} {v : Value} {os : List ByteArray} {D : DataW Unit} (h : Gm w wr v os) (hown : w1.ownsMap Tryz.prog 9 (plainElem Tryz.prog 4) w.heap.size (os.length + 1) D) (hg : wr.grownBy w1 (some w.heap.size)) (s : ByteArray) (hd : TD (os ++ [s]) D) (hl : os.length ≤ 1000000) :
    ∃ v' w', (Builtin.append_ #[37, 37] 37 #[v, .slice (some ⟨w1.heap.size, 0, none⟩) 1 1]).run Tryz.prog (w1.alloc (.cells #[.string s] 9)) = .ok v' w' ∧ Gm w w' v' (os ++ [s]) := by
  obtain ⟨_, h3, h4, h5⟩ := h
  have hs := hg.size
  have B1 : Below w.heap.size w w1 := h4.grown hg h4.size (fun k hk => by injection hk with hk; omega)
  obtain ⟨i0, hi, hz, hs1, hb8⟩ := info_parts infoS
  obtain ⟨v', w', r1, r2, _, r4, _⟩ := Ap.run_append_one (P := Tryz.prog) (ty := 37) Tryz.underlying37 hi hz hs1 hb8 (by rfl) (by omega) (own_turn h3 hg) (by omega) #[.string s] rfl
    (by intro u hu; simp at hu; subst hu; rfl) (by unfold maxLen; omega) (by omega)
  obtain ⟨es, clock, m1, m2, m3, m4⟩ := hown
  refine ⟨v', w', r1, ⟨D, ⟨es, clock, by rw [r4.block _ (Nat.lt_succ_self _)]; exact m1, m2, ?_, m4⟩, hd⟩, ?_, B1.trans (r4.mono (Nat.le_succ _)), by have := r4.size; omega⟩
  · simpa using m3
  · simpa using r2
end Go.Proofs.YtpkbpooiaddcaaaGreat.Sx

namespace Go.Proofs.YtpkbpooiaddcaaaGreat.Rf
open Go Rw Go.Proofs.YtpkbpooiaddcaaaGreat.So

/-- Some names; one name. -/
def isN (s t : ByteArray) : Bool := decide (t = s)
def inN (names : List ByteArray) (s : ByteArray) : Bool := names.any (isN s)
theorem inN_add (names : List ByteArray) (s t : ByteArray) : inN (names ++ [s]) t = (inN names t || isN s t) := by
  unfold inN
  rw [List.any_append]
  congr 1
  unfold isN
  rw [List.any_cons, List.any_nil, Bool.or_false]
  exact decide_eq_decide.2 eq_comm
theorem inN_one (s : ByteArray) : inN [s] = isN s := by
  funext t
  have := inN_add [] s t
  rw [List.nil_append] at this
  rw [this]
  rfl
/-- The places of the actions that are asked for, of the first k nodes. -/
def plk (f : ByteArray → Bool) (l : List Nd) (k : Nat) : List Nat := (List.range k).filter fun i => l[i]?.any (hit f)
def plc (f : ByteArray → Bool) (l : List Nd) : List Nat := plk f l l.length
theorem plk_yes {f : ByteArray → Bool} {l : List Nd} {k : Nat} (h : k < l.length) (hh : hit f l[k] = true) : plk f l (k + 1) = plk f l k ++ [k] := by
  unfold plk
  rw [List.range_succ, List.filter_append]
  congr 1
  simp [h, hh]
theorem plk_no {f : ByteArray → Bool} {l : List Nd} {k : Nat} (h : k < l.length) (hh : hit f l[k] = false) : plk f l (k + 1) = plk f l k := by
  unfold plk
  rw [List.range_succ, List.filter_append]
  simp [h, hh]
theorem plk_len (f : ByteArray → Bool) (l : List Nd) : ∀ k, k ≤ l.length → (plk f l k).length = (l.take k).countP (hit f)
  | 0, _ => rfl
  | k + 1, h => by
    have ih := plk_len f l k (by omega)
    rw [List.take_succ_eq_append_getElem (by omega), List.countP_append, ← ih]
    cases hh : hit f l[k] with
    | true => rw [plk_yes (by omega) hh]; simp [hh]
    | false => rw [plk_no (by omega) hh]; simp [hh]
theorem plc_len (f : ByteArray → Bool) (l : List Nd) : (plc f l).length = l.countP (hit f) := by
  unfold plc
  rw [plk_len f l _ (Nat.le_refl _), List.take_length]
/-- The action at a place, as one that may be refused: of the first k nodes. -/
def mrk (at_ : Int) (l : List Nd) : Nat → List Nd
  | 0 => []
  | k + 1 => mrk at_ l k ++ match l[k]? with
    | none => []
    | some x => if (k : Int) = at_ ∧ x.k = 1 then [alt, x, thr] else [x]
def mark (at_ : Int) (l : List Nd) : List Nd := mrk at_ l l.length
theorem mrk_succ {at_ : Int} {l : List Nd} {k : Nat} (h : k < l.length) : mrk at_ l (k + 1) = mrk at_ l k ++ if (k : Int) = at_ ∧ l[k].k = 1 then [alt, l[k], thr] else [l[k]] := by
  rw [mrk, List.getElem?_eq_getElem h]
end Go.Proofs.YtpkbpooiaddcaaaGreat.Rf

namespace Go.Proofs.YtpkbpooiaddcaaaGreat.Tr
open Go Go.RowKit
set_option maxRecDepth 20000

end Go.Proofs.YtpkbpooiaddcaaaGreat.Tr

namespace Go.Proofs.YtpkbpooiaddcaaaGreat.Rf
open Go Go.RowKit Go.Proofs.YtpkbpooiaddcaaaGreat.Rw
set_option maxRecDepth 20000

/-- A slice of texts that reads as these. -/
def Strs (w : World) (v : Value) (l : List ByteArray) : Prop := Ap.Rd w 1 v l.length (l.map .string)
theorem Strs.below {w w' : World} {v : Value} {l : List ByteArray} (h : Strs w v l) (hb : Below w.heap.size w w') : Strs w' v l := Ap.Rd.below h hb
def AtS (w : World) (b off : Nat) (l : List ByteArray) : Prop := ∀ k, (h : k < l.length) → w.cell? ⟨b, off + k, none⟩ = some (.string l[k])
theorem Strs.form {w : World} {v : Value} {l : List ByteArray} (h : Strs w v l) :
    (l = [] ∧ ∃ a cap, v = .slice a 0 cap) ∨ ∃ b off cap, v = .slice (some ⟨b, off, none⟩) l.length cap ∧ AtS w b off l := by
  obtain ⟨_, a, cap, rfl, hle, _, hcell⟩ := h
  by_cases h0 : 0 < l.length
  · obtain ⟨b, off, rfl, hj⟩ := hcell h0
    exact Or.inr ⟨b, off, cap, rfl, fun k hk => hj _ _ (by rw [List.getElem?_map, List.getElem?_eq_getElem hk]; rfl)⟩
  · have : l = [] := List.eq_nil_of_length_eq_zero (by omega)
    subst this
    exact Or.inl ⟨rfl, a, cap, rfl⟩
theorem AtS.below {w w' : World} {b off : Nat} {l : List ByteArray} (h : AtS w b off l) (hb : Below w.heap.size w w') : AtS w' b off l := fun k hk => by
  rw [hb.cell (Ap.cell_lt (h k hk))]
  exact h k hk
theorem At.below {w w' : World} {b off : Nat} {l : List Nd} (h : At w b off l) (hb : Below w.heap.size w w') : At w' b off l := fun k hk => by
  obtain ⟨h1, h2, h3⟩ := h k hk
  exact ⟨by rw [hb.cell (Ap.cell_lt h1)]; exact h1, by rw [hb.cell (Ap.cell_lt h2)]; exact h2, by rw [hb.cell (Ap.cell_lt h3)]; exact h3⟩
theorem bytes_eq {s t : ByteArray} (h : s = t) : (s.toList == t.toList) = true := by rw [h]; simp
theorem bytes_ne {s t : ByteArray} (h : ¬ s = t) : (s.toList == t.toList) = false := by
  rw [ByteArray.toList_eq t]
  exact str_ne' fun e => h (by rw [e])
/-- A text in a block of its own. -/
theorem str_new (w : World) (s : ByteArray) (ty : TypeId) : Strs (w.alloc (.cells #[.string s] ty)) (.slice (some ⟨w.heap.size, 0, none⟩) 1 1) [s] := by
  refine ⟨rfl, some ⟨w.heap.size, 0, none⟩, 1, rfl, Nat.le_refl _, fun h => (by cases h), fun _ => ⟨w.heap.size, 0, rfl, fun j u hu => ?_⟩⟩
  rw [Nat.zero_add, World.cell?_alloc_new]
  simpa using hu
theorem strs_new (w : World) (l : List ByteArray) (ty : TypeId) : Strs (w.alloc (.cells (l.map Value.string).toArray ty)) (.slice (some ⟨w.heap.size, 0, none⟩) l.length l.length) l := by
  refine ⟨by simp, some ⟨w.heap.size, 0, none⟩, l.length, rfl, Nat.le_refl _, fun h => (by cases h), fun _ => ⟨w.heap.size, 0, rfl, fun j u hu => ?_⟩⟩
  rw [Nat.zero_add, World.cell?_alloc_new]
  simpa using hu
theorem nds_new (w : World) (l : List Nd) (ty : TypeId) : Nds (w.alloc (.cells (cls l).toArray ty)) (.slice (some ⟨w.heap.size, 0, none⟩) l.length l.length) l := by
  refine ⟨cls_len l, some ⟨w.heap.size, 0, none⟩, l.length, rfl, Nat.le_refl _, fun h => (by cases h), fun _ => ⟨w.heap.size, 0, rfl, fun j u hu => ?_⟩⟩
  rw [Nat.zero_add, World.cell?_alloc_new]
  simpa using hu

/-- What a loop has made: a row of nodes of its own. -/
def Got (w wr : World) (v : Value) (l : List Nd) : Prop := wr.ownsRow w.heap.size 41 3 v l.length (cls l) ∧ Below w.heap.size w wr
theorem Got.nds {w wr : World} {v : Value} {l : List Nd} (h : Got w wr v l) : Nds wr v l := Ap.Rd.owned h.1
theorem Got.start (w : World) : Got w w (.slice none 0 0) [] := ⟨⟨rfl, .inl ⟨rfl, rfl⟩⟩, Below.refl _ _⟩
theorem Got.below {w wr w' : World} {v : Value} {l : List Nd} (h : Got w wr v l) (hb : Below wr.heap.size wr w') : Got w w' v l := ⟨Ap.own_below h.1 hb, h.2.trans (hb.mono h.2.size)⟩
theorem Got.slice {w wr : World} {v : Value} {l : List Nd} (h : Got w wr v l) : ∃ a c, v = .slice a l.length c := by
  obtain ⟨_, a, c, e, -⟩ := h.nds
  exact ⟨a, c, e⟩
theorem Got.one {w wr : World} {v : Value} {l : List Nd} (x : Nd) (h : Got w wr v l) (hl : l.length ≤ 2000000) :
    ∃ v' w', (Builtin.append_ #[22, 22] 22 #[v, .slice (some ⟨wr.heap.size, 0, none⟩) 1 1]).run Tryz.prog (wr.alloc (.cells #[.int .i64 x.k, .string x.n, .int .i64 x.s] 41)) = .ok v' w' ∧ Got w w' v' (l ++ [x]) := by
  obtain ⟨v', w', h1, h2, _, h4, _⟩ := run_append_nd x h.1 h.2.size hl
  exact ⟨v', w', h1, h2, h.2.trans h4⟩
theorem Got.row {w wr : World} {v y : Value} {l m : List Nd} (h : Got w wr v l) (hy : Nds wr y m) (hl : l.length + m.length ≤ 2000000) :
    ∃ v' w', (Builtin.append_ #[22, 22] 22 #[v, y]).run Tryz.prog wr = .ok v' w' ∧ Got w w' v' (l ++ m) := by
  obtain ⟨v', w', h1, h2, _, h4, _⟩ := run_append_nds h.1 h.2.size hy hl
  exact ⟨v', w', h1, h2, h.2.trans h4⟩
theorem Got.new {w wr : World} {v : Value} {l : List Nd} (m : List Nd) (h : Got w wr v l) (hl : l.length + m.length ≤ 2000000) :
    ∃ v' w', (Builtin.append_ #[22, 22] 22 #[v, .slice (some ⟨wr.heap.size, 0, none⟩) m.length m.length]).run Tryz.prog (wr.alloc (.cells (cls m).toArray 41)) = .ok v' w' ∧ Got w w' v' (l ++ m) :=
  (h.below (below1 wr _)).row (nds_new wr m _) hl
end Go.Proofs.YtpkbpooiaddcaaaGreat.Rf

namespace Go.Proofs.YtpkbpooiaddcaaaGreat.Tr
open Go Go.RowKit
set_option maxRecDepth 20000

/-- The rest behind the first of a slice of texts. -/
theorem slice1 (b o k c : Nat) (w : World) : (Instr.slice 37 (.slice (some ⟨b, o, none⟩) (k + 1) c) (some (.int .i64 1)) none none).run Tryz.prog w = .ok (.slice (some ⟨b, if c = 1 then o else o + 1, none⟩) k (c - 1)) w := by
  have hu := Tryz.underlying37
  have h1 : (1 : Int) ≤ (k : Int) + 1 := by omega
  by_cases hc : c = 1 <;> simp [go_sem, hu, h1, hc]

end Go.Proofs.YtpkbpooiaddcaaaGreat.Tr

namespace Go.Proofs.YtpkbpooiaddcaaaGreat.Rf
open Go Go.RowKit Go.ChangeShapes Go.WideShapes Go.Proofs.YtpkbpooiaddcaaaGreat.Rw
set_option maxRecDepth 100000

section
variable {H : Type} {enc : TypeId × Value → H} {P : Program} {w : World}
end
end Go.Proofs.YtpkbpooiaddcaaaGreat.Rf

namespace Go.Proofs.YtpkbpooiaddcaaaGreat.Tr
open Go Go.RowKit
set_option maxRecDepth 20000

theorem below2 (w : World) (x y : Obj) : Below w.heap.size w ((w.alloc x).alloc y) := ((Below.refl _ _).alloc (Nat.le_refl _) x).alloc (by simp) y
theorem map_snoc {α β : Type} (f : α → β) (rs : List α) (k : Nat) (h : k < rs.length) : (rs.take (k + 1)).map f = (rs.take k).map f ++ [f rs[k]] := by
  rw [List.take_succ_eq_append_getElem h, List.map_append]
  rfl

end Go.Proofs.YtpkbpooiaddcaaaGreat.Tr

namespace Go.Proofs.YtpkbpooiaddcaaaGreat.Rf
open Go Go.RowKit Go.Proofs.YtpkbpooiaddcaaaGreat.Rw
set_option maxRecDepth 20000

set_option maxHeartbeats 400000 in
theorem isAct_any (x : Nd) (w : World) : Calls Tryz.prog 28 #[.agg #[.int .i64 x.k, .string x.n, .int .i64 x.s]] w fun e w' => e = .returned (.bool (decide (x.k = 1))) ∧ Below w.heap.size w w' := by
  by_cases h : x.k = 1
  · have g : (x.k == 1) = true := by rw [beq_iff_eq]; exact h
    rw [decide_eq_true h]
    clear h
    go_enter Tryz.func28, Tryz.ntmps28
    go_wp2_with fail
    go_ret
    exact ⟨rfl, below1 _ _⟩
  · have g : (x.k == 1) = false := by rw [beq_eq_false_iff_ne]; exact h
    rw [decide_eq_false h]
    clear h
    go_enter Tryz.func28, Tryz.ntmps28
    go_wp2_with fail
    go_ret
    exact ⟨rfl, below1 _ _⟩
set_option maxHeartbeats 400000 in
/-- Mark's. -/
theorem mark1_any (k : Nat) (at_ : Int) (ab : Nat) (w : World) (hc : w.cell? ⟨ab, 0, none⟩ = some (.int .i64 at_)) :
    Calls Tryz.prog 33 #[.int .i64 (k : Int), .pointer (some ⟨ab, 0, none⟩)] w fun e w' => e = .returned (.bool (decide ((k : Int) = at_))) ∧ Below w.heap.size w w' := by
  by_cases h : (k : Int) = at_
  · have g : ((k : Int) == at_) = true := by rw [beq_iff_eq]; exact h
    rw [decide_eq_true h]
    clear h
    go_enter Tryz.func33, Tryz.ntmps33
    go_wp2_with fail
    go_ret
    exact ⟨rfl, Below.refl _ _⟩
  · have g : ((k : Int) == at_) = false := by rw [beq_eq_false_iff_ne]; exact h
    rw [decide_eq_false h]
    clear h
    go_enter Tryz.func33, Tryz.ntmps33
    go_wp2_with fail
    go_ret
    exact ⟨rfl, Below.refl _ _⟩
set_option maxHeartbeats 1000000 in
/-- Rewrite's: a look into the map of names. -/
theorem rew1_any (b off cap lb mb B : Nat) (l : List Nd) (k : Nat) (q : Bool) (w : World) (hk : k < l.length) (hat : At w b off l) (hl : w.cell? ⟨lb, 0, none⟩ = some (.slice (some ⟨b, off, none⟩) l.length cap)) (hm : w.cell? ⟨mb, 0, none⟩ = some (.map (some B)))
    (hlook : (Instr.lookup 38 (.map (some B)) (.string l[k].n) false).run Tryz.prog w.drew = .ok (.bool q) w.drew) :
    Calls Tryz.prog 16 #[.int .i64 (k : Int), .pointer (some ⟨mb, 0, none⟩), .pointer (some ⟨lb, 0, none⟩)] w fun e w' => e = .returned (.bool q) ∧ Below w.heap.size w w' := by
  obtain ⟨-, c2, -⟩ := hat k hk
  clear hat
  obtain ⟨x, hx⟩ : ∃ x, l[k] = x := ⟨_, rfl⟩
  rw [hx] at c2 hlook
  clear hx
  go_enter Tryz.func16, Tryz.ntmps16
  go_wp2_with fail
  go_region
  go_wp2_with fail
  go_ret
  exact ⟨rfl, (Below.refl _ _).drew⟩
end Go.Proofs.YtpkbpooiaddcaaaGreat.Rf

namespace Go.Proofs.YtpkbpooiaddcaaaGreat.Rf
open Go Go.RowKit Go.Proofs.YtpkbpooiaddcaaaGreat.Rw
set_option maxRecDepth 20000

end Go.Proofs.YtpkbpooiaddcaaaGreat.Rf

namespace Go.Proofs.YtpkbpooiaddcaaaGreat.Tr
open Go Go.RowKit
set_option maxRecDepth 20000

/-- All traces of two, side by side. -/
def pr (p q : Tr) : List Tr := norm ((mx 19 p.a q.a).map fun r => ⟨r, Sg.both p.e q.e⟩)
/-- All rows of two. -/
def mix (a b : List ByteArray) : List (List ByteArray) := (pr ⟨a, 1⟩ ⟨b, 1⟩).map (·.a)
theorem pr_len (p q : Tr) : (pr p q).length ≤ 524288 := by
  refine Nat.le_trans (length_norm _) ?_
  rw [List.length_map]
  exact Nat.le_trans (mx_len _ _ _) (by decide)

end Go.Proofs.YtpkbpooiaddcaaaGreat.Tr

namespace Go.Proofs.YtpkbpooiaddcaaaGreat.Rf
open Go Go.RowKit Go.Proofs.YtpkbpooiaddcaaaGreat.Rw
set_option maxRecDepth 20000

theorem hit_yes {f : ByteArray → Bool} {x : Nd} (h : x.k = 1) (hf : f x.n = true) : hit f x = true := by
  unfold hit
  rw [decide_eq_true h, hf]
  rfl
theorem hit_not {f : ByteArray → Bool} {x : Nd} (hf : f x.n = false) : hit f x = false := by
  unfold hit
  rw [hf, Bool.and_false]
theorem sub_hit {f : ByteArray → Bool} {l : List Nd} {k : Nat} (h : k < l.length) (hh : hit f l[k] = true) : sub f (l.take (k + 1)) = sub f (l.take k) ++ [alt, l[k], thr] := by
  rw [sub_take f l k h]
  unfold sub1
  rw [hh]
  rfl
theorem sub_miss {f : ByteArray → Bool} {l : List Nd} {k : Nat} (h : k < l.length) (hh : hit f l[k] = false) : sub f (l.take (k + 1)) = sub f (l.take k) ++ [l[k]] := by
  rw [sub_take f l k h]
  unfold sub1
  rw [hh]
  rfl
end Go.Proofs.YtpkbpooiaddcaaaGreat.Rf

namespace Go.Proofs.YtpkbpooiaddcaaaGreat.Tr
open Go

theorem mem_pr {p q t : Tr} (h : t ∈ pr p q) : t.a ∈ mx 19 p.a q.a ∧ t.e = Sg.both p.e q.e := by
  unfold pr at h
  obtain ⟨r, hr, rfl⟩ := List.mem_map.1 ((mem_norm _ _).1 h)
  exact ⟨hr, rfl⟩
theorem mix_len (a b : List ByteArray) : (mix a b).length ≤ 524288 := by unfold mix; rw [List.length_map]; exact pr_len _ _
end Go.Proofs.YtpkbpooiaddcaaaGreat.Tr
