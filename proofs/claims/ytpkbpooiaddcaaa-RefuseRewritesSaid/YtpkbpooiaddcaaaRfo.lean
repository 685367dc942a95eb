/- What may be refused: plain. Places, marks; all names of some; all marks are the whole rewritten. -/
import Derived.Test.YtpkbpooiaddcaaaRfm
namespace Go.Proofs.Ytpkbpooiaddcaaa.Rf
open Go Rw Go.Proofs.Ytpkbpooiaddcaaa.So

/-- Some names; one name. -/
def isN (s t : ByteArray) : Bool := decide (t = s)
def inN (names : List ByteArray) (s : ByteArray) : Bool := names.any (isN s)
theorem inN_iff {names : List ByteArray} {s : ByteArray} : inN names s = true ↔ s ∈ names := by
  unfold inN isN
  rw [List.any_eq_true]
  constructor
  · rintro ⟨t, ht, h⟩
    rw [decide_eq_true_eq] at h
    exact h ▸ ht
  · intro h
    exact ⟨s, h, by simp⟩
theorem inN_add (names : List ByteArray) (s t : ByteArray) : inN (names ++ [s]) t = (inN names t || isN s t) := by
  unfold inN
  rw [List.any_append]
  congr 1
  unfold isN
  rw [List.any_cons, List.any_nil, Bool.or_false]
  exact decide_eq_decide.2 eq_comm
theorem inN_one (s : ByteArray) : inN [s] = isN s := by
  funext t
  have := inN_add [] s t
  rw [List.nil_append] at this
  rw [this]
  rfl
theorem cnt_new {names : List ByteArray} {s : ByteArray} (h : s ∉ names) : ∀ l : List Nd, l.countP (hit (inN (names ++ [s]))) = l.countP (hit (inN names)) + l.countP (hit (isN s))
  | [] => rfl
  | x :: l => by
    have ih := cnt_new h l
    rw [List.countP_cons, List.countP_cons, List.countP_cons, ih]
    have e : hit (inN (names ++ [s])) x = (hit (inN names) x || hit (isN s) x) := by
      unfold hit
      rw [inN_add]
      cases decide (x.k = 1) <;> simp
    have e2 : ¬ (hit (inN names) x = true ∧ hit (isN s) x = true) := by
      unfold hit isN
      rintro ⟨h1, h2⟩
      rw [Bool.and_eq_true] at h1 h2
      rw [decide_eq_true_eq (p := x.n = s)] at h2
      rw [h2.2] at h1
      exact h (inN_iff.1 h1.2)
    rw [e]
    cases h1 : hit (inN names) x <;> cases h2 : hit (isN s) x
    · simp
    · simp; omega
    · simp; omega
    · exact absurd ⟨h1, h2⟩ e2
theorem cnt_old {names : List ByteArray} {s : ByteArray} (h : s ∈ names) (l : List Nd) : l.countP (hit (inN (names ++ [s]))) = l.countP (hit (inN names)) := by
  have e : inN (names ++ [s]) = inN names := by
    funext t
    rw [inN_add]
    cases h1 : isN s t with
    | false => rw [Bool.or_false]
    | true =>
      unfold isN at h1
      rw [decide_eq_true_eq] at h1
      rw [h1, inN_iff.2 h]
      rfl
  rw [e]
theorem cnt_zero (l : List Nd) : l.countP (hit (inN [])) = 0 := by
  rw [List.countP_eq_zero]
  intro x _
  unfold hit inN
  simp

/-- The places of the actions that are asked for, of the first k nodes. -/
def plk (f : ByteArray → Bool) (l : List Nd) (k : Nat) : List Nat := (List.range k).filter fun i => l[i]?.any (hit f)
def plc (f : ByteArray → Bool) (l : List Nd) : List Nat := plk f l l.length
theorem plk_zero (f : ByteArray → Bool) (l : List Nd) : plk f l 0 = [] := rfl
theorem plk_yes {f : ByteArray → Bool} {l : List Nd} {k : Nat} (h : k < l.length) (hh : hit f l[k] = true) : plk f l (k + 1) = plk f l k ++ [k] := by
  unfold plk
  rw [List.range_succ, List.filter_append]
  congr 1
  simp [h, hh]
theorem plk_no {f : ByteArray → Bool} {l : List Nd} {k : Nat} (h : k < l.length) (hh : hit f l[k] = false) : plk f l (k + 1) = plk f l k := by
  unfold plk
  rw [List.range_succ, List.filter_append]
  simp [h, hh]
theorem plk_len (f : ByteArray → Bool) (l : List Nd) : ∀ k, k ≤ l.length → (plk f l k).length = (l.take k).countP (hit f)
  | 0, _ => rfl
  | k + 1, h => by
    have ih := plk_len f l k (by omega)
    rw [List.take_succ_eq_append_getElem (by omega), List.countP_append, ← ih]
    cases hh : hit f l[k] with
    | true => rw [plk_yes (by omega) hh]; simp [hh]
    | false => rw [plk_no (by omega) hh]; simp [hh]
theorem plc_len (f : ByteArray → Bool) (l : List Nd) : (plc f l).length = l.countP (hit f) := by
  unfold plc
  rw [plk_len f l _ (Nat.le_refl _), List.take_length]
theorem plk_le (f : ByteArray → Bool) (l : List Nd) (k : Nat) : (plk f l k).length ≤ k := by
  unfold plk
  exact Nat.le_trans (List.length_filter_le _ _) (by rw [List.length_range]; exact Nat.le_refl _)
theorem plk_lt {f : ByteArray → Bool} {l : List Nd} {k i : Nat} (h : i ∈ plk f l k) : i < k := by
  unfold plk at h
  rw [List.mem_filter, List.mem_range] at h
  exact h.1
/-- The last of them: it is one, and none comes behind it. -/
theorem plk_last {f : ByteArray → Bool} {l : List Nd} : ∀ {c : Nat} {P : List Nat} {q : Nat}, c ≤ l.length → plk f l c = P ++ [q] →
    ∃ h : q < l.length, q < c ∧ hit f l[q] = true ∧ plk f l q = P ∧ ∀ i, q < i → i < c → ∀ h : i < l.length, hit f l[i] = false
  | 0, P, q, _, e => by rw [plk_zero] at e; cases P <;> cases e
  | c + 1, P, q, hc, e => by
    have hcl : c < l.length := by omega
    cases hh : hit f l[c] with
    | true =>
      rw [plk_yes hcl hh] at e
      obtain ⟨e1, e2⟩ := List.append_inj' e rfl
      injection e2 with e2
      subst e2
      exact ⟨hcl, Nat.lt_succ_self _, hh, e1, fun i h1 h2 => by omega⟩
    | false =>
      rw [plk_no hcl hh] at e
      obtain ⟨h1, h2, h3, h4, h5⟩ := plk_last (by omega) e
      refine ⟨h1, by omega, h3, h4, fun i g1 g2 g3 => ?_⟩
      by_cases hi : i = c
      · subst hi; exact hh
      · exact h5 i g1 (by omega) g3
theorem plk_none {f : ByteArray → Bool} {l : List Nd} : ∀ {c : Nat}, c ≤ l.length → plk f l c = [] → sub f (l.take c) = l.take c
  | 0, _, _ => rfl
  | c + 1, hc, e => by
    have hcl : c < l.length := by omega
    cases hh : hit f l[c] with
    | true => rw [plk_yes hcl hh] at e; exact absurd e (by simp)
    | false =>
      rw [plk_no hcl hh] at e
      rw [sub_take f l c hcl, plk_none (by omega) e]
      unfold sub1
      rw [hh, List.take_succ_eq_append_getElem hcl]
      rfl

/-- The action at a place, as one that may be refused: of the first k nodes. -/
def mrk (at_ : Int) (l : List Nd) : Nat → List Nd
  | 0 => []
  | k + 1 => mrk at_ l k ++ match l[k]? with
    | none => []
    | some x => if (k : Int) = at_ ∧ x.k = 1 then [alt, x, thr] else [x]
def mark (at_ : Int) (l : List Nd) : List Nd := mrk at_ l l.length
theorem mrk_succ {at_ : Int} {l : List Nd} {k : Nat} (h : k < l.length) : mrk at_ l (k + 1) = mrk at_ l k ++ if (k : Int) = at_ ∧ l[k].k = 1 then [alt, l[k], thr] else [l[k]] := by
  rw [mrk, List.getElem?_eq_getElem h]
theorem mrk_before {at_ : Int} {l : List Nd} : ∀ {k : Nat}, k ≤ l.length → (∀ i : Nat, i < k → (i : Int) = at_ → ∀ h : i < l.length, l[i].k ≠ 1) → mrk at_ l k = l.take k
  | 0, _, _ => rfl
  | k + 1, hk, h => by
    rw [mrk_succ (by omega), mrk_before (by omega) fun i hi => h i (by omega), if_neg (fun e => h k (Nat.lt_succ_self _) e.1 (by omega) e.2), List.take_succ_eq_append_getElem (by omega)]
theorem mark_no {at_ : Int} {l : List Nd} (h : ∀ i : Nat, (i : Int) = at_ → ∀ h : i < l.length, l[i].k ≠ 1) : mark at_ l = l := by
  unfold mark
  rw [mrk_before (Nat.le_refl _) fun i _ => h i, List.take_length]
theorem mrk_at {q : Nat} {l : List Nd} (hq : q < l.length) (hk : l[q].k = 1) : ∀ {k : Nat}, q < k → k ≤ l.length → mrk (q : Int) l k = l.take q ++ (alt :: l[q] :: thr :: (l.take k).drop (q + 1))
  | 0, h, _ => absurd h (Nat.not_lt_zero _)
  | k + 1, h, hl => by
    rw [mrk_succ (by omega)]
    by_cases e : k = q
    · subst e
      rw [if_pos ⟨rfl, hk⟩, mrk_before (by omega) fun i hi he => by omega]
      congr 1
      rw [List.drop_eq_nil_of_le (by rw [List.length_take]; omega)]
    · rw [if_neg (fun h => e (by omega)), mrk_at hq hk (by omega) (by omega), List.append_assoc]
      congr 1
      simp only [List.cons_append]
      congr 3
      rw [List.take_succ_eq_append_getElem (by omega), List.drop_append_of_le_length (by rw [List.length_take]; omega)]
theorem mark_at {q : Nat} {l : List Nd} (hq : q < l.length) (hk : l[q].k = 1) : mark (q : Int) l = l.take q ++ (alt :: l[q] :: thr :: l.drop (q + 1)) := by
  unfold mark
  rw [mrk_at hq hk hq (Nat.le_refl _), List.take_length]
theorem mrk_len (at_ : Int) (l : List Nd) : ∀ k, (mrk at_ l k).length ≤ 3 * k
  | 0 => Nat.le_refl _
  | k + 1 => by
    have ih := mrk_len at_ l k
    rw [mrk, List.length_append]
    have : (match l[k]? with | none => [] | some x => if (k : Int) = at_ ∧ x.k = 1 then [alt, x, thr] else [x] : List Nd).length ≤ 3 := by
      split
      · simp
      · split <;> simp
    omega
theorem mark_len (at_ : Int) (l : List Nd) : (mark at_ l).length ≤ l.length + 2 := by
  by_cases h : ∃ q : Nat, (q : Int) = at_ ∧ ∃ hq : q < l.length, l[q].k = 1
  · obtain ⟨q, rfl, hq, hk⟩ := h
    rw [mark_at hq hk]
    simp only [List.length_append, List.length_cons, List.length_take, List.length_drop]
    omega
  · rw [mark_no fun i hi hq hk => h ⟨i, hi, hq, hk⟩]
    omega
/-- One more mark, from the last one on. -/
theorem mark_step {f : ByteArray → Bool} {l : List Nd} {c q : Nat} {P : List Nat} (hc : c ≤ l.length) (e : plk f l c = P ++ [q]) :
    q < c ∧ plk f l q = P ∧ mark (q : Int) (l.take c ++ sub f (l.drop c)) = l.take q ++ sub f (l.drop q) := by
  obtain ⟨hq, hqc, hh, hP, hno⟩ := plk_last hc e
  refine ⟨hqc, hP, ?_⟩
  have hqx : q < (l.take c ++ sub f (l.drop c)).length := by rw [List.length_append, List.length_take]; omega
  have hget : (l.take c ++ sub f (l.drop c))[q] = l[q] := by
    rw [List.getElem_append_left (by rw [List.length_take]; omega), List.getElem_take]
  rw [mark_at hqx (by rw [hget]; exact hit_k hh), hget]
  have e1 : (l.take c ++ sub f (l.drop c)).take q = l.take q := by
    rw [List.take_append_of_le_length (by rw [List.length_take]; omega), List.take_take, Nat.min_eq_left (by omega)]
  have e2 : (l.take c ++ sub f (l.drop c)).drop (q + 1) = (l.take c).drop (q + 1) ++ sub f (l.drop c) := by
    rw [List.drop_append_of_le_length (by rw [List.length_take]; omega)]
  have e3 : l.drop q = l[q] :: ((l.take c).drop (q + 1) ++ l.drop c) := by
    rw [List.drop_eq_getElem_cons hq]
    congr 1
    have : l = l.take c ++ l.drop c := (List.take_append_drop c l).symm
    conv => lhs; rw [this]
    rw [List.drop_append_of_le_length (by rw [List.length_take]; omega)]
  have e4 : sub f ((l.take c).drop (q + 1)) = (l.take c).drop (q + 1) := sub_none fun x hx => by
    obtain ⟨i, hi, rfl⟩ := List.getElem_of_mem hx
    rw [List.length_drop, List.length_take] at hi
    rw [List.getElem_drop, List.getElem_take]
    exact hno _ (by omega) (by omega) (by omega)
  rw [e1, e2, e3, sub_yes hh, sub_append, e4]
theorem mark_all {f : ByteArray → Bool} {l : List Nd} {c : Nat} (hc : c ≤ l.length) (e : plk f l c = []) : l.take c ++ sub f (l.drop c) = sub f l := by
  have : sub f l = sub f (l.take c) ++ sub f (l.drop c) := by rw [← sub_append, List.take_append_drop]
  rw [this, plk_none hc e]
theorem mark_none (f : ByteArray → Bool) (l : List Nd) : l.take l.length ++ sub f (l.drop l.length) = l := by
  rw [List.take_length, List.drop_length, sub_nil, List.append_nil]
end Go.Proofs.Ytpkbpooiaddcaaa.Rf
