/- Plain: the tokens of a text, byte by byte; what is printed; what is read of what is printed. -/
namespace Go.Proofs.Ythfcclheephokaa.To

structure Tk where
  k : Int
  a : Int
  n : ByteArray
deriving DecidableEq

def letB (b : UInt8) : Bool := decide (97 ≤ b.toNat) && decide (b.toNat ≤ 122)
/-- Which sign a byte is, from 1 on; 0: none. -/
def sig (b : UInt8) : Nat :=
  if b = 40 then 1 else if b = 41 then 2 else if b = 91 then 3 else if b = 93 then 4 else if b = 59 then 5 else if b = 43 then 6 else if b = 124 then 7 else if b = 62 then 8 else if b = 47 then 9 else 0
inductive Res where
  | ok (l : List Tk)
  | bad (a : Nat) (e : Int)
def Res.cons (t : Tk) : Res → Res
  | .ok l => .ok (t :: l)
  | .bad a e => .bad a e
def Res.pre (ts : List Tk) : Res → Res
  | .ok l => .ok (ts ++ l)
  | .bad a e => .bad a e
theorem Res.pre_nil (r : Res) : r.pre [] = r := by cases r <;> rfl
theorem Res.pre_snoc (ts : List Tk) (t : Tk) (r : Res) : (r.cons t).pre ts = r.pre (ts ++ [t]) := by cases r <;> simp [Res.cons, Res.pre]
def lx : Nat → List UInt8 → Nat → Res
  | 0, _, _ => .ok []
  | _ + 1, [], _ => .ok []
  | f + 1, b :: r, p =>
    if letB b then
      if 8 < ((b :: r).takeWhile letB).length then .bad p 51
      else (lx f ((b :: r).drop ((b :: r).takeWhile letB).length) (p + ((b :: r).takeWhile letB).length)).cons ⟨10, p, ⟨((b :: r).takeWhile letB).toArray⟩⟩
    else if b = 32 then lx f r (p + 1)
    else if sig b = 0 then .bad p 50
    else (lx f r (p + 1)).cons ⟨sig b, p, ⟨#[]⟩⟩
theorem tw_pos {b : UInt8} {r : List UInt8} (h : letB b = true) : 1 ≤ ((b :: r).takeWhile letB).length := by
  rw [List.takeWhile_cons_of_pos h]; simp
theorem tw_le (l : List UInt8) : (l.takeWhile letB).length ≤ l.length := (List.takeWhile_sublist letB).length_le
theorem lx_fuel : ∀ (f : Nat) (l : List UInt8) (p : Nat), l.length ≤ f → lx (f + 1) l p = lx f l p
  | 0, l, p, h => by
    have : l = [] := List.eq_nil_of_length_eq_zero (by omega)
    subst this
    rfl
  | f + 1, [], p, _ => rfl
  | f + 1, b :: r, p, h => by
    have hr : r.length ≤ f := by simpa using h
    conv => lhs; unfold lx
    conv => rhs; unfold lx
    by_cases hb : letB b = true
    · rw [if_pos hb, if_pos hb]
      have h1 := tw_pos (r := r) hb
      rw [lx_fuel f _ _ (by rw [List.length_drop, List.length_cons]; omega)]
    · rw [if_neg hb, if_neg hb, lx_fuel f r _ hr]
theorem lx_more (f g : Nat) (l : List UInt8) (p : Nat) (h : l.length ≤ f) : lx (f + g) l p = lx f l p := by
  induction g with
  | zero => rfl
  | succ g ih => rw [← Nat.add_assoc, lx_fuel (f + g) l p (by omega), ih]
/-- The tokens of a text that begins at a place. -/
def F (l : List UInt8) (p : Nat) : Res := lx l.length l p
theorem lx_F (f : Nat) (l : List UInt8) (p : Nat) (h : l.length ≤ f) : lx f l p = F l p := by
  have := lx_more l.length (f - l.length) l p (Nat.le_refl _)
  rw [show l.length + (f - l.length) = f by omega] at this
  exact this
theorem F_nil (p : Nat) : F [] p = .ok [] := rfl
theorem F_let {b : UInt8} {r : List UInt8} {p : Nat} (h : letB b = true) : F (b :: r) p = if 8 < ((b :: r).takeWhile letB).length then .bad p 51 else (F ((b :: r).drop ((b :: r).takeWhile letB).length) (p + ((b :: r).takeWhile letB).length)).cons ⟨10, p, ⟨((b :: r).takeWhile letB).toArray⟩⟩ := by
  have h1 := tw_pos (r := r) h
  conv => lhs; unfold F
  rw [List.length_cons, lx, if_pos h, lx_F r.length _ _ (by rw [List.length_drop, List.length_cons]; omega)]
theorem let32 : letB 32 = false := by decide
theorem F_blank (r : List UInt8) (p : Nat) : F (32 :: r) p = F r (p + 1) := by
  conv => lhs; unfold F
  rw [List.length_cons, lx, if_neg (by decide), if_pos rfl]
  rfl
theorem F_byte {b : UInt8} (r : List UInt8) (p : Nat) (h : letB b = false) (h2 : ¬ b = 32) (h0 : sig b = 0) : F (b :: r) p = .bad p 50 := by
  conv => lhs; unfold F
  rw [List.length_cons, lx, if_neg (by rw [h]; decide), if_neg h2, if_pos h0]
theorem F_sig {b : UInt8} (r : List UInt8) (p : Nat) (h : letB b = false) (h2 : ¬ b = 32) (h0 : ¬ sig b = 0) : F (b :: r) p = (F r (p + 1)).cons ⟨sig b, p, ⟨#[]⟩⟩ := by
  conv => lhs; unfold F
  rw [List.length_cons, lx, if_neg (by rw [h]; decide), if_neg h2, if_neg h0]
  rfl
/-- No letter at the head. -/
def noLet : List UInt8 → Prop
  | [] => True
  | b :: _ => letB b = false
theorem tw_append : ∀ (w r : List UInt8), (∀ b ∈ w, letB b = true) → noLet r → (w ++ r).takeWhile letB = w
  | [], [], _, _ => rfl
  | [], b :: r, _, h => by rw [List.nil_append, List.takeWhile_cons_of_neg (by rw [show letB b = false from h]; decide)]
  | b :: w, r, hw, h => by
    rw [List.cons_append, List.takeWhile_cons_of_pos (hw b List.mem_cons_self), tw_append w r (fun c hc => hw c (List.mem_cons_of_mem _ hc)) h]
theorem F_word {w : List UInt8} (r : List UInt8) (p : Nat) (hw : ∀ b ∈ w, letB b = true) (h1 : 1 ≤ w.length) (h8 : w.length ≤ 8) (hr : noLet r) : F (w ++ r) p = (F r (p + w.length)).cons ⟨10, p, ⟨w.toArray⟩⟩ := by
  cases w with
  | nil => simp at h1
  | cons b w =>
    have ht := tw_append (b :: w) r hw hr
    rw [List.cons_append] at ht ⊢
    rw [F_let (hw b List.mem_cons_self), ht, if_neg (by omega)]
    congr 2
    rw [← List.cons_append, List.drop_left]

theorem tw_all (l : List UInt8) : ∀ b ∈ l.takeWhile letB, letB b = true := by
  induction l with
  | nil => simp
  | cons b l ih =>
    by_cases h : letB b = true
    · rw [List.takeWhile_cons_of_pos h]
      intro c hc
      rcases List.mem_cons.1 hc with rfl | hc
      · exact h
      · exact ih c hc
    · rw [List.takeWhile_cons_of_neg h]
      simp
theorem tw_no (l : List UInt8) : noLet (l.drop (l.takeWhile letB).length) := by
  induction l with
  | nil => exact trivial
  | cons b l ih =>
    by_cases h : letB b = true
    · rw [List.takeWhile_cons_of_pos h]
      exact ih
    · rw [List.takeWhile_cons_of_neg h]
      exact Bool.eq_false_iff.2 h
theorem tw_split (l : List UInt8) : l.takeWhile letB ++ l.drop (l.takeWhile letB).length = l := by
  have h : l.takeWhile letB = l.take (l.takeWhile letB).length := by
    induction l with
    | nil => rfl
    | cons b l ih =>
      by_cases h : letB b = true
      · rw [List.takeWhile_cons_of_pos h, List.length_cons, List.take_succ_cons, ← ih]
      · rw [List.takeWhile_cons_of_neg h]
        rfl
  conv => lhs; lhs; rw [h]
  exact List.take_append_drop _ _

/-- The text of a token. -/
def named (n : ByteArray) : Bool := n.data.toList.all letB && (decide (1 ≤ n.size) && decide (n.size ≤ 8))
def sgnB : List UInt8 := [40, 41, 91, 93, 59, 43, 124, 62, 47]
def prt (t : Tk) : Option ByteArray :=
  if t.k = 10 ∧ named t.n = true then some t.n else if t.k < 1 ∨ 9 < t.k ∨ t.n ≠ ⟨#[]⟩ then none else some ⟨#[sgnB[(t.k - 1).toNat]!]⟩
theorem sgn_cases {k : Int} (h1 : 1 ≤ k) (h9 : k ≤ 9) : k = 1 ∨ k = 2 ∨ k = 3 ∨ k = 4 ∨ k = 5 ∨ k = 6 ∨ k = 7 ∨ k = 8 ∨ k = 9 := by omega
/-- What is printed is read as that token, whatever stands behind it that is no letter. -/
theorem prt_read {t : Tk} {u : ByteArray} (h : prt t = some u) (r : List UInt8) (p : Nat) (hr : noLet r) : F (u.data.toList ++ r) p = (F r (p + u.size)).cons ⟨t.k, p, t.n⟩ ∧ 1 ≤ u.size ∧ u.size ≤ 8 := by
  unfold prt at h
  obtain ⟨k, a, n⟩ := t
  simp only at h ⊢
  by_cases hn : k = 10 ∧ named n = true
  · rw [if_pos hn] at h
    obtain rfl := Option.some.inj h
    obtain ⟨rfl, hn⟩ := hn
    unfold named at hn
    simp only [Bool.and_eq_true, List.all_eq_true, decide_eq_true_eq] at hn
    obtain ⟨h1, h2, h3⟩ := hn
    refine ⟨?_, h2, h3⟩
    have hs : n.data.toList.length = n.size := by simp
    rw [F_word r p h1 (by omega) (by omega) hr, hs]
  · rw [if_neg hn] at h
    by_cases hk : k < 1 ∨ 9 < k ∨ n ≠ ⟨#[]⟩
    · rw [if_pos hk] at h
      cases h
    · rw [if_neg hk] at h
      obtain rfl := Option.some.inj h
      simp only [not_or, Int.not_lt, Decidable.not_not] at hk
      obtain ⟨h1, h2, rfl⟩ := hk
      refine ⟨?_, by show 1 ≤ 1; omega, by show 1 ≤ 8; omega⟩
      rcases sgn_cases h1 h2 with rfl | rfl | rfl | rfl | rfl | rfl | rfl | rfl | rfl
      all_goals exact F_sig r p (by decide) (by decide) (by decide)
/-- The tokens of a text can be printed; all of them are no longer than it. -/
def lenS : List Tk → Nat
  | [] => 0
  | t :: l => (match prt t with | some u => u.size | none => 0) + lenS l
theorem sig_le (b : UInt8) : sig b ≤ 9 := by unfold sig; repeat' split
                                             all_goals omega
theorem prt_word {w : List UInt8} (p : Int) (hw : ∀ b ∈ w, letB b = true) (h1 : 1 ≤ w.length) (h8 : w.length ≤ 8) : prt ⟨10, p, ⟨w.toArray⟩⟩ = some ⟨w.toArray⟩ := by
  unfold prt
  refine if_pos ⟨rfl, ?_⟩
  unfold named
  simp only [Bool.and_eq_true, List.all_eq_true, decide_eq_true_eq]
  exact ⟨hw, (by show 1 ≤ w.toArray.size; simpa using h1), (by show w.toArray.size ≤ 8; simpa using h8)⟩
theorem prt_sig {k : Nat} (p : Int) (h1 : 1 ≤ k) (h9 : k ≤ 9) : ∃ u, prt ⟨k, p, ⟨#[]⟩⟩ = some u ∧ u.size = 1 := by
  refine ⟨⟨#[sgnB[((k : Int) - 1).toNat]!]⟩, ?_, rfl⟩
  unfold prt
  rw [if_neg (by simp only; omega), if_neg (by simp only [ne_eq, not_true, or_false]; omega)]
theorem F_prints : ∀ (m : Nat) (l : List UInt8) (p : Nat) (ts : List Tk), l.length ≤ m → F l p = .ok ts → (∀ t ∈ ts, (prt t).isSome = true) ∧ lenS ts ≤ l.length
  | _, [], p, ts, _, h => by
    rw [F_nil] at h
    cases h
    exact ⟨fun t ht => (by cases ht), Nat.zero_le _⟩
  | 0, b :: r, p, ts, hm, _ => by simp at hm
  | m + 1, b :: r, p, ts, hm, h => by
    have hr : r.length ≤ m := by simpa using hm
    by_cases hb : letB b = true
    · rw [F_let hb] at h
      split at h
      · cases h
      · rename_i h8
        have h1 := tw_pos (r := r) hb
        have h2 := tw_le (b :: r)
        cases hf : F ((b :: r).drop ((b :: r).takeWhile letB).length) (p + ((b :: r).takeWhile letB).length) with
        | bad a e => rw [hf] at h; cases h
        | ok l' =>
          rw [hf] at h
          obtain rfl := Res.ok.inj h
          have hl : ((b :: r).drop ((b :: r).takeWhile letB).length).length ≤ m := by rw [List.length_drop, List.length_cons]; omega
          obtain ⟨q1, q2⟩ := F_prints m _ _ _ hl hf
          have hp := prt_word (p : Int) (tw_all (b :: r)) h1 (by omega)
          refine ⟨fun t ht => ?_, ?_⟩
          · rcases List.mem_cons.1 ht with rfl | ht
            · rw [hp]; rfl
            · exact q1 t ht
          · rw [lenS, hp]
            rw [List.length_drop] at q2
            simp only [ByteArray.size, List.size_toArray]
            omega
    · have hb := Bool.eq_false_iff.2 hb
      by_cases h2 : b = 32
      · subst h2
        rw [F_blank] at h
        obtain ⟨q1, q2⟩ := F_prints m r _ _ hr h
        exact ⟨q1, by rw [List.length_cons]; omega⟩
      · by_cases h0 : sig b = 0
        · rw [F_byte r p hb h2 h0] at h
          cases h
        · rw [F_sig r p hb h2 h0] at h
          cases hf : F r (p + 1) with
          | bad a e => rw [hf] at h; cases h
          | ok l' =>
            rw [hf] at h
            obtain rfl := Res.ok.inj h
            obtain ⟨q1, q2⟩ := F_prints m r _ _ hr hf
            obtain ⟨u, hu, hsz⟩ := prt_sig (p : Int) (show 1 ≤ sig b by omega) (sig_le b)
            refine ⟨fun t ht => ?_, ?_⟩
            · rcases List.mem_cons.1 ht with rfl | ht
              · rw [hu]; rfl
              · exact q1 t ht
            · rw [lenS, hu, List.length_cons]
              simp only [hsz]
              omega
/-- What is refused at a byte: ahead of it all is read; it is refused whatever stands behind it. -/
theorem F_head : ∀ (m : Nat) (l : List UInt8) (p q : Nat), l.length ≤ m → F l p = .bad q 50 → ∃ i, q = p + i ∧ i < l.length ∧ (∃ ts, F (l.take i) p = .ok ts) ∧ ∀ more, F (l.take (i + 1) ++ more) p = .bad q 50
  | _, [], p, q, _, h => by rw [F_nil] at h; cases h
  | 0, b :: r, p, q, hm, _ => by simp at hm
  | m + 1, b :: r, p, q, hm, h => by
    have hr : r.length ≤ m := by simpa using hm
    by_cases hb : letB b = true
    · obtain ⟨w, hw⟩ : ∃ w, (b :: r).takeWhile letB = w := ⟨_, rfl⟩
      obtain ⟨r', hr'⟩ : ∃ r', (b :: r).drop w.length = r' := ⟨_, rfl⟩
      have h1 := tw_pos (r := r) hb
      have hall := tw_all (b :: r)
      have hno := tw_no (b :: r)
      have hsp := tw_split (b :: r)
      have hle := tw_le (b :: r)
      rw [F_let hb] at h
      rw [hw] at h h1 hall hno hsp hle
      rw [hr'] at h hno hsp
      split at h
      · cases h
      · rename_i h8
        cases hf : F r' (p + w.length) with
        | ok l' => rw [hf] at h; cases h
        | bad a e =>
          rw [hf] at h
          cases h
          have hlen : r'.length ≤ m := by rw [← hr', List.length_drop, List.length_cons]; omega
          obtain ⟨i, rfl, hi, ⟨ts, hts⟩, hmore⟩ := F_head m r' _ _ hlen hf
          have hpre : ∀ k, noLet (r'.take k) := by
            intro k
            cases k with
            | zero => exact trivial
            | succ k =>
              cases r' with
              | nil => exact trivial
              | cons c r' => exact hno
          have hpre2 : ∀ more, noLet (r'.take (i + 1) ++ more) := by
            intro more
            cases r' with
            | nil => simp at hi
            | cons c r' => exact hno
          rw [← hsp]
          refine ⟨w.length + i, by omega, by rw [List.length_append]; omega, ⟨⟨10, (p : Int), ⟨w.toArray⟩⟩ :: ts, ?_⟩, fun more => ?_⟩
          · rw [List.take_length_add_append, F_word _ p hall h1 (by omega) (hpre i), hts]
            rfl
          · rw [Nat.add_assoc, List.take_length_add_append, List.append_assoc, F_word _ p hall h1 (by omega) (hpre2 more), hmore more]
            rfl
    · have hb := Bool.eq_false_iff.2 hb
      by_cases h2 : b = 32
      · subst h2
        rw [F_blank] at h
        obtain ⟨i, rfl, hi, ⟨ts, hts⟩, hmore⟩ := F_head m r _ _ hr h
        refine ⟨i + 1, by omega, by simp; omega, ⟨ts, ?_⟩, fun more => ?_⟩
        · rw [List.take_succ_cons, F_blank, hts]
        · rw [List.take_succ_cons, List.cons_append, F_blank, hmore more]
      · by_cases h0 : sig b = 0
        · rw [F_byte r p hb h2 h0] at h
          cases h
          refine ⟨0, rfl, by simp, ⟨[], rfl⟩, fun more => ?_⟩
          rw [List.take_succ_cons, List.cons_append, F_byte _ p hb h2 h0]
        · rw [F_sig r p hb h2 h0] at h
          cases hf : F r (p + 1) with
          | ok l' => rw [hf] at h; cases h
          | bad a e =>
            rw [hf] at h
            cases h
            obtain ⟨i, rfl, hi, ⟨ts, hts⟩, hmore⟩ := F_head m r _ _ hr hf
            refine ⟨i + 1, by omega, by simp; omega, ⟨⟨sig b, (p : Int), ⟨#[]⟩⟩ :: ts, ?_⟩, fun more => ?_⟩
            · rw [List.take_succ_cons, F_sig _ p hb h2 h0, hts]
              rfl
            · rw [List.take_succ_cons, List.cons_append, F_sig _ p hb h2 h0, hmore more]
              rfl
/-- Where a text is refused lies within it. -/
theorem F_bad : ∀ (m : Nat) (l : List UInt8) (p q : Nat) (e : Int), l.length ≤ m → F l p = .bad q e → p ≤ q ∧ q < p + l.length ∧ (e = 50 ∨ e = 51)
  | _, [], p, q, e, _, h => by rw [F_nil] at h; cases h
  | 0, b :: r, p, q, e, hm, _ => by simp at hm
  | m + 1, b :: r, p, q, e, hm, h => by
    have hr : r.length ≤ m := by simpa using hm
    by_cases hb : letB b = true
    · have h1 := tw_pos (r := r) hb
      have hle := tw_le (b :: r)
      rw [F_let hb] at h
      split at h
      · cases h
        exact ⟨Nat.le_refl _, by simp, Or.inr rfl⟩
      · cases hf : F ((b :: r).drop ((b :: r).takeWhile letB).length) (p + ((b :: r).takeWhile letB).length) with
        | ok l' => rw [hf] at h; cases h
        | bad a e' =>
          rw [hf] at h
          cases h
          have hl : ((b :: r).drop ((b :: r).takeWhile letB).length).length ≤ m := by rw [List.length_drop, List.length_cons]; omega
          obtain ⟨q1, q2, q3⟩ := F_bad m _ _ _ _ hl hf
          rw [List.length_drop] at q2
          exact ⟨by omega, by omega, q3⟩
    · have hb := Bool.eq_false_iff.2 hb
      by_cases h2 : b = 32
      · subst h2
        rw [F_blank] at h
        obtain ⟨q1, q2, q3⟩ := F_bad m r _ _ _ hr h
        exact ⟨by omega, by rw [List.length_cons]; omega, q3⟩
      · by_cases h0 : sig b = 0
        · rw [F_byte r p hb h2 h0] at h
          cases h
          exact ⟨Nat.le_refl _, by simp, Or.inl rfl⟩
        · rw [F_sig r p hb h2 h0] at h
          cases hf : F r (p + 1) with
          | ok l' => rw [hf] at h; cases h
          | bad a e' =>
            rw [hf] at h
            cases h
            obtain ⟨q1, q2, q3⟩ := F_bad m r _ _ _ hr hf
            exact ⟨by omega, by rw [List.length_cons]; omega, q3⟩
end Go.Proofs.Ythfcclheephokaa.To
