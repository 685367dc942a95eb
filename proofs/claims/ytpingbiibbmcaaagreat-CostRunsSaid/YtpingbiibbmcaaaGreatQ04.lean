/- Regions in a round of a range over a function, walked as everywhere; regions that draw their order and turn blocks: each operation says which blocks it may turn. The document's Right, Size, Depth, Whole over rows of nodes. Which of two traces comes ahead, by the document's own answer: the walk. The program's Arity. The document's Whole over rows of nodes. Rows of traces in memory. -/
import Derived.Test.YtpingbiibbmcaaaGreatQ03
import Derived.Test.YtpingbiibbmcaaaGreatQ02
import Derived.TacticsIn
import Derived.OrdersIn
import Derived.Deep.RegionHeld3
import Derived.StillTailTactics

namespace Go.Proofs.YtpingbiibbmcaaaGreat.Rq
open Go Go.RowKit Go.Proofs.YtpingbiibbmcaaaGreat.Rg Go.Proofs.YtpingbiibbmcaaaGreat.Ro

section
variable {P : Program} {ops : Array Oper} {Q : Exit → Act → World → Prop} {md : Region.Mode} {l n : Nat}

end

section
variable {P : Program} {ops : Array Oper} {Q : Exit → Act → World → Prop}
/-- The law of XRg, ahead of the region: whatever order is picked. -/
theorem any_inv {a : Act} {w : World} (J : List (Nat × Option Tmp)) (hJ : dsts ops = J) (he : Rg.early .any ops = true) (ho : once J = true)
    (G : (Nat → Bool) → (Nat → Value) → World → Prop) (h0 : ∀ us, puts a J us = a → G (fun k => decide (ops.size ≤ k)) us w)
    (duties : Duties (Duty P ops Q G a J) ops.size) (done : ∀ us w', G (fun _ => true) us w' → Q .normal (puts a J us) w') : wpAny P .any ops Q ops.size (Array.replicate ops.size false) a w := by
  refine wpAny_inv (fun l a' w' => ∃ us, a' = puts a J us ∧ G (fun k => l.getD k true) us w') he ?_ ?_ ops.size _ a _ (by simp) ?_ ?_
  · rintro l a' w' i hl ⟨us, rfl, hG⟩ hi
    obtain ⟨hun, o, hoi, hall⟩ := mem_ready.1 hi
    have hlt : i < ops.size := (Array.getElem?_eq_some_iff.1 hoi).1
    refine (Duties.at duties i hlt) o hoi _ us w' _ rfl hG hun (fun e hee hb => ?_) _ ?_
    · have := hall e hee hb
      rcases Nat.lt_or_ge e.on l.size with h' | h'
      · simpa [Array.getElem?_eq_getElem h'] using this
      · simp [Array.getElem?_eq_none h'] at this
    · intro v w'' hG'
      refine ⟨upd us i v, puts_upd J a us ho ?_, ?_⟩
      · rw [← hJ]
        unfold dsts
        exact List.mem_map.2 ⟨i, List.mem_range.2 hlt, by simp [hoi]⟩
      · have hf : (fun k => (l.setIfInBounds i true).getD k true) = upd (fun k => l.getD k true) i true := by
          funext k
          by_cases hk : k = i
          · subst hk
            rw [upd_same]
            simp [hl, hlt]
          · rw [upd_ne _ _ hk, getD_set_ne true (Ne.symm hk)]
        rw [hf]
        exact hG'
  · rintro l a' w' hall ⟨us, rfl, hG⟩
    refine done us w' ?_
    have hf : (fun k => l.getD k true) = fun _ => true := funext hall
    rw [← hf]
    exact hG
  · unfold left
    refine Nat.le_trans (List.countP_le_length) (by simp)
  · obtain ⟨us, hus⟩ := puts_own J a ho
    refine ⟨us, hus.symm, ?_⟩
    have hf : (fun k => (Array.replicate ops.size false).getD k true) = fun k => decide (ops.size ≤ k) := by
      funext k
      rcases Nat.lt_or_ge k ops.size with h' | h'
      · simp [h']
      · simp [h']
    rw [hf]
    exact h0 us hus

/-- What holds in the midst of a region: of each operation that is done, R; of each that is not, N, and its slot is as it was; Base all along; Pr of any two that are done. pre i k: k must be done ahead of i. -/
structure Mid (pre : Nat → Nat → Bool) (Base : World → Prop) (R : Nat → Value → World → Prop) (N : Nat → World → Prop) (Pr : Nat → Value → Nat → Value → Prop) (a0 : Act) (J : List (Nat × Option Tmp)) (f : Nat → Bool) (us : Nat → Value) (w : World) : Prop where
  base : Base w
  fin : ∀ k, f k = true → R k (us k) w
  not : ∀ k, f k = false → N k w
  ord : ∀ i k, f i = true → pre i k = true → f k = true
  slot : ∀ k d, f k = false → (k, some d) ∈ J → d < a0.tmps.size → us k = a0.eval (.tmp d)
  pair : ∀ i k, i ≠ k → f i = true → f k = true → i < J.length → k < J.length → Pr i (us i) k (us k)
/-- pre is told by what the operations wait for. -/
def preOk (ops : Array Oper) (pre : Nat → Nat → Bool) : Bool :=
  (List.range ops.size).all fun i => (List.range ops.size).all fun k => !pre i k || ((ops[i]?).map fun o => o.after.any fun e => Region.binds .any e && (decide (e.on = k) || pre e.on k)).getD false
theorem preOk_spec {pre : Nat → Nat → Bool} (h : preOk ops pre = true) {i k : Nat} {o : Oper} (hi : ops[i]? = some o) (hk : k < ops.size) (hp : pre i k = true) : ∃ e ∈ o.after, Region.binds .any e = true ∧ (e.on = k ∨ pre e.on k = true) := by
  have hlt : i < ops.size := (Array.getElem?_eq_some_iff.1 hi).1
  have h1 := List.all_eq_true.1 (List.all_eq_true.1 h i (List.mem_range.2 hlt)) k (List.mem_range.2 hk)
  rw [hp, hi] at h1
  simp only [Bool.not_true, Bool.false_or, Option.map_some, Option.getD_some, Array.any_eq_true, Bool.and_eq_true, Bool.or_eq_true, decide_eq_true_eq] at h1
  obtain ⟨j, hj, hb, h2⟩ := h1
  exact ⟨_, Array.getElem_mem hj, hb, h2⟩
/-- One operation's duty. -/
def Step (P : Program) (ops : Array Oper) (Q : Exit → Act → World → Prop) (pre : Nat → Nat → Bool) (M : Nat → Nat → Prop) (Base : World → Prop) (R : Nat → Value → World → Prop) (N : Nat → World → Prop) (Pr : Nat → Value → Nat → Value → Prop) (a0 : Act) (J : List (Nat × Option Tmp)) (i : Nat) : Prop :=
  ∀ o, ops[i]? = some o → ∀ (us : Nat → Value) (w : World) (a : Act), a = puts a0 J us → Base w → N i w → (∀ e ∈ o.after, Region.binds .any e = true → R e.on (us e.on) w) → (∀ k d, k = i ∨ pre k i = true → (k, some d) ∈ J → d < a0.tmps.size → us k = a0.eval (.tmp d)) →
    ∀ K : Act → World → Prop, (∀ v w', R i v w' → Turn (M i) w w' → (∀ k u, k ≠ i → k < J.length → R k u w → (∀ e ∈ o.after, Region.binds .any e = true → e.on ≠ k → Pr e.on (us e.on) k u ∧ Pr k u e.on (us e.on)) → Pr i v k u ∧ Pr k u i v) → K (a.put o.dst v) w') → wpOp P ops Q i K a w
theorem any_steps {a : Act} {w : World} (J : List (Nat × Option Tmp)) (hJ : dsts ops = J) (he : Rg.early .any ops = true) (ho : once J = true) (pre : Nat → Nat → Bool) (hpre : preOk ops pre = true) (hps : ∀ i k, pre i k = true → k < ops.size ∧ i < ops.size)
    (M : Nat → Nat → Prop) (Base : World → Prop) (R : Nat → Value → World → Prop) (N : Nat → World → Prop) (Pr : Nat → Value → Nat → Value → Prop)
    (hB : ∀ i w w', Base w → Turn (M i) w w' → Base w') (hR : ∀ i k v w w', i ≠ k → i < ops.size → pre k i = false → Base w → R k v w → Turn (M i) w w' → R k v w') (hN : ∀ i k w w', i ≠ k → pre i k = false → Base w → N k w → Turn (M i) w w' → N k w')
    (h0 : Base w) (hR0 : ∀ k v w, ops.size ≤ k → R k v w) (hN0 : ∀ k, k < ops.size → N k w)
    (steps : Duties (Step P ops Q pre M Base R N Pr a J) ops.size) (done : ∀ us w', Base w' → (∀ k, R k (us k) w') → (∀ i k, i ≠ k → i < J.length → k < J.length → Pr i (us i) k (us k)) → Q .normal (puts a J us) w') : wpAny P .any ops Q ops.size (Array.replicate ops.size false) a w := by
  have hJl : J.length = ops.size := by rw [← hJ]; unfold dsts; simp
  have hlift : ∀ m, m ≤ ops.size → Duties (Step P ops Q pre M Base R N Pr a J) m → Duties (Duty P ops Q (Mid pre Base R N Pr a J) a J) m := by
    intro m
    induction m with
    | zero => exact fun _ _ => trivial
    | succ i ih =>
      intro hm hd
      refine ⟨ih (by omega) hd.1, ?_⟩
      intro o hoi f us w' b hb g hf hdep K hK
      have hundone : ∀ k, k = i ∨ pre k i = true → f k = false := fun k hk => by
        rcases hk with rfl | hk
        · exact hf
        · cases hfk : f k
          · rfl
          · have := g.ord k i hfk hk
            rw [hf] at this
            cases this
      refine hd.2 o hoi us w' b hb g.base (g.not i hf) (fun e he hbi => g.fin _ (hdep e he hbi)) (fun k d hk hm hlt => g.slot k d (hundone k hk) hm hlt) K fun v w2 hv ht hpr => ?_
      have hpi : ∀ k, pre i k = true → f k = true := fun k hk => by
        obtain ⟨e, hee, hbi, h⟩ := preOk_spec hpre hoi (hps i k hk).1 hk
        have hfe := hdep e hee hbi
        rcases h with h | h
        · rw [← h]; exact hfe
        · exact g.ord _ _ hfe h
      have hdp : ∀ k, f k = true → k < J.length → ∀ e ∈ o.after, Region.binds .any e = true → e.on ≠ k → Pr e.on (us e.on) k (us k) ∧ Pr k (us k) e.on (us e.on) := fun k hk hkl e hee hbi hne => by
        have hel : e.on < J.length := by have := early_spec he hoi e hee hbi; omega
        exact ⟨g.pair _ _ hne (hdep e hee hbi) hk hel hkl, g.pair _ _ (Ne.symm hne) hk (hdep e hee hbi) hkl hel⟩
      refine hK v w2 ⟨hB i _ _ g.base ht, fun k hk => ?_, fun k hk => ?_, fun j k hj hjk => ?_, fun k d hk hm hlt => ?_, fun j k hjk hj hk hjl hkl => ?_⟩
      · by_cases hki : k = i
        · subst hki; rw [upd_same]; exact hv
        · rw [upd_ne _ _ hki] at hk ⊢
          refine hR i k _ _ _ (Ne.symm hki) (by omega) ?_ g.base (g.fin k hk) ht
          cases hp : pre k i
          · rfl
          · have := g.ord k i hk hp
            rw [hf] at this
            cases this
      · by_cases hki : k = i
        · subst hki; rw [upd_same] at hk; cases hk
        · rw [upd_ne _ _ hki] at hk
          refine hN i k _ _ (Ne.symm hki) ?_ g.base (g.not k hk) ht
          cases hp : pre i k
          · rfl
          · have := hpi k hp
            rw [hk] at this
            cases this
      · by_cases hki : k = i
        · subst hki; rw [upd_same]
        · rw [upd_ne _ _ hki]
          by_cases hji : j = i
          · subst hji; exact hpi k hjk
          · rw [upd_ne _ _ hji] at hj; exact g.ord j k hj hjk
      · by_cases hki : k = i
        · subst hki; rw [upd_same] at hk; cases hk
        · rw [upd_ne _ _ hki] at hk ⊢
          exact g.slot k d hk hm hlt
      · by_cases hji : j = i
        · subst hji
          rw [upd_ne _ _ (Ne.symm hjk)] at hk
          rw [upd_same, upd_ne _ _ (Ne.symm hjk)]
          exact (hpr k _ (Ne.symm hjk) hkl (g.fin k hk) (hdp k hk hkl)).1
        · rw [upd_ne _ _ hji] at hj ⊢
          by_cases hki : k = i
          · subst hki
            rw [upd_same]
            exact (hpr j _ hji hjl (g.fin j hj) (hdp j hj hjl)).2
          · rw [upd_ne _ _ hki] at hk ⊢
            exact g.pair j k hjk hj hk hjl hkl
  refine any_inv J hJ he ho (Mid pre Base R N Pr a J) (fun us hus => ⟨h0, fun k hk => hR0 k _ _ (of_decide_eq_true hk), fun k hk => hN0 k (Nat.lt_of_not_le (of_decide_eq_false hk)), fun i k hi hp => ?_, fun k d _ hm hlt => ?_, fun i k _ hi _ hil _ => ?_⟩) (hlift _ (Nat.le_refl _) steps) (fun us w' g => done us w' g.base (fun k => g.fin k rfl) fun i k hik hi hk => g.pair i k hik rfl rfl hi hk)
  · exact absurd (of_decide_eq_true hi) (Nat.not_le_of_lt (hps i k hp).2)
  · have := puts_eval J a us ho hm hlt
    rw [hus] at this
    exact this.symm
  · have := of_decide_eq_true hi
    omega
/-- A function of two numbers out of a table. -/
def tab (t : List (List Nat)) (i k : Nat) : Bool := (t.getD i []).contains k
theorem tab_lt {t : List (List Nat)} {m : Nat} (h : (decide (t.length ≤ m) && t.all fun r => r.all fun k => decide (k < m)) = true) (i k : Nat) (hp : tab t i k = true) : k < m ∧ i < m := by
  rw [Bool.and_eq_true, decide_eq_true_eq] at h
  unfold tab at hp
  have hi : i < t.length := by
    rcases Nat.lt_or_ge i t.length with h' | h'
    · exact h'
    · simp [List.getElem?_eq_none h'] at hp
  have h1 := List.all_eq_true.1 h.2 t[i] (List.getElem_mem hi)
  have h2 : k ∈ t[i] := by
    simpa [List.getElem?_eq_getElem hi] using hp
  exact ⟨of_decide_eq_true (List.all_eq_true.1 h1 k h2), by omega⟩
theorem wp_region_steps {id : Nat} {a : Act} {w : World} (hm : P.follows .mixedOrders = true) (J : List (Nat × Option Tmp)) (hJ : dsts ops = J) (he : Rg.early .any ops = true) (ho : once J = true) (t : List (List Nat)) (hpre : preOk ops (tab t) = true) (hps : (decide (t.length ≤ ops.size) && t.all fun r => r.all fun k => decide (k < ops.size)) = true)
    (M : Nat → Nat → Prop) (Base : World → Prop) (R : Nat → Value → World → Prop) (N : Nat → World → Prop) (Pr : Nat → Value → Nat → Value → Prop)
    (hB : ∀ i w w', Base w → Turn (M i) w w' → Base w') (hR : ∀ i k v w w', i ≠ k → i < ops.size → tab t k i = false → Base w → R k v w → Turn (M i) w w' → R k v w') (hN : ∀ i k w w', i ≠ k → tab t i k = false → Base w → N k w → Turn (M i) w w' → N k w')
    (h0 : Base w.drew) (hR0 : ∀ k v w, ops.size ≤ k → R k v w) (hN0 : ∀ k, k < ops.size → N k w.drew)
    (steps : Duties (Step P ops Q (tab t) M Base R N Pr a J) ops.size) (done : ∀ us w', Base w' → (∀ k, R k (us k) w') → (∀ i k, i ≠ k → i < J.length → k < J.length → Pr i (us i) k (us k)) → Q .normal (puts a J us) w') : (Code.region id ops true).wp P Q a w :=
  wp_region_any hm (any_steps J hJ he ho (tab t) hpre (fun i k => tab_lt hps i k) M Base R N Pr hB hR hN h0 hR0 hN0 steps done)
end
/-- An append whose run is known. -/
theorem append_run {P : Program} {w : World} {o : Oper} {a : Act} {K : Act → World → Prop} {Q : Exit → Act → World → Prop} (s x : Operand) (t tx : TypeId)
    (ho : o.op = .call { callee := .builtin .append, args := #[s, x], argTypes := #[t, tx] }) (vs vx : Value) (hs : a.eval s = vs) (hx : a.eval x = vx) (v' : Value) (w' : World) (hrun : (Builtin.append_ #[t, tx] o.type #[vs, vx]).run P w = .ok v' w')
    (h : K (a.put o.dst v') w') : o.wp P a w K Q := by
  unfold Oper.wp
  simp [execOp, ho, resolve, invoke, builtin, hs, hx, hrun, Result.andThen]
  exact h
end Go.Proofs.YtpingbiibbmcaaaGreat.Rq

namespace Go.Proofs.YtpingbiibbmcaaaGreat.Rw
open Go Go.RowKit
set_option maxRecDepth 20000

theorem str_ne {s : ByteArray} {l : List UInt8} (h : ¬ s = ⟨l.toArray⟩) : (l == s.toList) = false := by
  rw [beq_eq_false_iff_ne]
  intro e
  apply h
  have : s.data.toList = s.toList := (ByteArray.toList_eq s).symm
  rw [← this] at e
  cases s with
  | mk d => simp at e; subst e; rfl
theorem str_ne' {s : ByteArray} {l : List UInt8} (h : ¬ s = ⟨l.toArray⟩) : (s.toList == l) = false := by
  have := str_ne h
  rw [beq_eq_false_iff_ne] at this ⊢
  exact fun e => this e.symm
/-- Words that no action has. -/
def w1 : ByteArray := ⟨#[115, 107, 105, 112]⟩
def w2 : ByteArray := ⟨#[116, 104, 114, 111, 119]⟩
def w3 : ByteArray := ⟨#[121, 105, 101, 108, 100]⟩
def w4 : ByteArray := ⟨#[115, 107, 105, 112, 112]⟩
def w5 : ByteArray := ⟨#[116, 104, 114, 111, 119, 119]⟩
def w6 : ByteArray := ⟨#[121, 105, 101, 108, 100, 100]⟩
def wordB (s : ByteArray) : Bool := decide (s = w1 ∨ s = w2 ∨ s = w3 ∨ s = w4 ∨ s = w5 ∨ s = w6)
set_option maxHeartbeats 1000000 in
theorem word_any (s : ByteArray) (w : World) : Calls Tryz.prog 66 #[.string s] w fun e w' => e = .returned (.bool (wordB s)) ∧ w = w' := by
  by_cases h : s = w1 ∨ s = w2 ∨ s = w3 ∨ s = w4 ∨ s = w5 ∨ s = w6
  · have hb : wordB s = true := by simpa [wordB] using h
    rw [hb]
    clear hb
    rcases h with rfl | rfl | rfl | rfl | rfl | rfl
    all_goals
      simp only [w1, w2, w3, w4, w5, w6]
      go_enter Tryz.func66, Tryz.ntmps66
      go_wp2_with fail
      go_ret
      exact ⟨rfl, rfl⟩
  · have hb : wordB s = false := by simpa [wordB] using h
    rw [hb]
    clear hb
    simp only [not_or] at h
    obtain ⟨h1, h2, h3, h4, h5, h6⟩ := h
    have e1 := str_ne' (l := [115, 107, 105, 112]) h1
    have e2 := str_ne' (l := [116, 104, 114, 111, 119]) h2
    have e3 := str_ne' (l := [121, 105, 101, 108, 100]) h3
    have e4 := str_ne' (l := [115, 107, 105, 112, 112]) h4
    have e5 := str_ne' (l := [116, 104, 114, 111, 119, 119]) h5
    have e6 := str_ne' (l := [121, 105, 101, 108, 100, 100]) h6
    clear h1 h2 h3 h4 h5 h6
    go_enter Tryz.func66, Tryz.ntmps66
    go_wp2_with fail
    go_ret
    exact ⟨rfl, rfl⟩

/-- Letters from a to z alone. -/
def low (l : List UInt8) : Bool := l.all fun c => decide (97 ≤ c.toNat) && decide (c.toNat ≤ 122)
theorem low_take (s : ByteArray) (k : Nat) (h : k < s.size) : low (s.data.toList.take (k + 1)) = (low (s.data.toList.take k) && (decide (97 ≤ s[k].toNat) && decide (s[k].toNat ≤ 122))) := by
  unfold low
  rw [List.take_succ_eq_append_getElem (by simpa using h), List.all_append]
  simp
  rfl
theorem low_no {s : ByteArray} {k : Nat} (h : k < s.size) (hb : (decide (97 ≤ s[k].toNat) && decide (s[k].toNat ≤ 122)) = false) : low s.data.toList = false := by
  have := low_take s k h
  rw [hb, Bool.and_false] at this
  unfold low at this ⊢
  rw [List.all_eq_false] at this ⊢
  obtain ⟨x, hx, hn⟩ := this
  exact ⟨x, List.mem_of_mem_take hx, hn⟩
/-- A node that may be. -/
def rgt (x : Nd) : Bool :=
  if ar x.k < 0 then false
  else if x.k = 1 then low x.n.data.toList && (decide (1 ≤ x.n.size) && decide (x.n.size ≤ 8)) && (x.s == 0) && !wordB x.n
  else if x.k = 11 ∨ x.k = 14 then decide (x.n.size = 0) && (decide (1 ≤ x.s) && decide (x.s ≤ 3))
  else decide (x.n.size = 0) && (x.s == 0)

set_option maxHeartbeats 2000000 in
theorem right_no (x : Nd) (w : World) (h : ar x.k < 0) : Calls Tryz.prog 44 #[.agg #[.int .i64 x.k, .string x.n, .int .i64 x.s]] w fun e w' => e = .returned (.bool (rgt x)) ∧ Below w.heap.size w w' := by
  have hr : rgt x = false := by unfold rgt; rw [if_pos h]
  rw [hr]
  clear hr
  obtain ⟨k, n, s⟩ := x
  obtain ⟨a, ha⟩ : ∃ a, ar k = a := ⟨_, rfl⟩
  simp only at h
  rw [ha] at h
  have HA := Lib.hid ha
  clear ha
  go_enter Tryz.func44, Tryz.ntmps44
  go_wp2_with fail
  refine (arR_any _ _).mono ?_
  rw [HA.out]
  rintro e w' ⟨rfl, rfl⟩
  go_wp2_with fail
  go_ret
  exact ⟨rfl, (Below.refl _ _).alloc (Nat.le_refl _) _⟩
theorem rgt_act (n : ByteArray) (s : Int) : rgt ⟨1, n, s⟩ = (low n.data.toList && (decide (1 ≤ n.size) && decide (n.size ≤ 8)) && (s == 0) && !wordB n) := by
  unfold rgt
  rw [if_neg (show ¬ ar 1 < 0 from by decide), if_pos rfl]
theorem rgt_sign {k : Int} (n : ByteArray) (s : Int) (h : k = 11 ∨ k = 14) : rgt ⟨k, n, s⟩ = (decide (n.size = 0) && (decide (1 ≤ s) && decide (s ≤ 3))) := by
  unfold rgt
  rw [if_neg (show ¬ ar k < 0 from by rcases h with rfl | rfl <;> decide), if_neg (show ¬ k = 1 from by omega), if_pos h]
theorem rgt_other {k : Int} (n : ByteArray) (s : Int) (h0 : ¬ ar k < 0) (h1 : ¬ k = 1) (h : ¬ (k = 11 ∨ k = 14)) : rgt ⟨k, n, s⟩ = (decide (n.size = 0) && (s == 0)) := by
  unfold rgt
  rw [if_neg h0, if_neg h1, if_neg h]

set_option maxHeartbeats 2000000 in
theorem right_act (n : ByteArray) (s : Int) (w : World) (hn : n.size ≤ 140737488355328) : Calls Tryz.prog 44 #[.agg #[.int .i64 1, .string n, .int .i64 s]] w fun e w' => e = .returned (.bool (rgt ⟨1, n, s⟩)) ∧ Below w.heap.size w w' := by
  have HR := Lib.hid (rgt_act n s)
  go_enter Tryz.func44, Tryz.ntmps44
  go_wp2_with fail
  refine (arR_any _ _).mono ?_
  rintro e w' ⟨rfl, rfl⟩
  rw [show ar 1 = 0 from rfl]
  go_wp2_with fail
  go_loop [3] (fun i => ∃ j : Nat, j ≤ n.size ∧ i = .int .i64 j ∧ Hid (low (n.data.toList.take j) = true)) (fun i => n.size - (intOf i).toNat)
  case atStart => exact ⟨0, Nat.zero_le _, rfl, Lib.hid rfl⟩
  case round =>
    obtain ⟨j, hj, rfl, HL⟩ := hrel
    by_cases hlt : j < n.size
    · have HT := Lib.hid (low_take n j hlt)
      have HN := Lib.hid (fun hb => low_no hlt hb)
      by_cases b1 : n[j].toNat < 97
      · have d1 : decide ((n[j].toNat : Int) < 97) = true := by simp; omega
        have HF := Lib.hid (HN.out (by simp; omega))
        go_wp2_with fail
        go_ret
        refine ⟨ret_bool ?_, (Below.refl _ _).alloc (Nat.le_refl _) _⟩
        rw [HR.out, HF.out]
        rfl
      · have d1 : decide ((n[j].toNat : Int) < 97) = false := by simp; omega
        by_cases b2 : 122 < n[j].toNat
        · have d2 : decide (122 < (n[j].toNat : Int)) = true := by simp; omega
          have HF := Lib.hid (HN.out (by simp; omega))
          go_wp2_with fail
          go_ret
          refine ⟨ret_bool ?_, (Below.refl _ _).alloc (Nat.le_refl _) _⟩
          rw [HR.out, HF.out]
          rfl
        · have d2 : decide (122 < (n[j].toNat : Int)) = false := by simp; omega
          have HG : Hid (low (n.data.toList.take (j + 1)) = true) := by
            show _ = true
            rw [HT.out, HL.out]
            simp
            omega
          go_wp2_with fail
          go_round
          case rel => exact ⟨j + 1, by omega, by go_num, HG⟩
          case measure => simp [intOf]; omega
    · have HF : Hid (low n.data.toList = true) := by
        have := HL.out
        rwa [List.take_of_length_le (by simp; omega)] at this
      have HR' := Lib.hid (HR.out.trans (by rw [HF.out]))
      by_cases q1 : 1 ≤ n.size
      · by_cases q2 : n.size ≤ 8
        · by_cases q3 : s = 0
          · subst q3
            go_wp2_with fail
            refine (word_any _ _).mono ?_
            rintro e w' ⟨rfl, rfl⟩
            go_wp2_with fail
            go_ret
            refine ⟨ret_bool ?_, (Below.refl _ _).alloc (Nat.le_refl _) _⟩
            rw [HR'.out]
            simp [q1, q2]
          · have d3 : (s == 0) = false := by simpa using q3
            go_wp2_with fail
            go_ret
            refine ⟨ret_bool ?_, (Below.refl _ _).alloc (Nat.le_refl _) _⟩
            rw [HR'.out]
            simp [d3]
        · go_wp2_with fail
          go_ret
          refine ⟨ret_bool ?_, (Below.refl _ _).alloc (Nat.le_refl _) _⟩
          rw [HR'.out]
          simp [q2]
      · go_wp2_with fail
        go_ret
        refine ⟨ret_bool ?_, (Below.refl _ _).alloc (Nat.le_refl _) _⟩
        rw [HR'.out]
        simp [q1]

theorem empty_of {n : ByteArray} (h : n.size = 0) : n = ⟨#[]⟩ := by
  obtain ⟨d⟩ := n
  have : d = #[] := Array.eq_empty_of_size_eq_zero h
  rw [this]
theorem not_empty {n : ByteArray} (h : ¬ n.size = 0) : (n.toList == []) = false := str_ne' (l := []) fun e => h (by rw [e]; rfl)
set_option maxHeartbeats 2000000 in
theorem right_sign (k : Int) (n : ByteArray) (s : Int) (w : World) (hk : k = 11 ∨ k = 14) : Calls Tryz.prog 44 #[.agg #[.int .i64 k, .string n, .int .i64 s]] w fun e w' => e = .returned (.bool (rgt ⟨k, n, s⟩)) ∧ Below w.heap.size w w' := by
  rw [rgt_sign n s hk]
  by_cases q1 : n.size = 0
  · obtain rfl := empty_of q1
    rw [decide_eq_true q1, Bool.true_and]
    clear q1
    by_cases q2 : 1 ≤ s
    · rw [decide_eq_true q2, Bool.true_and]
      by_cases q3 : s ≤ 3
      · rw [decide_eq_true q3]
        rcases hk with rfl | rfl
        all_goals
          go_enter Tryz.func44, Tryz.ntmps44
          go_wp2_with fail
          refine (arR_any _ _).mono ?_
          rintro e w' ⟨rfl, rfl⟩
          go_wp2_with fail
          go_ret
          exact ⟨rfl, (Below.refl _ _).alloc (Nat.le_refl _) _⟩
      · have d3 : decide (s ≤ 3) = false := decide_eq_false q3
        rw [d3]
        clear q3
        rcases hk with rfl | rfl
        all_goals
          go_enter Tryz.func44, Tryz.ntmps44
          go_wp2_with fail
          refine (arR_any _ _).mono ?_
          rintro e w' ⟨rfl, rfl⟩
          go_wp2_with fail
          go_ret
          exact ⟨rfl, (Below.refl _ _).alloc (Nat.le_refl _) _⟩
    · have d2 : decide (1 ≤ s) = false := decide_eq_false q2
      rw [d2, Bool.false_and]
      clear q2
      rcases hk with rfl | rfl
      all_goals
        go_enter Tryz.func44, Tryz.ntmps44
        go_wp2_with fail
        refine (arR_any _ _).mono ?_
        rintro e w' ⟨rfl, rfl⟩
        go_wp2_with fail
        go_ret
        exact ⟨rfl, (Below.refl _ _).alloc (Nat.le_refl _) _⟩
  · have e0 := not_empty q1
    rw [decide_eq_false q1, Bool.false_and]
    clear q1
    rcases hk with rfl | rfl
    all_goals
      go_enter Tryz.func44, Tryz.ntmps44
      go_wp2_with fail
      refine (arR_any _ _).mono ?_
      rintro e w' ⟨rfl, rfl⟩
      go_wp2_with fail
      go_ret
      exact ⟨rfl, (Below.refl _ _).alloc (Nat.le_refl _) _⟩
set_option maxHeartbeats 2000000 in
theorem right_other (k : Int) (n : ByteArray) (s : Int) (w : World) (h0 : ¬ ar k < 0) (h1 : ¬ k = 1) (hk : ¬ (k = 11 ∨ k = 14)) : Calls Tryz.prog 44 #[.agg #[.int .i64 k, .string n, .int .i64 s]] w fun e w' => e = .returned (.bool (rgt ⟨k, n, s⟩)) ∧ Below w.heap.size w w' := by
  rw [rgt_other n s h0 h1 hk]
  have k1 : (k == 1) = false := by rw [beq_eq_false_iff_ne]; omega
  have k2 : (k == 11) = false := by rw [beq_eq_false_iff_ne]; omega
  have k3 : (k == 14) = false := by rw [beq_eq_false_iff_ne]; omega
  obtain ⟨a, ha⟩ : ∃ a, ar k = a := ⟨_, rfl⟩
  rw [ha] at h0
  have HA := Lib.hid ha
  clear ha hk h1
  by_cases q1 : n.size = 0
  · obtain rfl := empty_of q1
    rw [decide_eq_true q1, Bool.true_and]
    clear q1
    go_enter Tryz.func44, Tryz.ntmps44
    go_wp2_with fail
    refine (arR_any _ _).mono ?_
    rw [HA.out]
    rintro e w' ⟨rfl, rfl⟩
    go_wp2_with fail
    go_ret
    exact ⟨rfl, (Below.refl _ _).alloc (Nat.le_refl _) _⟩
  · have e0 := not_empty q1
    rw [decide_eq_false q1, Bool.false_and]
    clear q1
    go_enter Tryz.func44, Tryz.ntmps44
    go_wp2_with fail
    refine (arR_any _ _).mono ?_
    rw [HA.out]
    rintro e w' ⟨rfl, rfl⟩
    go_wp2_with fail
    go_ret
    exact ⟨rfl, (Below.refl _ _).alloc (Nat.le_refl _) _⟩
/-- The document's Right. -/
theorem rightR_any (x : Nd) (w : World) (hn : x.n.size ≤ 140737488355328) : Calls Tryz.prog 44 #[.agg #[.int .i64 x.k, .string x.n, .int .i64 x.s]] w fun e w' => e = .returned (.bool (rgt x)) ∧ Below w.heap.size w w' := by
  by_cases h0 : ar x.k < 0
  · exact right_no x w h0
  · obtain ⟨k, n, s⟩ := x
    by_cases h1 : k = 1
    · subst h1
      exact right_act n s w hn
    · by_cases hk : k = 11 ∨ k = 14
      · exact right_sign k n s w hk
      · exact right_other k n s w h0 h1 hk

set_option maxHeartbeats 1000000 in
theorem sizeR_any (v : Value) (l : List Nd) (w : World) (h : Nds w v l) (hl : l.length ≤ 1000000) :
    Calls Tryz.prog 45 #[v] w fun e w' => e = .returned (.int .i64 (size l)) ∧ w = w' := by
  have hz := size_le l
  have H := Lib.hid h
  obtain ⟨_, a, cap, rfl, -⟩ := h
  cases ht : T l with
  | none =>
    have HS : Hid (size l = 0) := size_pos.2 ht
    have HT := Lib.hid ht
    clear ht
    go_enter Tryz.func45, Tryz.ntmps45
    go_wp2_with fail
    refine (walk_any _ l 0 _ H.out hl (Nat.zero_le _)).mono ?_
    rw [List.drop_zero, HT.out]
    rintro e w' ⟨rfl, rfl⟩
    go_wp2_with fail
    go_ret
    exact ⟨ret_int (by rw [HS.out]; rfl), rfl⟩
  | some x =>
    obtain ⟨c, d⟩ := x
    have hs : size l = c := by unfold size; rw [ht]
    rw [hs] at hz ⊢
    have HW : Hid (WalkPost 0 (T l) = fun w e w' => e = .returned (.tuple #[.int .i64 (c : Int), .int .i64 (d : Int)]) ∧ w = w') := by
      funext w e w'
      unfold WalkPost
      rw [ht]
      simp [nx, dp]
    clear ht hs
    go_enter Tryz.func45, Tryz.ntmps45
    go_wp2_with fail
    refine (walk_any _ l 0 _ H.out hl (Nat.zero_le _)).mono ?_
    rw [List.drop_zero, HW.out]
    rintro e w' ⟨rfl, rfl⟩
    go_wp2_with fail
    go_ret
    exact ⟨rfl, rfl⟩
set_option maxHeartbeats 1000000 in
theorem depthR_any (v : Value) (l : List Nd) (w : World) (h : Nds w v l) (hl : l.length ≤ 1000000) :
    Calls Tryz.prog 14 #[v] w fun e w' => e = .returned (.int .i64 (depth l)) ∧ w = w' := by
  have HD : Hid ((depth l : Int) = dp (T l)) := by
    show (depth l : Int) = _
    unfold depth
    cases T l with
    | none => rfl
    | some x => rfl
  have H := Lib.hid h
  obtain ⟨_, a, cap, rfl, -⟩ := h
  rw [HD.out]
  obtain ⟨r, hr⟩ : ∃ r, T l = r := ⟨_, rfl⟩
  rw [hr]
  have HT := Lib.hid hr
  clear hr HD
  obtain ⟨x, hx⟩ : ∃ x, nx 0 r = x := ⟨_, rfl⟩
  obtain ⟨y, hy⟩ : ∃ y, dp r = y := ⟨_, rfl⟩
  have HX := Lib.hid hx
  have HY := Lib.hid hy
  rw [hy]
  clear hx hy
  go_enter Tryz.func14, Tryz.ntmps14
  go_wp2_with fail
  refine (walk_any _ l 0 _ H.out hl (Nat.zero_le _)).mono ?_
  unfold WalkPost
  rw [List.drop_zero, HT.out, HX.out, HY.out]
  rintro e w' ⟨rfl, rfl⟩
  go_wp2_with fail
  go_ret
  exact ⟨rfl, rfl⟩
end Go.Proofs.YtpingbiibbmcaaaGreat.Rw

namespace Go.Proofs.YtpingbiibbmcaaaGreat.Tr
open Go Go.RowKit
set_option maxRecDepth 20000

end Go.Proofs.YtpingbiibbmcaaaGreat.Tr

namespace Go.Proofs.YtpingbiibbmcaaaGreat.Rx
open Go Go.RowKit Rw
set_option maxRecDepth 20000

set_option maxHeartbeats 1000000 in
theorem arP_eq (k : Int) (w : World) : Calls Tryz.prog 83 #[.int .i64 k] w fun e w' => e = .returned (.int .i64 (ar k)) ∧ w = w' := by
  rcases cases15 k with rfl | rfl | rfl | rfl | rfl | rfl | rfl | rfl | rfl | rfl | rfl | rfl | rfl | rfl | h
  case inr.inr.inr.inr.inr.inr.inr.inr.inr.inr.inr.inr.inr.inr =>
    have hr := Lib.hid (ar_no h)
    obtain ⟨h1, h2, h3, h4, h5, h6, h7, h8, h9, h10, h11, h12, h13, h14⟩ := h
    have b1 : (k == 1) = false := by simp [h1]
    have b2 : (k == 2) = false := by simp [h2]
    have b3 : (k == 3) = false := by simp [h3]
    have b4 : (k == 4) = false := by simp [h4]
    have b5 : (k == 5) = false := by simp [h5]
    have b6 : (k == 6) = false := by simp [h6]
    have b7 : (k == 7) = false := by simp [h7]
    have b8 : (k == 8) = false := by simp [h8]
    have b9 : (k == 9) = false := by simp [h9]
    have b10 : (k == 10) = false := by simp [h10]
    have b11 : (k == 11) = false := by simp [h11]
    have b12 : (k == 12) = false := by simp [h12]
    have b13 : (k == 13) = false := by simp [h13]
    have b14 : (k == 14) = false := by simp [h14]
    clear h1 h2 h3 h4 h5 h6 h7 h8 h9 h10 h11 h12 h13 h14
    go_enter Tryz.func83, Tryz.ntmps83
    go_wp2_with fail
    go_ret
    exact ⟨ret_int hr.out.symm, rfl⟩
  all_goals
    go_enter Tryz.func83, Tryz.ntmps83
    go_wp2_with fail
    go_ret
    exact ⟨rfl, rfl⟩
end Go.Proofs.YtpingbiibbmcaaaGreat.Rx

namespace Go.Proofs.YtpingbiibbmcaaaGreat.Rw
open Go Go.RowKit
set_option maxRecDepth 20000

/-- Names of a length that memory has. -/
def Nms (l : List Nd) : Prop := ∀ x ∈ l, x.n.size ≤ 140737488355328
def whole (l : List Nd) : Bool := l.all rgt && (decide (1 ≤ l.length) && decide (l.length ≤ 200)) && decide (size l = l.length)
theorem all_take (l : List Nd) (k : Nat) (h : k < l.length) : (l.take (k + 1)).all rgt = ((l.take k).all rgt && rgt l[k]) := by
  rw [List.take_succ_eq_append_getElem h, List.all_append]
  simp
theorem all_no {l : List Nd} {k : Nat} (h : k < l.length) (hr : rgt l[k] = false) : l.all rgt = false := by
  rw [List.all_eq_false]
  exact ⟨l[k], List.getElem_mem h, by rw [hr]; decide⟩

set_option maxHeartbeats 1000000 in
theorem whole_empty (a : Option Addr) (cap : Nat) (w : World) :
    Calls Tryz.prog 26 #[.slice a 0 cap] w fun e w' => e = .returned (.bool false) ∧ Below w.heap.size w w' := by
  go_enter Tryz.func26, Tryz.ntmps26
  go_wp2_with fail
  refine Go.wp_loop_rounds 1 ?_
  rw [rounds_succ]
  go_wp2_with fail
  go_ret
  exact ⟨rfl, Below.refl _ _⟩
set_option maxHeartbeats 2000000 in
theorem whole_cells (b off cap : Nat) (l : List Nd) (w : World) (hn : Nds w (.slice (some ⟨b, off, none⟩) l.length cap) l) (hat : At w b off l) (hl : l.length ≤ 1000000) (hm : Nms l) :
    Calls Tryz.prog 26 #[.slice (some ⟨b, off, none⟩) l.length cap] w fun e w' => e = .returned (.bool (whole l)) ∧ Below w.heap.size w w' := by
  have HN := Lib.hid hn
  have HA := Lib.hid hat
  have HM := Lib.hid hm
  clear hn hat hm
  go_enter Tryz.func26, Tryz.ntmps26
  go_wp2_with fail
  go_loopw [3] (fun i wr => ∃ k : Nat, k ≤ l.length ∧ i = .int .i64 k ∧ Below w.heap.size w wr ∧ Hid ((l.take k).all rgt = true)) (fun i _ => l.length - (intOf i).toNat)
  case atStart => exact ⟨0, Nat.zero_le _, rfl, Below.refl _ _, Lib.hid rfl⟩
  case round =>
    obtain ⟨k, hk, rfl, hb, HK⟩ := hrel
    have HB := Lib.hid hb
    clear hb
    by_cases hlt : k < l.length
    · obtain ⟨e1, e2, e3⟩ := HA.out k hlt
      have c1 : wr.cell? ⟨b, off + k * 3, none⟩ = some (.int .i64 l[k].k) := by rw [HB.out.cell (Ap.cell_lt e1)]; exact e1
      have c2 : wr.cell? ⟨b, off + k * 3 + 1, none⟩ = some (.string l[k].n) := by rw [HB.out.cell (Ap.cell_lt e2)]; exact e2
      have c3 : wr.cell? ⟨b, off + k * 3 + 2, none⟩ = some (.int .i64 l[k].s) := by rw [HB.out.cell (Ap.cell_lt e3)]; exact e3
      have HT := Lib.hid (all_take l k hlt)
      have HX := Lib.hid (fun h => all_no (l := l) hlt h)
      have hxm : (l[k]).n.size ≤ 140737488355328 := HM.out _ (List.getElem_mem hlt)
      obtain ⟨x, hx⟩ : ∃ x, l[k] = x := ⟨_, rfl⟩
      rw [hx] at c1 c2 c3 HT HX hxm
      clear hx e1 e2 e3
      cases hr : rgt x with
      | false =>
        have HW : Hid (whole l = false) := by
          show _ = false
          unfold whole
          rw [HX.out hr]
          rfl
        have HR := Lib.hid hr
        clear hr
        go_wp2_with fail
        refine (rightR_any x _ hxm).mono ?_
        rw [HR.out]
        rintro e w' ⟨rfl, hb'⟩
        go_wp2_with fail
        go_ret
        exact ⟨ret_bool HW.out.symm, HB.out.trans (hb'.mono HB.out.size)⟩
      | true =>
        have HK' : Hid ((l.take (k + 1)).all rgt = true) := by
          show _ = true
          rw [HT.out, HK.out, hr]
          rfl
        have HR := Lib.hid hr
        clear hr
        go_wp2_with fail
        refine (rightR_any x _ hxm).mono ?_
        rw [HR.out]
        rintro e w' ⟨rfl, hb'⟩
        go_wp2_with fail
        go_roundw
        case rel => exact ⟨k + 1, by omega, by go_num, HB.out.trans (hb'.mono HB.out.size), HK'⟩
        case measure => simp [intOf]; omega
    · have HL : Hid (l.all rgt = true) := by
        have := HK.out
        rwa [List.take_of_length_le (by omega)] at this
      by_cases q1 : 1 ≤ l.length
      · by_cases q2 : l.length ≤ 200
        · obtain ⟨z, hz⟩ : ∃ z, size l = z := ⟨_, rfl⟩
          have HZ := Lib.hid hz
          have HW : Hid (whole l = decide (z = l.length)) := by
            show _ = _
            unfold whole
            rw [HL.out, decide_eq_true q1, decide_eq_true q2, hz]
            rfl
          clear hz
          go_wp2_with fail
          refine (sizeR_any _ l _ (HN.out.below (HB.out)) hl).mono ?_
          rw [HZ.out]
          rintro e w' ⟨rfl, rfl⟩
          go_wp2_with fail
          go_ret
          refine ⟨ret_bool ?_, HB.out⟩
          rw [HW.out]
          rw [Bool.eq_iff_iff]
          simp
          try omega
        · have HW : Hid (whole l = false) := by
            show _ = _
            unfold whole
            rw [decide_eq_false q2, Bool.and_false, Bool.and_false]
            rfl
          go_wp2_with fail
          go_ret
          exact ⟨ret_bool HW.out.symm, HB.out⟩
      · have HW : Hid (whole l = false) := by
          show _ = _
          unfold whole
          rw [decide_eq_false q1, Bool.false_and, Bool.and_false]
          rfl
        go_wp2_with fail
        go_ret
        exact ⟨ret_bool HW.out.symm, HB.out⟩
theorem wholeR_any (v : Value) (l : List Nd) (w : World) (h : Nds w v l) (hl : l.length ≤ 1000000) (hm : Nms l) :
    Calls Tryz.prog 26 #[v] w fun e w' => e = .returned (.bool (whole l)) ∧ Below w.heap.size w w' := by
  rcases h.form with ⟨rfl, a, cap, rfl⟩ | ⟨b, off, cap, rfl, _, hat⟩
  · exact whole_empty a cap w
  · exact whole_cells b off cap l w h hat hl hm
theorem Below.drewN (B n : Nat) (w : World) : Below B w (w.drewN n) := by
  induction n with
  | zero => exact Below.refl _ _
  | succ n ih => exact ih.drew
/-- How many nodes are of one of the kinds. -/
def cnt (l : List Nd) (ks : List Int) : Nat := l.countP fun x => decide (x.k ∈ ks)
/-- A slice of integers that reads as these. -/
def Ints (w : World) (v : Value) (l : List Int) : Prop := Ap.Rd w 1 v l.length (l.map (.int .i64))
theorem Ints.below {w w' : World} {v : Value} {l : List Int} (h : Ints w v l) (hb : Below w.heap.size w w') : Ints w' v l := Ap.Rd.below h hb
def AtI (w : World) (b off : Nat) (l : List Int) : Prop := ∀ k, (h : k < l.length) → w.cell? ⟨b, off + k, none⟩ = some (.int .i64 l[k])
theorem Ints.form {w : World} {v : Value} {l : List Int} (h : Ints w v l) :
    (l = [] ∧ ∃ a cap, v = .slice a 0 cap) ∨ ∃ b off cap, v = .slice (some ⟨b, off, none⟩) l.length cap ∧ l.length ≤ cap ∧ AtI w b off l := by
  obtain ⟨_, a, cap, rfl, hle, _, hcell⟩ := h
  by_cases h0 : 0 < l.length
  · obtain ⟨b, off, rfl, hj⟩ := hcell h0
    exact Or.inr ⟨b, off, cap, rfl, hle, fun k hk => hj _ _ (by rw [List.getElem?_map, List.getElem?_eq_getElem hk]; rfl)⟩
  · have : l = [] := List.eq_nil_of_length_eq_zero (by omega)
    subst this
    exact Or.inl ⟨rfl, a, cap, rfl⟩
end Go.Proofs.YtpingbiibbmcaaaGreat.Rw

namespace Go.Proofs.YtpingbiibbmcaaaGreat.Tr
open Go Go.RowKit
set_option maxRecDepth 20000

end Go.Proofs.YtpingbiibbmcaaaGreat.Tr
