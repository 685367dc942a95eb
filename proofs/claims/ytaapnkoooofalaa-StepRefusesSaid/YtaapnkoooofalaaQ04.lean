/- Regions in a round of a range over a function, walked as everywhere; regions that draw their order and turn blocks: each operation says which blocks it may turn. The document's Right, Size, Depth, Whole over rows of nodes. Which of two traces comes ahead, by the document's own answer: the walk. The program's Arity. The document's Whole over rows of nodes. Rows of traces in memory. Arguments that are nodes, and rows of nodes: how they lie in memory, and what the reach says of them. The document's Same over any rows of traces. Plain: the sorts of trees. -/
import Derived.Test.YtaapnkoooofalaaQ03
import Derived.Test.YtaapnkoooofalaaQ02
import Derived.TacticsIn
import Derived.OrdersIn
import Derived.Deep.RegionHeld3
import Derived.StillTailTactics
import Derived.Deep.Strs
import Derived.Deep.Slices
import Derived.Lib.SmallJoins

namespace Go.Proofs.Ytaapnkoooofalaa.Rq
open Go Go.RowKit Rg Ro
section
variable {P : Program} {ops : Array Oper} {Q : Exit → Act → World → Prop} {md : Region.Mode} {l n : Nat}
end
section
variable {P : Program} {ops : Array Oper} {Q : Exit → Act → World → Prop}
theorem any_inv {a : Act} {w : World} (J : List (Nat × Option Tmp)) (hJ : dsts ops = J) (he : Rg.early .any ops = true) (ho : once J = true)
    (G : (Nat → Bool) → (Nat → Value) → World → Prop) (h0 : ∀ us, puts a J us = a → G (fun k => decide (ops.size ≤ k)) us w)
    (duties : Duties (Duty P ops Q G a J) ops.size) (done : ∀ us w', G (fun _ => true) us w' → Q .normal (puts a J us) w') : wpAny P .any ops Q ops.size (Array.replicate ops.size false) a w := by
  refine wpAny_inv (fun l a' w' => ∃ us, a' = puts a J us ∧ G (fun k => l.getD k true) us w') he ?_ ?_ ops.size _ a _ (by simp) ?_ ?_
  · rintro l a' w' i hl ⟨us, rfl, hG⟩ hi
    obtain ⟨hun, o, hoi, hall⟩ := mem_ready.1 hi
    have hlt : i < ops.size := (Array.getElem?_eq_some_iff.1 hoi).1
    refine (Duties.at duties i hlt) o hoi _ us w' _ rfl hG hun (fun e hee hb => ?_) _ ?_
    · have := hall e hee hb
      rcases Nat.lt_or_ge e.on l.size with h' | h'
      · simpa [Array.getElem?_eq_getElem h'] using this
      · simp [Array.getElem?_eq_none h'] at this
    · intro v w'' hG'
      refine ⟨upd us i v, puts_upd J a us ho ?_, ?_⟩
      · rw [← hJ]
        unfold dsts
        exact List.mem_map.2 ⟨i, List.mem_range.2 hlt, by simp [hoi]⟩
      · have hf : (fun k => (l.setIfInBounds i true).getD k true) = upd (fun k => l.getD k true) i true := by
          funext k
          by_cases hk : k = i
          · subst hk
            rw [upd_same]
            simp [hl, hlt]
          · rw [upd_ne _ _ hk, getD_set_ne true (Ne.symm hk)]
        rw [hf]
        exact hG'
  · rintro l a' w' hall ⟨us, rfl, hG⟩
    refine done us w' ?_
    have hf : (fun k => l.getD k true) = fun _ => true := funext hall
    rw [← hf]
    exact hG
  · unfold left
    refine Nat.le_trans (List.countP_le_length) (by simp)
  · obtain ⟨us, hus⟩ := puts_own J a ho
    refine ⟨us, hus.symm, ?_⟩
    have hf : (fun k => (Array.replicate ops.size false).getD k true) = fun k => decide (ops.size ≤ k) := by
      funext k
      rcases Nat.lt_or_ge k ops.size with h' | h'
      · simp [h']
      · simp [h']
    rw [hf]
    exact h0 us hus
structure Mid (pre : Nat → Nat → Bool) (Base : World → Prop) (R : Nat → Value → World → Prop) (N : Nat → World → Prop) (Pr : Nat → Value → Nat → Value → Prop) (a0 : Act) (J : List (Nat × Option Tmp)) (f : Nat → Bool) (us : Nat → Value) (w : World) : Prop where
  base : Base w
  fin : ∀ k, f k = true → R k (us k) w
  not : ∀ k, f k = false → N k w
  ord : ∀ i k, f i = true → pre i k = true → f k = true
  slot : ∀ k d, f k = false → (k, some d) ∈ J → d < a0.tmps.size → us k = a0.eval (.tmp d)
  pair : ∀ i k, i ≠ k → f i = true → f k = true → i < J.length → k < J.length → Pr i (us i) k (us k)
def preOk (ops : Array Oper) (pre : Nat → Nat → Bool) : Bool :=
  (List.range ops.size).all fun i => (List.range ops.size).all fun k => !pre i k || ((ops[i]?).map fun o => o.after.any fun e => Region.binds .any e && (decide (e.on = k) || pre e.on k)).getD false
theorem preOk_spec {pre : Nat → Nat → Bool} (h : preOk ops pre = true) {i k : Nat} {o : Oper} (hi : ops[i]? = some o) (hk : k < ops.size) (hp : pre i k = true) : ∃ e ∈ o.after, Region.binds .any e = true ∧ (e.on = k ∨ pre e.on k = true) := by
  have hlt : i < ops.size := (Array.getElem?_eq_some_iff.1 hi).1
  have h1 := List.all_eq_true.1 (List.all_eq_true.1 h i (List.mem_range.2 hlt)) k (List.mem_range.2 hk)
  rw [hp, hi] at h1
  simp only [Bool.not_true, Bool.false_or, Option.map_some, Option.getD_some, Array.any_eq_true, Bool.and_eq_true, Bool.or_eq_true, decide_eq_true_eq] at h1
  obtain ⟨j, hj, hb, h2⟩ := h1
  exact ⟨_, Array.getElem_mem hj, hb, h2⟩
def Step (P : Program) (ops : Array Oper) (Q : Exit → Act → World → Prop) (pre : Nat → Nat → Bool) (M : Nat → Nat → Prop) (Base : World → Prop) (R : Nat → Value → World → Prop) (N : Nat → World → Prop) (Pr : Nat → Value → Nat → Value → Prop) (a0 : Act) (J : List (Nat × Option Tmp)) (i : Nat) : Prop :=
  ∀ o, ops[i]? = some o → ∀ (us : Nat → Value) (w : World) (a : Act), a = puts a0 J us → Base w → N i w → (∀ e ∈ o.after, Region.binds .any e = true → R e.on (us e.on) w) → (∀ k d, k = i ∨ pre k i = true → (k, some d) ∈ J → d < a0.tmps.size → us k = a0.eval (.tmp d)) →
    ∀ K : Act → World → Prop, (∀ v w', R i v w' → Turn (M i) w w' → (∀ k u, k ≠ i → k < J.length → R k u w → (∀ e ∈ o.after, Region.binds .any e = true → e.on ≠ k → Pr e.on (us e.on) k u ∧ Pr k u e.on (us e.on)) → Pr i v k u ∧ Pr k u i v) → K (a.put o.dst v) w') → wpOp P ops Q i K a w
theorem any_steps {a : Act} {w : World} (J : List (Nat × Option Tmp)) (hJ : dsts ops = J) (he : Rg.early .any ops = true) (ho : once J = true) (pre : Nat → Nat → Bool) (hpre : preOk ops pre = true) (hps : ∀ i k, pre i k = true → k < ops.size ∧ i < ops.size)
    (M : Nat → Nat → Prop) (Base : World → Prop) (R : Nat → Value → World → Prop) (N : Nat → World → Prop) (Pr : Nat → Value → Nat → Value → Prop)
    (hB : ∀ i w w', Base w → Turn (M i) w w' → Base w') (hR : ∀ i k v w w', i ≠ k → i < ops.size → pre k i = false → Base w → R k v w → Turn (M i) w w' → R k v w') (hN : ∀ i k w w', i ≠ k → pre i k = false → Base w → N k w → Turn (M i) w w' → N k w')
    (h0 : Base w) (hR0 : ∀ k v w, ops.size ≤ k → R k v w) (hN0 : ∀ k, k < ops.size → N k w)
    (steps : Duties (Step P ops Q pre M Base R N Pr a J) ops.size) (done : ∀ us w', Base w' → (∀ k, R k (us k) w') → (∀ i k, i ≠ k → i < J.length → k < J.length → Pr i (us i) k (us k)) → Q .normal (puts a J us) w') : wpAny P .any ops Q ops.size (Array.replicate ops.size false) a w := by
  have hJl : J.length = ops.size := by rw [← hJ]; unfold dsts; simp
  have hlift : ∀ m, m ≤ ops.size → Duties (Step P ops Q pre M Base R N Pr a J) m → Duties (Duty P ops Q (Mid pre Base R N Pr a J) a J) m := by
    intro m
    induction m with
    | zero => exact fun _ _ => trivial
    | succ i ih =>
      intro hm hd
      refine ⟨ih (by omega) hd.1, ?_⟩
      intro o hoi f us w' b hb g hf hdep K hK
      have hundone : ∀ k, k = i ∨ pre k i = true → f k = false := fun k hk => by
        rcases hk with rfl | hk
        · exact hf
        · cases hfk : f k
          · rfl
          · have := g.ord k i hfk hk
            rw [hf] at this
            cases this
      refine hd.2 o hoi us w' b hb g.base (g.not i hf) (fun e he hbi => g.fin _ (hdep e he hbi)) (fun k d hk hm hlt => g.slot k d (hundone k hk) hm hlt) K fun v w2 hv ht hpr => ?_
      have hpi : ∀ k, pre i k = true → f k = true := fun k hk => by
        obtain ⟨e, hee, hbi, h⟩ := preOk_spec hpre hoi (hps i k hk).1 hk
        have hfe := hdep e hee hbi
        rcases h with h | h
        · rw [← h]; exact hfe
        · exact g.ord _ _ hfe h
      have hdp : ∀ k, f k = true → k < J.length → ∀ e ∈ o.after, Region.binds .any e = true → e.on ≠ k → Pr e.on (us e.on) k (us k) ∧ Pr k (us k) e.on (us e.on) := fun k hk hkl e hee hbi hne => by
        have hel : e.on < J.length := by have := early_spec he hoi e hee hbi; omega
        exact ⟨g.pair _ _ hne (hdep e hee hbi) hk hel hkl, g.pair _ _ (Ne.symm hne) hk (hdep e hee hbi) hkl hel⟩
      refine hK v w2 ⟨hB i _ _ g.base ht, fun k hk => ?_, fun k hk => ?_, fun j k hj hjk => ?_, fun k d hk hm hlt => ?_, fun j k hjk hj hk hjl hkl => ?_⟩
      · by_cases hki : k = i
        · subst hki; rw [upd_same]; exact hv
        · rw [upd_ne _ _ hki] at hk ⊢
          refine hR i k _ _ _ (Ne.symm hki) (by omega) ?_ g.base (g.fin k hk) ht
          cases hp : pre k i
          · rfl
          · have := g.ord k i hk hp
            rw [hf] at this
            cases this
      · by_cases hki : k = i
        · subst hki; rw [upd_same] at hk; cases hk
        · rw [upd_ne _ _ hki] at hk
          refine hN i k _ _ (Ne.symm hki) ?_ g.base (g.not k hk) ht
          cases hp : pre i k
          · rfl
          · have := hpi k hp
            rw [hk] at this
            cases this
      · by_cases hki : k = i
        · subst hki; rw [upd_same]
        · rw [upd_ne _ _ hki]
          by_cases hji : j = i
          · subst hji; exact hpi k hjk
          · rw [upd_ne _ _ hji] at hj; exact g.ord j k hj hjk
      · by_cases hki : k = i
        · subst hki; rw [upd_same] at hk; cases hk
        · rw [upd_ne _ _ hki] at hk ⊢
          exact g.slot k d hk hm hlt
      · by_cases hji : j = i
        · subst hji
          rw [upd_ne _ _ (Ne.symm hjk)] at hk
          rw [upd_same, upd_ne _ _ (Ne.symm hjk)]
          exact (hpr k _ (Ne.symm hjk) hkl (g.fin k hk) (hdp k hk hkl)).1
        · rw [upd_ne _ _ hji] at hj ⊢
          by_cases hki : k = i
          · subst hki
            rw [upd_same]
            exact (hpr j _ hji hjl (g.fin j hj) (hdp j hj hjl)).2
          · rw [upd_ne _ _ hki] at hk ⊢
            exact g.pair j k hjk hj hk hjl hkl
  refine any_inv J hJ he ho (Mid pre Base R N Pr a J) (fun us hus => ⟨h0, fun k hk => hR0 k _ _ (of_decide_eq_true hk), fun k hk => hN0 k (Nat.lt_of_not_le (of_decide_eq_false hk)), fun i k hi hp => ?_, fun k d _ hm hlt => ?_, fun i k _ hi _ hil _ => ?_⟩) (hlift _ (Nat.le_refl _) steps) (fun us w' g => done us w' g.base (fun k => g.fin k rfl) fun i k hik hi hk => g.pair i k hik rfl rfl hi hk)
  · exact absurd (of_decide_eq_true hi) (Nat.not_le_of_lt (hps i k hp).2)
  · have := puts_eval J a us ho hm hlt
    rw [hus] at this
    exact this.symm
  · have := of_decide_eq_true hi
    omega
def tab (t : List (List Nat)) (i k : Nat) : Bool := (t.getD i []).contains k
theorem tab_lt {t : List (List Nat)} {m : Nat} (h : (decide (t.length ≤ m) && t.all fun r => r.all fun k => decide (k < m)) = true) (i k : Nat) (hp : tab t i k = true) : k < m ∧ i < m := by
  rw [Bool.and_eq_true, decide_eq_true_eq] at h
  unfold tab at hp
  have hi : i < t.length := by
    rcases Nat.lt_or_ge i t.length with h' | h'
    · exact h'
    · simp [List.getElem?_eq_none h'] at hp
  have h1 := List.all_eq_true.1 h.2 t[i] (List.getElem_mem hi)
  have h2 : k ∈ t[i] := by
    simpa [List.getElem?_eq_getElem hi] using hp
  exact ⟨of_decide_eq_true (List.all_eq_true.1 h1 k h2), by omega⟩
theorem wp_region_steps {id : Nat} {a : Act} {w : World} (hm : P.follows .mixedOrders = true) (J : List (Nat × Option Tmp)) (hJ : dsts ops = J) (he : Rg.early .any ops = true) (ho : once J = true) (t : List (List Nat)) (hpre : preOk ops (tab t) = true) (hps : (decide (t.length ≤ ops.size) && t.all fun r => r.all fun k => decide (k < ops.size)) = true)
    (M : Nat → Nat → Prop) (Base : World → Prop) (R : Nat → Value → World → Prop) (N : Nat → World → Prop) (Pr : Nat → Value → Nat → Value → Prop)
    (hB : ∀ i w w', Base w → Turn (M i) w w' → Base w') (hR : ∀ i k v w w', i ≠ k → i < ops.size → tab t k i = false → Base w → R k v w → Turn (M i) w w' → R k v w') (hN : ∀ i k w w', i ≠ k → tab t i k = false → Base w → N k w → Turn (M i) w w' → N k w')
    (h0 : Base w.drew) (hR0 : ∀ k v w, ops.size ≤ k → R k v w) (hN0 : ∀ k, k < ops.size → N k w.drew)
    (steps : Duties (Step P ops Q (tab t) M Base R N Pr a J) ops.size) (done : ∀ us w', Base w' → (∀ k, R k (us k) w') → (∀ i k, i ≠ k → i < J.length → k < J.length → Pr i (us i) k (us k)) → Q .normal (puts a J us) w') : (Code.region id ops true).wp P Q a w :=
  wp_region_any hm (any_steps J hJ he ho (tab t) hpre (fun i k => tab_lt hps i k) M Base R N Pr hB hR hN h0 hR0 hN0 steps done)
end
theorem append_run {P : Program} {w : World} {o : Oper} {a : Act} {K : Act → World → Prop} {Q : Exit → Act → World → Prop} (s x : Operand) (t tx : TypeId)
    (ho : o.op = .call { callee := .builtin .append, args := #[s, x], argTypes := #[t, tx] }) (vs vx : Value) (hs : a.eval s = vs) (hx : a.eval x = vx) (v' : Value) (w' : World) (hrun : (Builtin.append_ #[t, tx] o.type #[vs, vx]).run P w = .ok v' w')
    (h : K (a.put o.dst v') w') : o.wp P a w K Q := by
  unfold Oper.wp
  simp [execOp, ho, resolve, invoke, builtin, hs, hx, hrun, Result.andThen]
  exact h
end Go.Proofs.Ytaapnkoooofalaa.Rq

namespace Go.Proofs.Ytaapnkoooofalaa.Rw
open Go Go.RowKit
set_option maxRecDepth 20000
theorem str_ne {s : ByteArray} {l : List UInt8} (h : ¬ s = ⟨l.toArray⟩) : (l == s.toList) = false := by
  rw [beq_eq_false_iff_ne]
  intro e
  apply h
  have : s.data.toList = s.toList := (ByteArray.toList_eq s).symm
  rw [← this] at e
  cases s with
  | mk d => simp at e; subst e; rfl
theorem str_ne' {s : ByteArray} {l : List UInt8} (h : ¬ s = ⟨l.toArray⟩) : (s.toList == l) = false := by
  have := str_ne h
  rw [beq_eq_false_iff_ne] at this ⊢
  exact fun e => this e.symm
def w1 : ByteArray := ⟨#[115, 107, 105, 112]⟩
def w2 : ByteArray := ⟨#[116, 104, 114, 111, 119]⟩
def w3 : ByteArray := ⟨#[121, 105, 101, 108, 100]⟩
def w4 : ByteArray := ⟨#[115, 107, 105, 112, 112]⟩
def w5 : ByteArray := ⟨#[116, 104, 114, 111, 119, 119]⟩
def w6 : ByteArray := ⟨#[121, 105, 101, 108, 100, 100]⟩
def wordB (s : ByteArray) : Bool := decide (s = w1 ∨ s = w2 ∨ s = w3 ∨ s = w4 ∨ s = w5 ∨ s = w6)
def low (l : List UInt8) : Bool := l.all fun c => decide (97 ≤ c.toNat) && decide (c.toNat ≤ 122)
theorem low_take (s : ByteArray) (k : Nat) (h : k < s.size) : low (s.data.toList.take (k + 1)) = (low (s.data.toList.take k) && (decide (97 ≤ s[k].toNat) && decide (s[k].toNat ≤ 122))) := by
  unfold low
  rw [List.take_succ_eq_append_getElem (by simpa using h), List.all_append]
  simp
  rfl
theorem low_no {s : ByteArray} {k : Nat} (h : k < s.size) (hb : (decide (97 ≤ s[k].toNat) && decide (s[k].toNat ≤ 122)) = false) : low s.data.toList = false := by
  have := low_take s k h
  rw [hb, Bool.and_false] at this
  unfold low at this ⊢
  rw [List.all_eq_false] at this ⊢
  obtain ⟨x, hx, hn⟩ := this
  exact ⟨x, List.mem_of_mem_take hx, hn⟩
def rgt (x : Nd) : Bool :=
  if ar x.k < 0 then false
  else if x.k = 1 then low x.n.data.toList && (decide (1 ≤ x.n.size) && decide (x.n.size ≤ 8)) && (x.s == 0) && !wordB x.n
  else if x.k = 11 ∨ x.k = 14 then decide (x.n.size = 0) && (decide (1 ≤ x.s) && decide (x.s ≤ 3))
  else decide (x.n.size = 0) && (x.s == 0)
theorem rgt_act (n : ByteArray) (s : Int) : rgt ⟨1, n, s⟩ = (low n.data.toList && (decide (1 ≤ n.size) && decide (n.size ≤ 8)) && (s == 0) && !wordB n) := by
  unfold rgt
  rw [if_neg (show ¬ ar 1 < 0 from by decide), if_pos rfl]
theorem rgt_sign {k : Int} (n : ByteArray) (s : Int) (h : k = 11 ∨ k = 14) : rgt ⟨k, n, s⟩ = (decide (n.size = 0) && (decide (1 ≤ s) && decide (s ≤ 3))) := by
  unfold rgt
  rw [if_neg (show ¬ ar k < 0 from by rcases h with rfl | rfl <;> decide), if_neg (show ¬ k = 1 from by omega), if_pos h]
theorem rgt_other {k : Int} (n : ByteArray) (s : Int) (h0 : ¬ ar k < 0) (h1 : ¬ k = 1) (h : ¬ (k = 11 ∨ k = 14)) : rgt ⟨k, n, s⟩ = (decide (n.size = 0) && (s == 0)) := by
  unfold rgt
  rw [if_neg h0, if_neg h1, if_neg h]
theorem empty_of {n : ByteArray} (h : n.size = 0) : n = ⟨#[]⟩ := by
  obtain ⟨d⟩ := n
  have : d = #[] := Array.eq_empty_of_size_eq_zero h
  rw [this]
theorem not_empty {n : ByteArray} (h : ¬ n.size = 0) : (n.toList == []) = false := str_ne' (l := []) fun e => h (by rw [e]; rfl)
set_option maxHeartbeats 1000000 in
theorem sizeR_any (v : Value) (l : List Nd) (w : World) (h : Nds w v l) (hl : l.length ≤ 1000000) :
    Calls Try.prog 26 #[v] w fun e w' => e = .returned (.int .i64 (size l)) ∧ w = w' := by
  have hz := size_le l
  have H := Lib.hid h
  obtain ⟨_, a, cap, rfl, -⟩ := h
  cases ht : T l with
  | none =>
    have HS : Hid (size l = 0) := size_pos.2 ht
    have HT := Lib.hid ht
    clear ht
    go_enter Try.func26, Try.ntmps26
    go_wp2_with fail
    refine (walk_any _ l 0 _ H.out hl (Nat.zero_le _)).mono ?_
    rw [List.drop_zero, HT.out]
    rintro e w' ⟨rfl, rfl⟩
    go_wp2_with fail
    go_ret
    exact ⟨ret_int (by rw [HS.out]; rfl), rfl⟩
  | some x =>
    obtain ⟨c, d⟩ := x
    have hs : size l = c := by unfold size; rw [ht]
    rw [hs] at hz ⊢
    have HW : Hid (WalkPost 0 (T l) = fun w e w' => e = .returned (.tuple #[.int .i64 (c : Int), .int .i64 (d : Int)]) ∧ w = w') := by
      funext w e w'
      unfold WalkPost
      rw [ht]
      simp [nx, dp]
    clear ht hs
    go_enter Try.func26, Try.ntmps26
    go_wp2_with fail
    refine (walk_any _ l 0 _ H.out hl (Nat.zero_le _)).mono ?_
    rw [List.drop_zero, HW.out]
    rintro e w' ⟨rfl, rfl⟩
    go_wp2_with fail
    go_ret
    exact ⟨rfl, rfl⟩
set_option maxHeartbeats 1000000 in
theorem depthR_any (v : Value) (l : List Nd) (w : World) (h : Nds w v l) (hl : l.length ≤ 1000000) :
    Calls Try.prog 22 #[v] w fun e w' => e = .returned (.int .i64 (depth l)) ∧ w = w' := by
  have HD : Hid ((depth l : Int) = dp (T l)) := by
    show (depth l : Int) = _
    unfold depth
    cases T l with
    | none => rfl
    | some x => rfl
  have H := Lib.hid h
  obtain ⟨_, a, cap, rfl, -⟩ := h
  rw [HD.out]
  obtain ⟨r, hr⟩ : ∃ r, T l = r := ⟨_, rfl⟩
  rw [hr]
  have HT := Lib.hid hr
  clear hr HD
  obtain ⟨x, hx⟩ : ∃ x, nx 0 r = x := ⟨_, rfl⟩
  obtain ⟨y, hy⟩ : ∃ y, dp r = y := ⟨_, rfl⟩
  have HX := Lib.hid hx
  have HY := Lib.hid hy
  rw [hy]
  clear hx hy
  go_enter Try.func22, Try.ntmps22
  go_wp2_with fail
  refine (walk_any _ l 0 _ H.out hl (Nat.zero_le _)).mono ?_
  unfold WalkPost
  rw [List.drop_zero, HT.out, HX.out, HY.out]
  rintro e w' ⟨rfl, rfl⟩
  go_wp2_with fail
  go_ret
  exact ⟨rfl, rfl⟩
end Go.Proofs.Ytaapnkoooofalaa.Rw

namespace Go.Proofs.Ytaapnkoooofalaa.Tr
open Go Go.RowKit
set_option maxRecDepth 20000
end Go.Proofs.Ytaapnkoooofalaa.Tr

namespace Go.Proofs.Ytaapnkoooofalaa.Rx
open Go Go.RowKit Rw
set_option maxRecDepth 20000
set_option maxHeartbeats 1000000 in
theorem arP_eq (k : Int) (w : World) : Calls Try.prog 63 #[.int .i64 k] w fun e w' => e = .returned (.int .i64 (ar k)) ∧ w = w' := by
  rcases cases15 k with rfl | rfl | rfl | rfl | rfl | rfl | rfl | rfl | rfl | rfl | rfl | rfl | rfl | rfl | h
  case inr.inr.inr.inr.inr.inr.inr.inr.inr.inr.inr.inr.inr.inr =>
    have hr := Lib.hid (ar_no h)
    obtain ⟨h1, h2, h3, h4, h5, h6, h7, h8, h9, h10, h11, h12, h13, h14⟩ := h
    have b1 : (k == 1) = false := by simp [h1]
    have b2 : (k == 2) = false := by simp [h2]
    have b3 : (k == 3) = false := by simp [h3]
    have b4 : (k == 4) = false := by simp [h4]
    have b5 : (k == 5) = false := by simp [h5]
    have b6 : (k == 6) = false := by simp [h6]
    have b7 : (k == 7) = false := by simp [h7]
    have b8 : (k == 8) = false := by simp [h8]
    have b9 : (k == 9) = false := by simp [h9]
    have b10 : (k == 10) = false := by simp [h10]
    have b11 : (k == 11) = false := by simp [h11]
    have b12 : (k == 12) = false := by simp [h12]
    have b13 : (k == 13) = false := by simp [h13]
    have b14 : (k == 14) = false := by simp [h14]
    clear h1 h2 h3 h4 h5 h6 h7 h8 h9 h10 h11 h12 h13 h14
    go_enter Try.func63, Try.ntmps63
    go_wp2_with fail
    go_ret
    exact ⟨ret_int hr.out.symm, rfl⟩
  all_goals
    go_enter Try.func63, Try.ntmps63
    go_wp2_with fail
    go_ret
    exact ⟨rfl, rfl⟩
end Go.Proofs.Ytaapnkoooofalaa.Rx

namespace Go.Proofs.Ytaapnkoooofalaa.Rw
open Go Go.RowKit
set_option maxRecDepth 20000
def Nms (l : List Nd) : Prop := ∀ x ∈ l, x.n.size ≤ 140737488355328
def whole (l : List Nd) : Bool := l.all rgt && (decide (1 ≤ l.length) && decide (l.length ≤ 200)) && decide (size l = l.length)
theorem Below.drewN (B n : Nat) (w : World) : Below B w (w.drewN n) := by
  induction n with
  | zero => exact Below.refl _ _
  | succ n ih => exact ih.drew
def cnt (l : List Nd) (ks : List Int) : Nat := l.countP fun x => decide (x.k ∈ ks)
def Ints (w : World) (v : Value) (l : List Int) : Prop := Ap.Rd w 1 v l.length (l.map (.int .i64))
theorem Ints.below {w w' : World} {v : Value} {l : List Int} (h : Ints w v l) (hb : Below w.heap.size w w') : Ints w' v l := Ap.Rd.below h hb
def AtI (w : World) (b off : Nat) (l : List Int) : Prop := ∀ k, (h : k < l.length) → w.cell? ⟨b, off + k, none⟩ = some (.int .i64 l[k])
theorem Ints.form {w : World} {v : Value} {l : List Int} (h : Ints w v l) :
    (l = [] ∧ ∃ a cap, v = .slice a 0 cap) ∨ ∃ b off cap, v = .slice (some ⟨b, off, none⟩) l.length cap ∧ l.length ≤ cap ∧ AtI w b off l := by
  obtain ⟨_, a, cap, rfl, hle, _, hcell⟩ := h
  by_cases h0 : 0 < l.length
  · obtain ⟨b, off, rfl, hj⟩ := hcell h0
    exact Or.inr ⟨b, off, cap, rfl, hle, fun k hk => hj _ _ (by rw [List.getElem?_map, List.getElem?_eq_getElem hk]; rfl)⟩
  · have : l = [] := List.eq_nil_of_length_eq_zero (by omega)
    subst this
    exact Or.inl ⟨rfl, a, cap, rfl⟩
end Go.Proofs.Ytaapnkoooofalaa.Rw

namespace Go.Proofs.Ytaapnkoooofalaa.Tr
open Go Go.RowKit
set_option maxRecDepth 20000
def TrCells (w : World) : List Value → List Tr → Prop
  | [], [] => True
  | a :: e :: cs, t :: ts => Strs w a t.a ∧ e = .int .i64 t.e ∧ TrCells w cs ts
  | _, _ => False
def Trs (w : World) (v : Value) (ts : List Tr) : Prop := ∃ cs, Ap.Rd w 2 v ts.length cs ∧ TrCells w cs ts
theorem TrCells.below {w w' : World} (hb : Below w.heap.size w w') : ∀ {cs : List Value} {ts : List Tr}, TrCells w cs ts → TrCells w' cs ts
  | [], [], _ => trivial
  | _ :: _ :: _, _ :: _, h => ⟨h.1.below hb, h.2.1, TrCells.below hb h.2.2⟩
  | [], _ :: _, h => h.elim
  | [_], [], h => h.elim
  | [_], _ :: _, h => h.elim
  | _ :: _ :: _, [], h => h.elim
theorem Trs.below {w w' : World} {v : Value} {ts : List Tr} (h : Trs w v ts) (hb : Below w.heap.size w w') : Trs w' v ts := by
  obtain ⟨cs, h1, h2⟩ := h
  exact ⟨cs, h1.below hb, h2.below hb⟩
theorem TrCells.at {w : World} : ∀ {cs : List Value} {ts : List Tr}, TrCells w cs ts → ∀ k (hk : k < ts.length), ∃ a, cs[2 * k]? = some a ∧ cs[2 * k + 1]? = some (.int .i64 ts[k].e) ∧ Strs w a ts[k].a
  | [], [], _, k, hk => by simp at hk
  | a :: e :: cs, t :: ts, h, 0, _ => ⟨a, rfl, by simp [h.2.1], h.1⟩
  | a :: e :: cs, t :: ts, h, k + 1, hk => by
    obtain ⟨x, h1, h2, h3⟩ := TrCells.at h.2.2 k (by simpa using hk)
    refine ⟨x, ?_, ?_, h3⟩
    · rw [show 2 * (k + 1) = 2 * k + 1 + 1 by omega]; simpa using h1
    · rw [show 2 * (k + 1) + 1 = 2 * k + 1 + 1 + 1 by omega]; simpa using h2
  | [], _ :: _, h, _, _ => h.elim
  | [_], [], h, _, _ => h.elim
  | [_], _ :: _, h, _, _ => h.elim
  | _ :: _ :: _, [], h, _, _ => h.elim
theorem Trs.form {w : World} {v : Value} {ts : List Tr} (h : Trs w v ts) :
    (ts = [] ∧ ∃ a cap, v = .slice a 0 cap) ∨ ∃ b off cap, v = .slice (some ⟨b, off, none⟩) ts.length cap ∧
      ∀ k, (hk : k < ts.length) → ∃ a, w.cell? ⟨b, off + 2 * k, none⟩ = some a ∧ w.cell? ⟨b, off + 2 * k + 1, none⟩ = some (.int .i64 ts[k].e) ∧ Strs w a ts[k].a := by
  obtain ⟨cs, ⟨_, a, cap, rfl, _, _, hcell⟩, hc⟩ := h
  by_cases h0 : 0 < ts.length
  · obtain ⟨b, off, rfl, hj⟩ := hcell h0
    refine Or.inr ⟨b, off, cap, rfl, fun k hk => ?_⟩
    obtain ⟨x, h1, h2, h3⟩ := hc.at k hk
    exact ⟨x, hj _ _ h1, by rw [Nat.add_assoc]; exact hj _ _ h2, h3⟩
  · have : ts = [] := List.eq_nil_of_length_eq_zero (by omega)
    subst this
    exact Or.inl ⟨rfl, a, cap, rfl⟩
def Few (ts : List Tr) : Prop := ts.length ≤ 1000000000000 ∧ ∀ t ∈ ts, t.a.length ≤ 1000000000000
end Go.Proofs.Ytaapnkoooofalaa.Tr

namespace Go.Proofs.Ytaapnkoooofalaa.Rw
open Go Go.RowKit Go.ChangeShapes Go.WideShapes
set_option maxRecDepth 100000
section
variable {H : Type} {enc : TypeId × Value → H} {P : Program} {w : World}
def nodeD (x : Nd) : DataW H := .agg [.lit (.int .i64 x.k), .lit (.string x.n.data.toList), .lit (.int .i64 x.s)]
theorem nd_of {held : Bool} {fuel : Nat} {t ti ts tj : TypeId} {f0 f1 f2 : Field} {cs : List Value} {x : DataW H × List MemPlace} (ut : P.underlying t = some (.struct #[f0, f1, f2])) (ct : P.cellsOf t = 3) (h0 : f0.type = ti) (o0 : f0.offset = 0) (h1 : f1.type = ts) (o1 : f1.offset = 1) (h2 : f2.type = tj) (o2 : f2.offset = 2)
    (ui : P.underlying ti = some (.int .i64)) (ci : P.cellsOf ti = 1) (us : P.underlying ts = some .string) (cs1 : P.cellsOf ts = 1) (uj : P.underlying tj = some (.int .i64)) (cj : P.cellsOf tj = 1)
    (h : DataW.trod enc P w 0 (fun _ => true) held fuel t cs = some x) : ∃ n : Nd, cs = cl n ∧ x.1 = nodeD n := by
  obtain ⟨y0, y1, y2, n, rfl, hl, hy0, hy1, hy2⟩ := Deep.trod_struct3 ut h
  rw [ct] at hl
  match cs, hl with
  | [a, b, c], _ =>
    rw [h0, o0, ci] at hy0
    rw [h1, o1, cs1] at hy1
    rw [h2, o2, cj] at hy2
    obtain ⟨k, e1, e2, _⟩ := DataW.trod_int ui hy0
    obtain ⟨s, e3, e4, _⟩ := DataW.trod_string us hy1
    obtain ⟨j, e5, e6, _⟩ := DataW.trod_int uj hy2
    have e1' : a = .int .i64 k := by simpa using e1
    have e3' : b = .string s := by simpa using e3
    have e5' : c = .int .i64 j := by simpa using e5
    subst e1' e3' e5'
    exact ⟨⟨k, s, j⟩, rfl, by simp [nodeD, e2, e4, e6]⟩
def nodesD (l : List Nd) (d : DataW H) : Prop := (l = [] ∧ d = .nil) ∨ ∃ sp : List (DataW H), d = .slice (l.map nodeD) sp
theorem trip_at (f : Nat → Nd) : ∀ (n j : Nat) (u : Value), (cls ((List.range n).map f))[j]? = some u → ∃ i k, i < n ∧ k < 3 ∧ j = i * 3 + k ∧ (cl (f i))[k]? = some u := by
  intro n j u hu
  have hlen : (cls ((List.range n).map f)).length = n * 3 := by rw [cls_len]; simp
  have hj : j < n * 3 := by
    have := (List.getElem?_eq_some_iff.1 hu).1
    omega
  have hk : j / 3 < ((List.range n).map f).length := by simp; omega
  obtain ⟨h1, h2, h3⟩ := cls_at _ (j / 3) hk
  have hx : ((List.range n).map f)[j / 3] = f (j / 3) := by simp
  rw [hx] at h1 h2 h3
  have hr : j % 3 = 0 ∨ j % 3 = 1 ∨ j % 3 = 2 := by omega
  rcases hr with hr | hr | hr
  · rw [← show j = j / 3 * 3 by omega] at h1
    exact ⟨j / 3, 0, by omega, by omega, by omega, by rw [← hu, h1]; rfl⟩
  · rw [← show j = j / 3 * 3 + 1 by omega] at h2
    exact ⟨j / 3, 1, by omega, by omega, by omega, by rw [← hu, h2]; rfl⟩
  · rw [← show j = j / 3 * 3 + 2 by omega] at h3
    exact ⟨j / 3, 2, by omega, by omega, by omega, by rw [← hu, h3]; rfl⟩
theorem nds_of {held : Bool} {fuel : Nat} {tt t ti ts tj : TypeId} {f0 f1 f2 : Field} {v : Value} {x : DataW H × List MemPlace} (utt : P.underlying tt = some (.slice t)) (ut : P.underlying t = some (.struct #[f0, f1, f2])) (ct : P.cellsOf t = 3) (h0 : f0.type = ti) (o0 : f0.offset = 0) (h1 : f1.type = ts) (o1 : f1.offset = 1) (h2 : f2.type = tj) (o2 : f2.offset = 2)
    (ui : P.underlying ti = some (.int .i64)) (ci : P.cellsOf ti = 1) (us : P.underlying ts = some .string) (cs1 : P.cellsOf ts = 1) (uj : P.underlying tj = some (.int .i64)) (cj : P.cellsOf tj = 1)
    (h : DataW.trod enc P w 0 (fun _ => true) held fuel tt [v] = some x) : ∃ l : List Nd, Nds w v l ∧ nodesD l x.1 := by
  rcases Deep.open_slice utt h with ⟨hcs, rfl⟩ | ⟨a, len, cap, m, n, D, Pl, hcs, _, hl, hm, hmm, rfl, hel⟩
  · cases hcs
    exact ⟨[], ⟨rfl, none, 0, rfl, Nat.le_refl _, fun _ => ⟨rfl, rfl⟩, fun h => absurd h (by simp)⟩, .inl ⟨rfl, rfl⟩⟩
  · cases hcs
    have hm' : m = cap := by simpa using hmm
    subst hm'
    rw [ct] at hel
    obtain ⟨F, hF⟩ : ∃ F : Nat → Nd, ∀ i, i < len → w.cells? 0 (a.add (i * 3)) 3 = some (cl (F i)) ∧ D i = nodeD (F i) := by
      haveI : Inhabited Nd := ⟨⟨0, ⟨#[]⟩, 0⟩⟩
      refine Deep.choose_lt (α := Nd) (p := fun i z => w.cells? 0 (a.add (i * 3)) 3 = some (cl z) ∧ D i = nodeD z) fun i hi => ?_
      obtain ⟨cs', hc, ht⟩ := hel i (by omega)
      obtain ⟨z, rfl, hz⟩ := nd_of ut ct h0 o0 h1 o1 h2 o2 ui ci us cs1 uj cj ht
      exact ⟨z, hc, hz⟩
    have hlen : ((List.range len).map F).length = len := by simp
    refine ⟨(List.range len).map F, ⟨cls_len _, some a, m, by rw [hlen], by omega, fun h => (by cases h), fun hp => ?_⟩, .inr ⟨(List.range (m - len)).map fun j => D (len + j), ?_⟩⟩
    · rw [hlen] at hp
      obtain ⟨b, off, spot⟩ := a
      have hc0 := (World.cells?_some (hF 0 hp).1).2.2 0 (by omega)
      have hspot : spot = none := by
        have := hc0
        simp [Addr.add, cl] at this
        exact World.cell?_spot this
      subst hspot
      refine ⟨b, off, rfl, fun j u hu => ?_⟩
      obtain ⟨i, k, hi, hk, rfl, hu'⟩ := trip_at F len j u hu
      have hc := (World.cells?_some (hF i hi).1).2.2 k hk
      rw [hu'] at hc
      simpa [Addr.add_lit, Nat.add_assoc] using hc
    · have e : (List.range len).map D = ((List.range len).map F).map nodeD := by
        rw [List.map_map]
        exact List.map_congr_left fun i hi => (hF i (List.mem_range.1 hi)).2
      simp only [e]
theorem all_each {e : TypeId} {q : Nat → Bool} : ∀ {l : List (DataW H)}, (DataW.weightsAll P e l).all q = true → ∀ d ∈ l, (d.weights P e).all q = true
  | [], _, d, hd => by cases hd
  | x :: l, h, d, hd => by
    have h' : (DataW.weights P e x ++ DataW.weightsAll P e l).all q = true := h
    rw [List.all_append, Bool.and_eq_true] at h'
    rcases List.mem_cons.1 hd with rfl | hd
    · exact h'.1
    · exact all_each h'.2 d hd
theorem nd_reach {t : TypeId} {f0 f1 f2 : Field} (ut : P.underlying t = some (.struct #[f0, f1, f2])) {x : Nd} (h : ((nodeD x : DataW H).weights P t).all (· ≤ reachBytes) = true) : x.n.size ≤ 140737488355328 := by
  unfold nodeD at h
  rw [DataW.weights, ut] at h
  have h' : (DataW.weights P f0.type (.lit (.int .i64 x.k) : DataW H) ++ (DataW.weights P f1.type (.lit (.string x.n.data.toList) : DataW H) ++ DataW.weightsEach P [f2.type] [.lit (.int .i64 x.s)])).all (· ≤ reachBytes) = true := h
  rw [List.all_append, List.all_append, Bool.and_eq_true, Bool.and_eq_true] at h'
  have h1 : ([x.n.data.toList.length].all (· ≤ reachBytes)) = true := h'.2.1
  have h2 : x.n.data.toList.length = x.n.size := by simp
  rw [h2] at h1
  have h3 : x.n.size ≤ reachBytes := by simpa using h1
  unfold reachBytes at h3
  omega
theorem nds_reach {tt t : TypeId} {f0 f1 f2 : Field} (utt : P.underlying tt = some (.slice t)) (ut : P.underlying t = some (.struct #[f0, f1, f2])) {l : List Nd} {d : DataW H} (hd : nodesD l d) (h : (d.weights P tt).all (· ≤ reachBytes) = true) : Nms l := by
  rcases hd with ⟨rfl, _⟩ | ⟨sp, rfl⟩
  · intro p hp; cases hp
  · rw [DataW.weights, utt] at h
    simp only [List.all_cons, List.all_append, Bool.and_eq_true] at h
    intro x hx
    exact nd_reach ut (all_each h.2.1 _ (List.mem_map.2 ⟨x, hx, rfl⟩))
theorem reach_cons {t : TypeId} {ts : List TypeId} {d : DataW H} {ds : List (DataW H)} (h : (DataW.weightsEach P (t :: ts) (d :: ds)).all (· ≤ reachBytes) = true) : (d.weights P t).all (· ≤ reachBytes) = true ∧ (DataW.weightsEach P ts ds).all (· ≤ reachBytes) = true := by
  have h' : (DataW.weights P t d ++ DataW.weightsEach P ts ds).all (· ≤ reachBytes) = true := h
  rwa [List.all_append, Bool.and_eq_true] at h'
end
theorem own : ownKnob Try.prog.godebug = none := by kernel_rfl
theorem laidOut : laidOutB Try.prog = true := by kernel_rfl
theorem cN : Try.prog.cellsOf 28 = 3 := by kernel_rfl
theorem cStr : Try.prog.cellsOf 9 = 1 := by kernel_rfl
theorem cInt : Try.prog.cellsOf 3 = 1 := by kernel_rfl
section
variable {H : Type} {enc : TypeId × Value → H} {W : World} {base : Nat} {v : Value} {d : DataW H} {p : List MemPlace}
theorem nds_arg (hok : Value.okWide Try.prog W .any base 22 v) (h : DataW.Trod enc Try.prog W 0 (fun _ => true) true 22 v d p) :
    ∃ l : List Nd, Nds W v l ∧ nodesD l d := by
  obtain ⟨a, len, cap, rfl⟩ := okWide_slice Try.underlying22 hok
  obtain ⟨fuel, hf⟩ := h
  exact nds_of Try.underlying22 Try.underlying28 cN rfl rfl rfl rfl rfl rfl Try.underlying3 cInt Try.underlying9 cStr Try.underlying3 cInt hf
theorem nds_in {l : List Nd} (hd : nodesD l d) (h : (d.weights Try.prog 22).all (· ≤ reachBytes) = true) : Nms l := nds_reach Try.underlying22 Try.underlying28 hd h
end
end Go.Proofs.Ytaapnkoooofalaa.Rw

namespace Go.Proofs.Ytaapnkoooofalaa.Tr
open Go Go.RowKit
set_option maxRecDepth 20000
def same : List Tr → List Tr → Bool
  | [], [] => true
  | p :: l, q :: m => cmp p q == 0 && same l m
  | _, _ => false
end Go.Proofs.Ytaapnkoooofalaa.Tr

namespace Go.Proofs.Ytaapnkoooofalaa.So
open Rw
def k0 (l : List Nd) : List Nd := (kids l).getD 0 []
def k1 (l : List Nd) : List Nd := (kids l).getD 1 []
def hd (l : List Nd) : Int := match l with | [] => 0 | n :: _ => n.k
def plainB (t : Nat → List Nd → Bool) (l : List Nd) : Bool :=
  if hd l = 1 ∨ hd l = 2 ∨ hd l = 3 ∨ hd l = 4 then true
  else if hd l = 5 ∨ hd l = 6 ∨ hd l = 7 ∨ hd l = 8 then t 1 (k0 l) && t 1 (k1 l)
  else if hd l = 9 then t 2 (k0 l) else false
def pairedB (t : Nat → List Nd → Bool) (l : List Nd) : Bool :=
  if hd l = 10 then t 1 (k0 l) && t 1 (k1 l)
  else if hd l = 5 ∨ hd l = 6 ∨ hd l = 7 then t 2 (k0 l) && t 2 (k1 l) else false
def plainOnB (t : Nat → List Nd → Bool) (l : List Nd) : Bool :=
  if hd l = 11 then true
  else if hd l = 5 ∨ hd l = 8 then t 3 (k0 l) && t 1 (k1 l)
  else if hd l = 7 then t 3 (k0 l) && t 3 (k1 l)
  else if hd l = 9 then t 4 (k0 l) else false
def pairedOnB (t : Nat → List Nd → Bool) (l : List Nd) : Bool :=
  if hd l = 12 then t 3 (k0 l) && t 1 (k1 l)
  else if hd l = 5 then t 4 (k0 l) && t 2 (k1 l)
  else if hd l = 7 then t 4 (k0 l) && t 4 (k1 l)
  else if hd l = 13 then t 4 (k0 l) && t 1 (k1 l)
  else if hd l = 14 then t 1 (k0 l) else false
def stepB (t : Nat → List Nd → Bool) (s : Nat) (l : List Nd) : Bool :=
  if s = 1 then plainB t l else if s = 2 then pairedB t l else if s = 3 then plainB t l || plainOnB t l else pairedB t l || pairedOnB t l
def isF : Nat → Nat → List Nd → Bool
  | 0, _, _ => false
  | f + 1, s, l => stepB (isF f) s l
theorem kids_short {l r : List Nd} (hr : r ∈ kids l) : r.length < l.length := by
  have hs : size l ≠ 0 := fun e => by
    unfold kids at hr
    rw [if_pos e] at hr
    cases hr
  have h0 : 0 < l.length := by have := size_le l; omega
  cases l with
  | nil => simp at h0
  | cons n rs =>
    have := kids_flat hs
    have h1 : r.length ≤ (kids (n :: rs)).flatten.length := by
      obtain ⟨s, t, hst⟩ := List.append_of_mem hr
      rw [hst]
      simp
      omega
    have h2 : (kids (n :: rs)).flatten.length + 1 = ((n :: rs).take (size (n :: rs))).length := by rw [← this]; simp
    rw [List.length_take] at h2
    omega
theorem getD_short (l : List Nd) (i : Nat) (h : 0 < l.length) : ((kids l).getD i []).length < l.length := by
  rw [List.getD_eq_getElem?_getD]
  cases hx : (kids l)[i]? with
  | none => simpa using h
  | some r => exact kids_short (List.mem_of_getElem? hx)
theorem stepB_congr {t t' : Nat → List Nd → Bool} (s : Nat) (l : List Nd) (h : ∀ s i, t s ((kids l).getD i []) = t' s ((kids l).getD i [])) : stepB t s l = stepB t' s l := by
  unfold stepB plainB pairedB plainOnB pairedOnB k0 k1
  simp only [h]
theorem stepB_nil (t : Nat → List Nd → Bool) (s : Nat) : stepB t s [] = false := by
  unfold stepB plainB pairedB plainOnB pairedOnB
  simp [hd]
theorem isF_nil : ∀ (f s : Nat), isF f s [] = false
  | 0, _ => rfl
  | _ + 1, s => stepB_nil _ s
theorem isF_fuel : ∀ (f : Nat) (s : Nat) (l : List Nd), l.length ≤ f → isF (f + 1) s l = isF f s l
  | 0, s, l, h => by
    have : l = [] := List.eq_nil_of_length_eq_zero (by omega)
    subst this
    rw [isF_nil, isF_nil]
  | f + 1, s, l, h => by
    by_cases h0 : 0 < l.length
    · exact stepB_congr s l fun s' i => isF_fuel f s' _ (by have := getD_short l i h0; omega)
    · have : l = [] := List.eq_nil_of_length_eq_zero (by omega)
      subst this
      rw [isF_nil, isF_nil]
def Is (s : Nat) (l : List Nd) : Bool := isF l.length s l
theorem isF_Is (f s : Nat) (l : List Nd) (h : l.length ≤ f) : isF f s l = Is s l := by
  have : ∀ g, isF (l.length + g) s l = isF l.length s l := by
    intro g
    induction g with
    | zero => rfl
    | succ g ih => rw [← Nat.add_assoc, isF_fuel _ _ _ (by omega), ih]
  have h' := this (f - l.length)
  rw [show l.length + (f - l.length) = f by omega] at h'
  exact h'
theorem Is_eq (s : Nat) (l : List Nd) : Is s l = stepB Is s l := by
  cases hl : l.length with
  | zero =>
    have : l = [] := List.eq_nil_of_length_eq_zero hl
    subst this
    rw [stepB_nil]
    rfl
  | succ n =>
    unfold Is
    rw [hl]
    exact stepB_congr s l fun s' i => isF_Is n s' _ (by have := getD_short l i (by omega); omega)
theorem Is_one (l : List Nd) : Is 1 l = plainB Is l := Is_eq 1 l
theorem Is_two (l : List Nd) : Is 2 l = pairedB Is l := Is_eq 2 l
theorem Is_three (l : List Nd) : Is 3 l = (plainB Is l || plainOnB Is l) := Is_eq 3 l
theorem Is_four (l : List Nd) : Is 4 l = (pairedB Is l || pairedOnB Is l) := Is_eq 4 l
theorem one_three {l : List Nd} (h : Is 1 l = true) : Is 3 l = true := by rw [Is_three, ← Is_one, h]; rfl
theorem two_four {l : List Nd} (h : Is 2 l = true) : Is 4 l = true := by rw [Is_four, ← Is_two, h]; rfl
def first (l : List Nd) : Nat := if Is 1 l then 1 else if Is 2 l then 2 else if Is 3 l then 3 else if Is 4 l then 4 else 0
def of (l : List Nd) : Nat := if whole l then first l else 0
theorem of_le (l : List Nd) : of l ≤ 4 := by
  unfold of first
  repeat' split
  all_goals omega
theorem apart : ∀ (m : Nat) (l : List Nd), l.length ≤ m → ¬ (Is 3 l = true ∧ Is 4 l = true)
  | 0, l, h, hh => by
    have : l = [] := List.eq_nil_of_length_eq_zero (by omega)
    subst this
    rw [Is_eq, stepB_nil] at hh
    cases hh.1
  | m + 1, l, h, hh => by
    by_cases h0 : 0 < l.length
    case neg =>
      have : l = [] := List.eq_nil_of_length_eq_zero (by omega)
      subst this
      rw [Is_eq, stepB_nil] at hh
      cases hh.1
    have i0 := apart m (k0 l) (by have := getD_short l 0 h0; unfold k0; omega)
    obtain ⟨h3, h4⟩ := hh
    have key : ∀ r, (Is 1 r = true ∨ Is 3 r = true) → (Is 2 r = true ∨ Is 4 r = true) → Is 3 r = true ∧ Is 4 r = true := fun r a b =>
      ⟨a.elim one_three id, b.elim two_four id⟩
    rw [Is_three, Bool.or_eq_true] at h3
    rw [Is_four, Bool.or_eq_true] at h4
    unfold plainB plainOnB at h3
    unfold pairedB pairedOnB at h4
    generalize hd l = k at h3 h4
    apply i0
    apply key
    · rcases h3 with h3 | h3
      all_goals
        repeat' split at h3
        all_goals (first | (simp only [Bool.and_eq_true] at h3; exact Or.inl h3.1) | (simp only [Bool.and_eq_true] at h3; exact Or.inr h3.1) | skip)
        all_goals (exfalso; rcases h4 with h4 | h4 <;> (repeat' split at h4) <;> first | omega | (cases h4; done) | (cases h3; done))
    · rcases h4 with h4 | h4
      all_goals
        repeat' split at h4
        all_goals (first | (simp only [Bool.and_eq_true] at h4; exact Or.inl h4.1) | (simp only [Bool.and_eq_true] at h4; exact Or.inr h4.1) | skip)
        all_goals (exfalso; rcases h3 with h3 | h3 <;> (repeat' split at h3) <;> first | omega | (cases h4; done) | (cases h3; done))
end Go.Proofs.Ytaapnkoooofalaa.So
