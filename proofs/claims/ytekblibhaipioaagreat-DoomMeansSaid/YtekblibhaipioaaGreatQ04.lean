/- Regions in a round of a range over a function, walked as everywhere; regions that draw their order and turn blocks: each operation says which blocks it may turn. The text of a trace: plain. Rows of pairs of cells in a block of the call's own: what they hold, what a store and a clear make of them; and rows in which none is like the one ahead of it: plain laws. The document's Right, Size, Depth, Whole over rows of nodes. Which of two traces comes ahead, by the document's own answer: the walk. The program's Arity. Rows of four cells each in a block of the call's own: what they hold, what a store and a clear make of them: plain laws. The document's Whole over rows of nodes. Rows of traces in memory. -/
import Derived.Test.YtekblibhaipioaaGreatQ02
import Derived.Test.YtekblibhaipioaaGreatQ03
import Derived.TacticsIn
import Derived.OrdersIn
import Derived.WalkKit
import Derived.Lib.SliceRun
import Derived.Deep.RegionHeld3
import Derived.StillTailTactics

namespace Go.Proofs.YtekblibhaipioaaGreat.Rq
open Go Go.RowKit Rg Ro
section
variable {P : Program} {ops : Array Oper} {Q : Exit → Act → World → Prop} {md : Region.Mode} {l n : Nat}
end
section
variable {P : Program} {ops : Array Oper} {Q : Exit → Act → World → Prop}
theorem any_inv {a : Act} {w : World} (J : List (Nat × Option Tmp)) (hJ : dsts ops = J) (he : Rg.early .any ops = true) (ho : once J = true)
    (G : (Nat → Bool) → (Nat → Value) → World → Prop) (h0 : ∀ us, puts a J us = a → G (fun k => decide (ops.size ≤ k)) us w)
    (duties : Duties (Duty P ops Q G a J) ops.size) (done : ∀ us w', G (fun _ => true) us w' → Q .normal (puts a J us) w') : wpAny P .any ops Q ops.size (Array.replicate ops.size false) a w := by
  refine wpAny_inv (fun l a' w' => ∃ us, a' = puts a J us ∧ G (fun k => l.getD k true) us w') he ?_ ?_ ops.size _ a _ (by simp) ?_ ?_
  · rintro l a' w' i hl ⟨us, rfl, hG⟩ hi
    obtain ⟨hun, o, hoi, hall⟩ := mem_ready.1 hi
    have hlt : i < ops.size := (Array.getElem?_eq_some_iff.1 hoi).1
    refine (Duties.at duties i hlt) o hoi _ us w' _ rfl hG hun (fun e hee hb => ?_) _ ?_
    · have := hall e hee hb
      rcases Nat.lt_or_ge e.on l.size with h' | h'
      · simpa [Array.getElem?_eq_getElem h'] using this
      · simp [Array.getElem?_eq_none h'] at this
    · intro v w'' hG'
      refine ⟨upd us i v, puts_upd J a us ho ?_, ?_⟩
      · rw [← hJ]
        unfold dsts
        exact List.mem_map.2 ⟨i, List.mem_range.2 hlt, by simp [hoi]⟩
      · have hf : (fun k => (l.setIfInBounds i true).getD k true) = upd (fun k => l.getD k true) i true := by
          funext k
          by_cases hk : k = i
          · subst hk
            rw [upd_same]
            simp [hl, hlt]
          · rw [upd_ne _ _ hk, getD_set_ne true (Ne.symm hk)]
        rw [hf]
        exact hG'
  · rintro l a' w' hall ⟨us, rfl, hG⟩
    refine done us w' ?_
    have hf : (fun k => l.getD k true) = fun _ => true := funext hall
    rw [← hf]
    exact hG
  · unfold left
    refine Nat.le_trans (List.countP_le_length) (by simp)
  · obtain ⟨us, hus⟩ := puts_own J a ho
    refine ⟨us, hus.symm, ?_⟩
    have hf : (fun k => (Array.replicate ops.size false).getD k true) = fun k => decide (ops.size ≤ k) := by
      funext k
      rcases Nat.lt_or_ge k ops.size with h' | h'
      · simp [h']
      · simp [h']
    rw [hf]
    exact h0 us hus
structure Mid (pre : Nat → Nat → Bool) (Base : World → Prop) (R : Nat → Value → World → Prop) (N : Nat → World → Prop) (Pr : Nat → Value → Nat → Value → Prop) (a0 : Act) (J : List (Nat × Option Tmp)) (f : Nat → Bool) (us : Nat → Value) (w : World) : Prop where
  base : Base w
  fin : ∀ k, f k = true → R k (us k) w
  not : ∀ k, f k = false → N k w
  ord : ∀ i k, f i = true → pre i k = true → f k = true
  slot : ∀ k d, f k = false → (k, some d) ∈ J → d < a0.tmps.size → us k = a0.eval (.tmp d)
  pair : ∀ i k, i ≠ k → f i = true → f k = true → i < J.length → k < J.length → Pr i (us i) k (us k)
def preOk (ops : Array Oper) (pre : Nat → Nat → Bool) : Bool :=
  (List.range ops.size).all fun i => (List.range ops.size).all fun k => !pre i k || ((ops[i]?).map fun o => o.after.any fun e => Region.binds .any e && (decide (e.on = k) || pre e.on k)).getD false
theorem preOk_spec {pre : Nat → Nat → Bool} (h : preOk ops pre = true) {i k : Nat} {o : Oper} (hi : ops[i]? = some o) (hk : k < ops.size) (hp : pre i k = true) : ∃ e ∈ o.after, Region.binds .any e = true ∧ (e.on = k ∨ pre e.on k = true) := by
  have hlt : i < ops.size := (Array.getElem?_eq_some_iff.1 hi).1
  have h1 := List.all_eq_true.1 (List.all_eq_true.1 h i (List.mem_range.2 hlt)) k (List.mem_range.2 hk)
  rw [hp, hi] at h1
  simp only [Bool.not_true, Bool.false_or, Option.map_some, Option.getD_some, Array.any_eq_true, Bool.and_eq_true, Bool.or_eq_true, decide_eq_true_eq] at h1
  obtain ⟨j, hj, hb, h2⟩ := h1
  exact ⟨_, Array.getElem_mem hj, hb, h2⟩
def Step (P : Program) (ops : Array Oper) (Q : Exit → Act → World → Prop) (pre : Nat → Nat → Bool) (M : Nat → Nat → Prop) (Base : World → Prop) (R : Nat → Value → World → Prop) (N : Nat → World → Prop) (Pr : Nat → Value → Nat → Value → Prop) (a0 : Act) (J : List (Nat × Option Tmp)) (i : Nat) : Prop :=
  ∀ o, ops[i]? = some o → ∀ (us : Nat → Value) (w : World) (a : Act), a = puts a0 J us → Base w → N i w → (∀ e ∈ o.after, Region.binds .any e = true → R e.on (us e.on) w) → (∀ k d, k = i ∨ pre k i = true → (k, some d) ∈ J → d < a0.tmps.size → us k = a0.eval (.tmp d)) →
    ∀ K : Act → World → Prop, (∀ v w', R i v w' → Turn (M i) w w' → (∀ k u, k ≠ i → k < J.length → R k u w → (∀ e ∈ o.after, Region.binds .any e = true → e.on ≠ k → Pr e.on (us e.on) k u ∧ Pr k u e.on (us e.on)) → Pr i v k u ∧ Pr k u i v) → K (a.put o.dst v) w') → wpOp P ops Q i K a w
theorem any_steps {a : Act} {w : World} (J : List (Nat × Option Tmp)) (hJ : dsts ops = J) (he : Rg.early .any ops = true) (ho : once J = true) (pre : Nat → Nat → Bool) (hpre : preOk ops pre = true) (hps : ∀ i k, pre i k = true → k < ops.size ∧ i < ops.size)
    (M : Nat → Nat → Prop) (Base : World → Prop) (R : Nat → Value → World → Prop) (N : Nat → World → Prop) (Pr : Nat → Value → Nat → Value → Prop)
    (hB : ∀ i w w', Base w → Turn (M i) w w' → Base w') (hR : ∀ i k v w w', i ≠ k → i < ops.size → pre k i = false → Base w → R k v w → Turn (M i) w w' → R k v w') (hN : ∀ i k w w', i ≠ k → pre i k = false → Base w → N k w → Turn (M i) w w' → N k w')
    (h0 : Base w) (hR0 : ∀ k v w, ops.size ≤ k → R k v w) (hN0 : ∀ k, k < ops.size → N k w)
    (steps : Duties (Step P ops Q pre M Base R N Pr a J) ops.size) (done : ∀ us w', Base w' → (∀ k, R k (us k) w') → (∀ i k, i ≠ k → i < J.length → k < J.length → Pr i (us i) k (us k)) → Q .normal (puts a J us) w') : wpAny P .any ops Q ops.size (Array.replicate ops.size false) a w := by
  have hJl : J.length = ops.size := by rw [← hJ]; unfold dsts; simp
  have hlift : ∀ m, m ≤ ops.size → Duties (Step P ops Q pre M Base R N Pr a J) m → Duties (Duty P ops Q (Mid pre Base R N Pr a J) a J) m := by
    intro m
    induction m with
    | zero => exact fun _ _ => trivial
    | succ i ih =>
      intro hm hd
      refine ⟨ih (by omega) hd.1, ?_⟩
      intro o hoi f us w' b hb g hf hdep K hK
      have hundone : ∀ k, k = i ∨ pre k i = true → f k = false := fun k hk => by
        rcases hk with rfl | hk
        · exact hf
        · cases hfk : f k
          · rfl
          · have := g.ord k i hfk hk
            rw [hf] at this
            cases this
      refine hd.2 o hoi us w' b hb g.base (g.not i hf) (fun e he hbi => g.fin _ (hdep e he hbi)) (fun k d hk hm hlt => g.slot k d (hundone k hk) hm hlt) K fun v w2 hv ht hpr => ?_
      have hpi : ∀ k, pre i k = true → f k = true := fun k hk => by
        obtain ⟨e, hee, hbi, h⟩ := preOk_spec hpre hoi (hps i k hk).1 hk
        have hfe := hdep e hee hbi
        rcases h with h | h
        · rw [← h]; exact hfe
        · exact g.ord _ _ hfe h
      have hdp : ∀ k, f k = true → k < J.length → ∀ e ∈ o.after, Region.binds .any e = true → e.on ≠ k → Pr e.on (us e.on) k (us k) ∧ Pr k (us k) e.on (us e.on) := fun k hk hkl e hee hbi hne => by
        have hel : e.on < J.length := by have := early_spec he hoi e hee hbi; omega
        exact ⟨g.pair _ _ hne (hdep e hee hbi) hk hel hkl, g.pair _ _ (Ne.symm hne) hk (hdep e hee hbi) hkl hel⟩
      refine hK v w2 ⟨hB i _ _ g.base ht, fun k hk => ?_, fun k hk => ?_, fun j k hj hjk => ?_, fun k d hk hm hlt => ?_, fun j k hjk hj hk hjl hkl => ?_⟩
      · by_cases hki : k = i
        · subst hki; rw [upd_same]; exact hv
        · rw [upd_ne _ _ hki] at hk ⊢
          refine hR i k _ _ _ (Ne.symm hki) (by omega) ?_ g.base (g.fin k hk) ht
          cases hp : pre k i
          · rfl
          · have := g.ord k i hk hp
            rw [hf] at this
            cases this
      · by_cases hki : k = i
        · subst hki; rw [upd_same] at hk; cases hk
        · rw [upd_ne _ _ hki] at hk
          refine hN i k _ _ (Ne.symm hki) ?_ g.base (g.not k hk) ht
          cases hp : pre i k
          · rfl
          · have := hpi k hp
            rw [hk] at this
            cases this
      · by_cases hki : k = i
        · subst hki; rw [upd_same]
        · rw [upd_ne _ _ hki]
          by_cases hji : j = i
          · subst hji; exact hpi k hjk
          · rw [upd_ne _ _ hji] at hj; exact g.ord j k hj hjk
      · by_cases hki : k = i
        · subst hki; rw [upd_same] at hk; cases hk
        · rw [upd_ne _ _ hki] at hk ⊢
          exact g.slot k d hk hm hlt
      · by_cases hji : j = i
        · subst hji
          rw [upd_ne _ _ (Ne.symm hjk)] at hk
          rw [upd_same, upd_ne _ _ (Ne.symm hjk)]
          exact (hpr k _ (Ne.symm hjk) hkl (g.fin k hk) (hdp k hk hkl)).1
        · rw [upd_ne _ _ hji] at hj ⊢
          by_cases hki : k = i
          · subst hki
            rw [upd_same]
            exact (hpr j _ hji hjl (g.fin j hj) (hdp j hj hjl)).2
          · rw [upd_ne _ _ hki] at hk ⊢
            exact g.pair j k hjk hj hk hjl hkl
  refine any_inv J hJ he ho (Mid pre Base R N Pr a J) (fun us hus => ⟨h0, fun k hk => hR0 k _ _ (of_decide_eq_true hk), fun k hk => hN0 k (Nat.lt_of_not_le (of_decide_eq_false hk)), fun i k hi hp => ?_, fun k d _ hm hlt => ?_, fun i k _ hi _ hil _ => ?_⟩) (hlift _ (Nat.le_refl _) steps) (fun us w' g => done us w' g.base (fun k => g.fin k rfl) fun i k hik hi hk => g.pair i k hik rfl rfl hi hk)
  · exact absurd (of_decide_eq_true hi) (Nat.not_le_of_lt (hps i k hp).2)
  · have := puts_eval J a us ho hm hlt
    rw [hus] at this
    exact this.symm
  · have := of_decide_eq_true hi
    omega
def tab (t : List (List Nat)) (i k : Nat) : Bool := (t.getD i []).contains k
theorem tab_lt {t : List (List Nat)} {m : Nat} (h : (decide (t.length ≤ m) && t.all fun r => r.all fun k => decide (k < m)) = true) (i k : Nat) (hp : tab t i k = true) : k < m ∧ i < m := by
  rw [Bool.and_eq_true, decide_eq_true_eq] at h
  unfold tab at hp
  have hi : i < t.length := by
    rcases Nat.lt_or_ge i t.length with h' | h'
    · exact h'
    · simp [List.getElem?_eq_none h'] at hp
  have h1 := List.all_eq_true.1 h.2 t[i] (List.getElem_mem hi)
  have h2 : k ∈ t[i] := by
    simpa [List.getElem?_eq_getElem hi] using hp
  exact ⟨of_decide_eq_true (List.all_eq_true.1 h1 k h2), by omega⟩
theorem wp_region_steps {id : Nat} {a : Act} {w : World} (hm : P.follows .mixedOrders = true) (J : List (Nat × Option Tmp)) (hJ : dsts ops = J) (he : Rg.early .any ops = true) (ho : once J = true) (t : List (List Nat)) (hpre : preOk ops (tab t) = true) (hps : (decide (t.length ≤ ops.size) && t.all fun r => r.all fun k => decide (k < ops.size)) = true)
    (M : Nat → Nat → Prop) (Base : World → Prop) (R : Nat → Value → World → Prop) (N : Nat → World → Prop) (Pr : Nat → Value → Nat → Value → Prop)
    (hB : ∀ i w w', Base w → Turn (M i) w w' → Base w') (hR : ∀ i k v w w', i ≠ k → i < ops.size → tab t k i = false → Base w → R k v w → Turn (M i) w w' → R k v w') (hN : ∀ i k w w', i ≠ k → tab t i k = false → Base w → N k w → Turn (M i) w w' → N k w')
    (h0 : Base w.drew) (hR0 : ∀ k v w, ops.size ≤ k → R k v w) (hN0 : ∀ k, k < ops.size → N k w.drew)
    (steps : Duties (Step P ops Q (tab t) M Base R N Pr a J) ops.size) (done : ∀ us w', Base w' → (∀ k, R k (us k) w') → (∀ i k, i ≠ k → i < J.length → k < J.length → Pr i (us i) k (us k)) → Q .normal (puts a J us) w') : (Code.region id ops true).wp P Q a w :=
  wp_region_any hm (any_steps J hJ he ho (tab t) hpre (fun i k => tab_lt hps i k) M Base R N Pr hB hR hN h0 hR0 hN0 steps done)
end
theorem append_run {P : Program} {w : World} {o : Oper} {a : Act} {K : Act → World → Prop} {Q : Exit → Act → World → Prop} (s x : Operand) (t tx : TypeId)
    (ho : o.op = .call { callee := .builtin .append, args := #[s, x], argTypes := #[t, tx] }) (vs vx : Value) (hs : a.eval s = vs) (hx : a.eval x = vx) (v' : Value) (w' : World) (hrun : (Builtin.append_ #[t, tx] o.type #[vs, vx]).run P w = .ok v' w')
    (h : K (a.put o.dst v') w') : o.wp P a w K Q := by
  unfold Oper.wp
  simp [execOp, ho, resolve, invoke, builtin, hs, hx, hrun, Result.andThen]
  exact h
end Go.Proofs.YtekblibhaipioaaGreat.Rq

namespace Go.Proofs.YtekblibhaipioaaGreat.Tr
open Go Go.RowKit
set_option maxRecDepth 20000
def txs : List ByteArray → List UInt8
  | [] => []
  | x :: l => x.data.toList ++ 32 :: txs l
def txt (t : Tr) : ByteArray := ⟨(txs t.a ++ (Sg.txt t.e).data.toList).toArray⟩
end Go.Proofs.YtekblibhaipioaaGreat.Tr

namespace Go.Proofs.YtekblibhaipioaaGreat.Tr
open Go Go.RowKit
set_option maxRecDepth 20000
def Own2 (w : World) (g : Nat) (e : TypeId) (cap : Nat) (ys : List (Value × Value)) : Prop :=
  ∃ cur : Array Value, w.heap[g]? = some (.cells cur e (0, 0)) ∧ cur.size = cap * 2 ∧ ys.length ≤ cap ∧ ∀ j (h : j < ys.length), cur[j * 2]? = some ys[j].1 ∧ cur[j * 2 + 1]? = some ys[j].2
theorem heap_lt {w : World} {g : Nat} {o : Obj} (h : w.heap[g]? = some o) : g < w.heap.size :=
  Nat.lt_of_not_le fun hle => by
    rw [Array.getElem?_eq_none hle] at h
    cases h
theorem Own2.lt {w : World} {g cap : Nat} {e : TypeId} {ys : List (Value × Value)} (h : Own2 w g e cap ys) : g < w.heap.size := heap_lt h.choose_spec.1
theorem Own2.len {w : World} {g cap : Nat} {e : TypeId} {ys : List (Value × Value)} (h : Own2 w g e cap ys) : ys.length ≤ cap := h.choose_spec.2.2.1
theorem Own2.cell0 {w : World} {g cap : Nat} {e : TypeId} {ys : List (Value × Value)} (h : Own2 w g e cap ys) (j : Nat) (hj : j < ys.length) : w.cell? ⟨g, j * 2, none⟩ = some ys[j].1 := by
  obtain ⟨cur, hg, _, _, hc⟩ := h
  simp [World.cell?, hg, (hc j hj).1]
theorem Own2.cell1 {w : World} {g cap : Nat} {e : TypeId} {ys : List (Value × Value)} (h : Own2 w g e cap ys) (j : Nat) (hj : j < ys.length) : w.cell? ⟨g, j * 2 + 1, none⟩ = some ys[j].2 := by
  obtain ⟨cur, hg, _, _, hc⟩ := h
  simp [World.cell?, hg, (hc j hj).2]
theorem Own2.soft {w : World} {g cap : Nat} {e : TypeId} {ys : List (Value × Value)} (h : Own2 w g e cap ys) (j : Nat) : w.frozen? ⟨g, j, none⟩ = false := by
  obtain ⟨cur, hg, _⟩ := h
  simp [World.frozen?, hg]
theorem Own2.there {w : World} {g cap : Nat} {e : TypeId} {ys : List (Value × Value)} (h : Own2 w g e cap ys) (j : Nat) (hj : j < cap * 2) : (w.cell? ⟨g, j, none⟩).isSome = true := by
  obtain ⟨cur, hg, hs, _⟩ := h
  simp [World.cell?, hg, hs, hj]
theorem Own2.block {w w' : World} {g cap : Nat} {e : TypeId} {ys : List (Value × Value)} (h : Own2 w g e cap ys) (hb : w'.heap[g]? = w.heap[g]?) : Own2 w' g e cap ys := by
  obtain ⟨cur, hg, hr⟩ := h
  exact ⟨cur, by rw [hb, hg], hr⟩
theorem Own2.below {w w' : World} {g cap : Nat} {e : TypeId} {ys : List (Value × Value)} (h : Own2 w g e cap ys) (hb : Below w.heap.size w w') : Own2 w' g e cap ys := h.block (hb.block g h.lt)
theorem heap_setCell (w : World) (g o : Nat) (v : Value) (k : Nat) : (w.setCell ⟨g, o, none⟩ v).heap[k]? = if g = k then (w.heap[k]?).map (fun x => match x with | .cells c elem frozen => .cells (c.setIfInBounds o v) elem frozen | o => o) else w.heap[k]? := by
  simp only [World.setCell, Array.getElem?_modify]
  by_cases h : g = k
  · simp [h]
    rfl
  · simp [h]
theorem Own2.store {w : World} {g cap : Nat} {e : TypeId} {ys : List (Value × Value)} (h : Own2 w g e cap ys) (k : Nat) (hk : k < ys.length) (a b : Value) : Own2 ((w.setCell ⟨g, k * 2, none⟩ a).setCell ⟨g, k * 2 + 1, none⟩ b) g e cap (ys.set k (a, b)) := by
  obtain ⟨cur, hg, hs, hl, hc⟩ := h
  refine ⟨(cur.setIfInBounds (k * 2) a).setIfInBounds (k * 2 + 1) b, ?_, by simpa using hs, by simpa using hl, fun j hj => ?_⟩
  · simp [heap_setCell, hg]
  · have hj' : j < ys.length := by simpa using hj
    by_cases hjk : k = j
    · subst hjk
      simp only [List.getElem_set_self]
      constructor
      · rw [Array.getElem?_setIfInBounds, if_neg (by omega), Array.getElem?_setIfInBounds, if_pos rfl, if_pos (by omega)]
      · rw [Array.getElem?_setIfInBounds, if_pos rfl, if_pos (by simp; omega)]
    · rw [List.getElem_set_ne hjk]
      constructor
      · rw [Array.getElem?_setIfInBounds, if_neg (by omega), Array.getElem?_setIfInBounds, if_neg (by omega)]
        exact (hc j hj').1
      · rw [Array.getElem?_setIfInBounds, if_neg (by omega), Array.getElem?_setIfInBounds, if_neg (by omega)]
        exact (hc j hj').2
theorem Own2.store0 {w : World} {g cap : Nat} {e : TypeId} {ys : List (Value × Value)} (h : Own2 w g e cap ys) (k : Nat) (hk : k < ys.length) (a : Value) : Own2 (w.setCell ⟨g, k * 2, none⟩ a) g e cap (ys.set k (a, ys[k].2)) := by
  obtain ⟨cur, hg, hs, hl, hc⟩ := h
  refine ⟨cur.setIfInBounds (k * 2) a, ?_, by simpa using hs, by simpa using hl, fun j hj => ?_⟩
  · simp [heap_setCell, hg]
  · have hj' : j < ys.length := by simpa using hj
    by_cases hjk : k = j
    · subst hjk
      simp only [List.getElem_set_self]
      constructor
      · rw [Array.getElem?_setIfInBounds, if_pos rfl, if_pos (by omega)]
      · rw [Array.getElem?_setIfInBounds, if_neg (by omega)]
        exact (hc k hk).2
    · rw [List.getElem_set_ne hjk]
      constructor
      · rw [Array.getElem?_setIfInBounds, if_neg (by omega)]
        exact (hc j hj').1
      · rw [Array.getElem?_setIfInBounds, if_neg (by omega)]
        exact (hc j hj').2
theorem Own2.setOut {g cap : Nat} {e : TypeId} {ys : List (Value × Value)} : ∀ (vs : List Value) (o : Nat) (w : World), Own2 w g e cap ys → ys.length * 2 ≤ o → Own2 (w.setCells g o vs) g e cap ys
  | [], _, _, h, _ => h
  | v :: vs, o, w, h, ho => by
    refine Own2.setOut vs (o + 1) _ ?_ (by omega)
    obtain ⟨cur, hg, hs, hl, hc⟩ := h
    refine ⟨cur.setIfInBounds o v, ?_, by simpa using hs, hl, fun j hj => ?_⟩
    · simp [heap_setCell, hg]
    · rw [Array.getElem?_setIfInBounds, if_neg (by omega), Array.getElem?_setIfInBounds, if_neg (by omega)]
      exact hc j hj
theorem Own2.take {w : World} {g cap : Nat} {e : TypeId} {ys : List (Value × Value)} (h : Own2 w g e cap ys) (n : Nat) : Own2 w g e cap (ys.take n) := by
  obtain ⟨cur, hg, hs, hl, hc⟩ := h
  refine ⟨cur, hg, hs, by simp; omega, fun j hj => ?_⟩
  have hj' : j < ys.length := by simp at hj; omega
  rw [List.getElem_take]
  exact hc j hj'
theorem gb_refl (w : World) (r : Option Nat) : w.grownBy w r := ⟨rfl, rfl, rfl, Nat.le_refl _, fun _ _ _ => rfl⟩
theorem gb_trans {w w1 w2 : World} {r : Option Nat} (h1 : w.grownBy w1 r) (h2 : w1.grownBy w2 r) : w.grownBy w2 r :=
  ⟨h2.os.trans h1.os, h2.tape.trans h1.tape, h2.output.trans h1.output, Nat.le_trans h1.size h2.size, fun k hk hr => (h2.block k (Nat.lt_of_lt_of_le hk h1.size) hr).trans (h1.block k hk hr)⟩
theorem gb_below {w w' : World} {r : Option Nat} (h : Below w.heap.size w w') : w.grownBy w' r := ⟨h.os, h.tape, h.output, h.size, fun k hk _ => h.block k hk⟩
theorem gb_drew (w : World) (r : Option Nat) : w.grownBy w.drew r := gb_below (Below.refl _ _).drew
theorem gb_setCell (w : World) (g o : Nat) (v : Value) : w.grownBy (w.setCell ⟨g, o, none⟩ v) (some g) :=
  ⟨rfl, rfl, rfl, by simp [World.setCell], fun k _ hr => by rw [heap_setCell, if_neg (fun e => hr (by rw [e]))]⟩
theorem gb_setCells (g : Nat) : ∀ (vs : List Value) (o : Nat) (w : World), w.grownBy (w.setCells g o vs) (some g)
  | [], _, w => gb_refl w _
  | v :: vs, o, w => gb_trans (gb_setCell w g o v) (gb_setCells g vs (o + 1) _)
theorem below_gb {B g : Nat} {w0 w w' : World} (h : Below B w0 w) (hg : w.grownBy w' (some g)) (hB : B ≤ g) (hs : B ≤ w.heap.size) : Below B w0 w' :=
  ⟨hg.os.trans h.os, hg.tape.trans h.tape, hg.output.trans h.output, Nat.le_trans h.size hg.size, fun k hk => (hg.block k (by omega) (fun e => by cases e; omega)).trans (h.block k hk)⟩
def flat : List (Value × Value) → List Value
  | [] => []
  | y :: ys => y.1 :: y.2 :: flat ys
theorem flat_len : ∀ ys : List (Value × Value), (flat ys).length = ys.length * 2
  | [] => rfl
  | y :: ys => by simp [flat, flat_len ys]; omega
theorem flat_at : ∀ (ys : List (Value × Value)) (j : Nat) (h : j < ys.length), (flat ys)[j * 2]? = some ys[j].1 ∧ (flat ys)[j * 2 + 1]? = some ys[j].2
  | y :: ys, 0, _ => ⟨rfl, rfl⟩
  | y :: ys, j + 1, h => by
    have := flat_at ys j (by simpa using h)
    rw [show (j + 1) * 2 = j * 2 + 1 + 1 by omega]
    simpa [flat] using this
theorem flat_of : ∀ (n : Nat) (cs : List Value), cs.length = n * 2 → ∃ ys : List (Value × Value), ys.length = n ∧ flat ys = cs
  | 0, cs, h => ⟨[], rfl, (List.eq_nil_of_length_eq_zero (by omega)).symm⟩
  | n + 1, [], h => by simp at h
  | n + 1, [a], h => by simp at h; omega
  | n + 1, a :: b :: cs, h => by
    obtain ⟨ys, h1, h2⟩ := flat_of n cs (by simp at h; omega)
    exact ⟨(a, b) :: ys, by simp [h1], by simp [flat, h2]⟩
theorem Own2.owns {w : World} {g cap base : Nat} {e : TypeId} {ys : List (Value × Value)} (h : Own2 w g e cap ys) (hb : base ≤ g) (hm : cap ≤ maxLen) : w.ownsRow base e 2 (.slice (some ⟨g, 0, none⟩) ys.length cap) ys.length (flat ys) := by
  obtain ⟨cur, hg, hs, hl, hc⟩ := h
  refine ⟨flat_len ys, .inr ⟨g, cap, cur, rfl, hb, hg, hl, hm, hs, ?_⟩⟩
  refine List.ext_getElem? fun i => ?_
  rw [List.getElem?_take]
  by_cases hi : i < ys.length * 2
  · rw [if_pos hi, Array.getElem?_toList]
    have hi2 : i / 2 < ys.length := by omega
    have h1 := hc (i / 2) hi2
    have h2 := flat_at ys (i / 2) hi2
    rcases Nat.mod_two_eq_zero_or_one i with hm2 | hm2
    · have e2 : i = i / 2 * 2 := by omega
      rw [e2, h1.1, h2.1]
    · have e2 : i = i / 2 * 2 + 1 := by omega
      rw [e2, h1.2, h2.2]
  · rw [if_neg hi, List.getElem?_eq_none (by rw [flat_len]; omega)]
theorem Own2.of {w : World} {g cap base n : Nat} {e : TypeId} {cs : List Value} (h : w.ownsRow base e 2 (.slice (some ⟨g, 0, none⟩) n cap) n cs) : ∃ ys, flat ys = cs ∧ ys.length = n ∧ Own2 w g e cap ys ∧ base ≤ g ∧ cap ≤ maxLen := by
  obtain ⟨hl, ⟨h0, _⟩ | ⟨g', cap', cur, hv, hb, hg, hn, hm, hs, ht⟩⟩ := h
  · cases h0
  · cases hv
    obtain ⟨ys, h1, h2⟩ := flat_of n cs hl
    refine ⟨ys, h2, h1, ⟨cur, hg, hs, by omega, fun j hj => ?_⟩, hb, hm⟩
    have h3 := flat_at ys j hj
    rw [h2, ← ht, List.getElem?_take, if_pos (by omega), List.getElem?_take, if_pos (by omega), Array.getElem?_toList, Array.getElem?_toList] at h3
    exact h3
def cptF {α : Type} (q : α → α → Bool) : α → List α → List α
  | _, [] => []
  | p, x :: xs => if q x p then cptF q x xs else x :: cptF q x xs
def cpt {α : Type} (q : α → α → Bool) : List α → List α
  | [] => []
  | x :: xs => x :: cptF q x xs
theorem cptF_snoc {α : Type} (q : α → α → Bool) (x : α) : ∀ (p : α) (l : List α), cptF q p (l ++ [x]) = cptF q p l ++ (if q x ((p :: l)[l.length]'(by simp)) then [] else [x])
  | p, [] => by
    simp only [List.nil_append, cptF, List.length_nil, List.getElem_cons_zero]
  | p, y :: l => by
    have := cptF_snoc q x y l
    simp only [List.cons_append, cptF, this, List.length_cons, List.getElem_cons_succ]
    split <;> simp
theorem cpt_snoc {α : Type} (q : α → α → Bool) (xs : List α) (j : Nat) (hj : j + 1 < xs.length) : cpt q (xs.take (j + 1 + 1)) = cpt q (xs.take (j + 1)) ++ (if q xs[j + 1] (xs[j]'(by omega)) then [] else [xs[j + 1]]) := by
  cases xs with
  | nil => simp at hj
  | cons x xs =>
    have hj' : j < xs.length := by simpa using hj
    simp only [List.take_succ_cons, cpt, List.getElem_cons_succ]
    rw [List.take_succ_eq_append_getElem hj', cptF_snoc]
    simp only [List.cons_append, List.cons.injEq, true_and]
    congr 3
    cases j with
    | zero => simp
    | succ j =>
      have : min (j + 1) xs.length = j + 1 := by omega
      simp [this]
theorem cpt_at {α : Type} (q : α → α → Bool) (xs : List α) (k : Nat) (h1 : 1 ≤ k) (hk : k < xs.length) : cpt q (xs.take (k + 1)) = cpt q (xs.take k) ++ (if q xs[k] (xs[k - 1]'(by omega)) then [] else [xs[k]]) := by
  obtain ⟨j, rfl⟩ : ∃ j, k = j + 1 := ⟨k - 1, by omega⟩
  exact cpt_snoc q xs j hk
theorem cpt_le {α : Type} (q : α → α → Bool) : ∀ xs : List α, (cpt q xs).length ≤ xs.length
  | [] => Nat.le_refl _
  | x :: xs => by
    have : ∀ (p : α) (l : List α), (cptF q p l).length ≤ l.length := fun p l => by
      induction l generalizing p with
      | nil => exact Nat.le_refl _
      | cons y l ih =>
        rw [cptF]
        split
        · exact Nat.le_trans (ih y) (by simp)
        · simpa using ih y
    simpa [cpt] using this x xs
theorem cptF_mem {α : Type} (q : α → α → Bool) : ∀ (p : α) (l : List α) (x : α), x ∈ cptF q p l → x ∈ l
  | _, [], _, h => h
  | p, y :: l, x, h => by
    rw [cptF] at h
    split at h
    · exact List.mem_cons_of_mem _ (cptF_mem q y l x h)
    · rcases List.mem_cons.1 h with rfl | h
      · simp
      · exact List.mem_cons_of_mem _ (cptF_mem q y l x h)
theorem cpt_mem {α : Type} (q : α → α → Bool) : ∀ (l : List α) (x : α), x ∈ cpt q l → x ∈ l
  | [], _, h => h
  | y :: l, x, h => by
    rcases List.mem_cons.1 h with rfl | h
    · simp
    · exact List.mem_cons_of_mem _ (cptF_mem q y l x h)
theorem set_mid {α : Type} (l r : List α) (x y : α) : (l ++ x :: r).set l.length y = l ++ y :: r := by simp
end Go.Proofs.YtekblibhaipioaaGreat.Tr

namespace Go.Proofs.YtekblibhaipioaaGreat.Rw
open Go Go.RowKit
set_option maxRecDepth 20000
theorem str_ne {s : ByteArray} {l : List UInt8} (h : ¬ s = ⟨l.toArray⟩) : (l == s.toList) = false := by
  rw [beq_eq_false_iff_ne]
  intro e
  apply h
  have : s.data.toList = s.toList := (ByteArray.toList_eq s).symm
  rw [← this] at e
  cases s with
  | mk d => simp at e; subst e; rfl
theorem str_ne' {s : ByteArray} {l : List UInt8} (h : ¬ s = ⟨l.toArray⟩) : (s.toList == l) = false := by
  have := str_ne h
  rw [beq_eq_false_iff_ne] at this ⊢
  exact fun e => this e.symm
def w1 : ByteArray := ⟨#[115, 107, 105, 112]⟩
def w2 : ByteArray := ⟨#[116, 104, 114, 111, 119]⟩
def w3 : ByteArray := ⟨#[121, 105, 101, 108, 100]⟩
def w4 : ByteArray := ⟨#[115, 107, 105, 112, 112]⟩
def w5 : ByteArray := ⟨#[116, 104, 114, 111, 119, 119]⟩
def w6 : ByteArray := ⟨#[121, 105, 101, 108, 100, 100]⟩
def wordB (s : ByteArray) : Bool := decide (s = w1 ∨ s = w2 ∨ s = w3 ∨ s = w4 ∨ s = w5 ∨ s = w6)
def low (l : List UInt8) : Bool := l.all fun c => decide (97 ≤ c.toNat) && decide (c.toNat ≤ 122)
theorem low_take (s : ByteArray) (k : Nat) (h : k < s.size) : low (s.data.toList.take (k + 1)) = (low (s.data.toList.take k) && (decide (97 ≤ s[k].toNat) && decide (s[k].toNat ≤ 122))) := by
  unfold low
  rw [List.take_succ_eq_append_getElem (by simpa using h), List.all_append]
  simp
  rfl
theorem low_no {s : ByteArray} {k : Nat} (h : k < s.size) (hb : (decide (97 ≤ s[k].toNat) && decide (s[k].toNat ≤ 122)) = false) : low s.data.toList = false := by
  have := low_take s k h
  rw [hb, Bool.and_false] at this
  unfold low at this ⊢
  rw [List.all_eq_false] at this ⊢
  obtain ⟨x, hx, hn⟩ := this
  exact ⟨x, List.mem_of_mem_take hx, hn⟩
def rgt (x : Nd) : Bool :=
  if ar x.k < 0 then false
  else if x.k = 1 then low x.n.data.toList && (decide (1 ≤ x.n.size) && decide (x.n.size ≤ 8)) && (x.s == 0) && !wordB x.n
  else if x.k = 11 ∨ x.k = 14 then decide (x.n.size = 0) && (decide (1 ≤ x.s) && decide (x.s ≤ 3))
  else decide (x.n.size = 0) && (x.s == 0)
theorem rgt_act (n : ByteArray) (s : Int) : rgt ⟨1, n, s⟩ = (low n.data.toList && (decide (1 ≤ n.size) && decide (n.size ≤ 8)) && (s == 0) && !wordB n) := by
  unfold rgt
  rw [if_neg (show ¬ ar 1 < 0 from by decide), if_pos rfl]
theorem rgt_sign {k : Int} (n : ByteArray) (s : Int) (h : k = 11 ∨ k = 14) : rgt ⟨k, n, s⟩ = (decide (n.size = 0) && (decide (1 ≤ s) && decide (s ≤ 3))) := by
  unfold rgt
  rw [if_neg (show ¬ ar k < 0 from by rcases h with rfl | rfl <;> decide), if_neg (show ¬ k = 1 from by omega), if_pos h]
theorem rgt_other {k : Int} (n : ByteArray) (s : Int) (h0 : ¬ ar k < 0) (h1 : ¬ k = 1) (h : ¬ (k = 11 ∨ k = 14)) : rgt ⟨k, n, s⟩ = (decide (n.size = 0) && (s == 0)) := by
  unfold rgt
  rw [if_neg h0, if_neg h1, if_neg h]
theorem empty_of {n : ByteArray} (h : n.size = 0) : n = ⟨#[]⟩ := by
  obtain ⟨d⟩ := n
  have : d = #[] := Array.eq_empty_of_size_eq_zero h
  rw [this]
theorem not_empty {n : ByteArray} (h : ¬ n.size = 0) : (n.toList == []) = false := str_ne' (l := []) fun e => h (by rw [e]; rfl)
set_option maxHeartbeats 1000000 in
theorem depthR_any (v : Value) (l : List Nd) (w : World) (h : Nds w v l) (hl : l.length ≤ 1000000) :
    Calls Tryz.prog 11 #[v] w fun e w' => e = .returned (.int .i64 (depth l)) ∧ w = w' := by
  have HD : Hid ((depth l : Int) = dp (T l)) := by
    show (depth l : Int) = _
    unfold depth
    cases T l with
    | none => rfl
    | some x => rfl
  have H := Lib.hid h
  obtain ⟨_, a, cap, rfl, -⟩ := h
  rw [HD.out]
  obtain ⟨r, hr⟩ : ∃ r, T l = r := ⟨_, rfl⟩
  rw [hr]
  have HT := Lib.hid hr
  clear hr HD
  obtain ⟨x, hx⟩ : ∃ x, nx 0 r = x := ⟨_, rfl⟩
  obtain ⟨y, hy⟩ : ∃ y, dp r = y := ⟨_, rfl⟩
  have HX := Lib.hid hx
  have HY := Lib.hid hy
  rw [hy]
  clear hx hy
  go_enter Tryz.func11, Tryz.ntmps11
  go_wp2_with fail
  refine (walk_any _ l 0 _ H.out hl (Nat.zero_le _)).mono ?_
  unfold WalkPost
  rw [List.drop_zero, HT.out, HX.out, HY.out]
  rintro e w' ⟨rfl, rfl⟩
  go_wp2_with fail
  go_ret
  exact ⟨rfl, rfl⟩
end Go.Proofs.YtekblibhaipioaaGreat.Rw

namespace Go.Proofs.YtekblibhaipioaaGreat.Tr
open Go Go.RowKit
set_option maxRecDepth 20000
end Go.Proofs.YtekblibhaipioaaGreat.Tr

namespace Go.Proofs.YtekblibhaipioaaGreat.Rx
open Go Go.RowKit Rw
set_option maxRecDepth 20000
set_option maxHeartbeats 1000000 in
theorem arP_eq (k : Int) (w : World) : Calls Tryz.prog 64 #[.int .i64 k] w fun e w' => e = .returned (.int .i64 (ar k)) ∧ w = w' := by
  rcases cases15 k with rfl | rfl | rfl | rfl | rfl | rfl | rfl | rfl | rfl | rfl | rfl | rfl | rfl | rfl | h
  case inr.inr.inr.inr.inr.inr.inr.inr.inr.inr.inr.inr.inr.inr =>
    have hr := Lib.hid (ar_no h)
    obtain ⟨h1, h2, h3, h4, h5, h6, h7, h8, h9, h10, h11, h12, h13, h14⟩ := h
    have b1 : (k == 1) = false := by simp [h1]
    have b2 : (k == 2) = false := by simp [h2]
    have b3 : (k == 3) = false := by simp [h3]
    have b4 : (k == 4) = false := by simp [h4]
    have b5 : (k == 5) = false := by simp [h5]
    have b6 : (k == 6) = false := by simp [h6]
    have b7 : (k == 7) = false := by simp [h7]
    have b8 : (k == 8) = false := by simp [h8]
    have b9 : (k == 9) = false := by simp [h9]
    have b10 : (k == 10) = false := by simp [h10]
    have b11 : (k == 11) = false := by simp [h11]
    have b12 : (k == 12) = false := by simp [h12]
    have b13 : (k == 13) = false := by simp [h13]
    have b14 : (k == 14) = false := by simp [h14]
    clear h1 h2 h3 h4 h5 h6 h7 h8 h9 h10 h11 h12 h13 h14
    go_enter Tryz.func64, Tryz.ntmps64
    go_wp2_with fail
    go_ret
    exact ⟨ret_int hr.out.symm, rfl⟩
  all_goals
    go_enter Tryz.func64, Tryz.ntmps64
    go_wp2_with fail
    go_ret
    exact ⟨rfl, rfl⟩
end Go.Proofs.YtekblibhaipioaaGreat.Rx

namespace Go.Proofs.YtekblibhaipioaaGreat.Mn
open Go Go.RowKit Tr
structure Qd where
  a : Value
  b : Value
  c : Value
  d : Value
instance : Inhabited Qd := ⟨⟨default, default, default, default⟩⟩
def Own4 (w : World) (g : Nat) (e : TypeId) (cap : Nat) (ys : List Qd) : Prop :=
  ∃ cur : Array Value, w.heap[g]? = some (.cells cur e (0, 0)) ∧ cur.size = cap * 4 ∧ ys.length ≤ cap ∧ ∀ j (h : j < ys.length), cur[j * 4]? = some ys[j].a ∧ cur[j * 4 + 1]? = some ys[j].b ∧ cur[j * 4 + 2]? = some ys[j].c ∧ cur[j * 4 + 3]? = some ys[j].d
theorem Own4.lt {w : World} {g cap : Nat} {e : TypeId} {ys : List Qd} (h : Own4 w g e cap ys) : g < w.heap.size := heap_lt h.choose_spec.1
theorem Own4.len {w : World} {g cap : Nat} {e : TypeId} {ys : List Qd} (h : Own4 w g e cap ys) : ys.length ≤ cap := h.choose_spec.2.2.1
theorem Own4.cell {w : World} {g cap : Nat} {e : TypeId} {ys : List Qd} (h : Own4 w g e cap ys) (j : Nat) (hj : j < ys.length) : w.cell? ⟨g, j * 4, none⟩ = some ys[j].a ∧ w.cell? ⟨g, j * 4 + 1, none⟩ = some ys[j].b ∧ w.cell? ⟨g, j * 4 + 2, none⟩ = some ys[j].c ∧ w.cell? ⟨g, j * 4 + 3, none⟩ = some ys[j].d := by
  obtain ⟨cur, hg, _, _, hc⟩ := h
  obtain ⟨h0, h1, h2, h3⟩ := hc j hj
  simp [World.cell?, hg, h0, h1, h2, h3]
theorem Own4.soft {w : World} {g cap : Nat} {e : TypeId} {ys : List Qd} (h : Own4 w g e cap ys) (j : Nat) : w.frozen? ⟨g, j, none⟩ = false := by
  obtain ⟨cur, hg, _⟩ := h
  simp [World.frozen?, hg]
theorem Own4.there {w : World} {g cap : Nat} {e : TypeId} {ys : List Qd} (h : Own4 w g e cap ys) (j : Nat) (hj : j < cap * 4) : (w.cell? ⟨g, j, none⟩).isSome = true := by
  obtain ⟨cur, hg, hs, _⟩ := h
  simp [World.cell?, hg, hs, hj]
theorem Own4.block {w w' : World} {g cap : Nat} {e : TypeId} {ys : List Qd} (h : Own4 w g e cap ys) (hb : w'.heap[g]? = w.heap[g]?) : Own4 w' g e cap ys := by
  obtain ⟨cur, hg, hr⟩ := h
  exact ⟨cur, by rw [hb, hg], hr⟩
theorem Own4.below {w w' : World} {g cap : Nat} {e : TypeId} {ys : List Qd} (h : Own4 w g e cap ys) (hb : Below w.heap.size w w') : Own4 w' g e cap ys := h.block (hb.block g h.lt)
theorem set4 (cur : Array Value) (o : Nat) (a b c d : Value) (i : Nat) :
    ((((cur.setIfInBounds o a).setIfInBounds (o + 1) b).setIfInBounds (o + 2) c).setIfInBounds (o + 3) d)[i]? = if i = o + 3 then (if i < cur.size then some d else none) else if i = o + 2 then (if i < cur.size then some c else none) else if i = o + 1 then (if i < cur.size then some b else none) else if i = o then (if i < cur.size then some a else none) else cur[i]? := by
  simp only [Array.getElem?_setIfInBounds, Array.size_setIfInBounds]
  repeat' split
  all_goals first | rfl | omega | (exfalso; omega)
theorem Own4.store {w : World} {g cap : Nat} {e : TypeId} {ys : List Qd} (h : Own4 w g e cap ys) (k : Nat) (hk : k < ys.length) (a b c d : Value) :
    Own4 ((((w.setCell ⟨g, k * 4, none⟩ a).setCell ⟨g, k * 4 + 1, none⟩ b).setCell ⟨g, k * 4 + 2, none⟩ c).setCell ⟨g, k * 4 + 3, none⟩ d) g e cap (ys.set k ⟨a, b, c, d⟩) := by
  obtain ⟨cur, hg, hs, hl, hc⟩ := h
  refine ⟨(((cur.setIfInBounds (k * 4) a).setIfInBounds (k * 4 + 1) b).setIfInBounds (k * 4 + 2) c).setIfInBounds (k * 4 + 3) d, ?_, by simpa using hs, by simpa using hl, fun j hj => ?_⟩
  · simp [heap_setCell, hg]
  · have hj' : j < ys.length := by simpa using hj
    simp only [set4]
    by_cases hjk : k = j
    · subst hjk
      simp only [List.getElem_set_self]
      refine ⟨?_, ?_, ?_, ?_⟩
      · rw [if_neg (by omega), if_neg (by omega), if_neg (by omega), if_pos trivial, if_pos (by omega)]
      · rw [if_neg (by omega), if_neg (by omega), if_pos trivial, if_pos (by omega)]
      · rw [if_neg (by omega), if_pos trivial, if_pos (by omega)]
      · rw [if_pos trivial, if_pos (by omega)]
    · rw [List.getElem_set_ne hjk]
      have := hc j hj'
      refine ⟨?_, ?_, ?_, ?_⟩
      · rw [if_neg (by omega), if_neg (by omega), if_neg (by omega), if_neg (by omega)]; exact this.1
      · rw [if_neg (by omega), if_neg (by omega), if_neg (by omega), if_neg (by omega)]; exact this.2.1
      · rw [if_neg (by omega), if_neg (by omega), if_neg (by omega), if_neg (by omega)]; exact this.2.2.1
      · rw [if_neg (by omega), if_neg (by omega), if_neg (by omega), if_neg (by omega)]; exact this.2.2.2
theorem Own4.setOut {g cap : Nat} {e : TypeId} {ys : List Qd} : ∀ (vs : List Value) (o : Nat) (w : World), Own4 w g e cap ys → ys.length * 4 ≤ o → Own4 (w.setCells g o vs) g e cap ys
  | [], _, _, h, _ => h
  | v :: vs, o, w, h, ho => by
    refine Own4.setOut vs (o + 1) _ ?_ (by omega)
    obtain ⟨cur, hg, hs, hl, hc⟩ := h
    refine ⟨cur.setIfInBounds o v, ?_, by simpa using hs, hl, fun j hj => ?_⟩
    · simp [heap_setCell, hg]
    · rw [Array.getElem?_setIfInBounds, if_neg (by omega), Array.getElem?_setIfInBounds, if_neg (by omega), Array.getElem?_setIfInBounds, if_neg (by omega), Array.getElem?_setIfInBounds, if_neg (by omega)]
      exact hc j hj
theorem Own4.take {w : World} {g cap : Nat} {e : TypeId} {ys : List Qd} (h : Own4 w g e cap ys) (n : Nat) : Own4 w g e cap (ys.take n) := by
  obtain ⟨cur, hg, hs, hl, hc⟩ := h
  refine ⟨cur, hg, hs, by simp; omega, fun j hj => ?_⟩
  have hj' : j < ys.length := by simp at hj; omega
  rw [List.getElem_take]
  exact hc j hj'
theorem gb_set4 (w : World) (g o : Nat) (a b c d : Value) : w.grownBy ((((w.setCell ⟨g, o, none⟩ a).setCell ⟨g, o + 1, none⟩ b).setCell ⟨g, o + 2, none⟩ c).setCell ⟨g, o + 3, none⟩ d) (some g) :=
  gb_trans (gb_trans (gb_setCell _ _ _ _) (gb_setCell _ _ _ _)) (gb_trans (gb_setCell _ _ _ _) (gb_setCell _ _ _ _))
def flat4 : List Qd → List Value
  | [] => []
  | y :: ys => y.a :: y.b :: y.c :: y.d :: flat4 ys
theorem flat4_len : ∀ ys : List Qd, (flat4 ys).length = ys.length * 4
  | [] => rfl
  | y :: ys => by simp [flat4, flat4_len ys]; omega
theorem flat4_at : ∀ (ys : List Qd) (j : Nat) (h : j < ys.length), (flat4 ys)[j * 4]? = some ys[j].a ∧ (flat4 ys)[j * 4 + 1]? = some ys[j].b ∧ (flat4 ys)[j * 4 + 2]? = some ys[j].c ∧ (flat4 ys)[j * 4 + 3]? = some ys[j].d
  | y :: ys, 0, _ => ⟨rfl, rfl, rfl, rfl⟩
  | y :: ys, j + 1, h => by
    have := flat4_at ys j (by simpa using h)
    rw [show (j + 1) * 4 = j * 4 + 1 + 1 + 1 + 1 by omega]
    simpa [flat4] using this
theorem flat4_of : ∀ (n : Nat) (cs : List Value), cs.length = n * 4 → ∃ ys : List Qd, ys.length = n ∧ flat4 ys = cs
  | 0, cs, h => ⟨[], rfl, (List.eq_nil_of_length_eq_zero (by omega)).symm⟩
  | n + 1, [], h => by simp at h
  | n + 1, [a], h => by simp at h; omega
  | n + 1, [a, b], h => by simp at h; omega
  | n + 1, [a, b, c], h => by simp at h; omega
  | n + 1, a :: b :: c :: d :: cs, h => by
    obtain ⟨ys, h1, h2⟩ := flat4_of n cs (by simp at h; omega)
    exact ⟨⟨a, b, c, d⟩ :: ys, by simp [h1], by simp [flat4, h2]⟩
theorem Own4.owns {w : World} {g cap base : Nat} {e : TypeId} {ys : List Qd} (h : Own4 w g e cap ys) (hb : base ≤ g) (hm : cap ≤ maxLen) : w.ownsRow base e 4 (.slice (some ⟨g, 0, none⟩) ys.length cap) ys.length (flat4 ys) := by
  obtain ⟨cur, hg, hs, hl, hc⟩ := h
  refine ⟨flat4_len ys, .inr ⟨g, cap, cur, rfl, hb, hg, hl, hm, hs, ?_⟩⟩
  refine List.ext_getElem? fun i => ?_
  rw [List.getElem?_take]
  by_cases hi : i < ys.length * 4
  · rw [if_pos hi, Array.getElem?_toList]
    have hi2 : i / 4 < ys.length := by omega
    have h1 := hc (i / 4) hi2
    have h2 := flat4_at ys (i / 4) hi2
    have hm4 : i = i / 4 * 4 ∨ i = i / 4 * 4 + 1 ∨ i = i / 4 * 4 + 2 ∨ i = i / 4 * 4 + 3 := by omega
    rcases hm4 with e2 | e2 | e2 | e2
    · rw [e2, h1.1, h2.1]
    · rw [e2, h1.2.1, h2.2.1]
    · rw [e2, h1.2.2.1, h2.2.2.1]
    · rw [e2, h1.2.2.2, h2.2.2.2]
  · rw [if_neg hi, List.getElem?_eq_none (by rw [flat4_len]; omega)]
theorem Own4.of {w : World} {g cap base n : Nat} {e : TypeId} {cs : List Value} (h : w.ownsRow base e 4 (.slice (some ⟨g, 0, none⟩) n cap) n cs) : ∃ ys, flat4 ys = cs ∧ ys.length = n ∧ Own4 w g e cap ys ∧ base ≤ g ∧ cap ≤ maxLen := by
  obtain ⟨hl, ⟨h0, _⟩ | ⟨g', cap', cur, hv, hb, hg, hn, hm, hs, ht⟩⟩ := h
  · cases h0
  · cases hv
    obtain ⟨ys, h1, h2⟩ := flat4_of n cs hl
    refine ⟨ys, h2, h1, ⟨cur, hg, hs, by omega, fun j hj => ?_⟩, hb, hm⟩
    have h3 := flat4_at ys j hj
    rw [h2, ← ht, List.getElem?_take, if_pos (by omega), List.getElem?_take, if_pos (by omega), List.getElem?_take, if_pos (by omega), List.getElem?_take, if_pos (by omega), Array.getElem?_toList, Array.getElem?_toList, Array.getElem?_toList, Array.getElem?_toList] at h3
    exact h3
end Go.Proofs.YtekblibhaipioaaGreat.Mn

namespace Go.Proofs.YtekblibhaipioaaGreat.Rw
open Go Go.RowKit
set_option maxRecDepth 20000
def Nms (l : List Nd) : Prop := ∀ x ∈ l, x.n.size ≤ 140737488355328
def whole (l : List Nd) : Bool := l.all rgt && (decide (1 ≤ l.length) && decide (l.length ≤ 200)) && decide (size l = l.length)
theorem Below.drewN (B n : Nat) (w : World) : Below B w (w.drewN n) := by
  induction n with
  | zero => exact Below.refl _ _
  | succ n ih => exact ih.drew
def cnt (l : List Nd) (ks : List Int) : Nat := l.countP fun x => decide (x.k ∈ ks)
def Ints (w : World) (v : Value) (l : List Int) : Prop := Ap.Rd w 1 v l.length (l.map (.int .i64))
theorem Ints.below {w w' : World} {v : Value} {l : List Int} (h : Ints w v l) (hb : Below w.heap.size w w') : Ints w' v l := Ap.Rd.below h hb
def AtI (w : World) (b off : Nat) (l : List Int) : Prop := ∀ k, (h : k < l.length) → w.cell? ⟨b, off + k, none⟩ = some (.int .i64 l[k])
theorem Ints.form {w : World} {v : Value} {l : List Int} (h : Ints w v l) :
    (l = [] ∧ ∃ a cap, v = .slice a 0 cap) ∨ ∃ b off cap, v = .slice (some ⟨b, off, none⟩) l.length cap ∧ l.length ≤ cap ∧ AtI w b off l := by
  obtain ⟨_, a, cap, rfl, hle, _, hcell⟩ := h
  by_cases h0 : 0 < l.length
  · obtain ⟨b, off, rfl, hj⟩ := hcell h0
    exact Or.inr ⟨b, off, cap, rfl, hle, fun k hk => hj _ _ (by rw [List.getElem?_map, List.getElem?_eq_getElem hk]; rfl)⟩
  · have : l = [] := List.eq_nil_of_length_eq_zero (by omega)
    subst this
    exact Or.inl ⟨rfl, a, cap, rfl⟩
end Go.Proofs.YtekblibhaipioaaGreat.Rw

namespace Go.Proofs.YtekblibhaipioaaGreat.Tr
open Go Go.RowKit
set_option maxRecDepth 20000
def TrCells (w : World) : List Value → List Tr → Prop
  | [], [] => True
  | a :: e :: cs, t :: ts => Strs w a t.a ∧ e = .int .i64 t.e ∧ TrCells w cs ts
  | _, _ => False
def Trs (w : World) (v : Value) (ts : List Tr) : Prop := ∃ cs, Ap.Rd w 2 v ts.length cs ∧ TrCells w cs ts
theorem TrCells.below {w w' : World} (hb : Below w.heap.size w w') : ∀ {cs : List Value} {ts : List Tr}, TrCells w cs ts → TrCells w' cs ts
  | [], [], _ => trivial
  | _ :: _ :: _, _ :: _, h => ⟨h.1.below hb, h.2.1, TrCells.below hb h.2.2⟩
  | [], _ :: _, h => h.elim
  | [_], [], h => h.elim
  | [_], _ :: _, h => h.elim
  | _ :: _ :: _, [], h => h.elim
def Few (ts : List Tr) : Prop := ts.length ≤ 1000000000000 ∧ ∀ t ∈ ts, t.a.length ≤ 1000000000000
end Go.Proofs.YtekblibhaipioaaGreat.Tr
