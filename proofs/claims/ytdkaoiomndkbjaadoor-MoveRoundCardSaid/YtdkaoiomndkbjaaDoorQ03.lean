/- A range over a function whose iterator keeps a state of its own in memory between two rounds: which blocks are the iterator's (T) is told to the body, which leaves them as they are; the iterator turns no others. Rows of nodes in memory; the document's Arity and Walk over them. Pairs of traces as plain data: their order, sets of them; no program is named here. Rows of actions in memory; how one row stands to another, and which of two traces comes ahead, by the document's own answer. What each function of package sign, and of the document's own answers for it, returns: walks of the translated code. A row within another one: plain. -/
import Derived.RangeFuncNested
import Derived.WalkKit
import Derived.Below
import Derived.Test.YtdkaoiomndkbjaaDoorProg
import Derived.Test.YtdkaoiomndkbjaaDoorQ01
import Derived.Test.YtdkaoiomndkbjaaDoorQ02
import Derived.WalkSpells
import Derived.WalkLawsBesides
import Derived.Lib.Hide
import Derived.Deep.QuietTactic
import Derived.BigQuiet
import Derived.LoopN

namespace Go.Proofs.YtdkaoiomndkbjaaDoor.Ro
open Go Go.RowKit
structure Turn (T : Nat → Prop) (w w' : World) : Prop where
  os : w'.os = w.os
  tape : w'.tape = w.tape
  output : w'.output = w.output
  size : w.heap.size ≤ w'.heap.size
  block : ∀ k, k < w.heap.size → ¬ T k → w'.heap[k]? = w.heap[k]?
theorem Turn.refl (T : Nat → Prop) (w : World) : Turn T w w := ⟨rfl, rfl, rfl, Nat.le_refl _, fun _ _ _ => rfl⟩
theorem Turn.of_below {T : Nat → Prop} {w w' : World} (h : Below w.heap.size w w') : Turn T w w' := ⟨h.os, h.tape, h.output, h.size, fun k hk _ => h.block k hk⟩
theorem Turn.of_grownBy {T : Nat → Prop} {w w' : World} {row : Option Nat} (h : w.grownBy w' row) (hr : ∀ k, row = some k → T k) : Turn T w w' :=
  ⟨h.os, h.tape, h.output, h.size, fun k hk hn => h.block k hk fun e => hn (hr k e.symm)⟩
theorem Turn.below {T : Nat → Prop} {B : Nat} {w w' : World} (h : Turn T w w') (hB : B ≤ w.heap.size) (hT : ∀ t, T t → B ≤ t) : Below B w w' :=
  ⟨h.os, h.tape, h.output, h.size, fun k hk => h.block k (by omega) fun hT' => by have := hT k hT'; omega⟩
theorem Turn.imp {T T' : Nat → Prop} {w w' : World} (h : Turn T w w') (hT : ∀ t, T t → T' t) : Turn T' w w' := ⟨h.os, h.tape, h.output, h.size, fun k hk hn => h.block k hk fun e => hn (hT k e)⟩
theorem Turn.trans {T : Nat → Prop} {a b c : World} (h : Turn T a b) (k : Turn T b c) : Turn T a c :=
  ⟨k.os.trans h.os, k.tape.trans h.tape, k.output.trans h.output, Nat.le_trans h.size k.size, fun i hi hn => (k.block i (Nat.lt_of_lt_of_le hi h.size) hn).trans (h.block i hi hn)⟩
theorem Turn.setCell {T : Nat → Prop} {w : World} {p : Addr} {v : Value} (h : T p.block) : Turn T w (w.setCell p v) :=
  ⟨rfl, rfl, rfl, by show w.heap.size ≤ (w.heap.modify _ _).size; rw [Array.size_modify]; exact Nat.le_refl _, fun k _ hn => Below.heap_setCell w p v k fun e => hn (e ▸ h)⟩
theorem Turn.cell {T : Nat → Prop} {w w' : World} (h : Turn T w w') {p : Addr} {v : Value} (hc : w.cell? p = some v) (hn : ¬ T p.block) : w'.cell? p = some v := by
  have hlt : p.block < w.heap.size := Nat.lt_of_not_le fun hle => by
    simp only [World.cell?] at hc
    rw [Array.getElem?_eq_none hle] at hc
    cases hc
  rw [World.cell?_of_block (h.block _ hlt hn)]
  exact hc
def more (T : Nat → Prop) (A B : World) : Nat → Prop := fun t => T t ∨ (A.heap.size ≤ t ∧ t < B.heap.size)
structure Keep (T : Nat → Prop) (w w' : World) : Prop where
  size : w.heap.size ≤ w'.heap.size
  block : ∀ k, T k → w'.heap[k]? = w.heap[k]?
theorem Keep.refl (T : Nat → Prop) (w : World) : Keep T w w := ⟨Nat.le_refl _, fun _ _ => rfl⟩
theorem Keep.trans {T : Nat → Prop} {a b c : World} (h : Keep T a b) (k : Keep T b c) : Keep T a c := ⟨Nat.le_trans h.size k.size, fun i hi => (k.block i hi).trans (h.block i hi)⟩
theorem Keep.of_below {T : Nat → Prop} {B : Nat} {w w' : World} (h : Below B w w') (hT : ∀ t, T t → t < B) : Keep T w w' := ⟨h.size, fun k hk => h.block k (hT k hk)⟩
theorem Keep.setCell {T : Nat → Prop} {w : World} {p : Addr} {v : Value} (hn : ¬ T p.block) : Keep T w (w.setCell p v) :=
  ⟨by show w.heap.size ≤ (w.heap.modify _ _).size; rw [Array.size_modify]; exact Nat.le_refl _, fun k hk => Below.heap_setCell w p v k fun e => hn (e ▸ hk)⟩
theorem Keep.cell {T : Nat → Prop} {w w' : World} (h : Keep T w w') {p : Addr} {v : Value} (hc : w.cell? p = some v) (hn : T p.block) : w'.cell? p = some v := by
  rw [World.cell?_of_block (h.block _ hn)]
  exact hc
variable {P : Program}
def Iter (P : Program) (gf : Nat) (lb : Array Value) (n : Nat) (E : Nat → Array Value → World → Prop) (n0 : Nat) (w0 : World) : Prop :=
  ∀ (l : Nat) (J Jx : (Nat → Prop) → Nat → World → Prop) (W : World), Below w0.heap.size w0 W →
    (∀ T k A B, J T k A → (∀ t, T t → t < A.heap.size) → Turn T A B → J (more T A B) k B) →
    (∀ T k args A, J T k A → k < n → (∀ t, T t → W.heap.size ≤ t ∧ t < A.heap.size) → E k args A → YieldAt .wide 0 P l args A fun e B =>
      (e = .returned (.bool true) ∧ J T (k + 1) B ∧ Keep (fun t => T t ∨ t < n0) A B) ∨ (e = .returned (.bool false) ∧ Jx T (k + 1) B)) →
    J (fun _ => False) 0 W →
    Calls P gf (#[.func (.yield l) #[] #[]] ++ lb) W fun e B => (∃ v, e = .returned v) ∧ ∃ T, (J T n B ∨ ∃ k, k ≤ n ∧ Jx T k B)
def roundEnd (n0 : Nat) (T : Nat → Prop) (I : (Nat → Prop) → Nat → World → Prop) (Ix : Code → (Nat → Prop) → Nat → World → Prop) (k : Nat) (W : World) : Exit → Act → World → Prop
  | .normal, _, W' => Keep (fun t => T t ∨ t < n0) W W' ∧ I T (k + 1) W'
  | .ret, _, W' => Keep (fun t => T t ∨ t < n0) W W' ∧ Ix .ret T (k + 1) W'
  | .exit id, _, W' => Keep (fun t => T t ∨ t < n0) W W' ∧ Ix (.exit id) T (k + 1) W'
  | .goto t, _, W' => Keep (fun t => T t ∨ t < n0) W W' ∧ Ix (.goto t) T (k + 1) W'
  | .panic _, _, _ => False
  | .outgrown, _, _ => False
theorem putObj_turn {W : World} {r : Nat} {o : Obj} {T : Nat → Prop} (h : T r) : Turn T W (W.putObj r o) :=
  Turn.of_grownBy (grownBy_putObj' W r o) fun k e => by cases e; exact h
theorem wp_range {g : Operand} {ps : Array Tmp} {assign body : Code} {Q : Exit → Act → World → Prop} {a : Act} {w : World}
    {gf : Nat} {lb : Array Value} (hg : a.eval g = .func (.func gf) #[] lb) (eg : ∀ args w, (callFunc gf args).run P w = .ok (.enter gf args) w)
    {n n0 : Nat} {E : Nat → Array Value → World → Prop} {w0 : World} (hit : Iter P gf lb n E n0 w0) (hn0 : n0 ≤ w.heap.size) (hb0 : Below w0.heap.size w0 w) (hps : ∀ k args A, E k args A → args.size = ps.size)
    (hE : ∀ k args A (r : Nat) (o o' : Obj), A.heap[r]? = some o → o.isCells = false → E k args A → E k args (A.putObj r o'))
    (I : (Nat → Prop) → Nat → World → Prop) (Ix : Code → (Nat → Prop) → Nat → World → Prop)
    (hI : ∀ T k A B, I T k A → (∀ t, T t → w.heap.size ≤ t ∧ t < A.heap.size) → Turn T A B → I (more T A B) k B)
    (hI' : ∀ T k A B, I T k A → (∀ t, T t → w.heap.size ≤ t ∧ t < A.heap.size) → Turn T A B → A.heap.size = B.heap.size → I T k B)
    (hIx : ∀ c T k A B, Ix c T k A → (∀ t, T t → w.heap.size ≤ t ∧ t < A.heap.size) → Turn T A B → A.heap.size = B.heap.size → Ix c T k B)
    (h0 : ∀ W, Below w.heap.size w W → (∀ t, w.heap.size ≤ t → t < W.heap.size → t = w.heap.size ∨ t = w.heap.size + 1) → I (fun t => t = w.heap.size ∨ t = w.heap.size + 1) 0 W) (a₁ : Array Value → Act)
    (hassign : ∀ (l k : Nat) (args : Array Value) (A : World) (K : Act → World → Prop), E k args A → K (a₁ args) A →
      assign.wpIn (Fence.wide.inRound l) 0 P (Exit.then K (fun _ _ _ => False)) { tmps := (ps.zip args).foldl (fun t (p, v) => t.setIfInBounds p v) a.tmps, defers := [] } A)
    (hbody : ∀ (l : Nat) (T : Nat → Prop) (k : Nat) (args : Array Value) (A : World), I T k A → (∀ t, T t → w.heap.size ≤ t ∧ t < A.heap.size) → k < n → E k args A →
      body.wpIn (Fence.wide.inRound l) 0 P (roundEnd n0 T I Ix k A) (a₁ args) A)
    (hdone : ∀ (T : Nat → Prop) (W : World), I T n W → T w.heap.size → (∀ t, T t → w.heap.size ≤ t ∧ t < W.heap.size) → W.heap[w.heap.size]? = some (.deferred (some [])) → Q .normal { a with defers := { target := .collected w.heap.size, args := #[] } :: a.defers } W)
    (hstop : ∀ (T : Nat → Prop) (c : Code) (k : Nat) (W : World), k ≤ n → Ix c T k W → T w.heap.size → (∀ t, T t → w.heap.size ≤ t ∧ t < W.heap.size) → W.heap[w.heap.size]? = some (.deferred (some [])) →
      c.wpIn .wide 0 P Q { a with defers := { target := .collected w.heap.size, args := #[] } :: a.defers } W) :
    (Code.rangeFunc g ps assign body).wp P Q a w := by
  refine (wpIn_wide (n := 0)).1 (wpIn_rangeFunc ?_)
  intro fn hfn
  obtain ⟨rec, hrec⟩ : ∃ rec : LoopState → Option Code → Loop, rec = fun st pe => { state := st, pending := pe, fn, tmps := a.tmps, params := ps, assign, body, defers := w.heap.size } := ⟨_, rfl⟩
  obtain ⟨W1, hW1⟩ : ∃ W1, (w.alloc (.deferred (some []))).alloc (.loop (rec .ready none)) = W1 := ⟨_, rfl⟩
  have hs1 : W1.heap.size = w.heap.size + 1 + 1 := by rw [← hW1]; simp
  have hL1 : W1.heap[w.heap.size + 1]? = some (.loop (rec .ready none)) := by
    rw [← hW1]; have := World.alloc_heap_new (w.alloc (.deferred (some []))) (.loop (rec .ready none)); rwa [World.size_alloc] at this
  have hK1 : W1.heap[w.heap.size]? = some (.deferred (some [])) := by
    rw [← hW1]; exact (Below.heap_alloc _ _ _ (by simp)).trans (World.alloc_heap_new w _)
  have hb1' : Below w.heap.size w W1 := by
    rw [← hW1]; exact ((Below.refl _ w).alloc (Nat.le_refl _) _).alloc (by simp) _
  have hb1 : Below w0.heap.size w0 W1 := hb0.trans (hb1'.mono hb0.size)
  obtain ⟨T0, hT0⟩ : ∃ T0 : (Nat → Prop) → Nat → Prop, T0 = fun T t => T t ∨ t = w.heap.size ∨ t = w.heap.size + 1 := ⟨_, rfl⟩
  have m0 : ∀ {T : Nat → Prop} {t : Nat}, T0 T t ↔ T t ∨ t = w.heap.size ∨ t = w.heap.size + 1 := fun {T t} => by rw [hT0]
  refine ⟨w.heap.size + 1, [{ target := .collected w.heap.size, args := #[] }], W1, { target := .fn (.func gf) lb, args := #[.func (.yield (w.heap.size + 1)) #[] #[]] }, W1, gf,
    #[.func (.yield (w.heap.size + 1)) #[] #[]] ++ lb, W1, ?_, ?_, fun _ _ => trivial, ?_, fun h => (by cases h), callsIn_wide.2 ?_⟩
  · rw [← hW1, hrec]; exact run_enterLoop_outer _ _ _ _ _
  · simp only [resolve, hg]
    simp [go_sem]
  · simp [invoke, go_sem, eg]
  · have bd : ∀ {T : Nat → Prop} {A : World}, (∀ t, T t → t < A.heap.size) → (∀ t, T t → W1.heap.size ≤ t) → W1.heap.size ≤ A.heap.size → ∀ t, T0 T t → w.heap.size ≤ t ∧ t < A.heap.size := fun {T A} h1 h2 h3 t ht => by
      rcases m0.1 ht with ht | rfl | rfl
      · exact ⟨by have := h2 t ht; omega, h1 t ht⟩
      · omega
      · omega
    refine (hit (w.heap.size + 1)
      (fun T k W => I (T0 T) k W ∧ W.heap[w.heap.size + 1]? = some (.loop (rec .ready none)) ∧ W.heap[w.heap.size]? = some (.deferred (some [])) ∧ (∀ t, T t → W1.heap.size ≤ t ∧ t < W.heap.size) ∧ W1.heap.size ≤ W.heap.size)
      (fun T k W => k ≤ n ∧ ∃ c, Ix c (T0 T) k W ∧ W.heap[w.heap.size + 1]? = some (.loop (rec .done (some c))) ∧ W.heap[w.heap.size]? = some (.deferred (some [])) ∧ (∀ t, T t → W1.heap.size ≤ t ∧ t < W.heap.size) ∧ W1.heap.size ≤ W.heap.size)
      W1 hb1 ?_ ?_ ⟨?_, hL1, hK1, fun _ h => h.elim, Nat.le_refl _⟩).mono ?_
    · rintro T k A B ⟨hi, hl, hk, hT, hsz⟩ hlt ht
      have n1 : ¬ T (w.heap.size + 1) := fun h => by have := (hT _ h).1; omega
      have n0 : ¬ T w.heap.size := fun h => by have := (hT _ h).1; omega
      have hsz' := ht.size
      refine ⟨?_, (ht.block _ (by omega) n1).trans hl, (ht.block _ (by omega) n0).trans hk, ?_, by omega⟩
      · have h1 := hI (T0 T) k A B hi (bd hlt (fun t h => (hT t h).1) hsz) (ht.imp fun t h => m0.2 (.inl h))
        have e : more (T0 T) A B = T0 (more T A B) := by
          funext t
          refine propext ⟨fun h => ?_, fun h => ?_⟩
          · rcases h with h | h
            · rcases m0.1 h with h | h
              · exact m0.2 (.inl (.inl h))
              · exact m0.2 (.inr h)
            · exact m0.2 (.inl (.inr h))
          · rcases m0.1 h with (h | h) | h
            · exact .inl (m0.2 (.inl h))
            · exact .inr h
            · exact .inl (m0.2 (.inr h))
        rw [← e]
        exact h1
      · rintro t (h | h)
        · have := hT t h; omega
        · omega
    · rintro T k args A ⟨hi, hl, hk, hT, hsz⟩ hlen hT' he
      have hy := run_yield (P := P) (args := args) hl (by rw [hrec]; exact hps k args A he)
      rw [hrec] at hy
      have hbd := bd (T := T) (A := A) (fun t h => (hT t h).2) (fun t h => (hT t h).1) hsz
      refine ⟨fn, _, assign, body, hy, roundIn_of_wpIn trivial (hassign _ k args A _ he ⟨_, run_beginRound hl (by rw [hrec]), ?_⟩)⟩
      have hl2 : (A.putObj (w.heap.size + 1) (.loop { rec .ready none with state := .busy })).heap[w.heap.size + 1]? = some (.loop { rec .ready none with state := .busy }) := World.putObj_heap_same (by omega)
      have hk2 : (A.putObj (w.heap.size + 1) (.loop { rec .ready none with state := .busy })).heap[w.heap.size]? = some (.deferred (some [])) := (World.putObj_heap_other (by omega)).trans hk
      have hi2 : I (T0 T) k (A.putObj (w.heap.size + 1) (.loop { rec .ready none with state := .busy })) := hI' _ _ _ _ hi hbd (putObj_turn (m0.2 (.inr (.inr rfl)))) (by simp)
      obtain ⟨A2, hA2⟩ : ∃ A2, A.putObj (w.heap.size + 1) (.loop { rec .ready none with state := .busy }) = A2 := ⟨_, rfl⟩
      have hs2 : A2.heap.size = A.heap.size := by rw [← hA2]; simp
      have kp2 : ∀ t, (T t ∨ t < n0) → A2.heap[t]? = A.heap[t]? := fun t h => by
        rw [← hA2]
        refine World.putObj_heap_other ?_
        rcases h with h | h
        · have := (hT t h).1; omega
        · omega
      have he2 : E k args A2 := by rw [← hA2]; exact hE _ _ _ _ _ _ hl rfl he
      rw [hA2] at hl2 hk2 hi2 ⊢
      refine wpIn_mono (hbody _ (T0 T) k args A2 hi2 (fun t h => by rw [hs2]; exact hbd t h) hlen he2) ?_
      have fin : ∀ (jump : Option Code) (W3 : World), Keep (fun t => T0 T t ∨ t < n0) A2 W3 →
          (Instr.endRound (w.heap.size + 1) jump).run P W3 = .ok (.bool jump.isNone) (W3.putObj (w.heap.size + 1) (.loop (rec (if jump.isNone then .ready else .done) jump))) ∧
          (W3.putObj (w.heap.size + 1) (.loop (rec (if jump.isNone then .ready else .done) jump))).heap[w.heap.size + 1]? = some (.loop (rec (if jump.isNone then .ready else .done) jump)) ∧
          (W3.putObj (w.heap.size + 1) (.loop (rec (if jump.isNone then .ready else .done) jump))).heap[w.heap.size]? = some (.deferred (some [])) ∧
          (∀ t, T t → W1.heap.size ≤ t ∧ t < (W3.putObj (w.heap.size + 1) (.loop (rec (if jump.isNone then .ready else .done) jump))).heap.size) ∧ W1.heap.size ≤ (W3.putObj (w.heap.size + 1) (.loop (rec (if jump.isNone then .ready else .done) jump))).heap.size ∧
          (∀ t, T0 T t → w.heap.size ≤ t ∧ t < W3.heap.size) := fun jump W3 hk3 => by
        have hsz3 := hk3.size
        have hl3 := (hk3.block _ (.inl (m0.2 (.inr (.inr rfl))))).trans hl2
        have hd3 := (hk3.block _ (.inl (m0.2 (.inr (.inl rfl))))).trans hk2
        have := run_endRound (P := P) jump hl3
        rw [hrec] at this ⊢
        refine ⟨this, World.putObj_heap_same (by omega), (World.putObj_heap_other (by omega)).trans hd3, fun t h => ?_, by simp; omega, fun t h => ?_⟩
        · have := hT t h; simp; omega
        · have := hbd t h; omega
      rintro e a3 W3 hp
      cases e with
      | normal =>
        obtain ⟨hk3, hi3⟩ := hp
        obtain ⟨hr, hl4, hk4, hT4, hs4, hb4⟩ := fin none W3 hk3
        refine ⟨_, _, hr, .inl ⟨rfl, ⟨hI' _ _ _ _ hi3 hb4 (putObj_turn (m0.2 (.inr (.inr rfl)))) (by simp), hl4, hk4, hT4, hs4⟩, by simp; have := hk3.size; omega, fun t h => ?_⟩⟩
        have hne : t ≠ w.heap.size + 1 := by
          rcases h with h | h
          · have := (hT t h).1; omega
          · omega
        rw [World.putObj_heap_other hne, hk3.block t (h.imp (fun h => m0.2 (.inl h)) id), kp2 t h]
      | ret =>
        obtain ⟨hk3, hi3⟩ := hp
        obtain ⟨hr, hl4, hk4, hT4, hs4, hb4⟩ := fin (some .ret) W3 hk3
        exact ⟨_, _, hr, .inr ⟨rfl, by omega, .ret, hIx _ _ _ _ _ hi3 hb4 (putObj_turn (m0.2 (.inr (.inr rfl)))) (by simp), hl4, hk4, hT4, hs4⟩⟩
      | exit id =>
        obtain ⟨hk3, hi3⟩ := hp
        obtain ⟨hr, hl4, hk4, hT4, hs4, hb4⟩ := fin (some (.exit id)) W3 hk3
        exact ⟨_, _, hr, .inr ⟨rfl, by omega, .exit id, hIx _ _ _ _ _ hi3 hb4 (putObj_turn (m0.2 (.inr (.inr rfl)))) (by simp), hl4, hk4, hT4, hs4⟩⟩
      | goto t =>
        obtain ⟨hk3, hi3⟩ := hp
        obtain ⟨hr, hl4, hk4, hT4, hs4, hb4⟩ := fin (some (.goto t)) W3 hk3
        exact ⟨_, _, hr, .inr ⟨rfl, by omega, .goto t, hIx _ _ _ _ _ hi3 hb4 (putObj_turn (m0.2 (.inr (.inr rfl)))) (by simp), hl4, hk4, hT4, hs4⟩⟩
      | panic ch => exact hp.elim
      | outgrown => exact hp.elim
    · have e : T0 (fun _ => False) = fun t => t = w.heap.size ∨ t = w.heap.size + 1 := by
        funext t
        exact propext ⟨fun h => (m0.1 h).elim False.elim id, fun h => m0.2 (.inr h)⟩
      rw [e]
      exact h0 W1 hb1' fun t h1 h2 => by omega
    · rintro e W2 ⟨⟨v, rfl⟩, T, (⟨hi, hl, hk, hT, hsz⟩ | ⟨k, hkn, _, c, hi, hl, hk, hT, hsz⟩)⟩
      · have hbd := bd (T := T) (A := W2) (fun t h => (hT t h).2) (fun t h => (hT t h).1) hsz
        refine ⟨none, _, by have := run_endLoop (P := P) hl (by rw [hrec]; simp); rw [hrec] at this; exact this, ?_⟩
        exact hdone (T0 T) _ (hI' _ _ _ _ hi hbd (putObj_turn (m0.2 (.inr (.inr rfl)))) (by simp)) (m0.2 (.inr (.inl rfl))) (fun t h => by simp; exact hbd t h) ((World.putObj_heap_other (by omega)).trans hk)
      · have hbd := bd (T := T) (A := W2) (fun t h => (hT t h).2) (fun t h => (hT t h).1) hsz
        refine ⟨some c, _, by have := run_endLoop (P := P) hl (by rw [hrec]; simp); rw [hrec] at this; exact this, ?_⟩
        exact hstop (T0 T) c k _ hkn (hIx _ _ _ _ _ hi hbd (putObj_turn (m0.2 (.inr (.inr rfl)))) (by simp)) (m0.2 (.inr (.inl rfl))) (fun t h => by simp; exact hbd t h) ((World.putObj_heap_other (by omega)).trans hk)
theorem calls_of_marks {f : FuncId} {fn : Func} {c : Code} {args : Array Value} {w : World} {R : Ending → World → Prop}
    (hf : P.funcs[f]? = some fn) (hb : fn.body = some c) (h : c.wp P (bodyPostM .wide 0 P fn R) { tmps := args ++ Array.replicate (fn.ntmps - args.size) undef, defers := [] } w) : Calls P f args w R :=
  (callsIn_wide (n := 0)).1 (callsIn_of_wp_marks hf hb trivial ((wpIn_wide (n := 0)).2 h))
theorem leaves_mark {fn : Func} {tmps : Array Value} {R : Ending → World → Prop} {d : Nat} {w : World} {v : Value} (h : w.heap[d]? = some (.deferred (some []))) (hr : (results fn tmps).run P (w.putObj d (.deferred none)) = .ok v (w.putObj d (.deferred none)))
    (hR : R (.returned v) (w.putObj d (.deferred none))) : LeavesInM .wide 0 P fn tmps R [{ target := .collected d, args := #[] }] .returning w :=
  ⟨by simp, .inl ⟨_, _, rfl, run_takeDeferred h, _, hr, hR⟩⟩
end Go.Proofs.YtdkaoiomndkbjaaDoor.Ro

namespace Go.Proofs.YtdkaoiomndkbjaaDoor.Rw
open Go Go.RowKit
set_option maxRecDepth 20000
theorem ret_int {k : IntKind} {a b : Int} (h : a = b) : Ending.returned (.int k a) = .returned (.int k b) := congrArg (fun z => Ending.returned (.int k z)) h
theorem ret_bool {a b : Bool} (h : a = b) : Ending.returned (.bool a) = .returned (.bool b) := by rw [h]
def cl (x : Nd) : List Value := [.int .i64 x.k, .string x.n, .int .i64 x.s]
def cls : List Nd → List Value
  | [] => []
  | x :: l => cl x ++ cls l
theorem cls_len : ∀ l : List Nd, (cls l).length = l.length * 3
  | [] => rfl
  | x :: l => by rw [cls, List.length_append, cls_len l]; simp [cl]; omega
theorem cls_append : ∀ l m : List Nd, cls (l ++ m) = cls l ++ cls m
  | [], _ => rfl
  | x :: l, m => by rw [List.cons_append, cls, cls_append l m, cls, List.append_assoc]
theorem cls_at : ∀ (l : List Nd) (k : Nat) (h : k < l.length), (cls l)[k * 3]? = some (.int .i64 l[k].k) ∧ (cls l)[k * 3 + 1]? = some (.string l[k].n) ∧ (cls l)[k * 3 + 2]? = some (.int .i64 l[k].s)
  | [], k, h => by simp at h
  | x :: l, 0, _ => ⟨rfl, rfl, rfl⟩
  | x :: l, k + 1, h => by
    have := cls_at l k (by simpa using h)
    simpa [cls, cl, show (k + 1) * 3 = k * 3 + 1 + 1 + 1 by omega] using this
def Nds (w : World) (v : Value) (l : List Nd) : Prop := Ap.Rd w 3 v l.length (cls l)
theorem Nds.below {w w' : World} {v : Value} {l : List Nd} (h : Nds w v l) (hb : Below w.heap.size w w') : Nds w' v l := Ap.Rd.below h hb
def At (w : World) (b off : Nat) (l : List Nd) : Prop := ∀ k, (h : k < l.length) → w.cell? ⟨b, off + k * 3, none⟩ = some (.int .i64 l[k].k) ∧ w.cell? ⟨b, off + k * 3 + 1, none⟩ = some (.string l[k].n) ∧ w.cell? ⟨b, off + k * 3 + 2, none⟩ = some (.int .i64 l[k].s)
theorem Nds.form {w : World} {v : Value} {l : List Nd} (h : Nds w v l) :
    (l = [] ∧ ∃ a cap, v = .slice a 0 cap) ∨ ∃ b off cap, v = .slice (some ⟨b, off, none⟩) l.length cap ∧ l.length ≤ cap ∧ At w b off l := by
  obtain ⟨_, a, cap, rfl, hle, _, hcell⟩ := h
  by_cases h0 : 0 < l.length
  · obtain ⟨b, off, rfl, hj⟩ := hcell h0
    refine Or.inr ⟨b, off, cap, rfl, hle, fun k hk => ?_⟩
    obtain ⟨h1, h2, h3⟩ := cls_at l k hk
    exact ⟨hj _ _ h1, by rw [Nat.add_assoc]; exact hj _ _ h2, by rw [Nat.add_assoc]; exact hj _ _ h3⟩
  · have : l = [] := List.eq_nil_of_length_eq_zero (by omega)
    subst this
    exact Or.inl ⟨rfl, a, cap, rfl⟩
theorem cases15 (k : Int) : k = 1 ∨ k = 2 ∨ k = 3 ∨ k = 4 ∨ k = 5 ∨ k = 6 ∨ k = 7 ∨ k = 8 ∨ k = 9 ∨ k = 10 ∨ k = 11 ∨ k = 12 ∨ k = 13 ∨ k = 14 ∨ (k ≠ 1 ∧ k ≠ 2 ∧ k ≠ 3 ∧ k ≠ 4 ∧ k ≠ 5 ∧ k ≠ 6 ∧ k ≠ 7 ∧ k ≠ 8 ∧ k ≠ 9 ∧ k ≠ 10 ∧ k ≠ 11 ∧ k ≠ 12 ∧ k ≠ 13 ∧ k ≠ 14) := by omega
theorem ar_no {k : Int} (h : k ≠ 1 ∧ k ≠ 2 ∧ k ≠ 3 ∧ k ≠ 4 ∧ k ≠ 5 ∧ k ≠ 6 ∧ k ≠ 7 ∧ k ≠ 8 ∧ k ≠ 9 ∧ k ≠ 10 ∧ k ≠ 11 ∧ k ≠ 12 ∧ k ≠ 13 ∧ k ≠ 14) : ar k = -1 := by
  unfold ar
  rw [if_neg (by omega), if_neg (by omega), if_neg (by omega)]
set_option maxHeartbeats 1000000 in
theorem arR_any (k : Int) (w : World) : Calls Tryd.prog 47 #[.int .i64 k] w fun e w' => e = .returned (.int .i64 (ar k)) ∧ w = w' := by
  rcases cases15 k with rfl | rfl | rfl | rfl | rfl | rfl | rfl | rfl | rfl | rfl | rfl | rfl | rfl | rfl | h
  case inr.inr.inr.inr.inr.inr.inr.inr.inr.inr.inr.inr.inr.inr =>
    have hr := Lib.hid (ar_no h)
    obtain ⟨h1, h2, h3, h4, h5, h6, h7, h8, h9, h10, h11, h12, h13, h14⟩ := h
    have b1 : (k == 1) = false := by simp [h1]
    have b2 : (k == 2) = false := by simp [h2]
    have b3 : (k == 3) = false := by simp [h3]
    have b4 : (k == 4) = false := by simp [h4]
    have b5 : (k == 5) = false := by simp [h5]
    have b6 : (k == 6) = false := by simp [h6]
    have b7 : (k == 7) = false := by simp [h7]
    have b8 : (k == 8) = false := by simp [h8]
    have b9 : (k == 9) = false := by simp [h9]
    have b10 : (k == 10) = false := by simp [h10]
    have b11 : (k == 11) = false := by simp [h11]
    have b12 : (k == 12) = false := by simp [h12]
    have b13 : (k == 13) = false := by simp [h13]
    have b14 : (k == 14) = false := by simp [h14]
    clear h1 h2 h3 h4 h5 h6 h7 h8 h9 h10 h11 h12 h13 h14
    go_enter Tryd.func47, Tryd.ntmps47
    go_wp2_with fail
    go_ret
    exact ⟨ret_int hr.out.symm, rfl⟩
  all_goals
    go_enter Tryd.func47, Tryd.ntmps47
    go_wp2_with fail
    go_ret
    exact ⟨rfl, rfl⟩
def nx (i : Nat) : Option (Nat × Nat) → Int
  | none => -1
  | some (c, _) => i + c
def dp : Option (Nat × Nat) → Int
  | none => 0
  | some (_, d) => d
def WalkPost (i : Nat) (r : Option (Nat × Nat)) (w : World) (e : Ending) (w' : World) : Prop := e = .returned (.tuple #[.int .i64 (nx i r), .int .i64 (dp r)]) ∧ w = w'
theorem T_at {l : List Nd} {i : Nat} (h : i < l.length) (hk : ¬ ar l[i].k < 0) : T (l.drop i) = match S (ar l[i].k).toNat (l.drop (i + 1)) with
    | none => none
    | some (c, d) => some (c + 1, d + 1) := by
  rw [List.drop_eq_getElem_cons h, T_cons, if_neg hk]
  rfl
theorem T_no {l : List Nd} {i : Nat} (h : i < l.length) (hk : ar l[i].k < 0) : T (l.drop i) = none := by
  rw [List.drop_eq_getElem_cons h, T_cons, if_pos hk]
def Far (l : List Nd) (i k p d : Nat) : Prop := ∃ c, S k (l.drop (i + 1)) = some (c, d) ∧ p = i + 1 + c
theorem Far.start (l : List Nd) (i : Nat) : Far l i 0 (i + 1) 0 := ⟨0, S_zero _, rfl⟩
theorem Far.le {l : List Nd} {i k p d : Nat} (h : Far l i k p d) (hi : i < l.length) : p ≤ l.length ∧ i < p ∧ d ≤ l.length := by
  obtain ⟨c, hs, rfl⟩ := h
  have := S_bd hs
  rw [List.length_drop] at this
  omega
theorem Far.stop {l : List Nd} {i k p d : Nat} (h : Far l i k p d) (ht : T (l.drop p) = none) : S (k + 1) (l.drop (i + 1)) = none := by
  obtain ⟨c, hs, rfl⟩ := h
  rw [S_succ, hs]
  simp only [List.drop_drop]
  rw [ht]
theorem Far.next {l : List Nd} {i k p d c' d' : Nat} (h : Far l i k p d) (ht : T (l.drop p) = some (c', d')) : Far l i (k + 1) (p + c') (max d d') := by
  obtain ⟨c, hs, rfl⟩ := h
  refine ⟨c + c', ?_, by omega⟩
  rw [S_succ, hs]
  simp only [List.drop_drop]
  rw [ht]
theorem Far.done {l : List Nd} {i k p d : Nat} (h : Far l i k p d) (hi : i < l.length) (hk : ¬ ar l[i].k < 0) (hx : k = (ar l[i].k).toNat) : nx i (T (l.drop i)) = p ∧ dp (T (l.drop i)) = d + 1 := by
  obtain ⟨c, hs, rfl⟩ := h
  rw [T_at hi hk, ← hx, hs]
  simp only [nx, dp]
  omega
theorem walk_none {l : List Nd} {i k : Nat} (h : i < l.length) (hk : ¬ ar l[i].k < 0) (hlt : (k : Int) < ar l[i].k) (hs : S (k + 1) (l.drop (i + 1)) = none) : T (l.drop i) = none := by
  have := S_none hs ((ar l[i].k).toNat - (k + 1))
  rw [show k + 1 + ((ar l[i].k).toNat - (k + 1)) = (ar l[i].k).toNat by omega] at this
  rw [T_at h hk, this]
set_option maxHeartbeats 2000000 in
theorem walk_out (a : Option Addr) (n cap i : Nat) (w : World) (h : n ≤ i) :
    Calls Tryd.prog 34 #[.slice a n cap, .int .i64 i] w (WalkPost i none w) := by
  have g0 : decide ((i : Int) ≥ (n : Int)) = true := by simp; omega
  have g1 : decide ((n : Int) ≤ (i : Int)) = true := by simp; omega
  go_enter Tryd.func34, Tryd.ntmps34
  go_wp2_with fail
  go_ret2
  exact ⟨rfl, rfl⟩
set_option maxHeartbeats 4000000 in
theorem walk_cells (b off cap : Nat) (l : List Nd) (hl : l.length ≤ 1000000) : ∀ (m i : Nat) (w : World), l.length - i ≤ m → i ≤ l.length → At w b off l →
    Calls Tryd.prog 34 #[.slice (some ⟨b, off, none⟩) l.length cap, .int .i64 i] w (WalkPost i (T (l.drop i)) w) := by
  intro m
  induction m with
  | zero =>
    intro i w hm hi _
    rw [List.drop_eq_nil_of_le (by omega), T_nil]
    exact walk_out _ _ _ _ _ (by omega)
  | succ m ih =>
    intro i w hm hi hat
    by_cases hlt : i < l.length
    case neg =>
      rw [List.drop_eq_nil_of_le (by omega), T_nil]
      exact walk_out _ _ _ _ _ (by omega)
    have IH := Lib.hid ih
    have HA := Lib.hid hat
    have hc := (hat i hlt).1
    clear ih hat
    have g1 : decide (l.length ≤ i) = false := by simp; omega
    by_cases hk : ar l[i].k < 0
    · have HT := Lib.hid (T_no hlt hk)
      have hbd := ar_le l[i].k
      obtain ⟨kk, hkk⟩ : ∃ kk, l[i].k = kk := ⟨_, rfl⟩
      rw [hkk] at hc hk hbd
      obtain ⟨x, hx⟩ : ∃ x, ar kk = x := ⟨_, rfl⟩
      rw [hx] at hk hbd
      have HX := Lib.hid hx
      clear hkk hx
      go_enter Tryd.func34, Tryd.ntmps34
      go_wp2_with fail
      refine (arR_any _ _).mono ?_
      rw [HX.out]
      rintro e w' ⟨rfl, rfl⟩
      go_wp2_with fail
      go_ret2
      rw [HT.out]
      exact ⟨rfl, rfl⟩
    · have HT := Lib.hid (T_at hlt hk)
      have HN := Lib.hid (fun k => walk_none (k := k) hlt hk)
      have HK := Lib.hid hk
      have hbd := ar_le l[i].k
      obtain ⟨kk, hkk⟩ : ∃ kk, l[i].k = kk := ⟨_, rfl⟩
      rw [hkk] at hc hk hbd HT HN
      obtain ⟨x, hx⟩ : ∃ x, ar kk = x := ⟨_, rfl⟩
      rw [hx] at hk hbd HT HN
      have HX := Lib.hid hx
      have HKK : Hid (ar l[i].k = x) := by rw [hkk]; exact hx
      have g2 : decide (x < 0) = false := by simpa using hk
      clear hkk hx
      go_enter Tryd.func34, Tryd.ntmps34
      go_wp2_with fail
      refine (arR_any _ _).mono ?_
      rw [HX.out]
      rintro e w' ⟨rfl, rfl⟩
      go_wp2_with fail
      go_loop [6, 7, 8] (fun n d k => ∃ (kk p dd : Nat), (kk : Int) ≤ x ∧ p ≤ l.length ∧ dd ≤ l.length ∧ i < p ∧ Hid (Far l i kk p dd) ∧ n = .int .i64 p ∧ d = .int .i64 dd ∧ k = .int .i64 kk) (fun _ _ k => (x - intOf k).toNat)
      case atStart => exact ⟨0, i + 1, 0, by omega, by omega, by omega, by omega, Lib.hid (Far.start l i), by go_num, rfl, rfl⟩
      case round =>
        obtain ⟨k, p, d, hkx, hp, hd, hip, HF, rfl, rfl, rfl⟩ := hrel
        by_cases hkl : (k : Int) < x
        · cases ht : T (l.drop p) with
          | none =>
            have HZ := Lib.hid (HN.out k hkl (HF.out.stop ht))
            have HT' := Lib.hid ht
            clear ht
            go_wp2_with fail
            refine (arR_any _ _).mono ?_
            rw [HX.out]
            rintro e w' ⟨rfl, rfl⟩
            go_wp2_with fail
            refine (IH.out p _ (by omega) hp HA.out).mono ?_
            rw [HT'.out]
            rintro e w' ⟨rfl, rfl⟩
            go_wp2_with fail
            go_ret2
            rw [HZ.out]
            exact ⟨rfl, rfl⟩
          | some y =>
            obtain ⟨c', d'⟩ := y
            have HF' := Lib.hid (HF.out.next ht)
            have hq' := HF'.out.le hlt
            have HT' := Lib.hid ht
            have hb' := T_bd ht
            rw [List.length_drop] at hb'
            clear ht
            obtain ⟨q, hq⟩ : ∃ q, p + c' = q := ⟨_, rfl⟩
            have hnx : nx p (some (c', d')) = (q : Int) := by simp only [nx]; omega
            have hdp : dp (some (c', d')) = (d' : Int) := rfl
            have HQ : Hid (WalkPost p (some (c', d')) = fun w e w' => e = .returned (.tuple #[.int .i64 (q : Int), .int .i64 (d' : Int)]) ∧ w = w') := by
              funext w e w'
              unfold WalkPost
              rw [hnx, hdp]
            rw [hq] at HF' hq'
            clear hnx hdp
            have g2 : decide ((q : Int) < 0) = false := by simp
            by_cases hdd : d < d'
            · have hmx : max d d' = d' := Nat.max_eq_right (by omega)
              rw [hmx] at HF' hq'
              clear hmx hq
              go_wp2_with fail
              refine (arR_any _ _).mono ?_
              rw [HX.out]
              rintro e w' ⟨rfl, rfl⟩
              go_wp2_with fail
              refine (IH.out p _ (by omega) hp HA.out).mono ?_
              rw [HT'.out, HQ.out]
              rintro e w' ⟨rfl, rfl⟩
              go_wp2_with fail
              go_round
              case rel => exact ⟨k + 1, q, d', by omega, by omega, by omega, by omega, HF', rfl, rfl, by go_num⟩
              case measure => simp [intOf]; omega
            · have hmx : max d d' = d := Nat.max_eq_left (by omega)
              rw [hmx] at HF' hq'
              clear hmx hq
              go_wp2_with fail
              refine (arR_any _ _).mono ?_
              rw [HX.out]
              rintro e w' ⟨rfl, rfl⟩
              go_wp2_with fail
              refine (IH.out p _ (by omega) hp HA.out).mono ?_
              rw [HT'.out, HQ.out]
              rintro e w' ⟨rfl, rfl⟩
              go_wp2_with fail
              go_round
              case rel => exact ⟨k + 1, q, d, by omega, by omega, by omega, by omega, HF', rfl, rfl, by go_num⟩
              case measure => simp [intOf]; omega
        · have HD := Lib.hid (HF.out.done hlt (by have := HK.out; omega) (by rw [HKK.out]; omega))
          go_wp2_with fail
          refine (arR_any _ _).mono ?_
          rw [HX.out]
          rintro e w' ⟨rfl, rfl⟩
          go_wp2_with fail
          go_ret2
          exact ⟨by rw [HD.out.1, HD.out.2]; rfl, rfl⟩
theorem walk_any (v : Value) (l : List Nd) (i : Nat) (w : World) (h : Nds w v l) (hl : l.length ≤ 1000000) (hi : i ≤ l.length) :
    Calls Tryd.prog 34 #[v, .int .i64 i] w (WalkPost i (T (l.drop i)) w) := by
  rcases h.form with ⟨rfl, a, cap, rfl⟩ | ⟨b, off, cap, rfl, _, hat⟩
  · rw [List.drop_nil, T_nil]
    exact walk_out _ _ _ _ _ (Nat.zero_le _)
  · exact walk_cells b off cap l hl _ i w (Nat.le_refl _) hi hat
end Go.Proofs.YtdkaoiomndkbjaaDoor.Rw

namespace Go.Proofs.YtdkaoiomndkbjaaDoor.Mn
open Go Tr
structure Pr where
  p : Tr
  q : Tr
def pcmp (x y : Pr) : Int := if cmp x.p y.p = 0 then cmp x.q y.q else cmp x.p y.p
theorem pcmp_bd (x y : Pr) : -1 ≤ pcmp x y ∧ pcmp x y ≤ 1 := by
  have h1 := cmp_bd x.p y.p
  have h2 := cmp_bd x.q y.q
  unfold pcmp
  split <;> omega
def PUp (l : List Pr) : Prop := l.Pairwise fun p q => pcmp p q < 0
def pins (t : Pr) : List Pr → List Pr
  | [] => [t]
  | p :: l => if pcmp t p < 0 then t :: p :: l else if 0 < pcmp t p then p :: pins t l else p :: l
def pnorm : List Pr → List Pr
  | [] => []
  | t :: l => pins t (pnorm l)
theorem plength_ins (t : Pr) : ∀ l : List Pr, (pins t l).length ≤ l.length + 1
  | [] => by simp [pins]
  | p :: l => by
    unfold pins
    split
    · simp
    · split
      · simp; exact plength_ins t l
      · simp
theorem plength_norm : ∀ l : List Pr, (pnorm l).length ≤ l.length
  | [] => Nat.le_refl _
  | t :: l => by have := plength_ins t (pnorm l); have := plength_norm l; simp [pnorm]; omega
end Go.Proofs.YtdkaoiomndkbjaaDoor.Mn

namespace Go.Proofs.YtdkaoiomndkbjaaDoor.Tr
open Go Go.RowKit
set_option maxRecDepth 20000
def Strs (w : World) (v : Value) (l : List ByteArray) : Prop := Ap.Rd w 1 v l.length (l.map .string)
theorem ret_int {k : IntKind} {a b : Int} (h : a = b) : Ending.returned (.int k a) = .returned (.int k b) := congrArg (fun z => Ending.returned (.int k z)) h
theorem ret_bool {a b : Bool} (h : a = b) : Ending.returned (.bool a) = .returned (.bool b) := by rw [h]
end Go.Proofs.YtdkaoiomndkbjaaDoor.Tr

namespace Go.Proofs.YtdkaoiomndkbjaaDoor.Sg
open Go Go.RowKit
set_option maxRecDepth 20000
def cells : Array Value := #[.string ⟨#[]⟩, .string ⟨#[111, 107]⟩, .string ⟨#[33]⟩, .string ⟨#[63]⟩]
theorem ret_int {k : IntKind} {a b : Int} (h : a = b) : Ending.returned (.int k a) = .returned (.int k b) := congrArg (fun z => Ending.returned (.int k z)) h
theorem ret_bool {a b : Bool} (h : a = b) : Ending.returned (.bool a) = .returned (.bool b) := by rw [h]
set_option maxHeartbeats 400000 in
theorem is_any (s : Int) (w : World) :
    Calls Tryd.prog 98 #[.int .i64 s] w fun e w' => e = .returned (.bool (isB s)) ∧ w = w' := by
  rcases cases4 s with rfl | rfl | rfl | ⟨h1, h2, h3⟩
  · go_enter Tryd.func98, Tryd.ntmps98
    go_wp2
    go_ret
    exact ⟨rfl, rfl⟩
  · go_enter Tryd.func98, Tryd.ntmps98
    go_wp2
    go_ret
    exact ⟨rfl, rfl⟩
  · go_enter Tryd.func98, Tryd.ntmps98
    go_wp2
    go_ret
    exact ⟨rfl, rfl⟩
  · have b1 : (s == 1) = false := by simp [h1]
    have b2 : (s == 2) = false := by simp [h2]
    have b3 : (s == 3) = false := by simp [h3]
    go_enter Tryd.func98, Tryd.ntmps98
    go_wp2
    go_ret
    exact ⟨ret_bool (isB_no ⟨h1, h2, h3⟩).symm, rfl⟩
set_option maxHeartbeats 1000000 in
theorem both_any (a b : Int) (w : World) :
    Calls Tryd.prog 93 #[.int .i64 a, .int .i64 b] w fun e w' => e = .returned (.int .i64 (both a b)) ∧ w = w' := by
  by_cases hb : isB b = false
  · have hB := Lib.hid (both_no_r (a := a) hb)
    rcases cases4 a with rfl | rfl | rfl | ha
    all_goals (try have ha' := isB_no ha)
    all_goals go_enter Tryd.func93, Tryd.ntmps93
    all_goals go_wp2_with (go_at_call 98; refine (is_any _ _).mono ?_; rintro e w' ⟨rfl, rfl⟩)
    all_goals go_ret
    all_goals exact ⟨ret_int hB.out.symm, rfl⟩
  · rcases isB_yes (by simpa using hb) with rfl | rfl | rfl
    all_goals (rcases cases4 a with rfl | rfl | rfl | ha)
    all_goals (try have ha' := isB_no ha)
    all_goals clear hb
    all_goals go_enter Tryd.func93, Tryd.ntmps93
    all_goals go_wp2_with (go_at_call 98; refine (is_any _ _).mono ?_; rintro e w' ⟨rfl, rfl⟩)
    all_goals go_ret
    all_goals first | exact ⟨rfl, rfl⟩ | exact ⟨ret_int (both_no_l ha').symm, rfl⟩
end Go.Proofs.YtdkaoiomndkbjaaDoor.Sg

namespace Go.Proofs.YtdkaoiomndkbjaaDoor.Tr
open Go Go.RowKit
set_option maxRecDepth 20000
def sub : List ByteArray → List ByteArray → Bool
  | [], _ => true
  | _ :: _, [] => false
  | x :: a, y :: b => if x = y then sub a b else sub (x :: a) b
end Go.Proofs.YtdkaoiomndkbjaaDoor.Tr
