/- Slices as rows of cells, and what append does to a slice whose room is used up: plain laws over any program. -/
import Derived.WalkKit
import Derived.ArgAppend
import Derived.Deep.AppendSrc
import Derived.Deep.Upon
import Derived.Maps.AppendAt
namespace Go.Proofs.Ytgdhgicofobebaa.Ap
open Go Go.RowKit

/-- A slice value whose n elements are these cells. -/
def Rd (w : World) (size : Nat) (v : Value) (n : Nat) (cs : List Value) : Prop :=
  cs.length = n * size ∧ ∃ a cap, v = .slice a n cap ∧ n ≤ cap ∧ (a = none → n = 0 ∧ cap = 0) ∧
    (0 < n → ∃ b off, a = some ⟨b, off, none⟩ ∧ ∀ j u, cs[j]? = some u → w.cell? ⟨b, off + j, none⟩ = some u)

theorem cell_lt {w : World} {p : Addr} {u : Value} (h : w.cell? p = some u) : p.block < w.heap.size :=
  Nat.lt_of_not_le fun hle => by
    simp only [World.cell?] at h
    rw [Array.getElem?_eq_none hle] at h
    cases h

theorem Rd.below {w w' : World} {size n : Nat} {v : Value} {cs : List Value} (h : Rd w size v n cs) (hb : Below w.heap.size w w') : Rd w' size v n cs := by
  obtain ⟨hl, a, cap, hv, hc, hn, hcell⟩ := h
  refine ⟨hl, a, cap, hv, hc, hn, fun h0 => ?_⟩
  obtain ⟨b, off, ha, hj⟩ := hcell h0
  refine ⟨b, off, ha, fun j u hu => ?_⟩
  have := hj j u hu
  rw [hb.cell (cell_lt this)]
  exact this

/-- What the call itself made, or has grown, is such a row. -/
theorem Rd.owned {w : World} {base size n : Nat} {e : TypeId} {v : Value} {cs : List Value} (h : w.ownsRow base e size v n cs) : Rd w size v n cs := by
  obtain ⟨hl, ⟨rfl, rfl⟩ | ⟨g, cap, cur, rfl, _, hg, hnc, _, hcs, ht⟩⟩ := h
  · exact ⟨hl, none, 0, rfl, Nat.le_refl _, fun _ => ⟨rfl, rfl⟩, fun h => absurd h (by omega)⟩
  · refine ⟨hl, some ⟨g, 0, none⟩, cap, rfl, hnc, fun h => (by cases h), fun _ => ⟨g, 0, rfl, fun j u hu => ?_⟩⟩
    have hj : j < n * size := by
      rw [← hl]
      exact (List.getElem?_eq_some_iff.1 hu).1
    rw [← ht, List.getElem?_take_of_lt hj] at hu
    simp only [World.cell?, hg, Nat.zero_add]
    simpa using hu

/-- One cell of a row that is read. -/
theorem Rd.src {P : Program} {w : World} {size n : Nat} {t e : TypeId} {v : Value} {cs : List Value} (ht : P.underlying t = some (.slice e)) (h : Rd w size v n cs) (h1 : ∀ u ∈ cs, u.oneCell' = true) :
    Src P size t v n cs w := by
  obtain ⟨hl, a, cap, rfl, hc, hn, hcell⟩ := h
  cases a with
  | none =>
    obtain ⟨rfl, rfl⟩ := hn rfl
    obtain rfl : cs = [] := List.eq_nil_of_length_eq_zero (by simpa using hl)
    exact Src.ofNil w ht 0
  | some ad =>
    refine Src.ofSlice w ht ad n cap cs hl (fun j u hu => ?_) h1
    by_cases h0 : 0 < n
    · obtain ⟨b, off, ha, hj⟩ := hcell h0
      cases ha
      rw [Addr.add_lit]
      exact hj j u hu
    · obtain rfl : n = 0 := by omega
      obtain rfl : cs = [] := List.eq_nil_of_length_eq_zero (by simpa using hl)
      cases hu

/-- append onto a slice whose room is used up: what it held and what is appended, in a row of its own or, where nothing is appended, as it was; nothing that was there is changed. -/
theorem run_append_full {P : Program} {w : World} {t ty e : TypeId} {i : TypeInfo} {z : Value} {size bytes : Nat} (ht : P.underlying t = some (.slice e)) (hi : P.info? e = some i) (hz : i.zero = some z)
    (hsize : i.size = size) (hby : i.bytes = bytes) (hzs : z.cells.size = size) (hsz : 0 < size) {a : Option Addr} {n m : Nat} {x : Value} {cs ds : List Value} (hs : Rd w size (.slice a n n) n cs) (hx : Rd w size x m ds) (h1 : ∀ u ∈ ds, u.oneCell' = true)
    (h63 : n + m ≤ maxLen) (hbytes : (n + m) * bytes ≤ 140737488355328) :
    ∃ v' w', (Builtin.append_ #[t, t] ty #[.slice a n n, x]).run P w = .ok v' w' ∧ Rd w' size v' (n + m) (cs ++ ds) ∧ Below w.heap.size w w' := by
  by_cases h0 : m = 0
  · subst h0
    obtain rfl : ds = [] := List.eq_nil_of_length_eq_zero (by simpa using hx.1)
    exact ⟨_, _, run_append_nothing w t t ty e i ht hi a n n (Nat.le_refl _) x (by rw [hsize]; exact hx.src ht h1), by simpa using hs, Below.refl _ _⟩
  · obtain ⟨hl, a1, c1, rfl, hc, hn, hcell⟩ := hx
    obtain ⟨b1, o1, rfl, hj⟩ := hcell (by omega)
    have hj' : ∀ j u, ds[j]? = some u → w.cell? (Addr.add ⟨b1, o1, none⟩ j) = some u := fun j u hu => by rw [Addr.add_lit]; exact hj j u hu
    cases a with
    | none =>
      obtain ⟨hl0, a', cap', hv, hc', hn', _⟩ := hs
      cases hv
      obtain ⟨rfl, _⟩ := hn' rfl
      obtain rfl : cs = [] := List.eq_nil_of_length_eq_zero (by simpa using hl0)
      obtain ⟨v', w', hrun, hown, hg, _⟩ := run_append_own (P := P) w w.heap.size t ty e i z size bytes ht hi hz hsize hby hzs hsz (.slice none 0 0) 0 [] ⟨by simp, .inl ⟨rfl, rfl⟩⟩ ⟨b1, o1, none⟩ m c1 ds hl hj' h1 h63 hbytes (Nat.le_refl _)
      exact ⟨v', w', hrun, Rd.owned hown, (Below.refl _ _).grown hg (Nat.le_refl _) (fun k hk => by cases hk)⟩
    | some ad =>
      obtain ⟨hl0, a', cap', hv, hc', hn', hcell0⟩ := hs
      cases hv
      have holds : ∀ j u, cs[j]? = some u → w.cell? (ad.add j) = some u := fun j u hu => by
        by_cases h00 : 0 < n
        · obtain ⟨b, off, ha, hj0⟩ := hcell0 h00
          cases ha
          rw [Addr.add_lit]
          exact hj0 j u hu
        · obtain rfl : n = 0 := by omega
          obtain rfl : cs = [] := List.eq_nil_of_length_eq_zero (by simpa using hl0)
          cases hu
      obtain ⟨v', w', hrun, hown, hg⟩ := run_append_arg_grows (P := P) w t ty e i z size bytes ht hi hz hsize hby hzs hsz ad n n cs hl0 holds ⟨b1, o1, none⟩ m c1 ds hl hj' (by omega) h63 hbytes
      exact ⟨v', w', hrun, Rd.owned hown, (Below.refl _ _).grown hg (Nat.le_refl _) (fun k hk => by cases hk)⟩

/-- What the call owns stays so where nothing that was there is changed. -/
theorem own_below {w w' : World} {base size n : Nat} {e : TypeId} {v : Value} {xs : List Value} (h : w.ownsRow base e size v n xs) (hb : Below w.heap.size w w') : w'.ownsRow base e size v n xs := by
  obtain ⟨hl, h | ⟨g, cap, cur, hv, hg, hh, h1, h2, h3, h4⟩⟩ := h
  · exact ⟨hl, .inl h⟩
  · refine ⟨hl, .inr ⟨g, cap, cur, hv, hg, ?_, h1, h2, h3, h4⟩⟩
    rw [hb.block g]
    · exact hh
    · exact Nat.lt_of_not_le fun hle => by
        rw [Array.getElem?_eq_none hle] at hh
        cases hh

theorem own_base {w : World} {base base' size n : Nat} {e : TypeId} {v : Value} {xs : List Value} (h : w.ownsRow base e size v n xs) (hb : base' ≤ base) : w.ownsRow base' e size v n xs := by
  obtain ⟨hl, h | ⟨g, cap, cur, hv, hg, hr⟩⟩ := h
  · exact ⟨hl, .inl h⟩
  · exact ⟨hl, .inr ⟨g, cap, cur, hv, Nat.le_trans hb hg, hr⟩⟩

/-- The row lies where it lay, or in a new block. -/
def Fresh (w : World) (v v' : Value) : Prop := v'.ownBlock = v.ownBlock ∨ ∃ k, v'.ownBlock = some k ∧ w.heap.size ≤ k

/-- A slice value whose n elements are these cells, in a block that is as ok says. -/
def RdO (ok : Nat → Prop) (w : World) (size : Nat) (v : Value) (n : Nat) (cs : List Value) : Prop :=
  cs.length = n * size ∧ ∃ a cap, v = .slice a n cap ∧ n ≤ cap ∧ (a = none → n = 0 ∧ cap = 0) ∧
    (0 < n → ∃ b off, a = some ⟨b, off, none⟩ ∧ ok b ∧ b < w.heap.size ∧ ∀ j u, cs[j]? = some u → w.cell? ⟨b, off + j, none⟩ = some u)

theorem RdO.rd {ok : Nat → Prop} {w : World} {size n : Nat} {v : Value} {cs : List Value} (h : RdO ok w size v n cs) : Rd w size v n cs := by
  obtain ⟨hl, a, cap, hv, hc, hn, hcell⟩ := h
  refine ⟨hl, a, cap, hv, hc, hn, fun h0 => ?_⟩
  obtain ⟨b, off, ha, _, _, hj⟩ := hcell h0
  exact ⟨b, off, ha, hj⟩
theorem RdO.imp {ok ok' : Nat → Prop} {w : World} {size n : Nat} {v : Value} {cs : List Value} (h : RdO ok w size v n cs) (hi : ∀ b, b < w.heap.size → ok b → ok' b) : RdO ok' w size v n cs := by
  obtain ⟨hl, a, cap, hv, hc, hn, hcell⟩ := h
  refine ⟨hl, a, cap, hv, hc, hn, fun h0 => ?_⟩
  obtain ⟨b, off, ha, ho, hb, hj⟩ := hcell h0
  exact ⟨b, off, ha, hi b hb ho, hb, hj⟩
theorem RdO.below {ok : Nat → Prop} {w w' : World} {size n : Nat} {v : Value} {cs : List Value} (h : RdO ok w size v n cs) (hb : Below w.heap.size w w') : RdO ok w' size v n cs := by
  obtain ⟨hl, a, cap, hv, hc, hn, hcell⟩ := h
  refine ⟨hl, a, cap, hv, hc, hn, fun h0 => ?_⟩
  obtain ⟨b, off, ha, hne, hlt, hj⟩ := hcell h0
  exact ⟨b, off, ha, hne, Nat.lt_of_lt_of_le hlt hb.size, fun j u hu => by rw [hb.cell (p := ⟨b, off + j, none⟩) hlt]; exact hj j u hu⟩
theorem RdO.grow {ok : Nat → Prop} {w w' : World} {v v' x : Value} {size n : Nat} {cs : List Value} (h : RdO (fun b => ok b ∧ some b ≠ v.ownBlock) w size x n cs) (hg : w.grownBy w' v.ownBlock) (hf : Fresh w v v') :
    RdO (fun b => ok b ∧ some b ≠ v'.ownBlock) w' size x n cs := by
  obtain ⟨hl, a, cap, hv, hc, hn, hcell⟩ := h
  refine ⟨hl, a, cap, hv, hc, hn, fun h0 => ?_⟩
  obtain ⟨b, off, ha, hne, hlt, hj⟩ := hcell h0
  refine ⟨b, off, ha, ⟨hne.1, ?_⟩, Nat.lt_of_lt_of_le hlt hg.size, fun j u hu => by rw [World.cell?_of_block (w := w) (a := ⟨b, off + j, none⟩) (hg.block b hlt hne.2)]; exact hj j u hu⟩
  rcases hf with hf | ⟨k, hk, hlk⟩
  · rw [hf]; exact hne.2
  · rw [hk]
    intro e
    cases e
    omega
theorem RdO.fresh {w : World} {base size n : Nat} {e : TypeId} {v : Value} {cs : List Value} (h : w.ownsRow base e size v n cs) : RdO (fun b => base ≤ b) w size v n cs := by
  obtain ⟨hl, ⟨rfl, rfl⟩ | ⟨g', cap, cur, rfl, hb, hh, hnc, hcm, hcs, ht⟩⟩ := h
  · exact ⟨hl, none, 0, rfl, Nat.le_refl _, fun _ => ⟨rfl, rfl⟩, fun h => absurd h (by omega)⟩
  · refine ⟨hl, some ⟨g', 0, none⟩, cap, rfl, hnc, fun h => (by cases h), fun _ => ⟨g', 0, rfl, hb, ?_, fun j u hu => ?_⟩⟩
    · exact Nat.lt_of_not_le fun hle => by
        rw [Array.getElem?_eq_none hle] at hh
        cases hh
    · have hj : j < n * size := by
        rw [← hl]
        exact (List.getElem?_eq_some_iff.1 hu).1
      rw [← ht, List.getElem?_take_of_lt hj] at hu
      simp only [World.cell?, hh, Nat.zero_add]
      simpa using hu
/-- Whatever lies somewhere lies below the heap's size. -/
theorem RdO.of {w : World} {size n : Nat} {v : Value} {cs : List Value} (hs : 0 < size) (h : Rd w size v n cs) : RdO (fun _ => True) w size v n cs := by
  obtain ⟨hl, a, cap, hv, hc, hn, hcell⟩ := h
  refine ⟨hl, a, cap, hv, hc, hn, fun h0 => ?_⟩
  obtain ⟨b, off, ha, hj⟩ := hcell h0
  have hpos : 0 < cs.length := by rw [hl]; exact Nat.mul_pos h0 hs
  exact ⟨b, off, ha, trivial, cell_lt (hj 0 _ (List.getElem?_eq_getElem hpos)), hj⟩
theorem own_lt {w : World} {base size n : Nat} {e : TypeId} {v : Value} {xs : List Value} (h : w.ownsRow base e size v n xs) : ∀ k, v.ownBlock = some k → k < w.heap.size := by
  obtain ⟨hl, ⟨rfl, _⟩ | ⟨g, cap, cur, rfl, hg, hh, _⟩⟩ := h
  · intro k hk; cases hk
  · intro k hk
    cases hk
    exact Nat.lt_of_not_le fun hle => by
      rw [Array.getElem?_eq_none hle] at hh
      cases hh

/-- append of one element, given by itself, onto a row that the call owns. -/
theorem run_append_one {P : Program} {w : World} {t ty e : TypeId} {i : TypeInfo} {z : Value} {size bytes : Nat} (ht : P.underlying t = some (.slice e)) (hi : P.info? e = some i) (hz : i.zero = some z)
    (hsize : i.size = size) (hby : i.bytes = bytes) (hzs : z.cells.size = size) (hsz : 0 < size) {base n : Nat} {v : Value} {xs : List Value} (hown : w.ownsRow base e size v n xs) (hbase : base ≤ w.heap.size)
    (cs : Array Value) (hcs : cs.size = size) (h1 : ∀ u ∈ cs.toList, u.oneCell' = true) (h63 : n + 1 ≤ maxLen) (hbytes : (n + 1) * bytes ≤ 140737488355328) :
    ∃ v' w', (Builtin.append_ #[t, t] ty #[v, .slice (some ⟨w.heap.size, 0, none⟩) 1 1]).run P (w.alloc (.cells cs e)) = .ok v' w' ∧ w'.ownsRow base e size v' (n + 1) (xs ++ cs.toList) ∧ w.grownBy w' v.ownBlock ∧ Below base w w' ∧ Fresh w v v' := by
  have hown' : (w.alloc (.cells cs e)).ownsRow base e size v n xs := own_below hown ((Below.refl _ _).alloc (Nat.le_refl _) _)
  obtain ⟨v', w', hrun, h2, h3, _, h5⟩ := run_append_own_at (P := P) (w.alloc (.cells cs e)) base t ty e i z size bytes ht hi hz hsize hby hzs hsz v n xs hown' ⟨w.heap.size, 0, none⟩ 1 1 cs.toList (by simpa using hcs)
    (fun j u hu => by
      rw [Addr.add_lit]
      simpa using hu) h1 h63 hbytes (by simp; omega)
  have hg : w.grownBy w' v.ownBlock := ⟨h3.os, h3.tape, h3.output, Nat.le_trans (by simp) h3.size, fun k hk hne => by rw [h3.block k (by simp; omega) hne]; exact Below.heap_alloc w _ k hk⟩
  refine ⟨v', w', hrun, h2, hg, (Below.refl _ _).grown hg hbase fun k hk => ?_, h5.imp id fun h => ⟨_, h, by simp⟩⟩
  obtain ⟨_, ⟨rfl, _⟩ | ⟨g, cap, cur, rfl, hg', _⟩⟩ := hown
  · cases hk
  · cases hk
    exact hg'

/-- append of the elements of any slice onto a row that the call owns. -/
theorem run_append_rd {P : Program} {w : World} {t ty e : TypeId} {i : TypeInfo} {z : Value} {size bytes : Nat} (ht : P.underlying t = some (.slice e)) (hi : P.info? e = some i) (hz : i.zero = some z)
    (hsize : i.size = size) (hby : i.bytes = bytes) (hzs : z.cells.size = size) (hsz : 0 < size) {base n m : Nat} {v x : Value} {xs ds : List Value} (hown : w.ownsRow base e size v n xs) (hbase : base ≤ w.heap.size)
    (hx : Rd w size x m ds) (h1 : ∀ u ∈ ds, u.oneCell' = true) (h63 : n + m ≤ maxLen) (hbytes : (n + m) * bytes ≤ 140737488355328) :
    ∃ v' w', (Builtin.append_ #[t, t] ty #[v, x]).run P w = .ok v' w' ∧ w'.ownsRow base e size v' (n + m) (xs ++ ds) ∧ w.grownBy w' v.ownBlock ∧ Below base w w' ∧ Fresh w v v' := by
  by_cases h0 : m = 0
  · subst h0
    obtain rfl : ds = [] := List.eq_nil_of_length_eq_zero (by simpa using hx.1)
    have hv : ∃ a k c, v = .slice a k c ∧ k ≤ c := by
      obtain ⟨_, ⟨rfl, _⟩ | ⟨g, cap, cur, rfl, _, _, hc, _⟩⟩ := hown
      · exact ⟨none, 0, 0, rfl, Nat.le_refl _⟩
      · exact ⟨_, _, _, rfl, hc⟩
    obtain ⟨a, k, c, rfl, hkc⟩ := hv
    exact ⟨_, _, run_append_nothing w t t ty e i ht hi a k c hkc x (by rw [hsize]; exact hx.src ht h1), by simpa using hown, ⟨rfl, rfl, rfl, Nat.le_refl _, fun _ _ _ => rfl⟩, Below.refl _ _, .inl rfl⟩
  · obtain ⟨hl, a1, c1, rfl, hc, hn, hcell⟩ := hx
    obtain ⟨b1, o1, rfl, hj⟩ := hcell (by omega)
    obtain ⟨v', w', hrun, h2, h3, _, h5⟩ := run_append_own_at (P := P) w base t ty e i z size bytes ht hi hz hsize hby hzs hsz v n xs hown ⟨b1, o1, none⟩ m c1 ds hl (fun j u hu => by rw [Addr.add_lit]; exact hj j u hu) h1 h63 hbytes hbase
    refine ⟨v', w', hrun, h2, h3, (Below.refl _ _).grown h3 hbase fun k hk => ?_, h5.imp id fun h => ⟨_, h, Nat.le_refl _⟩⟩
    obtain ⟨_, ⟨rfl, _⟩ | ⟨g, cap, cur, rfl, hg', _⟩⟩ := hown
    · cases hk
    · cases hk
      exact hg'

/-- An append whose run is known, guarded or not. -/
theorem wpList_append_run {P : Program} {w : World} {ops : Array Oper} {rest : List Oper} {o : Oper} {a : Act} {Q : Exit → Act → World → Prop} (hw : Region.wanted o (yielded ops a.tmps) = true) (s x : Operand) (t tx : TypeId)
    (ho : o.op = .call { callee := .builtin .append, args := #[s, x], argTypes := #[t, tx] }) (vs vx : Value) (hs : a.eval s = vs) (hx : a.eval x = vx) (v' : Value) (w' : World) (hrun : (Builtin.append_ #[t, tx] o.type #[vs, vx]).run P w = .ok v' w')
    (h : wpList P ops Q rest (a.put o.dst v') w') : wpList P ops Q (o :: rest) a w := by
  refine wpList_step fun K hK => ?_
  rw [if_pos hw]
  unfold Oper.wp
  simp [execOp, ho, resolve, invoke, builtin, hs, hx, hrun, Result.andThen]
  exact hK _ _ h
/-- The same as one step of a region that draws its order. -/
theorem step_append_run {P : Program} {w : World} {ops : Array Oper} {o : Oper} {a : Act} {K : Act → World → Prop} {Q : Exit → Act → World → Prop} {E : Prop} (hw : Region.wanted o (yielded ops a.tmps) = true) (s x : Operand) (t tx : TypeId)
    (ho : o.op = .call { callee := .builtin .append, args := #[s, x], argTypes := #[t, tx] }) (vs vx : Value) (hs : a.eval s = vs) (hx : a.eval x = vx) (v' : Value) (w' : World) (hrun : (Builtin.append_ #[t, tx] o.type #[vs, vx]).run P w = .ok v' w')
    (h : K (a.put o.dst v') w') : if Region.wanted o (yielded ops a.tmps) = true then Oper.wp P o a w K Q else E := by
  rw [if_pos hw]
  unfold Oper.wp
  simp [execOp, ho, resolve, invoke, builtin, hs, hx, hrun, Result.andThen]
  exact h
end Go.Proofs.Ytgdhgicofobebaa.Ap
