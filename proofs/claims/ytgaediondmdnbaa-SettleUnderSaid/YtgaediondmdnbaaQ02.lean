/- Slices as rows of cells, and what append does to a slice whose room is used up: plain laws over any program. The frame of a law's proof: a call that answers true, and below the old heap's size leaves all as it was, meets the law's specification. Signs as plain numbers: what Both, Text and Of are, and that Both hangs neither on order nor on grouping. Rows of nodes in memory; the document's Arity and Walk over them. What each function of package sign, and of the document's own answers for it, returns: walks of the translated code. -/
import Derived.WalkKit
import Derived.ArgAppend
import Derived.Deep.AppendSrc
import Derived.Deep.Upon
import Derived.Maps.AppendAt
import Derived.Test.YtgaediondmdnbaaRows
import Derived.ProofKit
import Derived.OpenShut
import Derived.Carry
import Derived.Deep.DeepHandedRow
import Derived.LaidMore
import Derived.Test.YtgaediondmdnbaaProg
import Derived.Test.YtgaediondmdnbaaQ01
import Derived.WalkSpells
import Derived.WalkLawsBesides
import Derived.Lib.Hide

namespace Go.Proofs.Ytgaediondmdnbaa.Ap
open Go Go.RowKit

/-- A slice value whose n elements are these cells. -/
def Rd (w : World) (size : Nat) (v : Value) (n : Nat) (cs : List Value) : Prop :=
  cs.length = n * size ∧ ∃ a cap, v = .slice a n cap ∧ n ≤ cap ∧ (a = none → n = 0 ∧ cap = 0) ∧
    (0 < n → ∃ b off, a = some ⟨b, off, none⟩ ∧ ∀ j u, cs[j]? = some u → w.cell? ⟨b, off + j, none⟩ = some u)

theorem cell_lt {w : World} {p : Addr} {u : Value} (h : w.cell? p = some u) : p.block < w.heap.size :=
  Nat.lt_of_not_le fun hle => by
    simp only [World.cell?] at h
    rw [Array.getElem?_eq_none hle] at h
    cases h

theorem Rd.below {w w' : World} {size n : Nat} {v : Value} {cs : List Value} (h : Rd w size v n cs) (hb : Below w.heap.size w w') : Rd w' size v n cs := by
  obtain ⟨hl, a, cap, hv, hc, hn, hcell⟩ := h
  refine ⟨hl, a, cap, hv, hc, hn, fun h0 => ?_⟩
  obtain ⟨b, off, ha, hj⟩ := hcell h0
  refine ⟨b, off, ha, fun j u hu => ?_⟩
  have := hj j u hu
  rw [hb.cell (cell_lt this)]
  exact this

/-- What the call itself made, or has grown, is such a row. -/
theorem Rd.owned {w : World} {base size n : Nat} {e : TypeId} {v : Value} {cs : List Value} (h : w.ownsRow base e size v n cs) : Rd w size v n cs := by
  obtain ⟨hl, ⟨rfl, rfl⟩ | ⟨g, cap, cur, rfl, _, hg, hnc, _, hcs, ht⟩⟩ := h
  · exact ⟨hl, none, 0, rfl, Nat.le_refl _, fun _ => ⟨rfl, rfl⟩, fun h => absurd h (by omega)⟩
  · refine ⟨hl, some ⟨g, 0, none⟩, cap, rfl, hnc, fun h => (by cases h), fun _ => ⟨g, 0, rfl, fun j u hu => ?_⟩⟩
    have hj : j < n * size := by
      rw [← hl]
      exact (List.getElem?_eq_some_iff.1 hu).1
    rw [← ht, List.getElem?_take_of_lt hj] at hu
    simp only [World.cell?, hg, Nat.zero_add]
    simpa using hu

/-- One cell of a row that is read. -/
theorem Rd.src {P : Program} {w : World} {size n : Nat} {t e : TypeId} {v : Value} {cs : List Value} (ht : P.underlying t = some (.slice e)) (h : Rd w size v n cs) (h1 : ∀ u ∈ cs, u.oneCell' = true) :
    Src P size t v n cs w := by
  obtain ⟨hl, a, cap, rfl, hc, hn, hcell⟩ := h
  cases a with
  | none =>
    obtain ⟨rfl, rfl⟩ := hn rfl
    obtain rfl : cs = [] := List.eq_nil_of_length_eq_zero (by simpa using hl)
    exact Src.ofNil w ht 0
  | some ad =>
    refine Src.ofSlice w ht ad n cap cs hl (fun j u hu => ?_) h1
    by_cases h0 : 0 < n
    · obtain ⟨b, off, ha, hj⟩ := hcell h0
      cases ha
      rw [Addr.add_lit]
      exact hj j u hu
    · obtain rfl : n = 0 := by omega
      obtain rfl : cs = [] := List.eq_nil_of_length_eq_zero (by simpa using hl)
      cases hu

/-- append onto a slice whose room is used up: what it held and what is appended, in a row of its own or, where nothing is appended, as it was; nothing that was there is changed. -/
theorem run_append_full {P : Program} {w : World} {t ty e : TypeId} {i : TypeInfo} {z : Value} {size bytes : Nat} (ht : P.underlying t = some (.slice e)) (hi : P.info? e = some i) (hz : i.zero = some z)
    (hsize : i.size = size) (hby : i.bytes = bytes) (hzs : z.cells.size = size) (hsz : 0 < size) {a : Option Addr} {n m : Nat} {x : Value} {cs ds : List Value} (hs : Rd w size (.slice a n n) n cs) (hx : Rd w size x m ds) (h1 : ∀ u ∈ ds, u.oneCell' = true)
    (h63 : n + m ≤ maxLen) (hbytes : (n + m) * bytes ≤ 140737488355328) :
    ∃ v' w', (Builtin.append_ #[t, t] ty #[.slice a n n, x]).run P w = .ok v' w' ∧ Rd w' size v' (n + m) (cs ++ ds) ∧ Below w.heap.size w w' := by
  by_cases h0 : m = 0
  · subst h0
    obtain rfl : ds = [] := List.eq_nil_of_length_eq_zero (by simpa using hx.1)
    exact ⟨_, _, run_append_nothing w t t ty e i ht hi a n n (Nat.le_refl _) x (by rw [hsize]; exact hx.src ht h1), by simpa using hs, Below.refl _ _⟩
  · obtain ⟨hl, a1, c1, rfl, hc, hn, hcell⟩ := hx
    obtain ⟨b1, o1, rfl, hj⟩ := hcell (by omega)
    have hj' : ∀ j u, ds[j]? = some u → w.cell? (Addr.add ⟨b1, o1, none⟩ j) = some u := fun j u hu => by rw [Addr.add_lit]; exact hj j u hu
    cases a with
    | none =>
      obtain ⟨hl0, a', cap', hv, hc', hn', _⟩ := hs
      cases hv
      obtain ⟨rfl, _⟩ := hn' rfl
      obtain rfl : cs = [] := List.eq_nil_of_length_eq_zero (by simpa using hl0)
      obtain ⟨v', w', hrun, hown, hg, _⟩ := run_append_own (P := P) w w.heap.size t ty e i z size bytes ht hi hz hsize hby hzs hsz (.slice none 0 0) 0 [] ⟨by simp, .inl ⟨rfl, rfl⟩⟩ ⟨b1, o1, none⟩ m c1 ds hl hj' h1 h63 hbytes (Nat.le_refl _)
      exact ⟨v', w', hrun, Rd.owned hown, (Below.refl _ _).grown hg (Nat.le_refl _) (fun k hk => by cases hk)⟩
    | some ad =>
      obtain ⟨hl0, a', cap', hv, hc', hn', hcell0⟩ := hs
      cases hv
      have holds : ∀ j u, cs[j]? = some u → w.cell? (ad.add j) = some u := fun j u hu => by
        by_cases h00 : 0 < n
        · obtain ⟨b, off, ha, hj0⟩ := hcell0 h00
          cases ha
          rw [Addr.add_lit]
          exact hj0 j u hu
        · obtain rfl : n = 0 := by omega
          obtain rfl : cs = [] := List.eq_nil_of_length_eq_zero (by simpa using hl0)
          cases hu
      obtain ⟨v', w', hrun, hown, hg⟩ := run_append_arg_grows (P := P) w t ty e i z size bytes ht hi hz hsize hby hzs hsz ad n n cs hl0 holds ⟨b1, o1, none⟩ m c1 ds hl hj' (by omega) h63 hbytes
      exact ⟨v', w', hrun, Rd.owned hown, (Below.refl _ _).grown hg (Nat.le_refl _) (fun k hk => by cases hk)⟩

/-- What the call owns stays so where nothing that was there is changed. -/
theorem own_below {w w' : World} {base size n : Nat} {e : TypeId} {v : Value} {xs : List Value} (h : w.ownsRow base e size v n xs) (hb : Below w.heap.size w w') : w'.ownsRow base e size v n xs := by
  obtain ⟨hl, h | ⟨g, cap, cur, hv, hg, hh, h1, h2, h3, h4⟩⟩ := h
  · exact ⟨hl, .inl h⟩
  · refine ⟨hl, .inr ⟨g, cap, cur, hv, hg, ?_, h1, h2, h3, h4⟩⟩
    rw [hb.block g]
    · exact hh
    · exact Nat.lt_of_not_le fun hle => by
        rw [Array.getElem?_eq_none hle] at hh
        cases hh

theorem own_base {w : World} {base base' size n : Nat} {e : TypeId} {v : Value} {xs : List Value} (h : w.ownsRow base e size v n xs) (hb : base' ≤ base) : w.ownsRow base' e size v n xs := by
  obtain ⟨hl, h | ⟨g, cap, cur, hv, hg, hr⟩⟩ := h
  · exact ⟨hl, .inl h⟩
  · exact ⟨hl, .inr ⟨g, cap, cur, hv, Nat.le_trans hb hg, hr⟩⟩

/-- The row lies where it lay, or in a new block. -/
def Fresh (w : World) (v v' : Value) : Prop := v'.ownBlock = v.ownBlock ∨ ∃ k, v'.ownBlock = some k ∧ w.heap.size ≤ k

/-- A slice value whose n elements are these cells, in a block that is as ok says. -/
def RdO (ok : Nat → Prop) (w : World) (size : Nat) (v : Value) (n : Nat) (cs : List Value) : Prop :=
  cs.length = n * size ∧ ∃ a cap, v = .slice a n cap ∧ n ≤ cap ∧ (a = none → n = 0 ∧ cap = 0) ∧
    (0 < n → ∃ b off, a = some ⟨b, off, none⟩ ∧ ok b ∧ b < w.heap.size ∧ ∀ j u, cs[j]? = some u → w.cell? ⟨b, off + j, none⟩ = some u)

theorem RdO.rd {ok : Nat → Prop} {w : World} {size n : Nat} {v : Value} {cs : List Value} (h : RdO ok w size v n cs) : Rd w size v n cs := by
  obtain ⟨hl, a, cap, hv, hc, hn, hcell⟩ := h
  refine ⟨hl, a, cap, hv, hc, hn, fun h0 => ?_⟩
  obtain ⟨b, off, ha, _, _, hj⟩ := hcell h0
  exact ⟨b, off, ha, hj⟩
theorem RdO.imp {ok ok' : Nat → Prop} {w : World} {size n : Nat} {v : Value} {cs : List Value} (h : RdO ok w size v n cs) (hi : ∀ b, b < w.heap.size → ok b → ok' b) : RdO ok' w size v n cs := by
  obtain ⟨hl, a, cap, hv, hc, hn, hcell⟩ := h
  refine ⟨hl, a, cap, hv, hc, hn, fun h0 => ?_⟩
  obtain ⟨b, off, ha, ho, hb, hj⟩ := hcell h0
  exact ⟨b, off, ha, hi b hb ho, hb, hj⟩
theorem RdO.below {ok : Nat → Prop} {w w' : World} {size n : Nat} {v : Value} {cs : List Value} (h : RdO ok w size v n cs) (hb : Below w.heap.size w w') : RdO ok w' size v n cs := by
  obtain ⟨hl, a, cap, hv, hc, hn, hcell⟩ := h
  refine ⟨hl, a, cap, hv, hc, hn, fun h0 => ?_⟩
  obtain ⟨b, off, ha, hne, hlt, hj⟩ := hcell h0
  exact ⟨b, off, ha, hne, Nat.lt_of_lt_of_le hlt hb.size, fun j u hu => by rw [hb.cell (p := ⟨b, off + j, none⟩) hlt]; exact hj j u hu⟩
theorem RdO.grow {ok : Nat → Prop} {w w' : World} {v v' x : Value} {size n : Nat} {cs : List Value} (h : RdO (fun b => ok b ∧ some b ≠ v.ownBlock) w size x n cs) (hg : w.grownBy w' v.ownBlock) (hf : Fresh w v v') :
    RdO (fun b => ok b ∧ some b ≠ v'.ownBlock) w' size x n cs := by
  obtain ⟨hl, a, cap, hv, hc, hn, hcell⟩ := h
  refine ⟨hl, a, cap, hv, hc, hn, fun h0 => ?_⟩
  obtain ⟨b, off, ha, hne, hlt, hj⟩ := hcell h0
  refine ⟨b, off, ha, ⟨hne.1, ?_⟩, Nat.lt_of_lt_of_le hlt hg.size, fun j u hu => by rw [World.cell?_of_block (w := w) (a := ⟨b, off + j, none⟩) (hg.block b hlt hne.2)]; exact hj j u hu⟩
  rcases hf with hf | ⟨k, hk, hlk⟩
  · rw [hf]; exact hne.2
  · rw [hk]
    intro e
    cases e
    omega
theorem RdO.fresh {w : World} {base size n : Nat} {e : TypeId} {v : Value} {cs : List Value} (h : w.ownsRow base e size v n cs) : RdO (fun b => base ≤ b) w size v n cs := by
  obtain ⟨hl, ⟨rfl, rfl⟩ | ⟨g', cap, cur, rfl, hb, hh, hnc, hcm, hcs, ht⟩⟩ := h
  · exact ⟨hl, none, 0, rfl, Nat.le_refl _, fun _ => ⟨rfl, rfl⟩, fun h => absurd h (by omega)⟩
  · refine ⟨hl, some ⟨g', 0, none⟩, cap, rfl, hnc, fun h => (by cases h), fun _ => ⟨g', 0, rfl, hb, ?_, fun j u hu => ?_⟩⟩
    · exact Nat.lt_of_not_le fun hle => by
        rw [Array.getElem?_eq_none hle] at hh
        cases hh
    · have hj : j < n * size := by
        rw [← hl]
        exact (List.getElem?_eq_some_iff.1 hu).1
      rw [← ht, List.getElem?_take_of_lt hj] at hu
      simp only [World.cell?, hh, Nat.zero_add]
      simpa using hu
/-- Whatever lies somewhere lies below the heap's size. -/
theorem RdO.of {w : World} {size n : Nat} {v : Value} {cs : List Value} (hs : 0 < size) (h : Rd w size v n cs) : RdO (fun _ => True) w size v n cs := by
  obtain ⟨hl, a, cap, hv, hc, hn, hcell⟩ := h
  refine ⟨hl, a, cap, hv, hc, hn, fun h0 => ?_⟩
  obtain ⟨b, off, ha, hj⟩ := hcell h0
  have hpos : 0 < cs.length := by rw [hl]; exact Nat.mul_pos h0 hs
  exact ⟨b, off, ha, trivial, cell_lt (hj 0 _ (List.getElem?_eq_getElem hpos)), hj⟩
theorem own_lt {w : World} {base size n : Nat} {e : TypeId} {v : Value} {xs : List Value} (h : w.ownsRow base e size v n xs) : ∀ k, v.ownBlock = some k → k < w.heap.size := by
  obtain ⟨hl, ⟨rfl, _⟩ | ⟨g, cap, cur, rfl, hg, hh, _⟩⟩ := h
  · intro k hk; cases hk
  · intro k hk
    cases hk
    exact Nat.lt_of_not_le fun hle => by
      rw [Array.getElem?_eq_none hle] at hh
      cases hh

/-- append of one element, given by itself, onto a row that the call owns. -/
theorem run_append_one {P : Program} {w : World} {t ty e : TypeId} {i : TypeInfo} {z : Value} {size bytes : Nat} (ht : P.underlying t = some (.slice e)) (hi : P.info? e = some i) (hz : i.zero = some z)
    (hsize : i.size = size) (hby : i.bytes = bytes) (hzs : z.cells.size = size) (hsz : 0 < size) {base n : Nat} {v : Value} {xs : List Value} (hown : w.ownsRow base e size v n xs) (hbase : base ≤ w.heap.size)
    (cs : Array Value) (hcs : cs.size = size) (h1 : ∀ u ∈ cs.toList, u.oneCell' = true) (h63 : n + 1 ≤ maxLen) (hbytes : (n + 1) * bytes ≤ 140737488355328) :
    ∃ v' w', (Builtin.append_ #[t, t] ty #[v, .slice (some ⟨w.heap.size, 0, none⟩) 1 1]).run P (w.alloc (.cells cs e)) = .ok v' w' ∧ w'.ownsRow base e size v' (n + 1) (xs ++ cs.toList) ∧ w.grownBy w' v.ownBlock ∧ Below base w w' ∧ Fresh w v v' := by
  have hown' : (w.alloc (.cells cs e)).ownsRow base e size v n xs := own_below hown ((Below.refl _ _).alloc (Nat.le_refl _) _)
  obtain ⟨v', w', hrun, h2, h3, _, h5⟩ := run_append_own_at (P := P) (w.alloc (.cells cs e)) base t ty e i z size bytes ht hi hz hsize hby hzs hsz v n xs hown' ⟨w.heap.size, 0, none⟩ 1 1 cs.toList (by simpa using hcs)
    (fun j u hu => by
      rw [Addr.add_lit]
      simpa using hu) h1 h63 hbytes (by simp; omega)
  have hg : w.grownBy w' v.ownBlock := ⟨h3.os, h3.tape, h3.output, Nat.le_trans (by simp) h3.size, fun k hk hne => by rw [h3.block k (by simp; omega) hne]; exact Below.heap_alloc w _ k hk⟩
  refine ⟨v', w', hrun, h2, hg, (Below.refl _ _).grown hg hbase fun k hk => ?_, h5.imp id fun h => ⟨_, h, by simp⟩⟩
  obtain ⟨_, ⟨rfl, _⟩ | ⟨g, cap, cur, rfl, hg', _⟩⟩ := hown
  · cases hk
  · cases hk
    exact hg'

/-- append of the elements of any slice onto a row that the call owns. -/
theorem run_append_rd {P : Program} {w : World} {t ty e : TypeId} {i : TypeInfo} {z : Value} {size bytes : Nat} (ht : P.underlying t = some (.slice e)) (hi : P.info? e = some i) (hz : i.zero = some z)
    (hsize : i.size = size) (hby : i.bytes = bytes) (hzs : z.cells.size = size) (hsz : 0 < size) {base n m : Nat} {v x : Value} {xs ds : List Value} (hown : w.ownsRow base e size v n xs) (hbase : base ≤ w.heap.size)
    (hx : Rd w size x m ds) (h1 : ∀ u ∈ ds, u.oneCell' = true) (h63 : n + m ≤ maxLen) (hbytes : (n + m) * bytes ≤ 140737488355328) :
    ∃ v' w', (Builtin.append_ #[t, t] ty #[v, x]).run P w = .ok v' w' ∧ w'.ownsRow base e size v' (n + m) (xs ++ ds) ∧ w.grownBy w' v.ownBlock ∧ Below base w w' ∧ Fresh w v v' := by
  by_cases h0 : m = 0
  · subst h0
    obtain rfl : ds = [] := List.eq_nil_of_length_eq_zero (by simpa using hx.1)
    have hv : ∃ a k c, v = .slice a k c ∧ k ≤ c := by
      obtain ⟨_, ⟨rfl, _⟩ | ⟨g, cap, cur, rfl, _, _, hc, _⟩⟩ := hown
      · exact ⟨none, 0, 0, rfl, Nat.le_refl _⟩
      · exact ⟨_, _, _, rfl, hc⟩
    obtain ⟨a, k, c, rfl, hkc⟩ := hv
    exact ⟨_, _, run_append_nothing w t t ty e i ht hi a k c hkc x (by rw [hsize]; exact hx.src ht h1), by simpa using hown, ⟨rfl, rfl, rfl, Nat.le_refl _, fun _ _ _ => rfl⟩, Below.refl _ _, .inl rfl⟩
  · obtain ⟨hl, a1, c1, rfl, hc, hn, hcell⟩ := hx
    obtain ⟨b1, o1, rfl, hj⟩ := hcell (by omega)
    obtain ⟨v', w', hrun, h2, h3, _, h5⟩ := run_append_own_at (P := P) w base t ty e i z size bytes ht hi hz hsize hby hzs hsz v n xs hown ⟨b1, o1, none⟩ m c1 ds hl (fun j u hu => by rw [Addr.add_lit]; exact hj j u hu) h1 h63 hbytes hbase
    refine ⟨v', w', hrun, h2, h3, (Below.refl _ _).grown h3 hbase fun k hk => ?_, h5.imp id fun h => ⟨_, h, Nat.le_refl _⟩⟩
    obtain ⟨_, ⟨rfl, _⟩ | ⟨g, cap, cur, rfl, hg', _⟩⟩ := hown
    · cases hk
    · cases hk
      exact hg'

/-- An append whose run is known, guarded or not. -/
theorem wpList_append_run {P : Program} {w : World} {ops : Array Oper} {rest : List Oper} {o : Oper} {a : Act} {Q : Exit → Act → World → Prop} (hw : Region.wanted o (yielded ops a.tmps) = true) (s x : Operand) (t tx : TypeId)
    (ho : o.op = .call { callee := .builtin .append, args := #[s, x], argTypes := #[t, tx] }) (vs vx : Value) (hs : a.eval s = vs) (hx : a.eval x = vx) (v' : Value) (w' : World) (hrun : (Builtin.append_ #[t, tx] o.type #[vs, vx]).run P w = .ok v' w')
    (h : wpList P ops Q rest (a.put o.dst v') w') : wpList P ops Q (o :: rest) a w := by
  refine wpList_step fun K hK => ?_
  rw [if_pos hw]
  unfold Oper.wp
  simp [execOp, ho, resolve, invoke, builtin, hs, hx, hrun, Result.andThen]
  exact hK _ _ h
end Go.Proofs.Ytgaediondmdnbaa.Ap

namespace Go.Proofs.Ytgaediondmdnbaa.Fr
open Go Go.ChangeShapes Go.WideShapes Go.ChangeAt Go.RowKit
open Go.ChangeMaps (open_string)

section
variable {H : Type} {enc : TypeId × Value → H} {P : Program}

/-- All arguments read as they did. -/
theorem trodAll_below {W W' : World} (hl : laidOutB P = true) (hb : Below W.heap.size W W') :
    ∀ (ts : List TypeId) (vs : List Value) (ds : List (DataW H)) (ps : List MemPlace), (∀ t ∈ ts, P.readableRec t = true ∧ t < P.types.size) → (∀ x ∈ ps, x.block < W.heap.size) →
      DataW.TrodAll enc P W 0 (fun _ => true) true ts vs ds ps → DataW.TrodAll enc P W' 0 (fun b => decide (b < W.heap.size)) true ts vs ds ps
  | [], [], [], _, _, _, h => h
  | t :: ts, v :: vs, d :: ds, ps, hr, hp, h => by
    obtain ⟨p, q, h1, h2, rfl⟩ := h
    exact ⟨p, q, Below.trod hl (hr t (by simp)).1 (hr t (by simp)).2 h1 hb (fun x hx => hp x (by simp [hx])), trodAll_below hl hb ts vs ds q (fun u hu => hr u (by simp [hu])) (fun x hx => hp x (by simp [hx])) h2, rfl⟩
  | [], [], _ :: _, _, _, _, h => h.elim
  | [], _ :: _, _, _, _, _, h => h.elim
  | _ :: _, [], _, _, _, _, h => h.elim
  | _ :: _, _ :: _, [], _, _, _, h => h.elim

/-- A law that answered true and changed nothing that was there. -/
theorem law_post {f : Func} {s : ChangeSpec} {W W' : World} {args : Array Value} {ds gs : List (DataW H)} {before : List MemPlace} {tb : TypeId} (hl : laidOutB P = true)
    (hread : f.params.toList.all (fun t => P.readableRec t && decide (t < P.types.size)) = true) (hres : f.resultTypes = #[tb]) (ub : P.underlying tb = some .bool) (hv : s.vars = [])
    (hs : s.fn H ds = { results := [.lit (.bool true)], args := ds }) (hW : DataW.Whole enc P f.params.toList s.vars false W args.toList ds gs before) (hb : Below W.heap.size W W') :
    s.post enc P f false true false false W args (.bool true) W' := by
  have hW' := hW
  obtain ⟨p, q, hA, hV, rfl, _, _⟩ := hW
  rw [hv] at hV
  obtain ⟨rfl, rfl⟩ := trodVars_none hV
  have hs' : s.fn H (ds ++ []) = { results := [.lit (.bool true)], args := ds } := by rw [List.append_nil]; exact hs
  refine ⟨ds, [], _, [], p, [], hW', ?_, ?_, ?_, hb.frame _, fun h => by cases h⟩
  · rw [hs', hres]
    exact trodAll_mk1 (shut_bool ub true)
  · rw [hs']
    refine trodAll_below hl hb _ _ _ _ (fun t ht => ?_) (fun x hx => hW'.lt x (by simp [hx])) hA
    have := List.all_eq_true.1 hread t ht
    simpa using this
  · rw [hs', hv]
    rfl

/-- The arguments' readings. -/
theorem args_of {ts : List TypeId} {vars : List String} {ap : Bool} {W : World} {vs : List Value} {ds gs : List (DataW H)} {before : List MemPlace} (hW : DataW.Whole enc P ts vars ap W vs ds gs before) :
    ∃ p, DataW.TrodAll enc P W 0 (fun _ => true) true ts vs ds p := by
  obtain ⟨p, _, h, _⟩ := hW
  exact ⟨p, h⟩

end
end Go.Proofs.Ytgaediondmdnbaa.Fr

namespace Go.Proofs.Ytgaediondmdnbaa.Sg
open Go Go.RowKit

/-- Is it one of the three? -/
def isB (s : Int) : Bool := s == 1 || s == 2 || s == 3
/-- How two end side by side. -/
def both (a b : Int) : Int :=
  if isB a && isB b then (if a == 2 || b == 2 then 2 else if a == 3 || b == 3 then 3 else 1) else 0
/-- How all of them end, from e on. -/
def all (e : Int) : List Int → Int
  | [] => e
  | x :: r => all (both e x) r
theorem cases4 (s : Int) : s = 1 ∨ s = 2 ∨ s = 3 ∨ (¬ s = 1 ∧ ¬ s = 2 ∧ ¬ s = 3) := by omega
theorem isB_no {s : Int} (h : ¬ s = 1 ∧ ¬ s = 2 ∧ ¬ s = 3) : isB s = false := by simp [isB, h]
theorem isB_yes {s : Int} (h : isB s = true) : s = 1 ∨ s = 2 ∨ s = 3 := by simpa [isB, or_assoc] using h
theorem both_no_l {a b : Int} (h : isB a = false) : both a b = 0 := by simp [both, h]
theorem both_no_r {a b : Int} (h : isB b = false) : both a b = 0 := by simp [both, h]

theorem all_append (e : Int) (l m : List Int) : all e (l ++ m) = all (all e l) m := by
  induction l generalizing e with
  | nil => rfl
  | cons y r ih => exact ih _
end Go.Proofs.Ytgaediondmdnbaa.Sg

namespace Go.Proofs.Ytgaediondmdnbaa.Rw
open Go Go.RowKit
set_option maxRecDepth 20000

theorem ret_int {k : IntKind} {a b : Int} (h : a = b) : Ending.returned (.int k a) = .returned (.int k b) := congrArg (fun z => Ending.returned (.int k z)) h
theorem ret_bool {a b : Bool} (h : a = b) : Ending.returned (.bool a) = .returned (.bool b) := by rw [h]

/-- A node's cells. -/
def cl (x : Nd) : List Value := [.int .i64 x.k, .string x.n, .int .i64 x.s]
def cls : List Nd → List Value
  | [] => []
  | x :: l => cl x ++ cls l
theorem cls_len : ∀ l : List Nd, (cls l).length = l.length * 3
  | [] => rfl
  | x :: l => by rw [cls, List.length_append, cls_len l]; simp [cl]; omega
theorem cls_append : ∀ l m : List Nd, cls (l ++ m) = cls l ++ cls m
  | [], _ => rfl
  | x :: l, m => by rw [List.cons_append, cls, cls_append l m, cls, List.append_assoc]
theorem cls_at : ∀ (l : List Nd) (k : Nat) (h : k < l.length), (cls l)[k * 3]? = some (.int .i64 l[k].k) ∧ (cls l)[k * 3 + 1]? = some (.string l[k].n) ∧ (cls l)[k * 3 + 2]? = some (.int .i64 l[k].s)
  | [], k, h => by simp at h
  | x :: l, 0, _ => ⟨rfl, rfl, rfl⟩
  | x :: l, k + 1, h => by
    have := cls_at l k (by simpa using h)
    simpa [cls, cl, show (k + 1) * 3 = k * 3 + 1 + 1 + 1 by omega] using this
/-- A slice of nodes that reads as these. -/
def Nds (w : World) (v : Value) (l : List Nd) : Prop := Ap.Rd w 3 v l.length (cls l)
theorem Nds.below {w w' : World} {v : Value} {l : List Nd} (h : Nds w v l) (hb : Below w.heap.size w w') : Nds w' v l := Ap.Rd.below h hb
/-- Node k's three cells. -/
def At (w : World) (b off : Nat) (l : List Nd) : Prop := ∀ k, (h : k < l.length) → w.cell? ⟨b, off + k * 3, none⟩ = some (.int .i64 l[k].k) ∧ w.cell? ⟨b, off + k * 3 + 1, none⟩ = some (.string l[k].n) ∧ w.cell? ⟨b, off + k * 3 + 2, none⟩ = some (.int .i64 l[k].s)
theorem Nds.form {w : World} {v : Value} {l : List Nd} (h : Nds w v l) :
    (l = [] ∧ ∃ a cap, v = .slice a 0 cap) ∨ ∃ b off cap, v = .slice (some ⟨b, off, none⟩) l.length cap ∧ l.length ≤ cap ∧ At w b off l := by
  obtain ⟨_, a, cap, rfl, hle, _, hcell⟩ := h
  by_cases h0 : 0 < l.length
  · obtain ⟨b, off, rfl, hj⟩ := hcell h0
    refine Or.inr ⟨b, off, cap, rfl, hle, fun k hk => ?_⟩
    obtain ⟨h1, h2, h3⟩ := cls_at l k hk
    exact ⟨hj _ _ h1, by rw [Nat.add_assoc]; exact hj _ _ h2, by rw [Nat.add_assoc]; exact hj _ _ h3⟩
  · have : l = [] := List.eq_nil_of_length_eq_zero (by omega)
    subst this
    exact Or.inl ⟨rfl, a, cap, rfl⟩

theorem cases15 (k : Int) : k = 1 ∨ k = 2 ∨ k = 3 ∨ k = 4 ∨ k = 5 ∨ k = 6 ∨ k = 7 ∨ k = 8 ∨ k = 9 ∨ k = 10 ∨ k = 11 ∨ k = 12 ∨ k = 13 ∨ k = 14 ∨ (k ≠ 1 ∧ k ≠ 2 ∧ k ≠ 3 ∧ k ≠ 4 ∧ k ≠ 5 ∧ k ≠ 6 ∧ k ≠ 7 ∧ k ≠ 8 ∧ k ≠ 9 ∧ k ≠ 10 ∧ k ≠ 11 ∧ k ≠ 12 ∧ k ≠ 13 ∧ k ≠ 14) := by omega
theorem ar_no {k : Int} (h : k ≠ 1 ∧ k ≠ 2 ∧ k ≠ 3 ∧ k ≠ 4 ∧ k ≠ 5 ∧ k ≠ 6 ∧ k ≠ 7 ∧ k ≠ 8 ∧ k ≠ 9 ∧ k ≠ 10 ∧ k ≠ 11 ∧ k ≠ 12 ∧ k ≠ 13 ∧ k ≠ 14) : ar k = -1 := by
  unfold ar
  rw [if_neg (by omega), if_neg (by omega), if_neg (by omega)]

set_option maxHeartbeats 1000000 in
theorem arR_any (k : Int) (w : World) : Calls Try.prog 52 #[.int .i64 k] w fun e w' => e = .returned (.int .i64 (ar k)) ∧ w = w' := by
  rcases cases15 k with rfl | rfl | rfl | rfl | rfl | rfl | rfl | rfl | rfl | rfl | rfl | rfl | rfl | rfl | h
  case inr.inr.inr.inr.inr.inr.inr.inr.inr.inr.inr.inr.inr.inr =>
    have hr := Lib.hid (ar_no h)
    obtain ⟨h1, h2, h3, h4, h5, h6, h7, h8, h9, h10, h11, h12, h13, h14⟩ := h
    have b1 : (k == 1) = false := by simp [h1]
    have b2 : (k == 2) = false := by simp [h2]
    have b3 : (k == 3) = false := by simp [h3]
    have b4 : (k == 4) = false := by simp [h4]
    have b5 : (k == 5) = false := by simp [h5]
    have b6 : (k == 6) = false := by simp [h6]
    have b7 : (k == 7) = false := by simp [h7]
    have b8 : (k == 8) = false := by simp [h8]
    have b9 : (k == 9) = false := by simp [h9]
    have b10 : (k == 10) = false := by simp [h10]
    have b11 : (k == 11) = false := by simp [h11]
    have b12 : (k == 12) = false := by simp [h12]
    have b13 : (k == 13) = false := by simp [h13]
    have b14 : (k == 14) = false := by simp [h14]
    clear h1 h2 h3 h4 h5 h6 h7 h8 h9 h10 h11 h12 h13 h14
    go_enter Try.func52, Try.ntmps52
    go_wp2_with fail
    go_ret
    exact ⟨ret_int hr.out.symm, rfl⟩
  all_goals
    go_enter Try.func52, Try.ntmps52
    go_wp2_with fail
    go_ret
    exact ⟨rfl, rfl⟩

/-- Where the tree at a place ends, below 0 if there is none; its depth. -/
def nx (i : Nat) : Option (Nat × Nat) → Int
  | none => -1
  | some (c, _) => i + c
def dp : Option (Nat × Nat) → Int
  | none => 0
  | some (_, d) => d
def WalkPost (i : Nat) (r : Option (Nat × Nat)) (w : World) (e : Ending) (w' : World) : Prop := e = .returned (.tuple #[.int .i64 (nx i r), .int .i64 (dp r)]) ∧ w = w'
theorem T_at {l : List Nd} {i : Nat} (h : i < l.length) (hk : ¬ ar l[i].k < 0) : T (l.drop i) = match S (ar l[i].k).toNat (l.drop (i + 1)) with
    | none => none
    | some (c, d) => some (c + 1, d + 1) := by
  rw [List.drop_eq_getElem_cons h, T_cons, if_neg hk]
  rfl
theorem T_no {l : List Nd} {i : Nat} (h : i < l.length) (hk : ar l[i].k < 0) : T (l.drop i) = none := by
  rw [List.drop_eq_getElem_cons h, T_cons, if_pos hk]
/-- How far k kids have come. -/
def Far (l : List Nd) (i k p d : Nat) : Prop := ∃ c, S k (l.drop (i + 1)) = some (c, d) ∧ p = i + 1 + c
theorem Far.start (l : List Nd) (i : Nat) : Far l i 0 (i + 1) 0 := ⟨0, S_zero _, rfl⟩
theorem Far.le {l : List Nd} {i k p d : Nat} (h : Far l i k p d) (hi : i < l.length) : p ≤ l.length ∧ i < p ∧ d ≤ l.length := by
  obtain ⟨c, hs, rfl⟩ := h
  have := S_bd hs
  rw [List.length_drop] at this
  omega
theorem Far.stop {l : List Nd} {i k p d : Nat} (h : Far l i k p d) (ht : T (l.drop p) = none) : S (k + 1) (l.drop (i + 1)) = none := by
  obtain ⟨c, hs, rfl⟩ := h
  rw [S_succ, hs]
  simp only [List.drop_drop]
  rw [ht]
theorem Far.next {l : List Nd} {i k p d c' d' : Nat} (h : Far l i k p d) (ht : T (l.drop p) = some (c', d')) : Far l i (k + 1) (p + c') (max d d') := by
  obtain ⟨c, hs, rfl⟩ := h
  refine ⟨c + c', ?_, by omega⟩
  rw [S_succ, hs]
  simp only [List.drop_drop]
  rw [ht]
theorem Far.done {l : List Nd} {i k p d : Nat} (h : Far l i k p d) (hi : i < l.length) (hk : ¬ ar l[i].k < 0) (hx : k = (ar l[i].k).toNat) : nx i (T (l.drop i)) = p ∧ dp (T (l.drop i)) = d + 1 := by
  obtain ⟨c, hs, rfl⟩ := h
  rw [T_at hi hk, ← hx, hs]
  simp only [nx, dp]
  omega
theorem walk_none {l : List Nd} {i k : Nat} (h : i < l.length) (hk : ¬ ar l[i].k < 0) (hlt : (k : Int) < ar l[i].k) (hs : S (k + 1) (l.drop (i + 1)) = none) : T (l.drop i) = none := by
  have := S_none hs ((ar l[i].k).toNat - (k + 1))
  rw [show k + 1 + ((ar l[i].k).toNat - (k + 1)) = (ar l[i].k).toNat by omega] at this
  rw [T_at h hk, this]

set_option maxHeartbeats 2000000 in
theorem walk_out (a : Option Addr) (n cap i : Nat) (w : World) (h : n ≤ i) :
    Calls Try.prog 36 #[.slice a n cap, .int .i64 i] w (WalkPost i none w) := by
  have g0 : decide ((i : Int) ≥ (n : Int)) = true := by simp; omega
  have g1 : decide ((n : Int) ≤ (i : Int)) = true := by simp; omega
  go_enter Try.func36, Try.ntmps36
  go_wp2_with fail
  go_ret2
  exact ⟨rfl, rfl⟩

set_option maxHeartbeats 4000000 in
theorem walk_cells (b off cap : Nat) (l : List Nd) (hl : l.length ≤ 1000000) : ∀ (m i : Nat) (w : World), l.length - i ≤ m → i ≤ l.length → At w b off l →
    Calls Try.prog 36 #[.slice (some ⟨b, off, none⟩) l.length cap, .int .i64 i] w (WalkPost i (T (l.drop i)) w) := by
  intro m
  induction m with
  | zero =>
    intro i w hm hi _
    rw [List.drop_eq_nil_of_le (by omega), T_nil]
    exact walk_out _ _ _ _ _ (by omega)
  | succ m ih =>
    intro i w hm hi hat
    by_cases hlt : i < l.length
    case neg =>
      rw [List.drop_eq_nil_of_le (by omega), T_nil]
      exact walk_out _ _ _ _ _ (by omega)
    have IH := Lib.hid ih
    have HA := Lib.hid hat
    have hc := (hat i hlt).1
    clear ih hat
    have g1 : decide (l.length ≤ i) = false := by simp; omega
    by_cases hk : ar l[i].k < 0
    · have HT := Lib.hid (T_no hlt hk)
      have hbd := ar_le l[i].k
      obtain ⟨kk, hkk⟩ : ∃ kk, l[i].k = kk := ⟨_, rfl⟩
      rw [hkk] at hc hk hbd
      obtain ⟨x, hx⟩ : ∃ x, ar kk = x := ⟨_, rfl⟩
      rw [hx] at hk hbd
      have HX := Lib.hid hx
      clear hkk hx
      go_enter Try.func36, Try.ntmps36
      go_wp2_with fail
      refine (arR_any _ _).mono ?_
      rw [HX.out]
      rintro e w' ⟨rfl, rfl⟩
      go_wp2_with fail
      go_ret2
      rw [HT.out]
      exact ⟨rfl, rfl⟩
    · have HT := Lib.hid (T_at hlt hk)
      have HN := Lib.hid (fun k => walk_none (k := k) hlt hk)
      have HK := Lib.hid hk
      have hbd := ar_le l[i].k
      obtain ⟨kk, hkk⟩ : ∃ kk, l[i].k = kk := ⟨_, rfl⟩
      rw [hkk] at hc hk hbd HT HN
      obtain ⟨x, hx⟩ : ∃ x, ar kk = x := ⟨_, rfl⟩
      rw [hx] at hk hbd HT HN
      have HX := Lib.hid hx
      have HKK : Hid (ar l[i].k = x) := by rw [hkk]; exact hx
      have g2 : decide (x < 0) = false := by simpa using hk
      clear hkk hx
      go_enter Try.func36, Try.ntmps36
      go_wp2_with fail
      refine (arR_any _ _).mono ?_
      rw [HX.out]
      rintro e w' ⟨rfl, rfl⟩
      go_wp2_with fail
      go_loop [6, 7, 8] (fun n d k => ∃ (kk p dd : Nat), (kk : Int) ≤ x ∧ p ≤ l.length ∧ dd ≤ l.length ∧ i < p ∧ Hid (Far l i kk p dd) ∧ n = .int .i64 p ∧ d = .int .i64 dd ∧ k = .int .i64 kk) (fun _ _ k => (x - intOf k).toNat)
      case atStart => exact ⟨0, i + 1, 0, by omega, by omega, by omega, by omega, Lib.hid (Far.start l i), by go_num, rfl, rfl⟩
      case round =>
        obtain ⟨k, p, d, hkx, hp, hd, hip, HF, rfl, rfl, rfl⟩ := hrel
        by_cases hkl : (k : Int) < x
        · cases ht : T (l.drop p) with
          | none =>
            have HZ := Lib.hid (HN.out k hkl (HF.out.stop ht))
            have HT' := Lib.hid ht
            clear ht
            go_wp2_with fail
            refine (arR_any _ _).mono ?_
            rw [HX.out]
            rintro e w' ⟨rfl, rfl⟩
            go_wp2_with fail
            refine (IH.out p _ (by omega) hp HA.out).mono ?_
            rw [HT'.out]
            rintro e w' ⟨rfl, rfl⟩
            go_wp2_with fail
            go_ret2
            rw [HZ.out]
            exact ⟨rfl, rfl⟩
          | some y =>
            obtain ⟨c', d'⟩ := y
            have HF' := Lib.hid (HF.out.next ht)
            have hq' := HF'.out.le hlt
            have HT' := Lib.hid ht
            have hb' := T_bd ht
            rw [List.length_drop] at hb'
            clear ht
            obtain ⟨q, hq⟩ : ∃ q, p + c' = q := ⟨_, rfl⟩
            have hnx : nx p (some (c', d')) = (q : Int) := by simp only [nx]; omega
            have hdp : dp (some (c', d')) = (d' : Int) := rfl
            have HQ : Hid (WalkPost p (some (c', d')) = fun w e w' => e = .returned (.tuple #[.int .i64 (q : Int), .int .i64 (d' : Int)]) ∧ w = w') := by
              funext w e w'
              unfold WalkPost
              rw [hnx, hdp]
            rw [hq] at HF' hq'
            clear hnx hdp
            have g2 : decide ((q : Int) < 0) = false := by simp
            by_cases hdd : d < d'
            · have hmx : max d d' = d' := Nat.max_eq_right (by omega)
              rw [hmx] at HF' hq'
              clear hmx hq
              go_wp2_with fail
              refine (arR_any _ _).mono ?_
              rw [HX.out]
              rintro e w' ⟨rfl, rfl⟩
              go_wp2_with fail
              refine (IH.out p _ (by omega) hp HA.out).mono ?_
              rw [HT'.out, HQ.out]
              rintro e w' ⟨rfl, rfl⟩
              go_wp2_with fail
              go_round
              case rel => exact ⟨k + 1, q, d', by omega, by omega, by omega, by omega, HF', rfl, rfl, by go_num⟩
              case measure => simp [intOf]; omega
            · have hmx : max d d' = d := Nat.max_eq_left (by omega)
              rw [hmx] at HF' hq'
              clear hmx hq
              go_wp2_with fail
              refine (arR_any _ _).mono ?_
              rw [HX.out]
              rintro e w' ⟨rfl, rfl⟩
              go_wp2_with fail
              refine (IH.out p _ (by omega) hp HA.out).mono ?_
              rw [HT'.out, HQ.out]
              rintro e w' ⟨rfl, rfl⟩
              go_wp2_with fail
              go_round
              case rel => exact ⟨k + 1, q, d, by omega, by omega, by omega, by omega, HF', rfl, rfl, by go_num⟩
              case measure => simp [intOf]; omega
        · have HD := Lib.hid (HF.out.done hlt (by have := HK.out; omega) (by rw [HKK.out]; omega))
          go_wp2_with fail
          refine (arR_any _ _).mono ?_
          rw [HX.out]
          rintro e w' ⟨rfl, rfl⟩
          go_wp2_with fail
          go_ret2
          exact ⟨by rw [HD.out.1, HD.out.2]; rfl, rfl⟩
theorem walk_any (v : Value) (l : List Nd) (i : Nat) (w : World) (h : Nds w v l) (hl : l.length ≤ 1000000) (hi : i ≤ l.length) :
    Calls Try.prog 36 #[v, .int .i64 i] w (WalkPost i (T (l.drop i)) w) := by
  rcases h.form with ⟨rfl, a, cap, rfl⟩ | ⟨b, off, cap, rfl, _, hat⟩
  · rw [List.drop_nil, T_nil]
    exact walk_out _ _ _ _ _ (Nat.zero_le _)
  · exact walk_cells b off cap l hl _ i w (Nat.le_refl _) hi hat
end Go.Proofs.Ytgaediondmdnbaa.Rw

namespace Go.Proofs.Ytgaediondmdnbaa.Sg
open Go Go.RowKit
set_option maxRecDepth 20000

/-- The texts of signs, as the package's array holds them. -/
def cells : Array Value := #[.string ⟨#[]⟩, .string ⟨#[111, 107]⟩, .string ⟨#[33]⟩, .string ⟨#[63]⟩]
theorem ret_int {k : IntKind} {a b : Int} (h : a = b) : Ending.returned (.int k a) = .returned (.int k b) := congrArg (fun z => Ending.returned (.int k z)) h
theorem ret_bool {a b : Bool} (h : a = b) : Ending.returned (.bool a) = .returned (.bool b) := by rw [h]
set_option maxHeartbeats 400000 in
theorem is_any (s : Int) (w : World) :
    Calls Try.prog 85 #[.int .i64 s] w fun e w' => e = .returned (.bool (isB s)) ∧ w = w' := by
  rcases cases4 s with rfl | rfl | rfl | ⟨h1, h2, h3⟩
  · go_enter Try.func85, Try.ntmps85
    go_wp2
    go_ret
    exact ⟨rfl, rfl⟩
  · go_enter Try.func85, Try.ntmps85
    go_wp2
    go_ret
    exact ⟨rfl, rfl⟩
  · go_enter Try.func85, Try.ntmps85
    go_wp2
    go_ret
    exact ⟨rfl, rfl⟩
  · have b1 : (s == 1) = false := by simp [h1]
    have b2 : (s == 2) = false := by simp [h2]
    have b3 : (s == 3) = false := by simp [h3]
    go_enter Try.func85, Try.ntmps85
    go_wp2
    go_ret
    exact ⟨ret_bool (isB_no ⟨h1, h2, h3⟩).symm, rfl⟩

set_option maxHeartbeats 400000 in
theorem isR_any (s : Int) (w : World) :
    Calls Try.prog 80 #[.int .i64 s] w fun e w' => e = .returned (.bool (isB s)) ∧ w = w' := by
  rcases cases4 s with rfl | rfl | rfl | ⟨h1, h2, h3⟩
  · go_enter Try.func80, Try.ntmps80
    go_wp2
    go_ret
    exact ⟨rfl, rfl⟩
  · go_enter Try.func80, Try.ntmps80
    go_wp2
    go_ret
    exact ⟨rfl, rfl⟩
  · go_enter Try.func80, Try.ntmps80
    go_wp2
    go_ret
    exact ⟨rfl, rfl⟩
  · have b1 : (s == 1) = false := by simp [h1]
    have b2 : (s == 2) = false := by simp [h2]
    have b3 : (s == 3) = false := by simp [h3]
    go_enter Try.func80, Try.ntmps80
    go_wp2
    go_ret
    exact ⟨ret_bool (isB_no ⟨h1, h2, h3⟩).symm, rfl⟩

set_option maxHeartbeats 1000000 in
theorem both_any (a b : Int) (w : World) :
    Calls Try.prog 78 #[.int .i64 a, .int .i64 b] w fun e w' => e = .returned (.int .i64 (both a b)) ∧ w = w' := by
  by_cases hb : isB b = false
  · have hB := Lib.hid (both_no_r (a := a) hb)
    rcases cases4 a with rfl | rfl | rfl | ha
    all_goals (try have ha' := isB_no ha)
    all_goals go_enter Try.func78, Try.ntmps78
    all_goals go_wp2_with (go_at_call 85; refine (is_any _ _).mono ?_; rintro e w' ⟨rfl, rfl⟩)
    all_goals go_ret
    all_goals exact ⟨ret_int hB.out.symm, rfl⟩
  · rcases isB_yes (by simpa using hb) with rfl | rfl | rfl
    all_goals (rcases cases4 a with rfl | rfl | rfl | ha)
    all_goals (try have ha' := isB_no ha)
    all_goals clear hb
    all_goals go_enter Try.func78, Try.ntmps78
    all_goals go_wp2_with (go_at_call 85; refine (is_any _ _).mono ?_; rintro e w' ⟨rfl, rfl⟩)
    all_goals go_ret
    all_goals first | exact ⟨rfl, rfl⟩ | exact ⟨ret_int (both_no_l ha').symm, rfl⟩
set_option maxHeartbeats 1000000 in
theorem bothR_any (a b : Int) (w : World) :
    Calls Try.prog 70 #[.int .i64 a, .int .i64 b] w fun e w' => e = .returned (.int .i64 (both a b)) ∧ w = w' := by
  by_cases hb : isB b = false
  · have hB := Lib.hid (both_no_r (a := a) hb)
    rcases cases4 a with rfl | rfl | rfl | ha
    all_goals (try have ha' := isB_no ha)
    all_goals go_enter Try.func70, Try.ntmps70
    all_goals go_wp2_with (go_at_call 80; refine (isR_any _ _).mono ?_; rintro e w' ⟨rfl, rfl⟩)
    all_goals go_ret
    all_goals exact ⟨ret_int hB.out.symm, rfl⟩
  · rcases isB_yes (by simpa using hb) with rfl | rfl | rfl
    all_goals (rcases cases4 a with rfl | rfl | rfl | ha)
    all_goals (try have ha' := isB_no ha)
    all_goals clear hb
    all_goals go_enter Try.func70, Try.ntmps70
    all_goals go_wp2_with (go_at_call 80; refine (isR_any _ _).mono ?_; rintro e w' ⟨rfl, rfl⟩)
    all_goals go_ret
    all_goals first | exact ⟨rfl, rfl⟩ | exact ⟨ret_int (both_no_l ha').symm, rfl⟩

end Go.Proofs.Ytgaediondmdnbaa.Sg
