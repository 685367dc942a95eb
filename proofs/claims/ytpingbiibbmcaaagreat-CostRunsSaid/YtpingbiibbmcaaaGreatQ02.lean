/- Slices as rows of cells, and what append does to a slice whose room is used up: plain laws over any program. The frame of a law's proof: a call that answers true, and below the old heap's size leaves all as it was, meets the law's specification. Traces as plain data: their order, sets of them, rows mixed; no program is named here. Signs as plain numbers: what Both, Text and Of are, and that Both hangs neither on order nor on grouping. copy over elements of several cells: laws for the walk, over any program. A range over a function whose iterator keeps a state of its own in memory between two rounds: which blocks are the iterator's (T) is told to the body, which leaves them as they are; the iterator turns no others. -/
import Derived.WalkKit
import Derived.ArgAppend
import Derived.Deep.AppendSrc
import Derived.Deep.Upon
import Derived.Maps.AppendAt
import Derived.Test.YtpingbiibbmcaaaGreatRows
import Derived.ProofKit
import Derived.OpenShut
import Derived.Carry
import Derived.Deep.DeepHandedRow
import Derived.LaidMore
import Derived.Laws.CopyOwn
import Derived.RangeFuncNested
import Derived.Below

namespace Go.Proofs.YtpingbiibbmcaaaGreat.Ap
open Go Go.RowKit

/-- A slice value whose n elements are these cells. -/
def Rd (w : World) (size : Nat) (v : Value) (n : Nat) (cs : List Value) : Prop :=
  cs.length = n * size ∧ ∃ a cap, v = .slice a n cap ∧ n ≤ cap ∧ (a = none → n = 0 ∧ cap = 0) ∧
    (0 < n → ∃ b off, a = some ⟨b, off, none⟩ ∧ ∀ j u, cs[j]? = some u → w.cell? ⟨b, off + j, none⟩ = some u)

theorem cell_lt {w : World} {p : Addr} {u : Value} (h : w.cell? p = some u) : p.block < w.heap.size :=
  Nat.lt_of_not_le fun hle => by
    simp only [World.cell?] at h
    rw [Array.getElem?_eq_none hle] at h
    cases h

theorem Rd.below {w w' : World} {size n : Nat} {v : Value} {cs : List Value} (h : Rd w size v n cs) (hb : Below w.heap.size w w') : Rd w' size v n cs := by
  obtain ⟨hl, a, cap, hv, hc, hn, hcell⟩ := h
  refine ⟨hl, a, cap, hv, hc, hn, fun h0 => ?_⟩
  obtain ⟨b, off, ha, hj⟩ := hcell h0
  refine ⟨b, off, ha, fun j u hu => ?_⟩
  have := hj j u hu
  rw [hb.cell (cell_lt this)]
  exact this

/-- What the call itself made, or has grown, is such a row. -/
theorem Rd.owned {w : World} {base size n : Nat} {e : TypeId} {v : Value} {cs : List Value} (h : w.ownsRow base e size v n cs) : Rd w size v n cs := by
  obtain ⟨hl, ⟨rfl, rfl⟩ | ⟨g, cap, cur, rfl, _, hg, hnc, _, hcs, ht⟩⟩ := h
  · exact ⟨hl, none, 0, rfl, Nat.le_refl _, fun _ => ⟨rfl, rfl⟩, fun h => absurd h (by omega)⟩
  · refine ⟨hl, some ⟨g, 0, none⟩, cap, rfl, hnc, fun h => (by cases h), fun _ => ⟨g, 0, rfl, fun j u hu => ?_⟩⟩
    have hj : j < n * size := by
      rw [← hl]
      exact (List.getElem?_eq_some_iff.1 hu).1
    rw [← ht, List.getElem?_take_of_lt hj] at hu
    simp only [World.cell?, hg, Nat.zero_add]
    simpa using hu

/-- One cell of a row that is read. -/
theorem Rd.src {P : Program} {w : World} {size n : Nat} {t e : TypeId} {v : Value} {cs : List Value} (ht : P.underlying t = some (.slice e)) (h : Rd w size v n cs) (h1 : ∀ u ∈ cs, u.oneCell' = true) :
    Src P size t v n cs w := by
  obtain ⟨hl, a, cap, rfl, hc, hn, hcell⟩ := h
  cases a with
  | none =>
    obtain ⟨rfl, rfl⟩ := hn rfl
    obtain rfl : cs = [] := List.eq_nil_of_length_eq_zero (by simpa using hl)
    exact Src.ofNil w ht 0
  | some ad =>
    refine Src.ofSlice w ht ad n cap cs hl (fun j u hu => ?_) h1
    by_cases h0 : 0 < n
    · obtain ⟨b, off, ha, hj⟩ := hcell h0
      cases ha
      rw [Addr.add_lit]
      exact hj j u hu
    · obtain rfl : n = 0 := by omega
      obtain rfl : cs = [] := List.eq_nil_of_length_eq_zero (by simpa using hl)
      cases hu

/-- What the call owns stays so where nothing that was there is changed. -/
theorem own_below {w w' : World} {base size n : Nat} {e : TypeId} {v : Value} {xs : List Value} (h : w.ownsRow base e size v n xs) (hb : Below w.heap.size w w') : w'.ownsRow base e size v n xs := by
  obtain ⟨hl, h | ⟨g, cap, cur, hv, hg, hh, h1, h2, h3, h4⟩⟩ := h
  · exact ⟨hl, .inl h⟩
  · refine ⟨hl, .inr ⟨g, cap, cur, hv, hg, ?_, h1, h2, h3, h4⟩⟩
    rw [hb.block g]
    · exact hh
    · exact Nat.lt_of_not_le fun hle => by
        rw [Array.getElem?_eq_none hle] at hh
        cases hh

theorem own_base {w : World} {base base' size n : Nat} {e : TypeId} {v : Value} {xs : List Value} (h : w.ownsRow base e size v n xs) (hb : base' ≤ base) : w.ownsRow base' e size v n xs := by
  obtain ⟨hl, h | ⟨g, cap, cur, hv, hg, hr⟩⟩ := h
  · exact ⟨hl, .inl h⟩
  · exact ⟨hl, .inr ⟨g, cap, cur, hv, Nat.le_trans hb hg, hr⟩⟩

/-- The row lies where it lay, or in a new block. -/
def Fresh (w : World) (v v' : Value) : Prop := v'.ownBlock = v.ownBlock ∨ ∃ k, v'.ownBlock = some k ∧ w.heap.size ≤ k

/-- A slice value whose n elements are these cells, in a block that is as ok says. -/
def RdO (ok : Nat → Prop) (w : World) (size : Nat) (v : Value) (n : Nat) (cs : List Value) : Prop :=
  cs.length = n * size ∧ ∃ a cap, v = .slice a n cap ∧ n ≤ cap ∧ (a = none → n = 0 ∧ cap = 0) ∧
    (0 < n → ∃ b off, a = some ⟨b, off, none⟩ ∧ ok b ∧ b < w.heap.size ∧ ∀ j u, cs[j]? = some u → w.cell? ⟨b, off + j, none⟩ = some u)

theorem RdO.rd {ok : Nat → Prop} {w : World} {size n : Nat} {v : Value} {cs : List Value} (h : RdO ok w size v n cs) : Rd w size v n cs := by
  obtain ⟨hl, a, cap, hv, hc, hn, hcell⟩ := h
  refine ⟨hl, a, cap, hv, hc, hn, fun h0 => ?_⟩
  obtain ⟨b, off, ha, _, _, hj⟩ := hcell h0
  exact ⟨b, off, ha, hj⟩
theorem RdO.imp {ok ok' : Nat → Prop} {w : World} {size n : Nat} {v : Value} {cs : List Value} (h : RdO ok w size v n cs) (hi : ∀ b, b < w.heap.size → ok b → ok' b) : RdO ok' w size v n cs := by
  obtain ⟨hl, a, cap, hv, hc, hn, hcell⟩ := h
  refine ⟨hl, a, cap, hv, hc, hn, fun h0 => ?_⟩
  obtain ⟨b, off, ha, ho, hb, hj⟩ := hcell h0
  exact ⟨b, off, ha, hi b hb ho, hb, hj⟩
theorem RdO.below {ok : Nat → Prop} {w w' : World} {size n : Nat} {v : Value} {cs : List Value} (h : RdO ok w size v n cs) (hb : Below w.heap.size w w') : RdO ok w' size v n cs := by
  obtain ⟨hl, a, cap, hv, hc, hn, hcell⟩ := h
  refine ⟨hl, a, cap, hv, hc, hn, fun h0 => ?_⟩
  obtain ⟨b, off, ha, hne, hlt, hj⟩ := hcell h0
  exact ⟨b, off, ha, hne, Nat.lt_of_lt_of_le hlt hb.size, fun j u hu => by rw [hb.cell (p := ⟨b, off + j, none⟩) hlt]; exact hj j u hu⟩
theorem RdO.fresh {w : World} {base size n : Nat} {e : TypeId} {v : Value} {cs : List Value} (h : w.ownsRow base e size v n cs) : RdO (fun b => base ≤ b) w size v n cs := by
  obtain ⟨hl, ⟨rfl, rfl⟩ | ⟨g', cap, cur, rfl, hb, hh, hnc, hcm, hcs, ht⟩⟩ := h
  · exact ⟨hl, none, 0, rfl, Nat.le_refl _, fun _ => ⟨rfl, rfl⟩, fun h => absurd h (by omega)⟩
  · refine ⟨hl, some ⟨g', 0, none⟩, cap, rfl, hnc, fun h => (by cases h), fun _ => ⟨g', 0, rfl, hb, ?_, fun j u hu => ?_⟩⟩
    · exact Nat.lt_of_not_le fun hle => by
        rw [Array.getElem?_eq_none hle] at hh
        cases hh
    · have hj : j < n * size := by
        rw [← hl]
        exact (List.getElem?_eq_some_iff.1 hu).1
      rw [← ht, List.getElem?_take_of_lt hj] at hu
      simp only [World.cell?, hh, Nat.zero_add]
      simpa using hu
theorem own_lt {w : World} {base size n : Nat} {e : TypeId} {v : Value} {xs : List Value} (h : w.ownsRow base e size v n xs) : ∀ k, v.ownBlock = some k → k < w.heap.size := by
  obtain ⟨hl, ⟨rfl, _⟩ | ⟨g, cap, cur, rfl, hg, hh, _⟩⟩ := h
  · intro k hk; cases hk
  · intro k hk
    cases hk
    exact Nat.lt_of_not_le fun hle => by
      rw [Array.getElem?_eq_none hle] at hh
      cases hh

/-- append of one element, given by itself, onto a row that the call owns. -/
theorem run_append_one {P : Program} {w : World} {t ty e : TypeId} {i : TypeInfo} {z : Value} {size bytes : Nat} (ht : P.underlying t = some (.slice e)) (hi : P.info? e = some i) (hz : i.zero = some z)
    (hsize : i.size = size) (hby : i.bytes = bytes) (hzs : z.cells.size = size) (hsz : 0 < size) {base n : Nat} {v : Value} {xs : List Value} (hown : w.ownsRow base e size v n xs) (hbase : base ≤ w.heap.size)
    (cs : Array Value) (hcs : cs.size = size) (h1 : ∀ u ∈ cs.toList, u.oneCell' = true) (h63 : n + 1 ≤ maxLen) (hbytes : (n + 1) * bytes ≤ 140737488355328) :
    ∃ v' w', (Builtin.append_ #[t, t] ty #[v, .slice (some ⟨w.heap.size, 0, none⟩) 1 1]).run P (w.alloc (.cells cs e)) = .ok v' w' ∧ w'.ownsRow base e size v' (n + 1) (xs ++ cs.toList) ∧ w.grownBy w' v.ownBlock ∧ Below base w w' ∧ Fresh w v v' := by
  have hown' : (w.alloc (.cells cs e)).ownsRow base e size v n xs := own_below hown ((Below.refl _ _).alloc (Nat.le_refl _) _)
  obtain ⟨v', w', hrun, h2, h3, _, h5⟩ := run_append_own_at (P := P) (w.alloc (.cells cs e)) base t ty e i z size bytes ht hi hz hsize hby hzs hsz v n xs hown' ⟨w.heap.size, 0, none⟩ 1 1 cs.toList (by simpa using hcs)
    (fun j u hu => by
      rw [Addr.add_lit]
      simpa using hu) h1 h63 hbytes (by simp; omega)
  have hg : w.grownBy w' v.ownBlock := ⟨h3.os, h3.tape, h3.output, Nat.le_trans (by simp) h3.size, fun k hk hne => by rw [h3.block k (by simp; omega) hne]; exact Below.heap_alloc w _ k hk⟩
  refine ⟨v', w', hrun, h2, hg, (Below.refl _ _).grown hg hbase fun k hk => ?_, h5.imp id fun h => ⟨_, h, by simp⟩⟩
  obtain ⟨_, ⟨rfl, _⟩ | ⟨g, cap, cur, rfl, hg', _⟩⟩ := hown
  · cases hk
  · cases hk
    exact hg'

/-- append of the elements of any slice onto a row that the call owns. -/
theorem run_append_rd {P : Program} {w : World} {t ty e : TypeId} {i : TypeInfo} {z : Value} {size bytes : Nat} (ht : P.underlying t = some (.slice e)) (hi : P.info? e = some i) (hz : i.zero = some z)
    (hsize : i.size = size) (hby : i.bytes = bytes) (hzs : z.cells.size = size) (hsz : 0 < size) {base n m : Nat} {v x : Value} {xs ds : List Value} (hown : w.ownsRow base e size v n xs) (hbase : base ≤ w.heap.size)
    (hx : Rd w size x m ds) (h1 : ∀ u ∈ ds, u.oneCell' = true) (h63 : n + m ≤ maxLen) (hbytes : (n + m) * bytes ≤ 140737488355328) :
    ∃ v' w', (Builtin.append_ #[t, t] ty #[v, x]).run P w = .ok v' w' ∧ w'.ownsRow base e size v' (n + m) (xs ++ ds) ∧ w.grownBy w' v.ownBlock ∧ Below base w w' ∧ Fresh w v v' := by
  by_cases h0 : m = 0
  · subst h0
    obtain rfl : ds = [] := List.eq_nil_of_length_eq_zero (by simpa using hx.1)
    have hv : ∃ a k c, v = .slice a k c ∧ k ≤ c := by
      obtain ⟨_, ⟨rfl, _⟩ | ⟨g, cap, cur, rfl, _, _, hc, _⟩⟩ := hown
      · exact ⟨none, 0, 0, rfl, Nat.le_refl _⟩
      · exact ⟨_, _, _, rfl, hc⟩
    obtain ⟨a, k, c, rfl, hkc⟩ := hv
    exact ⟨_, _, run_append_nothing w t t ty e i ht hi a k c hkc x (by rw [hsize]; exact hx.src ht h1), by simpa using hown, ⟨rfl, rfl, rfl, Nat.le_refl _, fun _ _ _ => rfl⟩, Below.refl _ _, .inl rfl⟩
  · obtain ⟨hl, a1, c1, rfl, hc, hn, hcell⟩ := hx
    obtain ⟨b1, o1, rfl, hj⟩ := hcell (by omega)
    obtain ⟨v', w', hrun, h2, h3, _, h5⟩ := run_append_own_at (P := P) w base t ty e i z size bytes ht hi hz hsize hby hzs hsz v n xs hown ⟨b1, o1, none⟩ m c1 ds hl (fun j u hu => by rw [Addr.add_lit]; exact hj j u hu) h1 h63 hbytes hbase
    refine ⟨v', w', hrun, h2, h3, (Below.refl _ _).grown h3 hbase fun k hk => ?_, h5.imp id fun h => ⟨_, h, Nat.le_refl _⟩⟩
    obtain ⟨_, ⟨rfl, _⟩ | ⟨g, cap, cur, rfl, hg', _⟩⟩ := hown
    · cases hk
    · cases hk
      exact hg'

/-- An append whose run is known, guarded or not. -/
theorem wpList_append_run {P : Program} {w : World} {ops : Array Oper} {rest : List Oper} {o : Oper} {a : Act} {Q : Exit → Act → World → Prop} (hw : Region.wanted o (yielded ops a.tmps) = true) (s x : Operand) (t tx : TypeId)
    (ho : o.op = .call { callee := .builtin .append, args := #[s, x], argTypes := #[t, tx] }) (vs vx : Value) (hs : a.eval s = vs) (hx : a.eval x = vx) (v' : Value) (w' : World) (hrun : (Builtin.append_ #[t, tx] o.type #[vs, vx]).run P w = .ok v' w')
    (h : wpList P ops Q rest (a.put o.dst v') w') : wpList P ops Q (o :: rest) a w := by
  refine wpList_step fun K hK => ?_
  rw [if_pos hw]
  unfold Oper.wp
  simp [execOp, ho, resolve, invoke, builtin, hs, hx, hrun, Result.andThen]
  exact hK _ _ h
end Go.Proofs.YtpingbiibbmcaaaGreat.Ap

namespace Go.Proofs.YtpingbiibbmcaaaGreat.Fr
open Go Go.ChangeShapes Go.WideShapes Go.ChangeAt Go.RowKit
open Go.ChangeMaps (open_string)

section
variable {H : Type} {enc : TypeId × Value → H} {P : Program}

/-- All arguments read as they did. -/
theorem trodAll_below {W W' : World} (hl : laidOutB P = true) (hb : Below W.heap.size W W') :
    ∀ (ts : List TypeId) (vs : List Value) (ds : List (DataW H)) (ps : List MemPlace), (∀ t ∈ ts, P.readableRec t = true ∧ t < P.types.size) → (∀ x ∈ ps, x.block < W.heap.size) →
      DataW.TrodAll enc P W 0 (fun _ => true) true ts vs ds ps → DataW.TrodAll enc P W' 0 (fun b => decide (b < W.heap.size)) true ts vs ds ps
  | [], [], [], _, _, _, h => h
  | t :: ts, v :: vs, d :: ds, ps, hr, hp, h => by
    obtain ⟨p, q, h1, h2, rfl⟩ := h
    exact ⟨p, q, Below.trod hl (hr t (by simp)).1 (hr t (by simp)).2 h1 hb (fun x hx => hp x (by simp [hx])), trodAll_below hl hb ts vs ds q (fun u hu => hr u (by simp [hu])) (fun x hx => hp x (by simp [hx])) h2, rfl⟩
  | [], [], _ :: _, _, _, _, h => h.elim
  | [], _ :: _, _, _, _, _, h => h.elim
  | _ :: _, [], _, _, _, _, h => h.elim
  | _ :: _, _ :: _, [], _, _, _, h => h.elim

/-- A law that answered true and changed nothing that was there. -/
theorem law_post {f : Func} {s : ChangeSpec} {W W' : World} {args : Array Value} {ds gs : List (DataW H)} {before : List MemPlace} {tb : TypeId} (hl : laidOutB P = true)
    (hread : f.params.toList.all (fun t => P.readableRec t && decide (t < P.types.size)) = true) (hres : f.resultTypes = #[tb]) (ub : P.underlying tb = some .bool) (hv : s.vars = [])
    (hs : s.fn H ds = { results := [.lit (.bool true)], args := ds }) (hW : DataW.Whole enc P f.params.toList s.vars false W args.toList ds gs before) (hb : Below W.heap.size W W') :
    s.post enc P f false true false false W args (.bool true) W' := by
  have hW' := hW
  obtain ⟨p, q, hA, hV, rfl, _, _⟩ := hW
  rw [hv] at hV
  obtain ⟨rfl, rfl⟩ := trodVars_none hV
  have hs' : s.fn H (ds ++ []) = { results := [.lit (.bool true)], args := ds } := by rw [List.append_nil]; exact hs
  refine ⟨ds, [], _, [], p, [], hW', ?_, ?_, ?_, hb.frame _, fun h => by cases h⟩
  · rw [hs', hres]
    exact trodAll_mk1 (shut_bool ub true)
  · rw [hs']
    refine trodAll_below hl hb _ _ _ _ (fun t ht => ?_) (fun x hx => hW'.lt x (by simp [hx])) hA
    have := List.all_eq_true.1 hread t ht
    simpa using this
  · rw [hs', hv]
    rfl

/-- The arguments' readings. -/
theorem args_of {ts : List TypeId} {vars : List String} {ap : Bool} {W : World} {vs : List Value} {ds gs : List (DataW H)} {before : List MemPlace} (hW : DataW.Whole enc P ts vars ap W vs ds gs before) :
    ∃ p, DataW.TrodAll enc P W 0 (fun _ => true) true ts vs ds p := by
  obtain ⟨p, _, h, _⟩ := hW
  exact ⟨p, h⟩

end
end Go.Proofs.YtpingbiibbmcaaaGreat.Fr

namespace Go.Proofs.YtpingbiibbmcaaaGreat.Tr
open Go

/-- Comes one text ahead of another, by bytes? -/
def ls (x y : ByteArray) : Bool := Op.bytesLess x.toList y.toList

theorem bl_irrefl : ∀ x : List UInt8, Op.bytesLess x x = false
  | [] => rfl
  | a :: x => by simp [Op.bytesLess, bl_irrefl x]
theorem ls_irrefl (x : ByteArray) : ls x x = false := bl_irrefl _
/-- How one row of actions stands to another. -/
def row : List ByteArray → List ByteArray → Int
  | x :: a, y :: b => if ls x y then -1 else if ls y x then 1 else row a b
  | a, b => (a.length : Int) - b.length

theorem row_nil_l (b : List ByteArray) : row [] b = - (b.length : Int) := by simp [row]
theorem row_nil_r (a : List ByteArray) : row a [] = (a.length : Int) := by cases a <;> simp [row]
theorem row_cons (x y : ByteArray) (a b : List ByteArray) : row (x :: a) (y :: b) = if ls x y then -1 else if ls y x then 1 else row a b := rfl

theorem row_self : ∀ a : List ByteArray, row a a = 0
  | [] => rfl
  | x :: a => by rw [row_cons, ls_irrefl]; exact row_self a
/-- What was done, and how it ended. -/
structure Tr where
  a : List ByteArray
  e : Int

/-- Which of two comes ahead: -1, 0, 1. -/
def cmp (p q : Tr) : Int :=
  if row p.a q.a < 0 then -1 else if 0 < row p.a q.a then 1 else if p.e < q.e then -1 else if q.e < p.e then 1 else 0

theorem cmp_bd (p q : Tr) : -1 ≤ cmp p q ∧ cmp p q ≤ 1 := by unfold cmp; repeat' split; all_goals omega
theorem cmp_self (p : Tr) : cmp p p = 0 := by simp [cmp, row_self]
theorem cmp_neg {p q : Tr} : cmp p q < 0 ↔ row p.a q.a < 0 ∨ (row p.a q.a = 0 ∧ p.e < q.e) := by
  unfold cmp
  repeat' split
  all_goals omega
/-- Rising, each once. -/
def Up (l : List Tr) : Prop := l.Pairwise fun p q => cmp p q < 0

/-- One put into a rising row. -/
def ins (t : Tr) : List Tr → List Tr
  | [] => [t]
  | p :: l => if cmp t p < 0 then t :: p :: l else if 0 < cmp t p then p :: ins t l else p :: l
/-- The set of some traces: each once, rising. -/
def norm : List Tr → List Tr
  | [] => []
  | t :: l => ins t (norm l)
theorem length_ins (t : Tr) : ∀ l : List Tr, (ins t l).length ≤ l.length + 1
  | [] => by simp [ins]
  | p :: l => by
    unfold ins
    split
    · simp
    · split
      · simp; exact length_ins t l
      · simp
end Go.Proofs.YtpingbiibbmcaaaGreat.Tr

namespace Go.Proofs.YtpingbiibbmcaaaGreat.Sg
open Go Go.RowKit

/-- Is it one of the three? -/
def isB (s : Int) : Bool := s == 1 || s == 2 || s == 3
/-- How two end side by side. -/
def both (a b : Int) : Int :=
  if isB a && isB b then (if a == 2 || b == 2 then 2 else if a == 3 || b == 3 then 3 else 1) else 0
/-- How all of them end, from e on. -/
def all (e : Int) : List Int → Int
  | [] => e
  | x :: r => all (both e x) r
theorem cases4 (s : Int) : s = 1 ∨ s = 2 ∨ s = 3 ∨ (¬ s = 1 ∧ ¬ s = 2 ∧ ¬ s = 3) := by omega
theorem isB_no {s : Int} (h : ¬ s = 1 ∧ ¬ s = 2 ∧ ¬ s = 3) : isB s = false := by simp [isB, h]
theorem isB_yes {s : Int} (h : isB s = true) : s = 1 ∨ s = 2 ∨ s = 3 := by simpa [isB, or_assoc] using h
theorem both_no_l {a b : Int} (h : isB a = false) : both a b = 0 := by simp [both, h]
theorem both_no_r {a b : Int} (h : isB b = false) : both a b = 0 := by simp [both, h]

theorem all_append (e : Int) (l m : List Int) : all e (l ++ m) = all (all e l) m := by
  induction l generalizing e with
  | nil => rfl
  | cons y r ih => exact ih _
end Go.Proofs.YtpingbiibbmcaaaGreat.Sg

namespace Go.Proofs.YtpingbiibbmcaaaGreat.Cy
open Go Go.RowKit

variable {P : Program}
theorem run_copy_none (w : World) (dT sT ty elem : TypeId) (z : Nat) (d a : Option Addr) (dLen dCap sLen sCap : Nat) (hu : P.underlying dT = some (.slice elem)) (hs : (P.info? elem).map (·.size) = some z) (hn : Nat.min sLen dLen = 0) :
    (Builtin.copy_ #[dT, sT] ty #[.slice d dLen dCap, .slice a sLen sCap]).run P w = .ok (goInt 0) w := by
  cases hq : P.info? elem with
  | none => simp [hq] at hs
  | some i =>
    have hl : ∀ (x : Addr), (loadCells x 0).run P w = .ok #[] w := fun x => by simpa using run_loadCells_list (P := P) w x [] (by simp)
    cases d <;> cases a <;> simp [Builtin.copy_, run_underlying hu, Builtin.lenOf, Builtin.firstCells, sizeOf, typeInfo, hq, hn, storeCells, hl]
theorem run_copy_row (w : World) (dT sT ty elem : TypeId) (z n : Nat) (g o dLen dCap : Nat) (a : Addr) (sLen sCap : Nat) (cur : Array Value) (t : TypeId) (cs : List Value)
    (hu : P.underlying dT = some (.slice elem)) (hs : (P.info? elem).map (·.size) = some z)
    (hg : w.heap[g]? = some (.cells cur t (0, 0))) (hn : n = Nat.min sLen dLen) (hl : cs.length = n * z)
    (hsrc : ∀ j v, cs[j]? = some v → w.cell? (a.add j) = some v) (hfit : o + cs.length ≤ cur.size) (h1 : ∀ v ∈ cs, v.oneCell' = true) :
    (Builtin.copy_ #[dT, sT] ty #[.slice (some ⟨g, o, none⟩) dLen dCap, .slice (some a) sLen sCap]).run P w =
      .ok (goInt n) (w.setRow g (cur.toList.take o ++ cs ++ cur.toList.drop (o + cs.length)).toArray) := by
  have hld := run_loadCells_list (P := P) w a cs hsrc
  have hst := run_storeCells_at P g o t cs 0 cur w hg (by simpa using hfit) h1
  rw [hl] at hld
  cases hq : P.info? elem with
  | none => simp [hq] at hs
  | some i =>
    have hi : i.size = z := by simpa [hq] using hs
    simp [Builtin.copy_, run_underlying hu, Builtin.lenOf, Builtin.firstCells, sizeOf, typeInfo, hq, hi, ← hn, hld, hst]
theorem step_copy_run {ops : Array Oper} {o : Oper} {a : Act} {w : World} {K : Act → World → Prop} {Q : Exit → Act → World → Prop} {E : Prop} (hgd : o.guard = none) (d s : Operand) (dT sT : TypeId)
    (ho : o.op = .call { callee := .builtin .copy, args := #[d, s], argTypes := #[dT, sT] }) (dv sv v : Value) (hd : a.eval d = dv) (hs : a.eval s = sv) (w' : World)
    (hrun : (Builtin.copy_ #[dT, sT] o.type #[dv, sv]).run P w = .ok v w') (h : K (a.put o.dst v) w') :
    if Region.wanted o (yielded ops a.tmps) = true then Oper.wp P o a w K Q else E := by
  have hw : Region.wanted o (yielded ops a.tmps) = true := by simp [Region.wanted, hgd]
  rw [if_pos hw]
  unfold Oper.wp
  simp [execOp, ho, resolve, invoke, builtin, hd, hs, hrun, Result.andThen]
  exact h
end Go.Proofs.YtpingbiibbmcaaaGreat.Cy

namespace Go.Proofs.YtpingbiibbmcaaaGreat.Ro
open Go Go.RowKit

/-- Only blocks of T may have turned; new ones may have come. -/
structure Turn (T : Nat → Prop) (w w' : World) : Prop where
  os : w'.os = w.os
  tape : w'.tape = w.tape
  output : w'.output = w.output
  size : w.heap.size ≤ w'.heap.size
  block : ∀ k, k < w.heap.size → ¬ T k → w'.heap[k]? = w.heap[k]?
theorem Turn.refl (T : Nat → Prop) (w : World) : Turn T w w := ⟨rfl, rfl, rfl, Nat.le_refl _, fun _ _ _ => rfl⟩
theorem Turn.of_below {T : Nat → Prop} {w w' : World} (h : Below w.heap.size w w') : Turn T w w' := ⟨h.os, h.tape, h.output, h.size, fun k hk _ => h.block k hk⟩
theorem Turn.of_grownBy {T : Nat → Prop} {w w' : World} {row : Option Nat} (h : w.grownBy w' row) (hr : ∀ k, row = some k → T k) : Turn T w w' :=
  ⟨h.os, h.tape, h.output, h.size, fun k hk hn => h.block k hk fun e => hn (hr k e.symm)⟩
theorem Turn.below {T : Nat → Prop} {B : Nat} {w w' : World} (h : Turn T w w') (hB : B ≤ w.heap.size) (hT : ∀ t, T t → B ≤ t) : Below B w w' :=
  ⟨h.os, h.tape, h.output, h.size, fun k hk => h.block k (by omega) fun hT' => by have := hT k hT'; omega⟩
theorem Turn.imp {T T' : Nat → Prop} {w w' : World} (h : Turn T w w') (hT : ∀ t, T t → T' t) : Turn T' w w' := ⟨h.os, h.tape, h.output, h.size, fun k hk hn => h.block k hk fun e => hn (hT k e)⟩
theorem Turn.trans {T : Nat → Prop} {a b c : World} (h : Turn T a b) (k : Turn T b c) : Turn T a c :=
  ⟨k.os.trans h.os, k.tape.trans h.tape, k.output.trans h.output, Nat.le_trans h.size k.size, fun i hi hn => (k.block i (Nat.lt_of_lt_of_le hi h.size) hn).trans (h.block i hi hn)⟩
theorem Turn.setCell {T : Nat → Prop} {w : World} {p : Addr} {v : Value} (h : T p.block) : Turn T w (w.setCell p v) :=
  ⟨rfl, rfl, rfl, by show w.heap.size ≤ (w.heap.modify _ _).size; rw [Array.size_modify]; exact Nat.le_refl _, fun k _ hn => Below.heap_setCell w p v k fun e => hn (e ▸ h)⟩
theorem Turn.cell {T : Nat → Prop} {w w' : World} (h : Turn T w w') {p : Addr} {v : Value} (hc : w.cell? p = some v) (hn : ¬ T p.block) : w'.cell? p = some v := by
  have hlt : p.block < w.heap.size := Nat.lt_of_not_le fun hle => by
    simp only [World.cell?] at hc
    rw [Array.getElem?_eq_none hle] at hc
    cases hc
  rw [World.cell?_of_block (h.block _ hlt hn)]
  exact hc
/-- What is T's, or has come since. -/
def more (T : Nat → Prop) (A B : World) : Nat → Prop := fun t => T t ∨ (A.heap.size ≤ t ∧ t < B.heap.size)
/-- No block of T has turned. -/
structure Keep (T : Nat → Prop) (w w' : World) : Prop where
  size : w.heap.size ≤ w'.heap.size
  block : ∀ k, T k → w'.heap[k]? = w.heap[k]?
theorem Keep.refl (T : Nat → Prop) (w : World) : Keep T w w := ⟨Nat.le_refl _, fun _ _ => rfl⟩
theorem Keep.trans {T : Nat → Prop} {a b c : World} (h : Keep T a b) (k : Keep T b c) : Keep T a c := ⟨Nat.le_trans h.size k.size, fun i hi => (k.block i hi).trans (h.block i hi)⟩
theorem Keep.of_below {T : Nat → Prop} {B : Nat} {w w' : World} (h : Below B w w') (hT : ∀ t, T t → t < B) : Keep T w w' := ⟨h.size, fun k hk => h.block k (hT k hk)⟩
theorem Keep.setCell {T : Nat → Prop} {w : World} {p : Addr} {v : Value} (hn : ¬ T p.block) : Keep T w (w.setCell p v) :=
  ⟨by show w.heap.size ≤ (w.heap.modify _ _).size; rw [Array.size_modify]; exact Nat.le_refl _, fun k hk => Below.heap_setCell w p v k fun e => hn (e ▸ hk)⟩
theorem Keep.cell {T : Nat → Prop} {w w' : World} (h : Keep T w w') {p : Addr} {v : Value} (hc : w.cell? p = some v) (hn : T p.block) : w'.cell? p = some v := by
  rw [World.cell?_of_block (h.block _ hn)]
  exact hc

variable {P : Program}

/-- What an iterator promises that tells n elements, the k-th by arguments as E says: its own blocks (T) are new ones; a round leaves those and all below n0 as they are. -/
def Iter (P : Program) (gf : Nat) (lb : Array Value) (n : Nat) (E : Nat → Array Value → World → Prop) (n0 : Nat) (w0 : World) : Prop :=
  ∀ (l : Nat) (J Jx : (Nat → Prop) → Nat → World → Prop) (W : World), Below w0.heap.size w0 W →
    (∀ T k A B, J T k A → (∀ t, T t → t < A.heap.size) → Turn T A B → J (more T A B) k B) →
    (∀ T k args A, J T k A → k < n → (∀ t, T t → W.heap.size ≤ t ∧ t < A.heap.size) → E k args A → YieldAt .wide 0 P l args A fun e B =>
      (e = .returned (.bool true) ∧ J T (k + 1) B ∧ Keep (fun t => T t ∨ t < n0) A B) ∨ (e = .returned (.bool false) ∧ Jx T (k + 1) B)) →
    J (fun _ => False) 0 W →
    Calls P gf (#[.func (.yield l) #[] #[]] ++ lb) W fun e B => (∃ v, e = .returned v) ∧ ∃ T, (J T n B ∨ ∃ k, k ≤ n ∧ Jx T k B)

/-- How the body of a round may be left. -/
def roundEnd (n0 : Nat) (T : Nat → Prop) (I : (Nat → Prop) → Nat → World → Prop) (Ix : Code → (Nat → Prop) → Nat → World → Prop) (k : Nat) (W : World) : Exit → Act → World → Prop
  | .normal, _, W' => Keep (fun t => T t ∨ t < n0) W W' ∧ I T (k + 1) W'
  | .ret, _, W' => Keep (fun t => T t ∨ t < n0) W W' ∧ Ix .ret T (k + 1) W'
  | .exit id, _, W' => Keep (fun t => T t ∨ t < n0) W W' ∧ Ix (.exit id) T (k + 1) W'
  | .goto t, _, W' => Keep (fun t => T t ∨ t < n0) W W' ∧ Ix (.goto t) T (k + 1) W'
  | .panic _, _, _ => False
  | .outgrown, _, _ => False

theorem putObj_turn {W : World} {r : Nat} {o : Obj} {T : Nat → Prop} (h : T r) : Turn T W (W.putObj r o) :=
  Turn.of_grownBy (grownBy_putObj' W r o) fun k e => by cases e; exact h
/-- The caller's side. -/
theorem wp_range {g : Operand} {ps : Array Tmp} {assign body : Code} {Q : Exit → Act → World → Prop} {a : Act} {w : World}
    {gf : Nat} {lb : Array Value} (hg : a.eval g = .func (.func gf) #[] lb) (eg : ∀ args w, (callFunc gf args).run P w = .ok (.enter gf args) w)
    {n n0 : Nat} {E : Nat → Array Value → World → Prop} {w0 : World} (hit : Iter P gf lb n E n0 w0) (hn0 : n0 ≤ w.heap.size) (hb0 : Below w0.heap.size w0 w) (hps : ∀ k args A, E k args A → args.size = ps.size)
    (hE : ∀ k args A (r : Nat) (o o' : Obj), A.heap[r]? = some o → o.isCells = false → E k args A → E k args (A.putObj r o'))
    (I : (Nat → Prop) → Nat → World → Prop) (Ix : Code → (Nat → Prop) → Nat → World → Prop)
    (hI : ∀ T k A B, I T k A → (∀ t, T t → w.heap.size ≤ t ∧ t < A.heap.size) → Turn T A B → I (more T A B) k B)
    (hI' : ∀ T k A B, I T k A → (∀ t, T t → w.heap.size ≤ t ∧ t < A.heap.size) → Turn T A B → A.heap.size = B.heap.size → I T k B)
    (hIx : ∀ c T k A B, Ix c T k A → (∀ t, T t → w.heap.size ≤ t ∧ t < A.heap.size) → Turn T A B → A.heap.size = B.heap.size → Ix c T k B)
    (h0 : ∀ W, Below w.heap.size w W → (∀ t, w.heap.size ≤ t → t < W.heap.size → t = w.heap.size ∨ t = w.heap.size + 1) → I (fun t => t = w.heap.size ∨ t = w.heap.size + 1) 0 W) (a₁ : Array Value → Act)
    (hassign : ∀ (l k : Nat) (args : Array Value) (A : World) (K : Act → World → Prop), E k args A → K (a₁ args) A →
      assign.wpIn (Fence.wide.inRound l) 0 P (Exit.then K (fun _ _ _ => False)) { tmps := (ps.zip args).foldl (fun t (p, v) => t.setIfInBounds p v) a.tmps, defers := [] } A)
    (hbody : ∀ (l : Nat) (T : Nat → Prop) (k : Nat) (args : Array Value) (A : World), I T k A → (∀ t, T t → w.heap.size ≤ t ∧ t < A.heap.size) → k < n → E k args A →
      body.wpIn (Fence.wide.inRound l) 0 P (roundEnd n0 T I Ix k A) (a₁ args) A)
    (hdone : ∀ (T : Nat → Prop) (W : World), I T n W → T w.heap.size → (∀ t, T t → w.heap.size ≤ t ∧ t < W.heap.size) → W.heap[w.heap.size]? = some (.deferred (some [])) → Q .normal { a with defers := { target := .collected w.heap.size, args := #[] } :: a.defers } W)
    (hstop : ∀ (T : Nat → Prop) (c : Code) (k : Nat) (W : World), k ≤ n → Ix c T k W → T w.heap.size → (∀ t, T t → w.heap.size ≤ t ∧ t < W.heap.size) → W.heap[w.heap.size]? = some (.deferred (some [])) →
      c.wpIn .wide 0 P Q { a with defers := { target := .collected w.heap.size, args := #[] } :: a.defers } W) :
    (Code.rangeFunc g ps assign body).wp P Q a w := by
  refine (wpIn_wide (n := 0)).1 (wpIn_rangeFunc ?_)
  intro fn hfn
  obtain ⟨rec, hrec⟩ : ∃ rec : LoopState → Option Code → Loop, rec = fun st pe => { state := st, pending := pe, fn, tmps := a.tmps, params := ps, assign, body, defers := w.heap.size } := ⟨_, rfl⟩
  obtain ⟨W1, hW1⟩ : ∃ W1, (w.alloc (.deferred (some []))).alloc (.loop (rec .ready none)) = W1 := ⟨_, rfl⟩
  have hs1 : W1.heap.size = w.heap.size + 1 + 1 := by rw [← hW1]; simp
  have hL1 : W1.heap[w.heap.size + 1]? = some (.loop (rec .ready none)) := by
    rw [← hW1]; have := World.alloc_heap_new (w.alloc (.deferred (some []))) (.loop (rec .ready none)); rwa [World.size_alloc] at this
  have hK1 : W1.heap[w.heap.size]? = some (.deferred (some [])) := by
    rw [← hW1]; exact (Below.heap_alloc _ _ _ (by simp)).trans (World.alloc_heap_new w _)
  have hb1' : Below w.heap.size w W1 := by
    rw [← hW1]; exact ((Below.refl _ w).alloc (Nat.le_refl _) _).alloc (by simp) _
  have hb1 : Below w0.heap.size w0 W1 := hb0.trans (hb1'.mono hb0.size)
  obtain ⟨T0, hT0⟩ : ∃ T0 : (Nat → Prop) → Nat → Prop, T0 = fun T t => T t ∨ t = w.heap.size ∨ t = w.heap.size + 1 := ⟨_, rfl⟩
  have m0 : ∀ {T : Nat → Prop} {t : Nat}, T0 T t ↔ T t ∨ t = w.heap.size ∨ t = w.heap.size + 1 := fun {T t} => by rw [hT0]
  refine ⟨w.heap.size + 1, [{ target := .collected w.heap.size, args := #[] }], W1, { target := .fn (.func gf) lb, args := #[.func (.yield (w.heap.size + 1)) #[] #[]] }, W1, gf,
    #[.func (.yield (w.heap.size + 1)) #[] #[]] ++ lb, W1, ?_, ?_, fun _ _ => trivial, ?_, fun h => (by cases h), callsIn_wide.2 ?_⟩
  · rw [← hW1, hrec]; exact run_enterLoop_outer _ _ _ _ _
  · simp only [resolve, hg]
    simp [go_sem]
  · simp [invoke, go_sem, eg]
  · have bd : ∀ {T : Nat → Prop} {A : World}, (∀ t, T t → t < A.heap.size) → (∀ t, T t → W1.heap.size ≤ t) → W1.heap.size ≤ A.heap.size → ∀ t, T0 T t → w.heap.size ≤ t ∧ t < A.heap.size := fun {T A} h1 h2 h3 t ht => by
      rcases m0.1 ht with ht | rfl | rfl
      · exact ⟨by have := h2 t ht; omega, h1 t ht⟩
      · omega
      · omega
    refine (hit (w.heap.size + 1)
      (fun T k W => I (T0 T) k W ∧ W.heap[w.heap.size + 1]? = some (.loop (rec .ready none)) ∧ W.heap[w.heap.size]? = some (.deferred (some [])) ∧ (∀ t, T t → W1.heap.size ≤ t ∧ t < W.heap.size) ∧ W1.heap.size ≤ W.heap.size)
      (fun T k W => k ≤ n ∧ ∃ c, Ix c (T0 T) k W ∧ W.heap[w.heap.size + 1]? = some (.loop (rec .done (some c))) ∧ W.heap[w.heap.size]? = some (.deferred (some [])) ∧ (∀ t, T t → W1.heap.size ≤ t ∧ t < W.heap.size) ∧ W1.heap.size ≤ W.heap.size)
      W1 hb1 ?_ ?_ ⟨?_, hL1, hK1, fun _ h => h.elim, Nat.le_refl _⟩).mono ?_
    · rintro T k A B ⟨hi, hl, hk, hT, hsz⟩ hlt ht
      have n1 : ¬ T (w.heap.size + 1) := fun h => by have := (hT _ h).1; omega
      have n0 : ¬ T w.heap.size := fun h => by have := (hT _ h).1; omega
      have hsz' := ht.size
      refine ⟨?_, (ht.block _ (by omega) n1).trans hl, (ht.block _ (by omega) n0).trans hk, ?_, by omega⟩
      · have h1 := hI (T0 T) k A B hi (bd hlt (fun t h => (hT t h).1) hsz) (ht.imp fun t h => m0.2 (.inl h))
        have e : more (T0 T) A B = T0 (more T A B) := by
          funext t
          refine propext ⟨fun h => ?_, fun h => ?_⟩
          · rcases h with h | h
            · rcases m0.1 h with h | h
              · exact m0.2 (.inl (.inl h))
              · exact m0.2 (.inr h)
            · exact m0.2 (.inl (.inr h))
          · rcases m0.1 h with (h | h) | h
            · exact .inl (m0.2 (.inl h))
            · exact .inr h
            · exact .inl (m0.2 (.inr h))
        rw [← e]
        exact h1
      · rintro t (h | h)
        · have := hT t h; omega
        · omega
    · rintro T k args A ⟨hi, hl, hk, hT, hsz⟩ hlen hT' he
      have hy := run_yield (P := P) (args := args) hl (by rw [hrec]; exact hps k args A he)
      rw [hrec] at hy
      have hbd := bd (T := T) (A := A) (fun t h => (hT t h).2) (fun t h => (hT t h).1) hsz
      refine ⟨fn, _, assign, body, hy, roundIn_of_wpIn trivial (hassign _ k args A _ he ⟨_, run_beginRound hl (by rw [hrec]), ?_⟩)⟩
      have hl2 : (A.putObj (w.heap.size + 1) (.loop { rec .ready none with state := .busy })).heap[w.heap.size + 1]? = some (.loop { rec .ready none with state := .busy }) := World.putObj_heap_same (by omega)
      have hk2 : (A.putObj (w.heap.size + 1) (.loop { rec .ready none with state := .busy })).heap[w.heap.size]? = some (.deferred (some [])) := (World.putObj_heap_other (by omega)).trans hk
      have hi2 : I (T0 T) k (A.putObj (w.heap.size + 1) (.loop { rec .ready none with state := .busy })) := hI' _ _ _ _ hi hbd (putObj_turn (m0.2 (.inr (.inr rfl)))) (by simp)
      obtain ⟨A2, hA2⟩ : ∃ A2, A.putObj (w.heap.size + 1) (.loop { rec .ready none with state := .busy }) = A2 := ⟨_, rfl⟩
      have hs2 : A2.heap.size = A.heap.size := by rw [← hA2]; simp
      have kp2 : ∀ t, (T t ∨ t < n0) → A2.heap[t]? = A.heap[t]? := fun t h => by
        rw [← hA2]
        refine World.putObj_heap_other ?_
        rcases h with h | h
        · have := (hT t h).1; omega
        · omega
      have he2 : E k args A2 := by rw [← hA2]; exact hE _ _ _ _ _ _ hl rfl he
      rw [hA2] at hl2 hk2 hi2 ⊢
      refine wpIn_mono (hbody _ (T0 T) k args A2 hi2 (fun t h => by rw [hs2]; exact hbd t h) hlen he2) ?_
      have fin : ∀ (jump : Option Code) (W3 : World), Keep (fun t => T0 T t ∨ t < n0) A2 W3 →
          (Instr.endRound (w.heap.size + 1) jump).run P W3 = .ok (.bool jump.isNone) (W3.putObj (w.heap.size + 1) (.loop (rec (if jump.isNone then .ready else .done) jump))) ∧
          (W3.putObj (w.heap.size + 1) (.loop (rec (if jump.isNone then .ready else .done) jump))).heap[w.heap.size + 1]? = some (.loop (rec (if jump.isNone then .ready else .done) jump)) ∧
          (W3.putObj (w.heap.size + 1) (.loop (rec (if jump.isNone then .ready else .done) jump))).heap[w.heap.size]? = some (.deferred (some [])) ∧
          (∀ t, T t → W1.heap.size ≤ t ∧ t < (W3.putObj (w.heap.size + 1) (.loop (rec (if jump.isNone then .ready else .done) jump))).heap.size) ∧ W1.heap.size ≤ (W3.putObj (w.heap.size + 1) (.loop (rec (if jump.isNone then .ready else .done) jump))).heap.size ∧
          (∀ t, T0 T t → w.heap.size ≤ t ∧ t < W3.heap.size) := fun jump W3 hk3 => by
        have hsz3 := hk3.size
        have hl3 := (hk3.block _ (.inl (m0.2 (.inr (.inr rfl))))).trans hl2
        have hd3 := (hk3.block _ (.inl (m0.2 (.inr (.inl rfl))))).trans hk2
        have := run_endRound (P := P) jump hl3
        rw [hrec] at this ⊢
        refine ⟨this, World.putObj_heap_same (by omega), (World.putObj_heap_other (by omega)).trans hd3, fun t h => ?_, by simp; omega, fun t h => ?_⟩
        · have := hT t h; simp; omega
        · have := hbd t h; omega
      rintro e a3 W3 hp
      cases e with
      | normal =>
        obtain ⟨hk3, hi3⟩ := hp
        obtain ⟨hr, hl4, hk4, hT4, hs4, hb4⟩ := fin none W3 hk3
        refine ⟨_, _, hr, .inl ⟨rfl, ⟨hI' _ _ _ _ hi3 hb4 (putObj_turn (m0.2 (.inr (.inr rfl)))) (by simp), hl4, hk4, hT4, hs4⟩, by simp; have := hk3.size; omega, fun t h => ?_⟩⟩
        have hne : t ≠ w.heap.size + 1 := by
          rcases h with h | h
          · have := (hT t h).1; omega
          · omega
        rw [World.putObj_heap_other hne, hk3.block t (h.imp (fun h => m0.2 (.inl h)) id), kp2 t h]
      | ret =>
        obtain ⟨hk3, hi3⟩ := hp
        obtain ⟨hr, hl4, hk4, hT4, hs4, hb4⟩ := fin (some .ret) W3 hk3
        exact ⟨_, _, hr, .inr ⟨rfl, by omega, .ret, hIx _ _ _ _ _ hi3 hb4 (putObj_turn (m0.2 (.inr (.inr rfl)))) (by simp), hl4, hk4, hT4, hs4⟩⟩
      | exit id =>
        obtain ⟨hk3, hi3⟩ := hp
        obtain ⟨hr, hl4, hk4, hT4, hs4, hb4⟩ := fin (some (.exit id)) W3 hk3
        exact ⟨_, _, hr, .inr ⟨rfl, by omega, .exit id, hIx _ _ _ _ _ hi3 hb4 (putObj_turn (m0.2 (.inr (.inr rfl)))) (by simp), hl4, hk4, hT4, hs4⟩⟩
      | goto t =>
        obtain ⟨hk3, hi3⟩ := hp
        obtain ⟨hr, hl4, hk4, hT4, hs4, hb4⟩ := fin (some (.goto t)) W3 hk3
        exact ⟨_, _, hr, .inr ⟨rfl, by omega, .goto t, hIx _ _ _ _ _ hi3 hb4 (putObj_turn (m0.2 (.inr (.inr rfl)))) (by simp), hl4, hk4, hT4, hs4⟩⟩
      | panic ch => exact hp.elim
      | outgrown => exact hp.elim
    · have e : T0 (fun _ => False) = fun t => t = w.heap.size ∨ t = w.heap.size + 1 := by
        funext t
        exact propext ⟨fun h => (m0.1 h).elim False.elim id, fun h => m0.2 (.inr h)⟩
      rw [e]
      exact h0 W1 hb1' fun t h1 h2 => by omega
    · rintro e W2 ⟨⟨v, rfl⟩, T, (⟨hi, hl, hk, hT, hsz⟩ | ⟨k, hkn, _, c, hi, hl, hk, hT, hsz⟩)⟩
      · have hbd := bd (T := T) (A := W2) (fun t h => (hT t h).2) (fun t h => (hT t h).1) hsz
        refine ⟨none, _, by have := run_endLoop (P := P) hl (by rw [hrec]; simp); rw [hrec] at this; exact this, ?_⟩
        exact hdone (T0 T) _ (hI' _ _ _ _ hi hbd (putObj_turn (m0.2 (.inr (.inr rfl)))) (by simp)) (m0.2 (.inr (.inl rfl))) (fun t h => by simp; exact hbd t h) ((World.putObj_heap_other (by omega)).trans hk)
      · have hbd := bd (T := T) (A := W2) (fun t h => (hT t h).2) (fun t h => (hT t h).1) hsz
        refine ⟨some c, _, by have := run_endLoop (P := P) hl (by rw [hrec]; simp); rw [hrec] at this; exact this, ?_⟩
        exact hstop (T0 T) c k _ hkn (hIx _ _ _ _ _ hi hbd (putObj_turn (m0.2 (.inr (.inr rfl)))) (by simp)) (m0.2 (.inr (.inl rfl))) (fun t h => by simp; exact hbd t h) ((World.putObj_heap_other (by omega)).trans hk)

/-- A function whose body holds a range over a function. -/
theorem calls_of_marks {f : FuncId} {fn : Func} {c : Code} {args : Array Value} {w : World} {R : Ending → World → Prop}
    (hf : P.funcs[f]? = some fn) (hb : fn.body = some c) (h : c.wp P (bodyPostM .wide 0 P fn R) { tmps := args ++ Array.replicate (fn.ntmps - args.size) undef, defers := [] } w) : Calls P f args w R :=
  (callsIn_wide (n := 0)).1 (callsIn_of_wp_marks hf hb trivial ((wpIn_wide (n := 0)).2 h))
/-- It returns. -/
theorem leaves_mark {fn : Func} {tmps : Array Value} {R : Ending → World → Prop} {d : Nat} {w : World} {v : Value} (h : w.heap[d]? = some (.deferred (some []))) (hr : (results fn tmps).run P (w.putObj d (.deferred none)) = .ok v (w.putObj d (.deferred none)))
    (hR : R (.returned v) (w.putObj d (.deferred none))) : LeavesInM .wide 0 P fn tmps R [{ target := .collected d, args := #[] }] .returning w :=
  ⟨by simp, .inl ⟨_, _, rfl, run_takeDeferred h, _, hr, hR⟩⟩
end Go.Proofs.YtpingbiibbmcaaaGreat.Ro
