/- Slices as rows of cells, and what append does to a slice whose room is used up: plain laws over any program. The frame of a law's proof: a call that answers true, and below the old heap's size leaves all as it was, meets the law's specification. Traces as plain data: their order, sets of them, rows mixed; no program is named here. Signs as plain numbers: what Both, Text and Of are, and that Both hangs neither on order nor on grouping. Rows of nodes in memory; the document's Arity and Walk over them. Pairs of traces as plain data: their order, sets of them; no program is named here. Rows of actions in memory; how one row stands to another, and which of two traces comes ahead, by the document's own answer. What each function of package sign, and of the document's own answers for it, returns: walks of the translated code. A row within another one: plain. The document's Right, Size, Depth, Whole over rows of nodes. Which of two traces comes ahead, by the document's own answer: the walk. The program's Arity. The document's Whole over rows of nodes. Rows of traces in memory. -/
import Derived.WalkKit
import Derived.ArgAppend
import Derived.Deep.AppendSrc
import Derived.Deep.Upon
import Derived.Maps.AppendAt
import Derived.Test.YtpingbiibbmcaabRows
import Derived.ProofKit
import Derived.OpenShut
import Derived.Carry
import Derived.Deep.DeepHandedRow
import Derived.LaidMore
import Derived.Test.YtpingbiibbmcaabProg
import Derived.Test.YtpingbiibbmcaabQ01
import Derived.WalkSpells
import Derived.WalkLawsBesides
import Derived.Lib.Hide
import Derived.Deep.QuietTactic
import Derived.BigQuiet
import Derived.LoopN
import Derived.Deep.RegionHeld3
import Derived.StillTailTactics

namespace Go.Proofs.Ytpingbiibbmcaab.Ap
open Go Go.RowKit

/-- A slice value whose n elements are these cells. -/
def Rd (w : World) (size : Nat) (v : Value) (n : Nat) (cs : List Value) : Prop :=
  cs.length = n * size ∧ ∃ a cap, v = .slice a n cap ∧ n ≤ cap ∧ (a = none → n = 0 ∧ cap = 0) ∧
    (0 < n → ∃ b off, a = some ⟨b, off, none⟩ ∧ ∀ j u, cs[j]? = some u → w.cell? ⟨b, off + j, none⟩ = some u)

theorem cell_lt {w : World} {p : Addr} {u : Value} (h : w.cell? p = some u) : p.block < w.heap.size :=
  Nat.lt_of_not_le fun hle => by
    simp only [World.cell?] at h
    rw [Array.getElem?_eq_none hle] at h
    cases h

theorem Rd.below {w w' : World} {size n : Nat} {v : Value} {cs : List Value} (h : Rd w size v n cs) (hb : Below w.heap.size w w') : Rd w' size v n cs := by
  obtain ⟨hl, a, cap, hv, hc, hn, hcell⟩ := h
  refine ⟨hl, a, cap, hv, hc, hn, fun h0 => ?_⟩
  obtain ⟨b, off, ha, hj⟩ := hcell h0
  refine ⟨b, off, ha, fun j u hu => ?_⟩
  have := hj j u hu
  rw [hb.cell (cell_lt this)]
  exact this

/-- One cell of a row that is read. -/
theorem Rd.src {P : Program} {w : World} {size n : Nat} {t e : TypeId} {v : Value} {cs : List Value} (ht : P.underlying t = some (.slice e)) (h : Rd w size v n cs) (h1 : ∀ u ∈ cs, u.oneCell' = true) :
    Src P size t v n cs w := by
  obtain ⟨hl, a, cap, rfl, hc, hn, hcell⟩ := h
  cases a with
  | none =>
    obtain ⟨rfl, rfl⟩ := hn rfl
    obtain rfl : cs = [] := List.eq_nil_of_length_eq_zero (by simpa using hl)
    exact Src.ofNil w ht 0
  | some ad =>
    refine Src.ofSlice w ht ad n cap cs hl (fun j u hu => ?_) h1
    by_cases h0 : 0 < n
    · obtain ⟨b, off, ha, hj⟩ := hcell h0
      cases ha
      rw [Addr.add_lit]
      exact hj j u hu
    · obtain rfl : n = 0 := by omega
      obtain rfl : cs = [] := List.eq_nil_of_length_eq_zero (by simpa using hl)
      cases hu

/-- What the call owns stays so where nothing that was there is changed. -/
theorem own_below {w w' : World} {base size n : Nat} {e : TypeId} {v : Value} {xs : List Value} (h : w.ownsRow base e size v n xs) (hb : Below w.heap.size w w') : w'.ownsRow base e size v n xs := by
  obtain ⟨hl, h | ⟨g, cap, cur, hv, hg, hh, h1, h2, h3, h4⟩⟩ := h
  · exact ⟨hl, .inl h⟩
  · refine ⟨hl, .inr ⟨g, cap, cur, hv, hg, ?_, h1, h2, h3, h4⟩⟩
    rw [hb.block g]
    · exact hh
    · exact Nat.lt_of_not_le fun hle => by
        rw [Array.getElem?_eq_none hle] at hh
        cases hh

theorem own_base {w : World} {base base' size n : Nat} {e : TypeId} {v : Value} {xs : List Value} (h : w.ownsRow base e size v n xs) (hb : base' ≤ base) : w.ownsRow base' e size v n xs := by
  obtain ⟨hl, h | ⟨g, cap, cur, hv, hg, hr⟩⟩ := h
  · exact ⟨hl, .inl h⟩
  · exact ⟨hl, .inr ⟨g, cap, cur, hv, Nat.le_trans hb hg, hr⟩⟩

/-- The row lies where it lay, or in a new block. -/
def Fresh (w : World) (v v' : Value) : Prop := v'.ownBlock = v.ownBlock ∨ ∃ k, v'.ownBlock = some k ∧ w.heap.size ≤ k

/-- A slice value whose n elements are these cells, in a block that is as ok says. -/
def RdO (ok : Nat → Prop) (w : World) (size : Nat) (v : Value) (n : Nat) (cs : List Value) : Prop :=
  cs.length = n * size ∧ ∃ a cap, v = .slice a n cap ∧ n ≤ cap ∧ (a = none → n = 0 ∧ cap = 0) ∧
    (0 < n → ∃ b off, a = some ⟨b, off, none⟩ ∧ ok b ∧ b < w.heap.size ∧ ∀ j u, cs[j]? = some u → w.cell? ⟨b, off + j, none⟩ = some u)

theorem RdO.rd {ok : Nat → Prop} {w : World} {size n : Nat} {v : Value} {cs : List Value} (h : RdO ok w size v n cs) : Rd w size v n cs := by
  obtain ⟨hl, a, cap, hv, hc, hn, hcell⟩ := h
  refine ⟨hl, a, cap, hv, hc, hn, fun h0 => ?_⟩
  obtain ⟨b, off, ha, _, _, hj⟩ := hcell h0
  exact ⟨b, off, ha, hj⟩
theorem RdO.fresh {w : World} {base size n : Nat} {e : TypeId} {v : Value} {cs : List Value} (h : w.ownsRow base e size v n cs) : RdO (fun b => base ≤ b) w size v n cs := by
  obtain ⟨hl, ⟨rfl, rfl⟩ | ⟨g', cap, cur, rfl, hb, hh, hnc, hcm, hcs, ht⟩⟩ := h
  · exact ⟨hl, none, 0, rfl, Nat.le_refl _, fun _ => ⟨rfl, rfl⟩, fun h => absurd h (by omega)⟩
  · refine ⟨hl, some ⟨g', 0, none⟩, cap, rfl, hnc, fun h => (by cases h), fun _ => ⟨g', 0, rfl, hb, ?_, fun j u hu => ?_⟩⟩
    · exact Nat.lt_of_not_le fun hle => by
        rw [Array.getElem?_eq_none hle] at hh
        cases hh
    · have hj : j < n * size := by
        rw [← hl]
        exact (List.getElem?_eq_some_iff.1 hu).1
      rw [← ht, List.getElem?_take_of_lt hj] at hu
      simp only [World.cell?, hh, Nat.zero_add]
      simpa using hu
theorem own_lt {w : World} {base size n : Nat} {e : TypeId} {v : Value} {xs : List Value} (h : w.ownsRow base e size v n xs) : ∀ k, v.ownBlock = some k → k < w.heap.size := by
  obtain ⟨hl, ⟨rfl, _⟩ | ⟨g, cap, cur, rfl, hg, hh, _⟩⟩ := h
  · intro k hk; cases hk
  · intro k hk
    cases hk
    exact Nat.lt_of_not_le fun hle => by
      rw [Array.getElem?_eq_none hle] at hh
      cases hh

/-- append of one element, given by itself, onto a row that the call owns. -/
theorem run_append_one {P : Program} {w : World} {t ty e : TypeId} {i : TypeInfo} {z : Value} {size bytes : Nat} (ht : P.underlying t = some (.slice e)) (hi : P.info? e = some i) (hz : i.zero = some z)
    (hsize : i.size = size) (hby : i.bytes = bytes) (hzs : z.cells.size = size) (hsz : 0 < size) {base n : Nat} {v : Value} {xs : List Value} (hown : w.ownsRow base e size v n xs) (hbase : base ≤ w.heap.size)
    (cs : Array Value) (hcs : cs.size = size) (h1 : ∀ u ∈ cs.toList, u.oneCell' = true) (h63 : n + 1 ≤ maxLen) (hbytes : (n + 1) * bytes ≤ 140737488355328) :
    ∃ v' w', (Builtin.append_ #[t, t] ty #[v, .slice (some ⟨w.heap.size, 0, none⟩) 1 1]).run P (w.alloc (.cells cs e)) = .ok v' w' ∧ w'.ownsRow base e size v' (n + 1) (xs ++ cs.toList) ∧ w.grownBy w' v.ownBlock ∧ Below base w w' ∧ Fresh w v v' := by
  have hown' : (w.alloc (.cells cs e)).ownsRow base e size v n xs := own_below hown ((Below.refl _ _).alloc (Nat.le_refl _) _)
  obtain ⟨v', w', hrun, h2, h3, _, h5⟩ := run_append_own_at (P := P) (w.alloc (.cells cs e)) base t ty e i z size bytes ht hi hz hsize hby hzs hsz v n xs hown' ⟨w.heap.size, 0, none⟩ 1 1 cs.toList (by simpa using hcs)
    (fun j u hu => by
      rw [Addr.add_lit]
      simpa using hu) h1 h63 hbytes (by simp; omega)
  have hg : w.grownBy w' v.ownBlock := ⟨h3.os, h3.tape, h3.output, Nat.le_trans (by simp) h3.size, fun k hk hne => by rw [h3.block k (by simp; omega) hne]; exact Below.heap_alloc w _ k hk⟩
  refine ⟨v', w', hrun, h2, hg, (Below.refl _ _).grown hg hbase fun k hk => ?_, h5.imp id fun h => ⟨_, h, by simp⟩⟩
  obtain ⟨_, ⟨rfl, _⟩ | ⟨g, cap, cur, rfl, hg', _⟩⟩ := hown
  · cases hk
  · cases hk
    exact hg'

/-- append of the elements of any slice onto a row that the call owns. -/
theorem run_append_rd {P : Program} {w : World} {t ty e : TypeId} {i : TypeInfo} {z : Value} {size bytes : Nat} (ht : P.underlying t = some (.slice e)) (hi : P.info? e = some i) (hz : i.zero = some z)
    (hsize : i.size = size) (hby : i.bytes = bytes) (hzs : z.cells.size = size) (hsz : 0 < size) {base n m : Nat} {v x : Value} {xs ds : List Value} (hown : w.ownsRow base e size v n xs) (hbase : base ≤ w.heap.size)
    (hx : Rd w size x m ds) (h1 : ∀ u ∈ ds, u.oneCell' = true) (h63 : n + m ≤ maxLen) (hbytes : (n + m) * bytes ≤ 140737488355328) :
    ∃ v' w', (Builtin.append_ #[t, t] ty #[v, x]).run P w = .ok v' w' ∧ w'.ownsRow base e size v' (n + m) (xs ++ ds) ∧ w.grownBy w' v.ownBlock ∧ Below base w w' ∧ Fresh w v v' := by
  by_cases h0 : m = 0
  · subst h0
    obtain rfl : ds = [] := List.eq_nil_of_length_eq_zero (by simpa using hx.1)
    have hv : ∃ a k c, v = .slice a k c ∧ k ≤ c := by
      obtain ⟨_, ⟨rfl, _⟩ | ⟨g, cap, cur, rfl, _, _, hc, _⟩⟩ := hown
      · exact ⟨none, 0, 0, rfl, Nat.le_refl _⟩
      · exact ⟨_, _, _, rfl, hc⟩
    obtain ⟨a, k, c, rfl, hkc⟩ := hv
    exact ⟨_, _, run_append_nothing w t t ty e i ht hi a k c hkc x (by rw [hsize]; exact hx.src ht h1), by simpa using hown, ⟨rfl, rfl, rfl, Nat.le_refl _, fun _ _ _ => rfl⟩, Below.refl _ _, .inl rfl⟩
  · obtain ⟨hl, a1, c1, rfl, hc, hn, hcell⟩ := hx
    obtain ⟨b1, o1, rfl, hj⟩ := hcell (by omega)
    obtain ⟨v', w', hrun, h2, h3, _, h5⟩ := run_append_own_at (P := P) w base t ty e i z size bytes ht hi hz hsize hby hzs hsz v n xs hown ⟨b1, o1, none⟩ m c1 ds hl (fun j u hu => by rw [Addr.add_lit]; exact hj j u hu) h1 h63 hbytes hbase
    refine ⟨v', w', hrun, h2, h3, (Below.refl _ _).grown h3 hbase fun k hk => ?_, h5.imp id fun h => ⟨_, h, Nat.le_refl _⟩⟩
    obtain ⟨_, ⟨rfl, _⟩ | ⟨g, cap, cur, rfl, hg', _⟩⟩ := hown
    · cases hk
    · cases hk
      exact hg'

/-- An append whose run is known, guarded or not. -/
theorem wpList_append_run {P : Program} {w : World} {ops : Array Oper} {rest : List Oper} {o : Oper} {a : Act} {Q : Exit → Act → World → Prop} (hw : Region.wanted o (yielded ops a.tmps) = true) (s x : Operand) (t tx : TypeId)
    (ho : o.op = .call { callee := .builtin .append, args := #[s, x], argTypes := #[t, tx] }) (vs vx : Value) (hs : a.eval s = vs) (hx : a.eval x = vx) (v' : Value) (w' : World) (hrun : (Builtin.append_ #[t, tx] o.type #[vs, vx]).run P w = .ok v' w')
    (h : wpList P ops Q rest (a.put o.dst v') w') : wpList P ops Q (o :: rest) a w := by
  refine wpList_step fun K hK => ?_
  rw [if_pos hw]
  unfold Oper.wp
  simp [execOp, ho, resolve, invoke, builtin, hs, hx, hrun, Result.andThen]
  exact hK _ _ h
end Go.Proofs.Ytpingbiibbmcaab.Ap

namespace Go.Proofs.Ytpingbiibbmcaab.Fr
open Go Go.ChangeShapes Go.WideShapes Go.ChangeAt Go.RowKit
open Go.ChangeMaps (open_string)

section
variable {H : Type} {enc : TypeId × Value → H} {P : Program}

/-- All arguments read as they did. -/
theorem trodAll_below {W W' : World} (hl : laidOutB P = true) (hb : Below W.heap.size W W') :
    ∀ (ts : List TypeId) (vs : List Value) (ds : List (DataW H)) (ps : List MemPlace), (∀ t ∈ ts, P.readableRec t = true ∧ t < P.types.size) → (∀ x ∈ ps, x.block < W.heap.size) →
      DataW.TrodAll enc P W 0 (fun _ => true) true ts vs ds ps → DataW.TrodAll enc P W' 0 (fun b => decide (b < W.heap.size)) true ts vs ds ps
  | [], [], [], _, _, _, h => h
  | t :: ts, v :: vs, d :: ds, ps, hr, hp, h => by
    obtain ⟨p, q, h1, h2, rfl⟩ := h
    exact ⟨p, q, Below.trod hl (hr t (by simp)).1 (hr t (by simp)).2 h1 hb (fun x hx => hp x (by simp [hx])), trodAll_below hl hb ts vs ds q (fun u hu => hr u (by simp [hu])) (fun x hx => hp x (by simp [hx])) h2, rfl⟩
  | [], [], _ :: _, _, _, _, h => h.elim
  | [], _ :: _, _, _, _, _, h => h.elim
  | _ :: _, [], _, _, _, _, h => h.elim
  | _ :: _, _ :: _, [], _, _, _, h => h.elim

/-- A law that answered true and changed nothing that was there. -/
theorem law_post {f : Func} {s : ChangeSpec} {W W' : World} {args : Array Value} {ds gs : List (DataW H)} {before : List MemPlace} {tb : TypeId} (hl : laidOutB P = true)
    (hread : f.params.toList.all (fun t => P.readableRec t && decide (t < P.types.size)) = true) (hres : f.resultTypes = #[tb]) (ub : P.underlying tb = some .bool) (hv : s.vars = [])
    (hs : s.fn H ds = { results := [.lit (.bool true)], args := ds }) (hW : DataW.Whole enc P f.params.toList s.vars false W args.toList ds gs before) (hb : Below W.heap.size W W') :
    s.post enc P f false true false false W args (.bool true) W' := by
  have hW' := hW
  obtain ⟨p, q, hA, hV, rfl, _, _⟩ := hW
  rw [hv] at hV
  obtain ⟨rfl, rfl⟩ := trodVars_none hV
  have hs' : s.fn H (ds ++ []) = { results := [.lit (.bool true)], args := ds } := by rw [List.append_nil]; exact hs
  refine ⟨ds, [], _, [], p, [], hW', ?_, ?_, ?_, hb.frame _, fun h => by cases h⟩
  · rw [hs', hres]
    exact trodAll_mk1 (shut_bool ub true)
  · rw [hs']
    refine trodAll_below hl hb _ _ _ _ (fun t ht => ?_) (fun x hx => hW'.lt x (by simp [hx])) hA
    have := List.all_eq_true.1 hread t ht
    simpa using this
  · rw [hs', hv]
    rfl

/-- The arguments' readings. -/
theorem args_of {ts : List TypeId} {vars : List String} {ap : Bool} {W : World} {vs : List Value} {ds gs : List (DataW H)} {before : List MemPlace} (hW : DataW.Whole enc P ts vars ap W vs ds gs before) :
    ∃ p, DataW.TrodAll enc P W 0 (fun _ => true) true ts vs ds p := by
  obtain ⟨p, _, h, _⟩ := hW
  exact ⟨p, h⟩

end
end Go.Proofs.Ytpingbiibbmcaab.Fr

namespace Go.Proofs.Ytpingbiibbmcaab.Tr
open Go

/-- Comes one text ahead of another, by bytes? -/
def ls (x y : ByteArray) : Bool := Op.bytesLess x.toList y.toList

/-- How one row of actions stands to another. -/
def row : List ByteArray → List ByteArray → Int
  | x :: a, y :: b => if ls x y then -1 else if ls y x then 1 else row a b
  | a, b => (a.length : Int) - b.length

theorem row_nil_l (b : List ByteArray) : row [] b = - (b.length : Int) := by simp [row]
theorem row_nil_r (a : List ByteArray) : row a [] = (a.length : Int) := by cases a <;> simp [row]
theorem row_cons (x y : ByteArray) (a b : List ByteArray) : row (x :: a) (y :: b) = if ls x y then -1 else if ls y x then 1 else row a b := rfl

/-- What was done, and how it ended. -/
structure Tr where
  a : List ByteArray
  e : Int

/-- Which of two comes ahead: -1, 0, 1. -/
def cmp (p q : Tr) : Int :=
  if row p.a q.a < 0 then -1 else if 0 < row p.a q.a then 1 else if p.e < q.e then -1 else if q.e < p.e then 1 else 0

theorem cmp_bd (p q : Tr) : -1 ≤ cmp p q ∧ cmp p q ≤ 1 := by unfold cmp; repeat' split; all_goals omega
/-- One put into a rising row. -/
def ins (t : Tr) : List Tr → List Tr
  | [] => [t]
  | p :: l => if cmp t p < 0 then t :: p :: l else if 0 < cmp t p then p :: ins t l else p :: l
/-- The set of some traces: each once, rising. -/
def norm : List Tr → List Tr
  | [] => []
  | t :: l => ins t (norm l)
theorem length_ins (t : Tr) : ∀ l : List Tr, (ins t l).length ≤ l.length + 1
  | [] => by simp [ins]
  | p :: l => by
    unfold ins
    split
    · simp
    · split
      · simp; exact length_ins t l
      · simp
theorem length_norm : ∀ l : List Tr, (norm l).length ≤ l.length
  | [] => Nat.le_refl _
  | t :: l => by have := length_ins t (norm l); have := length_norm l; simp [norm]; omega

end Go.Proofs.Ytpingbiibbmcaab.Tr

namespace Go.Proofs.Ytpingbiibbmcaab.Sg
open Go Go.RowKit

/-- Is it one of the three? -/
def isB (s : Int) : Bool := s == 1 || s == 2 || s == 3
/-- How two end side by side. -/
def both (a b : Int) : Int :=
  if isB a && isB b then (if a == 2 || b == 2 then 2 else if a == 3 || b == 3 then 3 else 1) else 0
/-- How all of them end, from e on. -/
def all (e : Int) : List Int → Int
  | [] => e
  | x :: r => all (both e x) r
theorem all_append (e : Int) (l m : List Int) : all e (l ++ m) = all (all e l) m := by
  induction l generalizing e with
  | nil => rfl
  | cons y r ih => exact ih _
end Go.Proofs.Ytpingbiibbmcaab.Sg

namespace Go.Proofs.Ytpingbiibbmcaab.Rw
open Go Go.RowKit
set_option maxRecDepth 20000

theorem ret_int {k : IntKind} {a b : Int} (h : a = b) : Ending.returned (.int k a) = .returned (.int k b) := congrArg (fun z => Ending.returned (.int k z)) h
theorem ret_bool {a b : Bool} (h : a = b) : Ending.returned (.bool a) = .returned (.bool b) := by rw [h]

/-- A node's cells. -/
def cl (x : Nd) : List Value := [.int .i64 x.k, .string x.n, .int .i64 x.s]
def cls : List Nd → List Value
  | [] => []
  | x :: l => cl x ++ cls l
theorem cls_len : ∀ l : List Nd, (cls l).length = l.length * 3
  | [] => rfl
  | x :: l => by rw [cls, List.length_append, cls_len l]; simp [cl]; omega
theorem cls_append : ∀ l m : List Nd, cls (l ++ m) = cls l ++ cls m
  | [], _ => rfl
  | x :: l, m => by rw [List.cons_append, cls, cls_append l m, cls, List.append_assoc]
theorem cls_at : ∀ (l : List Nd) (k : Nat) (h : k < l.length), (cls l)[k * 3]? = some (.int .i64 l[k].k) ∧ (cls l)[k * 3 + 1]? = some (.string l[k].n) ∧ (cls l)[k * 3 + 2]? = some (.int .i64 l[k].s)
  | [], k, h => by simp at h
  | x :: l, 0, _ => ⟨rfl, rfl, rfl⟩
  | x :: l, k + 1, h => by
    have := cls_at l k (by simpa using h)
    simpa [cls, cl, show (k + 1) * 3 = k * 3 + 1 + 1 + 1 by omega] using this
/-- A slice of nodes that reads as these. -/
def Nds (w : World) (v : Value) (l : List Nd) : Prop := Ap.Rd w 3 v l.length (cls l)
theorem Nds.below {w w' : World} {v : Value} {l : List Nd} (h : Nds w v l) (hb : Below w.heap.size w w') : Nds w' v l := Ap.Rd.below h hb
/-- Node k's three cells. -/
def At (w : World) (b off : Nat) (l : List Nd) : Prop := ∀ k, (h : k < l.length) → w.cell? ⟨b, off + k * 3, none⟩ = some (.int .i64 l[k].k) ∧ w.cell? ⟨b, off + k * 3 + 1, none⟩ = some (.string l[k].n) ∧ w.cell? ⟨b, off + k * 3 + 2, none⟩ = some (.int .i64 l[k].s)
theorem Nds.form {w : World} {v : Value} {l : List Nd} (h : Nds w v l) :
    (l = [] ∧ ∃ a cap, v = .slice a 0 cap) ∨ ∃ b off cap, v = .slice (some ⟨b, off, none⟩) l.length cap ∧ l.length ≤ cap ∧ At w b off l := by
  obtain ⟨_, a, cap, rfl, hle, _, hcell⟩ := h
  by_cases h0 : 0 < l.length
  · obtain ⟨b, off, rfl, hj⟩ := hcell h0
    refine Or.inr ⟨b, off, cap, rfl, hle, fun k hk => ?_⟩
    obtain ⟨h1, h2, h3⟩ := cls_at l k hk
    exact ⟨hj _ _ h1, by rw [Nat.add_assoc]; exact hj _ _ h2, by rw [Nat.add_assoc]; exact hj _ _ h3⟩
  · have : l = [] := List.eq_nil_of_length_eq_zero (by omega)
    subst this
    exact Or.inl ⟨rfl, a, cap, rfl⟩

theorem cases15 (k : Int) : k = 1 ∨ k = 2 ∨ k = 3 ∨ k = 4 ∨ k = 5 ∨ k = 6 ∨ k = 7 ∨ k = 8 ∨ k = 9 ∨ k = 10 ∨ k = 11 ∨ k = 12 ∨ k = 13 ∨ k = 14 ∨ (k ≠ 1 ∧ k ≠ 2 ∧ k ≠ 3 ∧ k ≠ 4 ∧ k ≠ 5 ∧ k ≠ 6 ∧ k ≠ 7 ∧ k ≠ 8 ∧ k ≠ 9 ∧ k ≠ 10 ∧ k ≠ 11 ∧ k ≠ 12 ∧ k ≠ 13 ∧ k ≠ 14) := by omega
theorem ar_no {k : Int} (h : k ≠ 1 ∧ k ≠ 2 ∧ k ≠ 3 ∧ k ≠ 4 ∧ k ≠ 5 ∧ k ≠ 6 ∧ k ≠ 7 ∧ k ≠ 8 ∧ k ≠ 9 ∧ k ≠ 10 ∧ k ≠ 11 ∧ k ≠ 12 ∧ k ≠ 13 ∧ k ≠ 14) : ar k = -1 := by
  unfold ar
  rw [if_neg (by omega), if_neg (by omega), if_neg (by omega)]

set_option maxHeartbeats 1000000 in
theorem arR_any (k : Int) (w : World) : Calls Try.prog 19 #[.int .i64 k] w fun e w' => e = .returned (.int .i64 (ar k)) ∧ w = w' := by
  rcases cases15 k with rfl | rfl | rfl | rfl | rfl | rfl | rfl | rfl | rfl | rfl | rfl | rfl | rfl | rfl | h
  case inr.inr.inr.inr.inr.inr.inr.inr.inr.inr.inr.inr.inr.inr =>
    have hr := Lib.hid (ar_no h)
    obtain ⟨h1, h2, h3, h4, h5, h6, h7, h8, h9, h10, h11, h12, h13, h14⟩ := h
    have b1 : (k == 1) = false := by simp [h1]
    have b2 : (k == 2) = false := by simp [h2]
    have b3 : (k == 3) = false := by simp [h3]
    have b4 : (k == 4) = false := by simp [h4]
    have b5 : (k == 5) = false := by simp [h5]
    have b6 : (k == 6) = false := by simp [h6]
    have b7 : (k == 7) = false := by simp [h7]
    have b8 : (k == 8) = false := by simp [h8]
    have b9 : (k == 9) = false := by simp [h9]
    have b10 : (k == 10) = false := by simp [h10]
    have b11 : (k == 11) = false := by simp [h11]
    have b12 : (k == 12) = false := by simp [h12]
    have b13 : (k == 13) = false := by simp [h13]
    have b14 : (k == 14) = false := by simp [h14]
    clear h1 h2 h3 h4 h5 h6 h7 h8 h9 h10 h11 h12 h13 h14
    go_enter Try.func19, Try.ntmps19
    go_wp2_with fail
    go_ret
    exact ⟨ret_int hr.out.symm, rfl⟩
  all_goals
    go_enter Try.func19, Try.ntmps19
    go_wp2_with fail
    go_ret
    exact ⟨rfl, rfl⟩

/-- Where the tree at a place ends, below 0 if there is none; its depth. -/
def nx (i : Nat) : Option (Nat × Nat) → Int
  | none => -1
  | some (c, _) => i + c
def dp : Option (Nat × Nat) → Int
  | none => 0
  | some (_, d) => d
def WalkPost (i : Nat) (r : Option (Nat × Nat)) (w : World) (e : Ending) (w' : World) : Prop := e = .returned (.tuple #[.int .i64 (nx i r), .int .i64 (dp r)]) ∧ w = w'
theorem T_at {l : List Nd} {i : Nat} (h : i < l.length) (hk : ¬ ar l[i].k < 0) : T (l.drop i) = match S (ar l[i].k).toNat (l.drop (i + 1)) with
    | none => none
    | some (c, d) => some (c + 1, d + 1) := by
  rw [List.drop_eq_getElem_cons h, T_cons, if_neg hk]
  rfl
theorem T_no {l : List Nd} {i : Nat} (h : i < l.length) (hk : ar l[i].k < 0) : T (l.drop i) = none := by
  rw [List.drop_eq_getElem_cons h, T_cons, if_pos hk]
/-- How far k kids have come. -/
def Far (l : List Nd) (i k p d : Nat) : Prop := ∃ c, S k (l.drop (i + 1)) = some (c, d) ∧ p = i + 1 + c
theorem Far.start (l : List Nd) (i : Nat) : Far l i 0 (i + 1) 0 := ⟨0, S_zero _, rfl⟩
theorem Far.le {l : List Nd} {i k p d : Nat} (h : Far l i k p d) (hi : i < l.length) : p ≤ l.length ∧ i < p ∧ d ≤ l.length := by
  obtain ⟨c, hs, rfl⟩ := h
  have := S_bd hs
  rw [List.length_drop] at this
  omega
theorem Far.stop {l : List Nd} {i k p d : Nat} (h : Far l i k p d) (ht : T (l.drop p) = none) : S (k + 1) (l.drop (i + 1)) = none := by
  obtain ⟨c, hs, rfl⟩ := h
  rw [S_succ, hs]
  simp only [List.drop_drop]
  rw [ht]
theorem Far.next {l : List Nd} {i k p d c' d' : Nat} (h : Far l i k p d) (ht : T (l.drop p) = some (c', d')) : Far l i (k + 1) (p + c') (max d d') := by
  obtain ⟨c, hs, rfl⟩ := h
  refine ⟨c + c', ?_, by omega⟩
  rw [S_succ, hs]
  simp only [List.drop_drop]
  rw [ht]
theorem Far.done {l : List Nd} {i k p d : Nat} (h : Far l i k p d) (hi : i < l.length) (hk : ¬ ar l[i].k < 0) (hx : k = (ar l[i].k).toNat) : nx i (T (l.drop i)) = p ∧ dp (T (l.drop i)) = d + 1 := by
  obtain ⟨c, hs, rfl⟩ := h
  rw [T_at hi hk, ← hx, hs]
  simp only [nx, dp]
  omega
theorem walk_none {l : List Nd} {i k : Nat} (h : i < l.length) (hk : ¬ ar l[i].k < 0) (hlt : (k : Int) < ar l[i].k) (hs : S (k + 1) (l.drop (i + 1)) = none) : T (l.drop i) = none := by
  have := S_none hs ((ar l[i].k).toNat - (k + 1))
  rw [show k + 1 + ((ar l[i].k).toNat - (k + 1)) = (ar l[i].k).toNat by omega] at this
  rw [T_at h hk, this]

set_option maxHeartbeats 2000000 in
theorem walk_out (a : Option Addr) (n cap i : Nat) (w : World) (h : n ≤ i) :
    Calls Try.prog 15 #[.slice a n cap, .int .i64 i] w (WalkPost i none w) := by
  have g0 : decide ((i : Int) ≥ (n : Int)) = true := by simp; omega
  have g1 : decide ((n : Int) ≤ (i : Int)) = true := by simp; omega
  go_enter Try.func15, Try.ntmps15
  go_wp2_with fail
  go_ret2
  exact ⟨rfl, rfl⟩

set_option maxHeartbeats 4000000 in
theorem walk_cells (b off cap : Nat) (l : List Nd) (hl : l.length ≤ 1000000) : ∀ (m i : Nat) (w : World), l.length - i ≤ m → i ≤ l.length → At w b off l →
    Calls Try.prog 15 #[.slice (some ⟨b, off, none⟩) l.length cap, .int .i64 i] w (WalkPost i (T (l.drop i)) w) := by
  intro m
  induction m with
  | zero =>
    intro i w hm hi _
    rw [List.drop_eq_nil_of_le (by omega), T_nil]
    exact walk_out _ _ _ _ _ (by omega)
  | succ m ih =>
    intro i w hm hi hat
    by_cases hlt : i < l.length
    case neg =>
      rw [List.drop_eq_nil_of_le (by omega), T_nil]
      exact walk_out _ _ _ _ _ (by omega)
    have IH := Lib.hid ih
    have HA := Lib.hid hat
    have hc := (hat i hlt).1
    clear ih hat
    have g1 : decide (l.length ≤ i) = false := by simp; omega
    by_cases hk : ar l[i].k < 0
    · have HT := Lib.hid (T_no hlt hk)
      have hbd := ar_le l[i].k
      obtain ⟨kk, hkk⟩ : ∃ kk, l[i].k = kk := ⟨_, rfl⟩
      rw [hkk] at hc hk hbd
      obtain ⟨x, hx⟩ : ∃ x, ar kk = x := ⟨_, rfl⟩
      rw [hx] at hk hbd
      have HX := Lib.hid hx
      clear hkk hx
      go_enter Try.func15, Try.ntmps15
      go_wp2_with fail
      refine (arR_any _ _).mono ?_
      rw [HX.out]
      rintro e w' ⟨rfl, rfl⟩
      go_wp2_with fail
      go_ret2
      rw [HT.out]
      exact ⟨rfl, rfl⟩
    · have HT := Lib.hid (T_at hlt hk)
      have HN := Lib.hid (fun k => walk_none (k := k) hlt hk)
      have HK := Lib.hid hk
      have hbd := ar_le l[i].k
      obtain ⟨kk, hkk⟩ : ∃ kk, l[i].k = kk := ⟨_, rfl⟩
      rw [hkk] at hc hk hbd HT HN
      obtain ⟨x, hx⟩ : ∃ x, ar kk = x := ⟨_, rfl⟩
      rw [hx] at hk hbd HT HN
      have HX := Lib.hid hx
      have HKK : Hid (ar l[i].k = x) := by rw [hkk]; exact hx
      have g2 : decide (x < 0) = false := by simpa using hk
      clear hkk hx
      go_enter Try.func15, Try.ntmps15
      go_wp2_with fail
      refine (arR_any _ _).mono ?_
      rw [HX.out]
      rintro e w' ⟨rfl, rfl⟩
      go_wp2_with fail
      go_loop [6, 7, 8] (fun n d k => ∃ (kk p dd : Nat), (kk : Int) ≤ x ∧ p ≤ l.length ∧ dd ≤ l.length ∧ i < p ∧ Hid (Far l i kk p dd) ∧ n = .int .i64 p ∧ d = .int .i64 dd ∧ k = .int .i64 kk) (fun _ _ k => (x - intOf k).toNat)
      case atStart => exact ⟨0, i + 1, 0, by omega, by omega, by omega, by omega, Lib.hid (Far.start l i), by go_num, rfl, rfl⟩
      case round =>
        obtain ⟨k, p, d, hkx, hp, hd, hip, HF, rfl, rfl, rfl⟩ := hrel
        by_cases hkl : (k : Int) < x
        · cases ht : T (l.drop p) with
          | none =>
            have HZ := Lib.hid (HN.out k hkl (HF.out.stop ht))
            have HT' := Lib.hid ht
            clear ht
            go_wp2_with fail
            refine (arR_any _ _).mono ?_
            rw [HX.out]
            rintro e w' ⟨rfl, rfl⟩
            go_wp2_with fail
            refine (IH.out p _ (by omega) hp HA.out).mono ?_
            rw [HT'.out]
            rintro e w' ⟨rfl, rfl⟩
            go_wp2_with fail
            go_ret2
            rw [HZ.out]
            exact ⟨rfl, rfl⟩
          | some y =>
            obtain ⟨c', d'⟩ := y
            have HF' := Lib.hid (HF.out.next ht)
            have hq' := HF'.out.le hlt
            have HT' := Lib.hid ht
            have hb' := T_bd ht
            rw [List.length_drop] at hb'
            clear ht
            obtain ⟨q, hq⟩ : ∃ q, p + c' = q := ⟨_, rfl⟩
            have hnx : nx p (some (c', d')) = (q : Int) := by simp only [nx]; omega
            have hdp : dp (some (c', d')) = (d' : Int) := rfl
            have HQ : Hid (WalkPost p (some (c', d')) = fun w e w' => e = .returned (.tuple #[.int .i64 (q : Int), .int .i64 (d' : Int)]) ∧ w = w') := by
              funext w e w'
              unfold WalkPost
              rw [hnx, hdp]
            rw [hq] at HF' hq'
            clear hnx hdp
            have g2 : decide ((q : Int) < 0) = false := by simp
            by_cases hdd : d < d'
            · have hmx : max d d' = d' := Nat.max_eq_right (by omega)
              rw [hmx] at HF' hq'
              clear hmx hq
              go_wp2_with fail
              refine (arR_any _ _).mono ?_
              rw [HX.out]
              rintro e w' ⟨rfl, rfl⟩
              go_wp2_with fail
              refine (IH.out p _ (by omega) hp HA.out).mono ?_
              rw [HT'.out, HQ.out]
              rintro e w' ⟨rfl, rfl⟩
              go_wp2_with fail
              go_round
              case rel => exact ⟨k + 1, q, d', by omega, by omega, by omega, by omega, HF', rfl, rfl, by go_num⟩
              case measure => simp [intOf]; omega
            · have hmx : max d d' = d := Nat.max_eq_left (by omega)
              rw [hmx] at HF' hq'
              clear hmx hq
              go_wp2_with fail
              refine (arR_any _ _).mono ?_
              rw [HX.out]
              rintro e w' ⟨rfl, rfl⟩
              go_wp2_with fail
              refine (IH.out p _ (by omega) hp HA.out).mono ?_
              rw [HT'.out, HQ.out]
              rintro e w' ⟨rfl, rfl⟩
              go_wp2_with fail
              go_round
              case rel => exact ⟨k + 1, q, d, by omega, by omega, by omega, by omega, HF', rfl, rfl, by go_num⟩
              case measure => simp [intOf]; omega
        · have HD := Lib.hid (HF.out.done hlt (by have := HK.out; omega) (by rw [HKK.out]; omega))
          go_wp2_with fail
          refine (arR_any _ _).mono ?_
          rw [HX.out]
          rintro e w' ⟨rfl, rfl⟩
          go_wp2_with fail
          go_ret2
          exact ⟨by rw [HD.out.1, HD.out.2]; rfl, rfl⟩
theorem walk_any (v : Value) (l : List Nd) (i : Nat) (w : World) (h : Nds w v l) (hl : l.length ≤ 1000000) (hi : i ≤ l.length) :
    Calls Try.prog 15 #[v, .int .i64 i] w (WalkPost i (T (l.drop i)) w) := by
  rcases h.form with ⟨rfl, a, cap, rfl⟩ | ⟨b, off, cap, rfl, _, hat⟩
  · rw [List.drop_nil, T_nil]
    exact walk_out _ _ _ _ _ (Nat.zero_le _)
  · exact walk_cells b off cap l hl _ i w (Nat.le_refl _) hi hat
end Go.Proofs.Ytpingbiibbmcaab.Rw

namespace Go.Proofs.Ytpingbiibbmcaab.Mn
open Go Tr

/-- What is done, and what takes it back. -/
structure Pr where
  p : Tr
  q : Tr

/-- Which of two comes ahead. -/
def pcmp (x y : Pr) : Int := if cmp x.p y.p = 0 then cmp x.q y.q else cmp x.p y.p
theorem pcmp_bd (x y : Pr) : -1 ≤ pcmp x y ∧ pcmp x y ≤ 1 := by
  have h1 := cmp_bd x.p y.p
  have h2 := cmp_bd x.q y.q
  unfold pcmp
  split <;> omega
end Go.Proofs.Ytpingbiibbmcaab.Mn

namespace Go.Proofs.Ytpingbiibbmcaab.Tr
open Go Go.RowKit
set_option maxRecDepth 20000

theorem ret_int {k : IntKind} {a b : Int} (h : a = b) : Ending.returned (.int k a) = .returned (.int k b) := congrArg (fun z => Ending.returned (.int k z)) h
theorem ret_bool {a b : Bool} (h : a = b) : Ending.returned (.bool a) = .returned (.bool b) := by rw [h]

end Go.Proofs.Ytpingbiibbmcaab.Tr

namespace Go.Proofs.Ytpingbiibbmcaab.Sg
open Go Go.RowKit
set_option maxRecDepth 20000

/-- The texts of signs, as the package's array holds them. -/
def cells : Array Value := #[.string ⟨#[]⟩, .string ⟨#[111, 107]⟩, .string ⟨#[33]⟩, .string ⟨#[63]⟩]
theorem ret_int {k : IntKind} {a b : Int} (h : a = b) : Ending.returned (.int k a) = .returned (.int k b) := congrArg (fun z => Ending.returned (.int k z)) h
theorem ret_bool {a b : Bool} (h : a = b) : Ending.returned (.bool a) = .returned (.bool b) := by rw [h]
end Go.Proofs.Ytpingbiibbmcaab.Sg

namespace Go.Proofs.Ytpingbiibbmcaab.Tr
open Go Go.RowKit
set_option maxRecDepth 20000

/-- Are the actions of one row those of another, in order, some left out? -/
def sub : List ByteArray → List ByteArray → Bool
  | [], _ => true
  | _ :: _, [] => false
  | x :: a, y :: b => if x = y then sub a b else sub (x :: a) b
end Go.Proofs.Ytpingbiibbmcaab.Tr

namespace Go.Proofs.Ytpingbiibbmcaab.Rw
open Go Go.RowKit
set_option maxRecDepth 20000

theorem str_ne {s : ByteArray} {l : List UInt8} (h : ¬ s = ⟨l.toArray⟩) : (l == s.toList) = false := by
  rw [beq_eq_false_iff_ne]
  intro e
  apply h
  have : s.data.toList = s.toList := (ByteArray.toList_eq s).symm
  rw [← this] at e
  cases s with
  | mk d => simp at e; subst e; rfl
theorem str_ne' {s : ByteArray} {l : List UInt8} (h : ¬ s = ⟨l.toArray⟩) : (s.toList == l) = false := by
  have := str_ne h
  rw [beq_eq_false_iff_ne] at this ⊢
  exact fun e => this e.symm
/-- Words that no action has. -/
def w1 : ByteArray := ⟨#[115, 107, 105, 112]⟩
def w2 : ByteArray := ⟨#[116, 104, 114, 111, 119]⟩
def w3 : ByteArray := ⟨#[121, 105, 101, 108, 100]⟩
def w4 : ByteArray := ⟨#[115, 107, 105, 112, 112]⟩
def w5 : ByteArray := ⟨#[116, 104, 114, 111, 119, 119]⟩
def w6 : ByteArray := ⟨#[121, 105, 101, 108, 100, 100]⟩
def wordB (s : ByteArray) : Bool := decide (s = w1 ∨ s = w2 ∨ s = w3 ∨ s = w4 ∨ s = w5 ∨ s = w6)
/-- Letters from a to z alone. -/
def low (l : List UInt8) : Bool := l.all fun c => decide (97 ≤ c.toNat) && decide (c.toNat ≤ 122)
theorem low_take (s : ByteArray) (k : Nat) (h : k < s.size) : low (s.data.toList.take (k + 1)) = (low (s.data.toList.take k) && (decide (97 ≤ s[k].toNat) && decide (s[k].toNat ≤ 122))) := by
  unfold low
  rw [List.take_succ_eq_append_getElem (by simpa using h), List.all_append]
  simp
  rfl
theorem low_no {s : ByteArray} {k : Nat} (h : k < s.size) (hb : (decide (97 ≤ s[k].toNat) && decide (s[k].toNat ≤ 122)) = false) : low s.data.toList = false := by
  have := low_take s k h
  rw [hb, Bool.and_false] at this
  unfold low at this ⊢
  rw [List.all_eq_false] at this ⊢
  obtain ⟨x, hx, hn⟩ := this
  exact ⟨x, List.mem_of_mem_take hx, hn⟩
/-- A node that may be. -/
def rgt (x : Nd) : Bool :=
  if ar x.k < 0 then false
  else if x.k = 1 then low x.n.data.toList && (decide (1 ≤ x.n.size) && decide (x.n.size ≤ 8)) && (x.s == 0) && !wordB x.n
  else if x.k = 11 ∨ x.k = 14 then decide (x.n.size = 0) && (decide (1 ≤ x.s) && decide (x.s ≤ 3))
  else decide (x.n.size = 0) && (x.s == 0)

theorem rgt_act (n : ByteArray) (s : Int) : rgt ⟨1, n, s⟩ = (low n.data.toList && (decide (1 ≤ n.size) && decide (n.size ≤ 8)) && (s == 0) && !wordB n) := by
  unfold rgt
  rw [if_neg (show ¬ ar 1 < 0 from by decide), if_pos rfl]
theorem rgt_sign {k : Int} (n : ByteArray) (s : Int) (h : k = 11 ∨ k = 14) : rgt ⟨k, n, s⟩ = (decide (n.size = 0) && (decide (1 ≤ s) && decide (s ≤ 3))) := by
  unfold rgt
  rw [if_neg (show ¬ ar k < 0 from by rcases h with rfl | rfl <;> decide), if_neg (show ¬ k = 1 from by omega), if_pos h]
theorem rgt_other {k : Int} (n : ByteArray) (s : Int) (h0 : ¬ ar k < 0) (h1 : ¬ k = 1) (h : ¬ (k = 11 ∨ k = 14)) : rgt ⟨k, n, s⟩ = (decide (n.size = 0) && (s == 0)) := by
  unfold rgt
  rw [if_neg h0, if_neg h1, if_neg h]

theorem empty_of {n : ByteArray} (h : n.size = 0) : n = ⟨#[]⟩ := by
  obtain ⟨d⟩ := n
  have : d = #[] := Array.eq_empty_of_size_eq_zero h
  rw [this]
theorem not_empty {n : ByteArray} (h : ¬ n.size = 0) : (n.toList == []) = false := str_ne' (l := []) fun e => h (by rw [e]; rfl)
set_option maxHeartbeats 1000000 in
theorem depthR_any (v : Value) (l : List Nd) (w : World) (h : Nds w v l) (hl : l.length ≤ 1000000) :
    Calls Try.prog 8 #[v] w fun e w' => e = .returned (.int .i64 (depth l)) ∧ w = w' := by
  have HD : Hid ((depth l : Int) = dp (T l)) := by
    show (depth l : Int) = _
    unfold depth
    cases T l with
    | none => rfl
    | some x => rfl
  have H := Lib.hid h
  obtain ⟨_, a, cap, rfl, -⟩ := h
  rw [HD.out]
  obtain ⟨r, hr⟩ : ∃ r, T l = r := ⟨_, rfl⟩
  rw [hr]
  have HT := Lib.hid hr
  clear hr HD
  obtain ⟨x, hx⟩ : ∃ x, nx 0 r = x := ⟨_, rfl⟩
  obtain ⟨y, hy⟩ : ∃ y, dp r = y := ⟨_, rfl⟩
  have HX := Lib.hid hx
  have HY := Lib.hid hy
  rw [hy]
  clear hx hy
  go_enter Try.func8, Try.ntmps8
  go_wp2_with fail
  refine (walk_any _ l 0 _ H.out hl (Nat.zero_le _)).mono ?_
  unfold WalkPost
  rw [List.drop_zero, HT.out, HX.out, HY.out]
  rintro e w' ⟨rfl, rfl⟩
  go_wp2_with fail
  go_ret
  exact ⟨rfl, rfl⟩
end Go.Proofs.Ytpingbiibbmcaab.Rw

namespace Go.Proofs.Ytpingbiibbmcaab.Tr
open Go Go.RowKit
set_option maxRecDepth 20000

end Go.Proofs.Ytpingbiibbmcaab.Tr

namespace Go.Proofs.Ytpingbiibbmcaab.Rx
open Go Go.RowKit Rw
set_option maxRecDepth 20000

set_option maxHeartbeats 1000000 in
theorem arP_eq (k : Int) (w : World) : Calls Try.prog 31 #[.int .i64 k] w fun e w' => e = .returned (.int .i64 (ar k)) ∧ w = w' := by
  rcases cases15 k with rfl | rfl | rfl | rfl | rfl | rfl | rfl | rfl | rfl | rfl | rfl | rfl | rfl | rfl | h
  case inr.inr.inr.inr.inr.inr.inr.inr.inr.inr.inr.inr.inr.inr =>
    have hr := Lib.hid (ar_no h)
    obtain ⟨h1, h2, h3, h4, h5, h6, h7, h8, h9, h10, h11, h12, h13, h14⟩ := h
    have b1 : (k == 1) = false := by simp [h1]
    have b2 : (k == 2) = false := by simp [h2]
    have b3 : (k == 3) = false := by simp [h3]
    have b4 : (k == 4) = false := by simp [h4]
    have b5 : (k == 5) = false := by simp [h5]
    have b6 : (k == 6) = false := by simp [h6]
    have b7 : (k == 7) = false := by simp [h7]
    have b8 : (k == 8) = false := by simp [h8]
    have b9 : (k == 9) = false := by simp [h9]
    have b10 : (k == 10) = false := by simp [h10]
    have b11 : (k == 11) = false := by simp [h11]
    have b12 : (k == 12) = false := by simp [h12]
    have b13 : (k == 13) = false := by simp [h13]
    have b14 : (k == 14) = false := by simp [h14]
    clear h1 h2 h3 h4 h5 h6 h7 h8 h9 h10 h11 h12 h13 h14
    go_enter Try.func31, Try.ntmps31
    go_wp2_with fail
    go_ret
    exact ⟨ret_int hr.out.symm, rfl⟩
  all_goals
    go_enter Try.func31, Try.ntmps31
    go_wp2_with fail
    go_ret
    exact ⟨rfl, rfl⟩
end Go.Proofs.Ytpingbiibbmcaab.Rx

namespace Go.Proofs.Ytpingbiibbmcaab.Rw
open Go Go.RowKit
set_option maxRecDepth 20000

/-- Names of a length that memory has. -/
def Nms (l : List Nd) : Prop := ∀ x ∈ l, x.n.size ≤ 140737488355328
def whole (l : List Nd) : Bool := l.all rgt && (decide (1 ≤ l.length) && decide (l.length ≤ 200)) && decide (size l = l.length)
theorem Below.drewN (B n : Nat) (w : World) : Below B w (w.drewN n) := by
  induction n with
  | zero => exact Below.refl _ _
  | succ n ih => exact ih.drew
/-- How many nodes are of one of the kinds. -/
def cnt (l : List Nd) (ks : List Int) : Nat := l.countP fun x => decide (x.k ∈ ks)
end Go.Proofs.Ytpingbiibbmcaab.Rw

namespace Go.Proofs.Ytpingbiibbmcaab.Tr
open Go Go.RowKit
set_option maxRecDepth 20000

end Go.Proofs.Ytpingbiibbmcaab.Tr
