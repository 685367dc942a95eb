/- What the program's package trace is asked to do, as contracts of its calls; and the statements' own first look at it, walked from them. -/
import Derived.Test.YtmhmfnjjdcdkcaaDoorTr6
import Derived.Test.YtmhmfnjjdcdkcaaDoorTr7
import Derived.Test.YtmhmfnjjdcdkcaaDoorTrb
import Derived.Test.YtmhmfnjjdcdkcaaDoorTrd
namespace Go.Proofs.YtmhmfnjjdcdkcaaDoor.Tr
open Go Go.RowKit
set_option maxRecDepth 20000

/-- Below 0, 0, above 0. -/
def sgn (c : Int) : Int := if c < 0 then -1 else if 0 < c then 1 else 0
/-- A row of the call's own that may be written into. -/
def Mine (base : Nat) (w : World) (v : Value) (l : List ByteArray) : Prop :=
  StrsO (fun b => base ≤ b) w v l ∧ ∀ b off cap, v = .slice (some ⟨b, off, none⟩) l.length cap → ∀ j, j < l.length → w.frozen? ⟨b, off + j, none⟩ = false
def CmpPost (p q : Tr) (w : World) (e : Ending) (w' : World) : Prop := ∃ c : Int, e = .returned (.int .i64 c) ∧ -4611686018427387904 ≤ c ∧ c ≤ 4611686018427387904 ∧ sgn c = cmp p q ∧ Below w.heap.size w w'
def SetPost (l : List Tr) (w : World) (e : Ending) (w' : World) : Prop := ∃ v, e = .returned v ∧ Trs w' v l ∧ Below w.heap.size w w'
def MixPost (l : List (List ByteArray)) (w : World) (e : Ending) (w' : World) : Prop := ∃ v, e = .returned v ∧ Rws w' v l ∧ Below w.heap.size w w'
def ThnPost (t : Tr) (w : World) (e : Ending) (w' : World) : Prop := ∃ v, e = .returned (.agg #[v, .int .i64 t.e]) ∧ Mine w.heap.size w' v t.a ∧ Below w.heap.size w w'

/-- The contracts of package trace. -/
structure Con : Prop where
  cCmp : ∀ (v1 v2 : Value) (p q : Tr) (w : World), Sg.Tab w → Strs w v1 p.a → Strs w v2 q.a → p.a.length ≤ 1000000 → q.a.length ≤ 1000000 → Calls Tryd.prog 14 #[.agg #[v1, .int .i64 p.e], .agg #[v2, .int .i64 q.e]] w (CmpPost p q w)
  cSet : ∀ (x : Value) (l : List Tr) (w : World), Sg.Tab w → Trs w x l → l.length ≤ 1000 → (∀ t ∈ l, t.a.length ≤ 1000) → Calls Tryd.prog 17 #[x] w (SetPost (norm l) w)
  cOr : ∀ (x y : Value) (l m : List Tr) (w : World), Sg.Tab w → Trs w x l → Trs w y m → l.length + m.length ≤ 1000 → (∀ t ∈ l ++ m, t.a.length ≤ 1000) → Calls Tryd.prog 18 #[x, y] w (SetPost (norm (l ++ m)) w)
  cHas : ∀ (x v : Value) (l : List Tr) (t : Tr) (w : World), Sg.Tab w → Trs w x l → Strs w v t.a → l.length ≤ 1000 → (∀ t ∈ l, t.a.length ≤ 1000) → t.a.length ≤ 1000 → Calls Tryd.prog 23 #[x, .agg #[v, .int .i64 t.e]] w fun e w' => e = .returned (.bool (l.any fun u => cmp u t == 0)) ∧ Below w.heap.size w w'
  cThn : ∀ (v1 v2 : Value) (p q : Tr) (w : World), Sg.Tab w → Strs w v1 p.a → Strs w v2 q.a → p.a.length + q.a.length ≤ 10000 → Calls Tryd.prog 25 #[.agg #[v1, .int .i64 p.e], .agg #[v2, .int .i64 q.e]] w (ThnPost (thn p q) w)
  cMix : ∀ (x y : Value) (l m : List ByteArray) (w : World), Sg.Tab w → Strs w x l → Strs w y m → l.length + m.length ≤ 9 → Calls Tryd.prog 27 #[x, y] w (MixPost (mix l m) w)
  cPar : ∀ (v1 v2 : Value) (p q : Tr) (w : World), Sg.Tab w → Strs w v1 p.a → Strs w v2 q.a → p.a.length + q.a.length ≤ 9 → Calls Tryd.prog 31 #[.agg #[v1, .int .i64 p.e], .agg #[v2, .int .i64 q.e]] w (SetPost (pr p q) w)
  cText : ∀ (v : Value) (t : Tr) (w : World), Sg.Tab w → Strs w v t.a → t.a.length ≤ 1000 → (txs t.a).length ≤ 8388608 → Calls Tryd.prog 33 #[.agg #[v, .int .i64 t.e]] w fun e w' => e = .returned (.string (txt t)) ∧ Below w.heap.size w w'

theorem Tab.below {w w' : World} (h : Sg.Tab w) (hb : Below w.heap.size w w') : Sg.Tab w' := by
  obtain ⟨t, fr, hg⟩ := h
  refine ⟨t, fr, ?_⟩
  rw [hb.block _ ?_]
  · exact hg
  · exact Nat.lt_of_not_le fun hle => by
      rw [Array.getElem?_eq_none hle] at hg
      cases hg

/-- Texts as the statements name them. -/
abbrev bA : ByteArray := ⟨#[97]⟩
abbrev bB : ByteArray := ⟨#[98]⟩
abbrev bC : ByteArray := ⟨#[99]⟩
theorem ls_eq (x y : ByteArray) : ls x y = Op.bytesLess x.data.toList y.data.toList := by rw [ls, ByteArray.toList_eq, ByteArray.toList_eq]
theorem lAB : ls bA bB = true := by rw [ls_eq]; rfl
theorem lBA : ls bB bA = false := by rw [ls_eq]; rfl
theorem lAC : ls bA bC = true := by rw [ls_eq]; rfl
theorem lCA : ls bC bA = false := by rw [ls_eq]; rfl
theorem lBC : ls bB bC = true := by rw [ls_eq]; rfl
theorem lCB : ls bC bB = false := by rw [ls_eq]; rfl
abbrev tP : Tr := ⟨[bA], 1⟩
abbrev tQ : Tr := ⟨[bB, bC], 2⟩
theorem pr_PQ : pr tP tQ = [⟨[bA, bB, bC], 2⟩, ⟨[bB, bA, bC], 2⟩, ⟨[bB, bC, bA], 2⟩] := by
  have h : Sg.both 1 2 = 2 := rfl
  simp [pr, mx, norm, ins, cmp, row, h, lAB, lAC, ls_irrefl]
theorem mix_PQ : (mix [bA] [bB, bC]).length = 3 := by
  have h : Sg.both 1 1 = 1 := rfl
  simp [mix, pr, mx, norm, ins, cmp, row, h, lAB, lAC, ls_irrefl]
theorem cmp_PQ : cmp tP tQ = -1 := by simp [cmp, row, lAB]
theorem norm_QPQ : (norm [tQ, tP, tQ]).length = 2 := by simp [norm, ins, cmp, row, lAB, lBA, ls_irrefl]
theorem thn_PQ : thn tP tQ = ⟨[bA, bB, bC], 2⟩ := rfl
theorem thn_QP : thn tQ tP = tQ := rfl
theorem txt_PQ : txt ⟨[bA, bB, bC], 2⟩ = ⟨#[97, 32, 98, 32, 99, 32, 33]⟩ := rfl
theorem txt_Q : txt tQ = ⟨#[98, 32, 99, 32, 33]⟩ := rfl
theorem txt_BAC : txt ⟨[bB, bA, bC], 2⟩ = ⟨#[98, 32, 97, 32, 99, 32, 33]⟩ := rfl
end Go.Proofs.YtmhmfnjjdcdkcaaDoor.Tr
