/- The program's Size and Depth: measure. -/
import Derived.Test.YtpkbpooiaddcaaaRxa
import Derived.Test.YtpkbpooiaddcaaaRxm
import Derived.Test.YtpkbpooiaddcaaaRwt
import Derived.Laws.MakeOwn
import Derived.OwnWalk
import Derived.WalkMore
import Derived.Deep.LoopGhost
namespace Go.Proofs.Ytpkbpooiaddcaaa.Rx
open Go Go.RowKit Rw
set_option maxRecDepth 20000

theorem infoI : (Try.prog.info? 3).map (fun i => (i.zero, i.size, i.bytes)) = some (some (.int .i64 0), 1, 8) := by kernel_rfl
def ic (st : List Nat) : List Value := st.map fun (k : Nat) => .int .i64 (k : Int)
/-- A row of numbers in a block of the call's own. -/
def Stk (base : Nat) (w : World) (g cap : Nat) (st : List Nat) : Prop := w.ownsRow base 3 1 (.slice (some ⟨g, 0, none⟩) st.length cap) st.length (ic st)
theorem Stk.parts {base : Nat} {w : World} {g cap : Nat} {st : List Nat} (h : Stk base w g cap st) : ∃ cur : Array Value, w.heap[g]? = some (.cells cur 3 (0, 0)) ∧ base ≤ g ∧ cap ≤ maxLen ∧ cur.size = cap ∧ st.length ≤ cap ∧ cur.toList.take st.length = ic st := by
  obtain ⟨_, ⟨h0, _⟩ | ⟨g', cap', cur, hv, hb, hg, hn, hm, hs, ht⟩⟩ := h
  · cases h0
  · cases hv
    exact ⟨cur, hg, hb, hm, by simpa using hs, hn, by simpa using ht⟩
theorem Stk.of {base : Nat} {w : World} {g cap : Nat} {st : List Nat} {cur : Array Value} (hg : w.heap[g]? = some (.cells cur 3 (0, 0))) (hb : base ≤ g) (hm : cap ≤ maxLen) (hs : cur.size = cap) (hn : st.length ≤ cap) (ht : cur.toList.take st.length = ic st) : Stk base w g cap st :=
  ⟨by simp [ic], .inr ⟨g, cap, cur, rfl, hb, hg, hn, hm, by simpa using hs, by simpa using ht⟩⟩
theorem Stk.cell {base : Nat} {w : World} {g cap : Nat} {st : List Nat} (h : Stk base w g cap st) (j : Nat) (hj : j < st.length) : w.cell? ⟨g, j, none⟩ = some (.int .i64 (st[j] : Int)) := by
  obtain ⟨cur, hg, _, _, hs, hn, ht⟩ := h.parts
  have : cur.toList[j]? = (ic st)[j]? := by rw [← ht, List.getElem?_take_of_lt hj]
  simp only [ic, List.getElem?_map, List.getElem?_eq_getElem hj, Option.map_some] at this
  simp only [World.cell?, hg]
  simpa using this
theorem Stk.soft {base : Nat} {w : World} {g cap : Nat} {st : List Nat} (h : Stk base w g cap st) (j : Nat) : w.frozen? ⟨g, j, none⟩ = false := by
  obtain ⟨cur, hg, _⟩ := h.parts
  simp [World.frozen?, hg]
theorem Stk.cap {base : Nat} {w : World} {g cap : Nat} {st : List Nat} (h : Stk base w g cap st) : st.length ≤ cap ∧ cap ≤ maxLen := by
  obtain ⟨cur, _, _, hm, _, hn, _⟩ := h.parts
  exact ⟨hn, hm⟩
theorem heap_setCell (w : World) (g o : Nat) (v : Value) (k : Nat) : (w.setCell ⟨g, o, none⟩ v).heap[k]? = if g = k then (w.heap[k]?).map (fun x => match x with | .cells c elem frozen => .cells (c.setIfInBounds o v) elem frozen | o => o) else w.heap[k]? := by
  simp only [World.setCell, Array.getElem?_modify]
  by_cases h : g = k
  · simp [h]
    rfl
  · simp [h]
/-- The nearest number that is above zero made one fewer; what stood behind it is gone. -/
theorem Stk.down {base : Nat} {w : World} {g cap : Nat} {st : List Nat} (h : Stk base w g cap st) (i y : Nat) (hi : i < st.length) : Stk base (w.setCell ⟨g, i, none⟩ (.int .i64 (y : Int))) g cap (st.take i ++ [y]) := by
  obtain ⟨cur, hg, hb, hm, hs, hn, ht⟩ := h.parts
  refine Stk.of (cur := cur.setIfInBounds i (.int .i64 (y : Int))) (by simp [heap_setCell, hg]) hb hm (by simpa using hs) (by simp; omega) ?_
  have hl : (st.take i ++ [y]).length = i + 1 := by simp; omega
  rw [hl]
  refine List.ext_getElem? fun j => ?_
  rw [List.getElem?_take]
  by_cases hj : j < i + 1
  · rw [if_pos hj, Array.getElem?_toList, Array.getElem?_setIfInBounds]
    by_cases hji : j = i
    · subst hji
      rw [if_pos rfl, if_pos (by omega)]
      simp [ic, List.length_take, Nat.min_eq_left (Nat.le_of_lt hi)]
    · have e : cur.toList[j]? = (ic st)[j]? := by rw [← ht, List.getElem?_take_of_lt (by omega)]
      rw [if_neg (by omega), ← Array.getElem?_toList, e]
      simp only [ic, List.getElem?_map]
      rw [List.getElem?_append_left (by simp; omega), List.getElem?_take_of_lt (by omega)]
  · rw [if_neg hj, List.getElem?_eq_none (by simp [ic]; omega)]
theorem below_setCell {B : Nat} {w0 w : World} (h : Below B w0 w) (g o : Nat) (v : Value) (hg : B ≤ g) : Below B w0 (w.setCell ⟨g, o, none⟩ v) :=
  ⟨h.os, h.tape, h.output, by rw [show (w.setCell ⟨g, o, none⟩ v).heap.size = w.heap.size by simp [World.setCell]]; exact h.size, fun k hk => by rw [heap_setCell, if_neg (by omega)]; exact h.block k hk⟩
theorem Stk.push {base : Nat} {w : World} {g cap : Nat} {st : List Nat} (a : Nat) (h : Stk base w g cap st) (hbase : base ≤ w.heap.size) (hlen : st.length ≤ 2000000) :
    ∃ g' cap' w', (Builtin.append_ #[27, 27] 27 #[.slice (some ⟨g, 0, none⟩) st.length cap, .slice (some ⟨w.heap.size, 0, none⟩) 1 1]).run Try.prog (w.alloc (.cells #[.int .i64 (a : Int)] 3)) = .ok (.slice (some ⟨g', 0, none⟩) (st.length + 1) cap') w' ∧ Stk base w' g' cap' (st ++ [a]) ∧ Below base w w' := by
  obtain ⟨i0, hi, hz, hs1, hb8⟩ := info_parts infoI
  obtain ⟨v', w', h1, h2, h3, h4, h5⟩ := Ap.run_append_one (P := Try.prog) (ty := 27) Try.underlying27 hi hz hs1 hb8 (by rfl) (by omega) h hbase #[.int .i64 (a : Int)] rfl
    (by intro u hu; simp at hu; subst hu; rfl) (by unfold maxLen; omega) (by omega)
  have hform : ∃ g' cap', v' = .slice (some ⟨g', 0, none⟩) (st.length + 1) cap' := by
    obtain ⟨_, ⟨_, h0⟩ | ⟨g', cap', cur, hv, _⟩⟩ := h2
    · omega
    · exact ⟨g', cap', hv⟩
  obtain ⟨g', cap', rfl⟩ := hform
  refine ⟨g', cap', w', h1, ?_, h4⟩
  unfold Stk
  have e : ic (st ++ [a]) = ic st ++ [.int .i64 (a : Int)] := by simp [ic]
  rw [e, show (st ++ [a]).length = st.length + 1 by simp]
  exact h2
theorem pop_last {st : List Nat} {i : Nat} (h : i < st.length) : (st.take (i + 1)).reverse = st[i] :: (st.take i).reverse := by
  rw [List.take_succ_eq_append_getElem h, List.reverse_append]
  rfl
/-- What is still to be told. -/
def Rest (l : List Nd) (k : Nat) (st : List Nat) (d : Nat) : Prop := Rx.ms (l.drop k) st.reverse d k = (size l, depth l)
theorem Rest.start (l : List Nd) : Rest l 0 [] 0 := ms_of l
theorem Rest.stop {l : List Nd} {k d : Nat} {st : List Nat} (h : Rest l k st d) (hk : k < l.length) (ha : ar l[k].k < 0) : size l = 0 ∧ depth l = 0 := by
  unfold Rest at h
  rw [List.drop_eq_getElem_cons hk, Rx.ms, if_pos ha] at h
  exact ⟨(congrArg Prod.fst h).symm, (congrArg Prod.snd h).symm⟩
theorem Rest.out {l : List Nd} {k d : Nat} {st : List Nat} (h : Rest l k st d) (hk : ¬ k < l.length) : size l = 0 ∧ depth l = 0 := by
  unfold Rest at h
  rw [List.drop_eq_nil_of_le (by omega), Rx.ms] at h
  exact ⟨(congrArg Prod.fst h).symm, (congrArg Prod.snd h).symm⟩
theorem Rest.end {l : List Nd} {k d a : Nat} {st : List Nat} (h : Rest l k st d) (hk : k < l.length) (ha : ar l[k].k = (a : Int)) (hp : pop (st ++ [a]).reverse = none) : size l = k + 1 ∧ depth l = max d (st.length + 1) := by
  unfold Rest at h
  rw [List.reverse_concat] at hp
  rw [List.drop_eq_getElem_cons hk, Rx.ms, if_neg (by omega), ha, Int.toNat_natCast, hp, List.length_reverse] at h
  exact ⟨(congrArg Prod.fst h).symm, (congrArg Prod.snd h).symm⟩
theorem Rest.more {l : List Nd} {k d a : Nat} {st s : List Nat} (h : Rest l k st d) (hk : k < l.length) (ha : ar l[k].k = (a : Int)) (hp : pop (st ++ [a]).reverse = some s.reverse) : Rest l (k + 1) s (max d (st.length + 1)) := by
  unfold Rest at h ⊢
  rw [List.reverse_concat] at hp
  rw [List.drop_eq_getElem_cons hk, Rx.ms, if_neg (by omega), ha, Int.toNat_natCast, hp, List.length_reverse] at h
  exact h
end Go.Proofs.Ytpkbpooiaddcaaa.Rx
