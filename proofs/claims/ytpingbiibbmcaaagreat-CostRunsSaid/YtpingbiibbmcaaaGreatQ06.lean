/- The program's Make. The program's Size and Depth: measure. Rows of a call's own: what Kids makes. The program's names: isName. The document's Same over rows of nodes. The document's Count over rows of nodes. The document's Put: the walk. The program's Count: slices.Index and slices.Contains over whole numbers. The document's merge of two rows of traces: the walk. Trees, their kids; what the walks of sorts need. -/
import Derived.Test.YtpingbiibbmcaaaGreatQ05
import Derived.Test.YtpingbiibbmcaaaGreatQ04
import Derived.Test.YtpingbiibbmcaaaGreatQ01
import Derived.Laws.MakeOwn
import Derived.OwnWalk
import Derived.WalkMore
import Derived.Deep.LoopGhost
import Derived.Laws.RangeAny
import Derived.Deep.QuietTactic
import Derived.BigQuiet

namespace Go.Proofs.YtpingbiibbmcaaaGreat.Rx
open Go Go.RowKit Rw
set_option maxRecDepth 20000

theorem rwC_at {w : World} : ∀ {cs : List Value} {ls : List (List Nd)}, RwC w cs ls → ∀ i (h : i < ls.length), ∃ a, cs[i]? = some a ∧ Nds w a ls[i]
  | [], [], _, i, h => by simp at h
  | a :: _, _ :: _, hr, 0, _ => ⟨a, rfl, hr.1⟩
  | _ :: cs, _ :: ls, hr, i + 1, h => by
    obtain ⟨a, h1, h2⟩ := rwC_at hr.2 i (by simpa using h)
    exact ⟨a, by simpa using h1, by simpa using h2⟩
  | [], _ :: _, h, _, _ => h.elim
  | _ :: _, [], h, _, _ => h.elim
/-- The rows' cells. -/
def AtRs (w : World) (b off : Nat) (ls : List (List Nd)) : Prop := ∀ i, (h : i < ls.length) → ∃ a, w.cell? ⟨b, off + i, none⟩ = some a ∧ Nds w a ls[i]
theorem rws_form {w : World} {v : Value} {ls : List (List Nd)} (h : Rws w v ls) :
    (ls = [] ∧ ∃ a cap, v = .slice a 0 cap) ∨ ∃ b off cap, v = .slice (some ⟨b, off, none⟩) ls.length cap ∧ AtRs w b off ls := by
  obtain ⟨cs, ⟨_, a, cap, rfl, hle, _, hcell⟩, hr⟩ := h
  by_cases h0 : 0 < ls.length
  · obtain ⟨b, off, rfl, hj⟩ := hcell h0
    refine Or.inr ⟨b, off, cap, rfl, fun i hi => ?_⟩
    obtain ⟨a, h1, h2⟩ := rwC_at hr i hi
    exact ⟨a, hj i a h1, h2⟩
  · have : ls = [] := List.eq_nil_of_length_eq_zero (by omega)
    subst this
    exact Or.inl ⟨rfl, a, cap, rfl⟩
theorem heap_new (w : World) (o : Obj) : (w.alloc o).heap[w.heap.size]? = some o := by
  show (w.heap.push o)[w.heap.size]? = some o
  simp
/-- What the loop has made. -/
def Mk (w wr : World) (x : Nd) (ls : List (List Nd)) (k : Nat) (v : Value) : Prop := wr.ownsRow w.heap.size 39 3 v (x :: (ls.take k).flatten).length (cls (x :: (ls.take k).flatten)) ∧ Below w.heap.size w wr
theorem Mk.start (w : World) (x : Nd) (ls : List (List Nd)) : Mk w ((w.alloc (nb x)).alloc (nb x)) x ls 0 (.slice (some ⟨w.heap.size + 1, 0, none⟩) 1 1) := by
  refine ⟨⟨by simp [cls, cl], .inr ⟨w.heap.size + 1, 1, #[.int .i64 x.k, .string x.n, .int .i64 x.s], rfl, by omega, ?_, by simp, by decide, rfl, by simp [cls, cl]⟩⟩, ?_⟩
  · have h := heap_new (w.alloc (nb x)) (nb x)
    rw [show (w.alloc (nb x)).heap.size = w.heap.size + 1 by simp] at h
    exact h
  · exact (below1 w _).alloc (below1 w _).size _
theorem take_flat {ls : List (List Nd)} {k : Nat} (h : k < ls.length) : (ls.take (k + 1)).flatten = (ls.take k).flatten ++ ls[k] := by
  rw [List.take_succ_eq_append_getElem h, List.flatten_append]
  simp only [List.flatten_cons, List.flatten_nil, List.append_nil]
theorem flat_le : ∀ (ls : List (List Nd)) (k : Nat), (ls.take k).flatten.length ≤ ls.flatten.length
  | [], k => by simp
  | _ :: _, 0 => by simp
  | l :: ls, k + 1 => by have := flat_le ls k; simp [List.take_succ_cons]; simp at this; omega
theorem Mk.next {w wr : World} {x : Nd} {ls : List (List Nd)} {k : Nat} {v a : Value} (h : Mk w wr x ls k v) (hk : k < ls.length) (ha : Nds wr a ls[k]) (hf : ls.flatten.length ≤ 1000000) :
    ∃ v' w', (Builtin.append_ #[22, 22] 22 #[v, a]).run Tryz.prog wr = .ok v' w' ∧ Mk w w' x ls (k + 1) v' := by
  have h1 := flat_le ls (k + 1)
  rw [take_flat hk, List.length_append] at h1
  obtain ⟨v', w', hrun, hown, _, hb, _⟩ := run_append_nds h.1 h.2.size ha (by rw [List.length_cons]; omega)
  refine ⟨v', w', hrun, ?_, h.2.trans hb⟩
  rw [take_flat hk, ← List.cons_append]
  exact hown
theorem own_slice {w : World} {base size n : Nat} {e : TypeId} {v : Value} {xs : List Value} (h : w.ownsRow base e size v n xs) : ∃ a c, v = .slice a n c := by
  obtain ⟨_, ⟨rfl, rfl⟩ | ⟨g, cap, cur, rfl, _⟩⟩ := h
  · exact ⟨none, 0, rfl⟩
  · exact ⟨_, _, rfl⟩

set_option maxHeartbeats 800000 in
theorem make_cells (x : Nd) (b off cap : Nat) (ls : List (List Nd)) (w : World) (hat : AtRs w b off ls) (hl : ls.length ≤ 1000) (hf : ls.flatten.length ≤ 1000000) :
    Calls Tryz.prog 95 #[.agg #[.int .i64 x.k, .string x.n, .int .i64 x.s], .slice (some ⟨b, off, none⟩) ls.length cap] w fun e w' => ∃ y, e = .returned y ∧ Ap.RdO (fun g => w.heap.size ≤ g) w' 3 y (x :: ls.flatten).length (cls (x :: ls.flatten)) ∧ Below w.heap.size w w' := by
  have HA := Lib.hid hat
  have HF := Lib.hid hf
  have HS := Lib.hid (Mk.start w x ls)
  clear hat hf
  go_enter Tryz.func95, Tryz.ntmps95
  go_wp2_with fail
  go_loopw [5, 12] (fun mv iv wr => ∃ k : Nat, k ≤ ls.length ∧ iv = .int .i64 k ∧ Hid (Mk w wr x ls k mv)) (fun _ i _ => ls.length - (intOf i).toNat)
  case atStart => exact ⟨0, Nat.zero_le _, rfl, HS⟩
  case round =>
    obtain ⟨k, hk, rfl, HM⟩ := hrel
    by_cases hlt : k < ls.length
    · obtain ⟨a, ha, hnd⟩ := HA.out k hlt
      have c1 : wr.cell? ⟨b, off + k, none⟩ = some a := by rw [HM.out.2.cell (Ap.cell_lt ha)]; exact ha
      obtain ⟨v', w', hrun, hmk⟩ := HM.out.next hlt (hnd.below HM.out.2) HF.out
      obtain ⟨am, cm, rfl⟩ := own_slice HM.out.1
      obtain ⟨_, aa, ca, rfl, -⟩ := hnd
      have R := Lib.hid hrun
      have HM' := Lib.hid hmk
      clear ha hrun hmk
      go_wp2_with (at_builtin; refine Ap.wpList_append_run (by rfl) (.tmp 16) (.tmp 17) _ _ rfl _ _ rfl rfl v' w' R.out ?_)
      go_roundw
      case rel => exact ⟨k + 1, by omega, by go_num, HM'⟩
      case measure => simp [intOf]; omega
    · have h1 := HM.out
      unfold Mk at h1
      rw [List.take_of_length_le (by omega)] at h1
      obtain ⟨am, cm, rfl⟩ := own_slice h1.1
      have H1 := Lib.hid h1
      clear h1
      go_wp2_with fail
      go_ret
      exact ⟨_, rfl, Ap.RdO.fresh H1.out.1, H1.out.2⟩
set_option maxHeartbeats 400000 in
theorem make_empty (x : Nd) (a : Option Addr) (cap : Nat) (w : World) :
    Calls Tryz.prog 95 #[.agg #[.int .i64 x.k, .string x.n, .int .i64 x.s], .slice a 0 cap] w fun e w' => ∃ y, e = .returned y ∧ Ap.RdO (fun g => w.heap.size ≤ g) w' 3 y (x :: ([] : List (List Nd)).flatten).length (cls (x :: ([] : List (List Nd)).flatten)) ∧ Below w.heap.size w w' := by
  have HS := Lib.hid (Mk.start w x [])
  go_enter Tryz.func95, Tryz.ntmps95
  go_wp2_with fail
  refine Go.wp_loop_rounds 1 ?_
  rw [rounds_succ]
  go_wp2_with fail
  go_ret
  exact ⟨_, rfl, Ap.RdO.fresh HS.out.1, HS.out.2⟩
/-- The program's Make. -/
theorem makeP_any (x : Nd) (v : Value) (ls : List (List Nd)) (w : World) (h : Rws w v ls) (hl : ls.length ≤ 1000) (hf : ls.flatten.length ≤ 1000000) :
    Calls Tryz.prog 95 #[.agg #[.int .i64 x.k, .string x.n, .int .i64 x.s], v] w fun e w' => ∃ y, e = .returned y ∧ Ap.RdO (fun g => w.heap.size ≤ g) w' 3 y (x :: ls.flatten).length (cls (x :: ls.flatten)) ∧ Below w.heap.size w w' := by
  rcases rws_form h with ⟨rfl, a, cap, rfl⟩ | ⟨b, off, cap, rfl, hat⟩
  · exact make_empty x a cap w
  · exact make_cells x b off cap ls w hat hl hf
end Go.Proofs.YtpingbiibbmcaaaGreat.Rx

namespace Go.Proofs.YtpingbiibbmcaaaGreat.Rx
open Go Go.RowKit Rw
set_option maxRecDepth 20000

theorem infoI : (Tryz.prog.info? 3).map (fun i => (i.zero, i.size, i.bytes)) = some (some (.int .i64 0), 1, 8) := by kernel_rfl
def ic (st : List Nat) : List Value := st.map fun (k : Nat) => .int .i64 (k : Int)
/-- A row of numbers in a block of the call's own. -/
def Stk (base : Nat) (w : World) (g cap : Nat) (st : List Nat) : Prop := w.ownsRow base 3 1 (.slice (some ⟨g, 0, none⟩) st.length cap) st.length (ic st)
theorem Stk.parts {base : Nat} {w : World} {g cap : Nat} {st : List Nat} (h : Stk base w g cap st) : ∃ cur : Array Value, w.heap[g]? = some (.cells cur 3 (0, 0)) ∧ base ≤ g ∧ cap ≤ maxLen ∧ cur.size = cap ∧ st.length ≤ cap ∧ cur.toList.take st.length = ic st := by
  obtain ⟨_, ⟨h0, _⟩ | ⟨g', cap', cur, hv, hb, hg, hn, hm, hs, ht⟩⟩ := h
  · cases h0
  · cases hv
    exact ⟨cur, hg, hb, hm, by simpa using hs, hn, by simpa using ht⟩
theorem Stk.of {base : Nat} {w : World} {g cap : Nat} {st : List Nat} {cur : Array Value} (hg : w.heap[g]? = some (.cells cur 3 (0, 0))) (hb : base ≤ g) (hm : cap ≤ maxLen) (hs : cur.size = cap) (hn : st.length ≤ cap) (ht : cur.toList.take st.length = ic st) : Stk base w g cap st :=
  ⟨by simp [ic], .inr ⟨g, cap, cur, rfl, hb, hg, hn, hm, by simpa using hs, by simpa using ht⟩⟩
theorem Stk.cell {base : Nat} {w : World} {g cap : Nat} {st : List Nat} (h : Stk base w g cap st) (j : Nat) (hj : j < st.length) : w.cell? ⟨g, j, none⟩ = some (.int .i64 (st[j] : Int)) := by
  obtain ⟨cur, hg, _, _, hs, hn, ht⟩ := h.parts
  have : cur.toList[j]? = (ic st)[j]? := by rw [← ht, List.getElem?_take_of_lt hj]
  simp only [ic, List.getElem?_map, List.getElem?_eq_getElem hj, Option.map_some] at this
  simp only [World.cell?, hg]
  simpa using this
theorem Stk.soft {base : Nat} {w : World} {g cap : Nat} {st : List Nat} (h : Stk base w g cap st) (j : Nat) : w.frozen? ⟨g, j, none⟩ = false := by
  obtain ⟨cur, hg, _⟩ := h.parts
  simp [World.frozen?, hg]
theorem Stk.cap {base : Nat} {w : World} {g cap : Nat} {st : List Nat} (h : Stk base w g cap st) : st.length ≤ cap ∧ cap ≤ maxLen := by
  obtain ⟨cur, _, _, hm, _, hn, _⟩ := h.parts
  exact ⟨hn, hm⟩
theorem heap_setCell (w : World) (g o : Nat) (v : Value) (k : Nat) : (w.setCell ⟨g, o, none⟩ v).heap[k]? = if g = k then (w.heap[k]?).map (fun x => match x with | .cells c elem frozen => .cells (c.setIfInBounds o v) elem frozen | o => o) else w.heap[k]? := by
  simp only [World.setCell, Array.getElem?_modify]
  by_cases h : g = k
  · simp [h]
    rfl
  · simp [h]
/-- The nearest number that is above zero made one fewer; what stood behind it is gone. -/
theorem Stk.down {base : Nat} {w : World} {g cap : Nat} {st : List Nat} (h : Stk base w g cap st) (i y : Nat) (hi : i < st.length) : Stk base (w.setCell ⟨g, i, none⟩ (.int .i64 (y : Int))) g cap (st.take i ++ [y]) := by
  obtain ⟨cur, hg, hb, hm, hs, hn, ht⟩ := h.parts
  refine Stk.of (cur := cur.setIfInBounds i (.int .i64 (y : Int))) (by simp [heap_setCell, hg]) hb hm (by simpa using hs) (by simp; omega) ?_
  have hl : (st.take i ++ [y]).length = i + 1 := by simp; omega
  rw [hl]
  refine List.ext_getElem? fun j => ?_
  rw [List.getElem?_take]
  by_cases hj : j < i + 1
  · rw [if_pos hj, Array.getElem?_toList, Array.getElem?_setIfInBounds]
    by_cases hji : j = i
    · subst hji
      rw [if_pos rfl, if_pos (by omega)]
      simp [ic, List.length_take, Nat.min_eq_left (Nat.le_of_lt hi)]
    · have e : cur.toList[j]? = (ic st)[j]? := by rw [← ht, List.getElem?_take_of_lt (by omega)]
      rw [if_neg (by omega), ← Array.getElem?_toList, e]
      simp only [ic, List.getElem?_map]
      rw [List.getElem?_append_left (by simp; omega), List.getElem?_take_of_lt (by omega)]
  · rw [if_neg hj, List.getElem?_eq_none (by simp [ic]; omega)]
theorem below_setCell {B : Nat} {w0 w : World} (h : Below B w0 w) (g o : Nat) (v : Value) (hg : B ≤ g) : Below B w0 (w.setCell ⟨g, o, none⟩ v) :=
  ⟨h.os, h.tape, h.output, by rw [show (w.setCell ⟨g, o, none⟩ v).heap.size = w.heap.size by simp [World.setCell]]; exact h.size, fun k hk => by rw [heap_setCell, if_neg (by omega)]; exact h.block k hk⟩
theorem Stk.push {base : Nat} {w : World} {g cap : Nat} {st : List Nat} (a : Nat) (h : Stk base w g cap st) (hbase : base ≤ w.heap.size) (hlen : st.length ≤ 8796093022208) :
    ∃ g' cap' w', (Builtin.append_ #[23, 23] 23 #[.slice (some ⟨g, 0, none⟩) st.length cap, .slice (some ⟨w.heap.size, 0, none⟩) 1 1]).run Tryz.prog (w.alloc (.cells #[.int .i64 (a : Int)] 3)) = .ok (.slice (some ⟨g', 0, none⟩) (st.length + 1) cap') w' ∧ Stk base w' g' cap' (st ++ [a]) ∧ Below base w w' := by
  obtain ⟨i0, hi, hz, hs1, hb8⟩ := info_parts infoI
  obtain ⟨v', w', h1, h2, h3, h4, h5⟩ := Ap.run_append_one (P := Tryz.prog) (ty := 23) Tryz.underlying23 hi hz hs1 hb8 (by rfl) (by omega) h hbase #[.int .i64 (a : Int)] rfl
    (by intro u hu; simp at hu; subst hu; rfl) (by unfold maxLen; omega) (by omega)
  have hform : ∃ g' cap', v' = .slice (some ⟨g', 0, none⟩) (st.length + 1) cap' := by
    obtain ⟨_, ⟨_, h0⟩ | ⟨g', cap', cur, hv, _⟩⟩ := h2
    · omega
    · exact ⟨g', cap', hv⟩
  obtain ⟨g', cap', rfl⟩ := hform
  refine ⟨g', cap', w', h1, ?_, h4⟩
  unfold Stk
  have e : ic (st ++ [a]) = ic st ++ [.int .i64 (a : Int)] := by simp [ic]
  rw [e, show (st ++ [a]).length = st.length + 1 by simp]
  exact h2
theorem pop_last {st : List Nat} {i : Nat} (h : i < st.length) : (st.take (i + 1)).reverse = st[i] :: (st.take i).reverse := by
  rw [List.take_succ_eq_append_getElem h, List.reverse_append]
  rfl
/-- What is still to be told. -/
def Rest (l : List Nd) (k : Nat) (st : List Nat) (d : Nat) : Prop := Rx.ms (l.drop k) st.reverse d k = (size l, depth l)
theorem Rest.start (l : List Nd) : Rest l 0 [] 0 := ms_of l
theorem Rest.stop {l : List Nd} {k d : Nat} {st : List Nat} (h : Rest l k st d) (hk : k < l.length) (ha : ar l[k].k < 0) : size l = 0 ∧ depth l = 0 := by
  unfold Rest at h
  rw [List.drop_eq_getElem_cons hk, Rx.ms, if_pos ha] at h
  exact ⟨(congrArg Prod.fst h).symm, (congrArg Prod.snd h).symm⟩
theorem Rest.out {l : List Nd} {k d : Nat} {st : List Nat} (h : Rest l k st d) (hk : ¬ k < l.length) : size l = 0 ∧ depth l = 0 := by
  unfold Rest at h
  rw [List.drop_eq_nil_of_le (by omega), Rx.ms] at h
  exact ⟨(congrArg Prod.fst h).symm, (congrArg Prod.snd h).symm⟩
theorem Rest.end {l : List Nd} {k d a : Nat} {st : List Nat} (h : Rest l k st d) (hk : k < l.length) (ha : ar l[k].k = (a : Int)) (hp : pop (st ++ [a]).reverse = none) : size l = k + 1 ∧ depth l = max d (st.length + 1) := by
  unfold Rest at h
  rw [List.reverse_concat] at hp
  rw [List.drop_eq_getElem_cons hk, Rx.ms, if_neg (by omega), ha, Int.toNat_natCast, hp, List.length_reverse] at h
  exact ⟨(congrArg Prod.fst h).symm, (congrArg Prod.snd h).symm⟩
theorem Rest.more {l : List Nd} {k d a : Nat} {st s : List Nat} (h : Rest l k st d) (hk : k < l.length) (ha : ar l[k].k = (a : Int)) (hp : pop (st ++ [a]).reverse = some s.reverse) : Rest l (k + 1) s (max d (st.length + 1)) := by
  unfold Rest at h ⊢
  rw [List.reverse_concat] at hp
  rw [List.drop_eq_getElem_cons hk, Rx.ms, if_neg (by omega), ha, Int.toNat_natCast, hp, List.length_reverse] at h
  exact h
end Go.Proofs.YtpingbiibbmcaaaGreat.Rx

namespace Go.Proofs.YtpingbiibbmcaaaGreat.Rw
open Go Go.RowKit
set_option maxRecDepth 20000

/-- A row of the call's own that may be written into; out: a block in which it does not lie. -/
def Own1 (base : Nat) (out : Option Nat) (w : World) (a : Value) (r : List Nd) : Prop :=
  Ap.RdO (fun g => base ≤ g ∧ some g ≠ out) w 3 a r.length (cls r) ∧ ∀ b off cap, a = .slice (some ⟨b, off, none⟩) r.length cap → ∀ j, j < r.length * 3 → w.frozen? ⟨b, off + j, none⟩ = false
def OwnC (base : Nat) (out : Option Nat) (w : World) : List Value → List (List Nd) → Prop
  | [], [] => True
  | a :: cs, r :: rs => Own1 base out w a r ∧ OwnC base out w cs rs
  | _, _ => False
def blk : Value → Option Nat
  | .slice (some a) _ _ => some a.block
  | _ => none
def KidsPost (ls : List (List Nd)) (w : World) (e : Ending) (w' : World) : Prop :=
  ∃ y cs, e = .returned y ∧ Ap.RdO (fun g => w.heap.size ≤ g) w' 1 y ls.length cs ∧ OwnC w.heap.size (blk y) w' cs ls ∧ Below w.heap.size w w'
theorem OwnC.rwc {base : Nat} {out : Option Nat} {w : World} : ∀ {cs : List Value} {ls : List (List Nd)}, OwnC base out w cs ls → RwC w cs ls
  | [], [], _ => trivial
  | _ :: _, _ :: _, h => ⟨h.1.1.rd, OwnC.rwc h.2⟩
  | [], _ :: _, h => h.elim
  | _ :: _, [], h => h.elim
end Go.Proofs.YtpingbiibbmcaaaGreat.Rw

namespace Go.Proofs.YtpingbiibbmcaaaGreat.Rx
open Go Go.RowKit Rw
set_option maxRecDepth 20000
/-- A name that an action may have. -/
def nm (n : ByteArray) : Bool := low n.data.toList && (decide (1 ≤ n.size) && decide (n.size ≤ 8)) && !wordB n
set_option maxHeartbeats 1000000 in
theorem name_other (s : ByteArray) (w : World) (h : wordB s = false) (h0 : s.size ≠ 0) (hs : s.size ≤ 140737488355328) : Calls Tryz.prog 99 #[.string s] w fun e w' => e = .returned (.bool (nm s)) ∧ Below w.heap.size w w' := by
  have hb : ¬ (s = w1 ∨ s = w2 ∨ s = w3 ∨ s = w4 ∨ s = w5 ∨ s = w6) := by simpa [wordB] using h
  have e0 := not_empty h0
  have HN : Hid (nm s = (low s.data.toList && decide (s.size ≤ 8))) := by
    show _ = _
    unfold nm
    rw [h, decide_eq_true (show 1 ≤ s.size by omega)]
    simp
  clear h h0
  simp only [not_or] at hb
  obtain ⟨h1, h2, h3, h4, h5, h6⟩ := hb
  have e1 := str_ne' (l := [115, 107, 105, 112]) h1
  have e2 := str_ne' (l := [116, 104, 114, 111, 119]) h2
  have e3 := str_ne' (l := [121, 105, 101, 108, 100]) h3
  have e4 := str_ne' (l := [115, 107, 105, 112, 112]) h4
  have e5 := str_ne' (l := [116, 104, 114, 111, 119, 119]) h5
  have e6 := str_ne' (l := [121, 105, 101, 108, 100, 100]) h6
  clear h1 h2 h3 h4 h5 h6
  go_enter Tryz.func99, Tryz.ntmps99
  go_wp2_with fail
  go_loopw [] (fun wr => ∃ pos : Nat, pos ≤ s.size ∧ wr = w.iter s pos ∧ Hid (low (s.data.toList.take pos) = true)) (fun wr => s.size - wr.iterPos w.heap.size)
  case atStart => exact ⟨0, Nat.zero_le _, rfl, Lib.hid rfl⟩
  case round =>
    obtain ⟨pos, hp, rfl, HL⟩ := hrel
    by_cases hlt : pos < s.size
    · have HT := Lib.hid (low_take s pos hlt)
      have HF := Lib.hid (fun hb => low_no hlt hb)
      by_cases ha : (s[pos]'hlt).toNat < 128
      · have hnx : ∀ ty, (Instr.next (.pointer (some ⟨w.heap.size, 0, none⟩)) true ty).run Tryz.prog (w.iter s pos) = _ := fun ty => run_next_ascii w s pos ty hlt ha
        obtain ⟨c, hc⟩ : ∃ c, (s[pos]'hlt).toNat = c := ⟨_, rfl⟩
        have HC := Lib.hid hc
        rw [hc] at hnx ha
        clear hc
        by_cases b1 : c < 97
        · have d1 : decide ((c : Int) < 97) = true := by simp; omega
          go_wp2_with fail
          go_ret
          refine ⟨ret_bool ?_, (Below.refl _ _).alloc (Nat.le_refl _) _⟩
          rw [HN.out, HF.out (by rw [HC.out]; simp; omega)]
          rfl
        · have d1 : decide ((c : Int) < 97) = false := by simp; omega
          by_cases b2 : 122 < c
          · have d2 : decide (122 < (c : Int)) = true := by simp; omega
            go_wp2_with fail
            go_ret
            refine ⟨ret_bool ?_, (Below.refl _ _).alloc (Nat.le_refl _) _⟩
            rw [HN.out, HF.out (by rw [HC.out]; simp; omega)]
            rfl
          · have d2 : decide (122 < (c : Int)) = false := by simp; omega
            have HG : Hid (low (s.data.toList.take (pos + 1)) = true) := by
              show _ = true
              rw [HT.out, HL.out, HC.out]
              simp
              omega
            go_wp2_with fail
            go_roundw
            case rel => exact ⟨pos + 1, by omega, rfl, HG⟩
            case measure => simp only [World.iterPos_iter]; omega
      · have hnx : ∀ ty, (Instr.next (.pointer (some ⟨w.heap.size, 0, none⟩)) true ty).run Tryz.prog (w.iter s pos) = _ := fun ty => run_next_any w s pos ty hlt
        have hh := (decode_high s pos hlt (by omega)).1
        obtain ⟨c, hc⟩ : ∃ c, (Utf8.decode s pos).1 = c := ⟨_, rfl⟩
        obtain ⟨q, hq⟩ : ∃ q, pos + (Utf8.decode s pos).2 = q := ⟨_, rfl⟩
        rw [hc] at hh
        rw [hc, hq] at hnx
        have HC := Lib.hid ha
        clear hc hq ha
        have d1 : decide ((c : Int) < 97) = false := by simp; omega
        have d2 : decide (122 < (c : Int)) = true := by simp; omega
        go_wp2_with fail
        go_ret
        refine ⟨ret_bool ?_, (Below.refl _ _).alloc (Nat.le_refl _) _⟩
        rw [HN.out, HF.out (by have := HC.out; simp; omega)]
        rfl
    · have hnx : ∀ ty, (Instr.next (.pointer (some ⟨w.heap.size, 0, none⟩)) true ty).run Tryz.prog (w.iter s pos) = _ := fun ty => run_next_end w s pos ty hlt
      have HF : Hid (low s.data.toList = true) := by
        have := HL.out
        rwa [List.take_of_length_le (by simp; omega)] at this
      by_cases q2 : s.size ≤ 8
      · go_wp2_with fail
        go_ret
        refine ⟨ret_bool ?_, (Below.refl _ _).alloc (Nat.le_refl _) _⟩
        rw [HN.out, HF.out, Bool.true_and, Bool.eq_iff_iff]
        simp
        omega
      · go_wp2_with fail
        go_ret
        refine ⟨ret_bool ?_, (Below.refl _ _).alloc (Nat.le_refl _) _⟩
        rw [HN.out, HF.out, Bool.true_and, Bool.eq_iff_iff]
        simp
        omega
theorem name_any (s : ByteArray) (w : World) (hs : s.size ≤ 140737488355328) : Calls Tryz.prog 99 #[.string s] w fun e w' => e = .returned (.bool (nm s)) ∧ Below w.heap.size w w' := by
  by_cases h0 : s.size = 0
  · obtain rfl := empty_of h0
    clear h0 hs
    rw [show nm ⟨#[]⟩ = false from rfl]
    go_enter Tryz.func99, Tryz.ntmps99
    go_wp2_with fail
    go_ret
    exact ⟨rfl, Below.refl _ _⟩
  · cases hw : wordB s with
    | false => exact name_other s w hw h0 hs
    | true =>
      have hb : nm s = false := by unfold nm; rw [hw]; simp
      rw [hb]
      have : s = w1 ∨ s = w2 ∨ s = w3 ∨ s = w4 ∨ s = w5 ∨ s = w6 := by simpa [wordB] using hw
      clear hw h0 hs hb
      rcases this with rfl | rfl | rfl | rfl | rfl | rfl
      all_goals
        simp only [w1, w2, w3, w4, w5, w6]
        go_enter Tryz.func99, Tryz.ntmps99
        go_wp2_with fail
        go_ret
        exact ⟨rfl, Below.refl _ _⟩
end Go.Proofs.YtpingbiibbmcaaaGreat.Rx

namespace Go.Proofs.YtpingbiibbmcaaaGreat.Rw
open Go Go.RowKit
set_option maxRecDepth 20000

/-- Are two rows the same? -/
def sameN (l m : List Nd) : Bool := decide (l = m)
theorem sameN_len {l m : List Nd} (h : l.length ≠ m.length) : sameN l m = false := decide_eq_false fun e => h (by rw [e])
theorem sameN_at {l m : List Nd} {k : Nat} (h1 : k < l.length) (h2 : k < m.length) : sameN (l.drop k) (m.drop k) = (decide (l[k] = m[k]) && sameN (l.drop (k + 1)) (m.drop (k + 1))) := by
  unfold sameN
  rw [List.drop_eq_getElem_cons h1, List.drop_eq_getElem_cons h2, Bool.eq_iff_iff]
  simp only [decide_eq_true_eq, Bool.and_eq_true, List.cons.injEq]
end Go.Proofs.YtpingbiibbmcaaaGreat.Rw

namespace Go.Proofs.YtpingbiibbmcaaaGreat.Rw
open Go Go.RowKit
set_option maxRecDepth 20000

end Go.Proofs.YtpingbiibbmcaaaGreat.Rw

namespace Go.Proofs.YtpingbiibbmcaaaGreat.St
open Go Go.RowKit Go.Proofs.YtpingbiibbmcaaaGreat.Rw
set_option maxRecDepth 20000

/-- A row, of which the tree that begins at a place is another one. -/
def putN (l : List Nd) (q : Nat) (x : List Nd) : List Nd := if size (l.drop q) = 0 then l else l.take q ++ x ++ l.drop (q + size (l.drop q))
def putR (l : List Nd) (at_ : Int) (x : List Nd) : List Nd := if at_ < 0 ∨ at_ ≥ l.length then l else putN l at_.toNat x
theorem drop_nds {w : World} {b o n c : Nat} {l : List Nd} (hn : l.length = n) (hat : At w b o l) (q : Nat) (hq : q ≤ n) (hc : n ≤ c) : Nds w (.slice (some ⟨b, o + q * 3, none⟩) (n - q) (c - q)) (l.drop q) := by
  subst hn
  have := part_nds hat q (l.length - q) (c - q) (by omega) (by omega)
  rwa [List.take_of_length_le (by rw [List.length_drop]; omega)] at this
theorem take_nds {w : World} {b o n c : Nat} {l : List Nd} (hn : l.length = n) (hat : At w b o l) (q : Nat) (hq : q ≤ n) (hc : n ≤ c) : Nds w (.slice (some ⟨b, o, none⟩) q c) (l.take q) := by
  subst hn
  have := part_nds hat 0 q c (by omega) (by omega)
  simpa using this
end Go.Proofs.YtpingbiibbmcaaaGreat.St

namespace Go.Proofs.YtpingbiibbmcaaaGreat.Rx
open Go Go.RowKit Rw
set_option maxRecDepth 20000

/-- Where a number stands first. -/
def idxAt (x : Int) : List Int → Nat → Int
  | [], _ => -1
  | y :: l, k => if x = y then k else idxAt x l (k + 1)
theorem idxAt_mem (x : Int) (l : List Int) (k : Nat) : decide (0 ≤ idxAt x l k) = decide (x ∈ l) := by
  induction l generalizing k with
  | nil => simp [idxAt]
  | cons y l ih =>
    unfold idxAt
    by_cases h : x = y
    · rw [if_pos h, decide_eq_true (show x ∈ y :: l by rw [h]; exact List.mem_cons_self)]
      simp
    · rw [if_neg h, ih (k + 1)]
      simp [h]
theorem idxAt_end {x : Int} {l : List Int} {k : Nat} (h : ¬ k < l.length) : idxAt x (l.drop k) k = -1 := by rw [List.drop_eq_nil_of_le (by omega)]; rfl
theorem idxAt_at {x : Int} {l : List Int} {k : Nat} (h : k < l.length) : idxAt x (l.drop k) k = if x = l[k] then (k : Int) else idxAt x (l.drop (k + 1)) (k + 1) := by
  rw [List.drop_eq_getElem_cons h, idxAt]

set_option maxHeartbeats 400000 in
theorem idx_empty (a : Option Addr) (cap : Nat) (x : Int) (w : World) :
    Calls Tryz.prog 41 #[.slice a 0 cap, .int .i64 x] w fun e w' => e = .returned (.int .i64 (-1)) ∧ w = w' := by
  go_enter Tryz.func41, Tryz.ntmps41
  go_wp2_with fail
  refine Go.wp_loop_rounds 1 ?_
  rw [rounds_succ]
  go_wp2_with fail
  go_ret
  exact ⟨rfl, rfl⟩
set_option maxHeartbeats 800000 in
theorem idx_cells (b off cap : Nat) (l : List Int) (x : Int) (w : World) (hat : AtI w b off l) (hl : l.length ≤ 1000000) :
    Calls Tryz.prog 41 #[.slice (some ⟨b, off, none⟩) l.length cap, .int .i64 x] w fun e w' => e = .returned (.int .i64 (idxAt x l 0)) ∧ Below w.heap.size w w' := by
  have HA := Lib.hid hat
  clear hat
  go_enter Tryz.func41, Tryz.ntmps41
  go_wp2_with fail
  go_loopw [8] (fun i wr => ∃ k : Nat, k ≤ l.length ∧ i = .int .i64 k ∧ Below w.heap.size w wr ∧ Hid (idxAt x l 0 = idxAt x (l.drop k) k)) (fun i _ => l.length - (intOf i).toNat)
  case atStart => exact ⟨0, Nat.zero_le _, rfl, Below.refl _ _, Lib.hid rfl⟩
  case round =>
    obtain ⟨k, hk, rfl, hb, HK⟩ := hrel
    have HB := Lib.hid hb
    clear hb
    by_cases hlt : k < l.length
    · have e1 := HA.out k hlt
      have c1 : wr.cell? ⟨b, off + k, none⟩ = some (.int .i64 l[k]) := by rw [HB.out.cell (Ap.cell_lt e1)]; exact e1
      have HX := Lib.hid (HK.out.trans (idxAt_at hlt))
      obtain ⟨y, hy⟩ : ∃ y, l[k] = y := ⟨_, rfl⟩
      rw [hy] at c1 HX
      clear hy e1
      by_cases hxy : x = y
      · rw [if_pos hxy] at HX
        subst hxy
        go_wp2_with fail
        try go_quiet (fail)
        try go_wp2_with fail
        go_ret
        exact ⟨ret_int HX.out.symm, by first | exact HB.out.trans (Below.drewN _ _ _) | exact HB.out⟩
      · rw [if_neg hxy] at HX
        have g : (x == y) = false := by rw [beq_eq_false_iff_ne]; exact hxy
        clear hxy
        go_wp2_with fail
        try go_quiet (fail)
        try go_wp2_with fail
        go_roundw
        case rel => exact ⟨k + 1, by omega, by go_num, by first | exact HB.out.trans (Below.drewN _ _ _) | exact HB.out, HX⟩
        case measure => simp [intOf]; omega
    · go_wp2_with fail
      go_ret
      exact ⟨ret_int (by rw [HK.out, idxAt_end hlt]), HB.out⟩
theorem idx_any (v : Value) (l : List Int) (x : Int) (w : World) (h : Ints w v l) (hl : l.length ≤ 1000000) :
    Calls Tryz.prog 41 #[v, .int .i64 x] w fun e w' => e = .returned (.int .i64 (idxAt x l 0)) ∧ Below w.heap.size w w' := by
  rcases h.form with ⟨rfl, a, cap, rfl⟩ | ⟨b, off, cap, rfl, _, hat⟩
  · refine (idx_empty a cap x w).mono ?_
    rintro e w' ⟨rfl, rfl⟩
    exact ⟨rfl, Below.refl _ _⟩
  · exact idx_cells b off cap l x w hat hl
set_option maxHeartbeats 400000 in
theorem has_any (v : Value) (l : List Int) (x : Int) (w : World) (h : Ints w v l) (hl : l.length ≤ 1000000) :
    Calls Tryz.prog 20 #[v, .int .i64 x] w fun e w' => e = .returned (.bool (decide (x ∈ l))) ∧ Below w.heap.size w w' := by
  have H := Lib.hid h
  have HQ := Lib.hid (idxAt_mem x l 0)
  obtain ⟨q, hq⟩ : ∃ q, idxAt x l 0 = q := ⟨_, rfl⟩
  rw [hq] at HQ
  have HC := Lib.hid hq
  clear h hq
  go_enter Tryz.func20, Tryz.ntmps20
  go_wp2_with fail
  refine (idx_any v l x _ H.out hl).mono ?_
  rw [HC.out]
  rintro e w' ⟨rfl, hb⟩
  have HB := Lib.hid hb
  clear hb
  go_wp2_with fail
  go_ret
  exact ⟨ret_bool HQ.out, HB.out⟩

set_option maxHeartbeats 400000 in
theorem countP_empty (a : Option Addr) (cap : Nat) (y : Value) (w : World) :
    Calls Tryz.prog 8 #[.slice a 0 cap, y] w fun e w' => e = .returned (.int .i64 0) ∧ Below w.heap.size w w' := by
  go_enter Tryz.func8, Tryz.ntmps8
  go_wp2_with fail
  refine Go.wp_loop_rounds 1 ?_
  rw [rounds_succ]
  go_wp2_with fail
  go_ret
  exact ⟨rfl, Below.refl _ _⟩
set_option maxHeartbeats 1000000 in
theorem countP_cells (b off cap : Nat) (l : List Nd) (v : Value) (ks : List Int) (w : World) (hl : l.length ≤ 1000000) (hk : ks.length ≤ 1000000) (h1 : At w b off l) (h2 : Ints w v ks) :
    Calls Tryz.prog 8 #[.slice (some ⟨b, off, none⟩) l.length cap, v] w fun e w' => e = .returned (.int .i64 (cnt l ks)) ∧ Below w.heap.size w w' := by
  have H1 := Lib.hid h1
  have H2 := Lib.hid h2
  clear h1 h2
  go_enter Tryz.func8, Tryz.ntmps8
  go_wp2_with fail
  go_loopw [5, 10] (fun n i wr => ∃ k c : Nat, k ≤ l.length ∧ c ≤ k ∧ i = .int .i64 k ∧ n = .int .i64 c ∧ Below w.heap.size w wr ∧ Hid (cnt (l.take k) ks = c)) (fun _ i _ => l.length - (intOf i).toNat)
  case atStart => exact ⟨0, 0, Nat.zero_le _, Nat.zero_le _, rfl, rfl, Below.refl _ _, Lib.hid rfl⟩
  case round =>
    obtain ⟨k, c, hk', hck, rfl, rfl, hb, HC⟩ := hrel
    have HB := Lib.hid hb
    clear hb
    by_cases hlt : k < l.length
    · obtain ⟨e1, e2, e3⟩ := H1.out k hlt
      have c1 : wr.cell? ⟨b, off + k * 3, none⟩ = some (.int .i64 l[k].k) := by rw [HB.out.cell (Ap.cell_lt e1)]; exact e1
      have c2 : wr.cell? ⟨b, off + k * 3 + 1, none⟩ = some (.string l[k].n) := by rw [HB.out.cell (Ap.cell_lt e2)]; exact e2
      have c3 : wr.cell? ⟨b, off + k * 3 + 2, none⟩ = some (.int .i64 l[k].s) := by rw [HB.out.cell (Ap.cell_lt e3)]; exact e3
      have HY := Lib.hid (cnt_yes l ks k hlt)
      have HN := Lib.hid (cnt_no l ks k hlt)
      obtain ⟨x, hx⟩ : ∃ x, l[k] = x := ⟨_, rfl⟩
      rw [hx] at c1 c2 c3 HY HN
      clear hx e1 e2 e3
      have HB1 := Lib.hid (HB.out.alloc HB.out.size (nb x))
      by_cases hm : x.k ∈ ks
      · have HX := Lib.hid (decide_eq_true hm)
        have HM := Lib.hid hm
        clear hm
        go_wp2_with fail
        refine (has_any v ks x.k _ (H2.out.below HB1.out) hk).mono ?_
        rw [HX.out]
        rintro e w' ⟨rfl, hb⟩
        have HB2 := Lib.hid (HB1.out.trans (hb.mono HB1.out.size))
        clear hb
        go_wp2_with fail
        go_roundw
        case rel => exact ⟨k + 1, c + 1, by omega, by omega, by go_num, by go_num, HB2.out, Lib.hid (by rw [HY.out HM.out, HC.out])⟩
        case measure => simp [intOf]; omega
      · have HX := Lib.hid (decide_eq_false hm)
        have HM := Lib.hid hm
        clear hm
        go_wp2_with fail
        refine (has_any v ks x.k _ (H2.out.below HB1.out) hk).mono ?_
        rw [HX.out]
        rintro e w' ⟨rfl, hb⟩
        have HB2 := Lib.hid (HB1.out.trans (hb.mono HB1.out.size))
        clear hb
        go_wp2_with fail
        go_roundw
        case rel => exact ⟨k + 1, c, by omega, by omega, by go_num, rfl, HB2.out, Lib.hid (by rw [HN.out HM.out, HC.out])⟩
        case measure => simp [intOf]; omega
    · have HZ : Hid (cnt l ks = c) := by
        have := HC.out
        rwa [List.take_of_length_le (by omega)] at this
      go_wp2_with fail
      go_ret
      exact ⟨ret_int (by rw [HZ.out]), HB.out⟩
/-- The program's Count. -/
theorem countP_any (x y : Value) (l : List Nd) (ks : List Int) (w : World) (hx : Nds w x l) (hy : Ints w y ks) (hl : l.length ≤ 1000000) (hk : ks.length ≤ 1000000) :
    Calls Tryz.prog 8 #[x, y] w fun e w' => e = .returned (.int .i64 (cnt l ks)) ∧ Below w.heap.size w w' := by
  rcases hx.form with ⟨rfl, a, cap, rfl⟩ | ⟨b, off, cap, rfl, _, hc⟩
  · exact countP_empty a cap y w
  · exact countP_cells b off cap l y ks w hl hk hc hy
end Go.Proofs.YtpingbiibbmcaaaGreat.Rx

namespace Go.Proofs.YtpingbiibbmcaaaGreat.Tr
open Go Go.RowKit
set_option maxRecDepth 20000

end Go.Proofs.YtpingbiibbmcaaaGreat.Tr

namespace Go.Proofs.YtpingbiibbmcaaaGreat.So
open Go Go.RowKit Go.Proofs.YtpingbiibbmcaaaGreat.Rw
set_option maxRecDepth 20000

/-- Just one tree. -/
def Tre (l : List Nd) : Prop := ∃ d, T l = some (l.length, d)
theorem Tre.pos {l : List Nd} (h : Tre l) : 0 < l.length := by
  obtain ⟨d, h⟩ := h
  exact (T_bd h).1
theorem Tre.size {l : List Nd} (h : Tre l) : Rw.size l = l.length := by
  obtain ⟨d, h⟩ := h
  unfold Rw.size
  rw [h]
theorem Tre.of_size {l : List Nd} (h : Rw.size l = l.length) (h0 : l ≠ []) : Tre l := by
  unfold Rw.size at h
  cases ht : T l with
  | none =>
    rw [ht] at h
    exact absurd (List.eq_nil_of_length_eq_zero h.symm) h0
  | some x =>
    rw [ht] at h
    obtain ⟨c, d⟩ := x
    simp only at h
    exact ⟨d, by rw [ht, h]⟩
theorem Tre.of_head {l : List Nd} {c d : Nat} (h : T l = some (c, d)) : Tre (l.take c) := by
  have hh := T_head h
  have hb := T_bd h
  exact ⟨d, by rw [hh, List.length_take, Nat.min_eq_left hb.2.1]⟩
theorem kidsN_tre : ∀ (j : Nat) (r : List Nd) (c d : Nat), S j r = some (c, d) → ∀ t ∈ kidsN j r, Tre t
  | 0, _, _, _, _, t, ht => by cases ht
  | j + 1, r, c, d, h, t, ht => by
    rw [S_succ] at h
    cases hj : S j r with
    | none => rw [hj] at h; cases h
    | some x =>
      obtain ⟨c1, d1⟩ := x
      rw [hj] at h
      simp only at h
      cases hx : T (r.drop c1) with
      | none => rw [hx] at h; cases h
      | some y =>
        obtain ⟨c2, d2⟩ := y
        rw [kidsN, hj, List.mem_append, List.mem_singleton] at ht
        rcases ht with ht | ht
        · exact kidsN_tre j r c1 d1 hj t ht
        · rw [ht]
          simp only [Option.getD_some]
          have hs : Rw.size (r.drop c1) = c2 := by unfold Rw.size; rw [hx]
          rw [hs]
          exact Tre.of_head hx
theorem Tre.ar {l : List Nd} (h : Tre l) : 0 ≤ Rw.ar (hd l) := by
  obtain ⟨d, h⟩ := h
  cases l with
  | nil => rw [T_nil] at h; cases h
  | cons n r =>
    rw [T_cons] at h
    split at h
    · cases h
    · rename_i hk
      show 0 ≤ Rw.ar n.k
      omega
theorem Tre.kids {l : List Nd} (h : Tre l) : (Rw.kids l).length = (Rw.ar (hd l)).toNat ∧ ∀ t ∈ Rw.kids l, Tre t := by
  have hs : Rw.size l ≠ 0 := by rw [h.size]; have := h.pos; omega
  have ha := h.ar
  obtain ⟨d, h⟩ := h
  cases l with
  | nil => rw [T_nil] at h; cases h
  | cons n r =>
    unfold Rw.kids
    rw [if_neg hs]
    refine ⟨kidsN_len _ _, ?_⟩
    rw [T_cons] at h
    split at h
    · cases h
    · cases hj : S (Rw.ar n.k).toNat r with
      | none => rw [hj] at h; cases h
      | some x => exact kidsN_tre _ r x.1 x.2 hj
theorem Tre.two {l : List Nd} (h : Tre l) (h2 : Rw.ar (hd l) = 2) : ∃ a b, Rw.kids l = [a, b] ∧ Tre a ∧ Tre b ∧ a.length < l.length ∧ b.length < l.length := by
  obtain ⟨hl, ht⟩ := h.kids
  rw [h2] at hl
  match hk : Rw.kids l, hl with
  | [a, b], _ =>
    have ha : a ∈ Rw.kids l := by rw [hk]; simp
    have hb : b ∈ Rw.kids l := by rw [hk]; simp
    exact ⟨a, b, rfl, ht a ha, ht b hb, kids_short ha, kids_short hb⟩
theorem Tre.one {l : List Nd} (h : Tre l) (h1 : Rw.ar (hd l) = 1) : ∃ a, Rw.kids l = [a] ∧ Tre a ∧ a.length < l.length := by
  obtain ⟨hl, ht⟩ := h.kids
  rw [h1] at hl
  match hk : Rw.kids l, hl with
  | [a], _ =>
    have ha : a ∈ Rw.kids l := by rw [hk]; simp
    exact ⟨a, rfl, ht a ha, kids_short ha⟩
/-- The first node's kind, in memory. -/
theorem head_cell {w : World} {v : Value} {l : List Nd} (hv : Nds w v l) (h : Tre l) : ∃ b o c, v = .slice (some ⟨b, o, none⟩) l.length c ∧ w.cell? ⟨b, o, none⟩ = some (.int .i64 (hd l)) := by
  rcases hv.form with ⟨rfl, _⟩ | ⟨b, o, c, rfl, _, hat⟩
  · exact absurd h.pos (Nat.lt_irrefl 0)
  · refine ⟨b, o, c, rfl, ?_⟩
    have := (hat 0 h.pos).1
    rw [Nat.zero_mul, Nat.add_zero] at this
    rw [this]
    cases l with
    | nil => exact absurd h.pos (Nat.lt_irrefl 0)
    | cons n r => rfl
theorem two_rows {w : World} {y : Value} {r s : List Nd} (h : Rws w y [r, s]) :
    ∃ b o c a0 a1, y = .slice (some ⟨b, o, none⟩) 2 c ∧ w.cell? ⟨b, o, none⟩ = some a0 ∧ w.cell? ⟨b, o + 1, none⟩ = some a1 ∧ Nds w a0 r ∧ Nds w a1 s := by
  obtain ⟨cs, ⟨_, a, c, rfl, _, _, hcell⟩, hr⟩ := h
  obtain ⟨b, o, rfl, hj⟩ := hcell (by simp)
  match cs, hr with
  | [a0, a1], hr => exact ⟨b, o, c, a0, a1, rfl, hj 0 _ rfl, hj 1 _ rfl, hr.1, hr.2.1⟩
theorem one_row {w : World} {y : Value} {r : List Nd} (h : Rws w y [r]) :
    ∃ b o c a0, y = .slice (some ⟨b, o, none⟩) 1 c ∧ w.cell? ⟨b, o, none⟩ = some a0 ∧ Nds w a0 r := by
  obtain ⟨cs, ⟨_, a, c, rfl, _, _, hcell⟩, hr⟩ := h
  obtain ⟨b, o, rfl, hj⟩ := hcell (by simp)
  match cs, hr with
  | [a0], hr => exact ⟨b, o, c, a0, rfl, hj 0 _ rfl, hr.1⟩
theorem kinds {k : Int} (h : 0 ≤ Rw.ar k) : k = 1 ∨ k = 2 ∨ k = 3 ∨ k = 4 ∨ k = 5 ∨ k = 6 ∨ k = 7 ∨ k = 8 ∨ k = 9 ∨ k = 10 ∨ k = 11 ∨ k = 12 ∨ k = 13 ∨ k = 14 := by
  rcases cases15 k with h1 | h1 | h1 | h1 | h1 | h1 | h1 | h1 | h1 | h1 | h1 | h1 | h1 | h1 | h1
  case inr.inr.inr.inr.inr.inr.inr.inr.inr.inr.inr.inr.inr.inr => rw [ar_no h1] at h; exact absurd h (by decide)
  all_goals omega
/-- What the walk of Is is asked of shorter trees. -/
def IsC (n : Nat) : Prop := ∀ (r : List Nd) (s : Nat) (w : World) (v : Value), r.length < n → Tre r → Nds w v r → 1 ≤ s → s ≤ 4 → Calls Tryz.prog 27 #[v, .int .i64 s] w fun e w' => e = .returned (.bool (Is s r)) ∧ Below w.heap.size w w'
end Go.Proofs.YtpingbiibbmcaaaGreat.So
