/- The program's Size and Depth: measure. Rows of a call's own: what Kids makes. The program's names: isName. The document's Same over rows of nodes. The document's Count over rows of nodes. The document's Put: the walk. The program's Count: slices.Index and slices.Contains over whole numbers. The document's merge of two rows of traces: the walk. Trees, their kids; what the walks of sorts need. The program's Size and Depth: the walk of measure. -/
import Derived.Test.YtpingbiibbmcaaaQ04
import Derived.Test.YtpingbiibbmcaaaQ01
import Derived.Test.YtpingbiibbmcaaaQ05
import Derived.Laws.MakeOwn
import Derived.OwnWalk
import Derived.WalkMore
import Derived.Deep.LoopGhost
import Derived.Laws.RangeAny
import Derived.Deep.QuietTactic
import Derived.BigQuiet

namespace Go.Proofs.Ytpingbiibbmcaaa.Rx
open Go Go.RowKit Rw
set_option maxRecDepth 20000

theorem infoI : (Try.prog.info? 3).map (fun i => (i.zero, i.size, i.bytes)) = some (some (.int .i64 0), 1, 8) := by kernel_rfl
def ic (st : List Nat) : List Value := st.map fun (k : Nat) => .int .i64 (k : Int)
/-- A row of numbers in a block of the call's own. -/
def Stk (base : Nat) (w : World) (g cap : Nat) (st : List Nat) : Prop := w.ownsRow base 3 1 (.slice (some ⟨g, 0, none⟩) st.length cap) st.length (ic st)
theorem Stk.parts {base : Nat} {w : World} {g cap : Nat} {st : List Nat} (h : Stk base w g cap st) : ∃ cur : Array Value, w.heap[g]? = some (.cells cur 3 (0, 0)) ∧ base ≤ g ∧ cap ≤ maxLen ∧ cur.size = cap ∧ st.length ≤ cap ∧ cur.toList.take st.length = ic st := by
  obtain ⟨_, ⟨h0, _⟩ | ⟨g', cap', cur, hv, hb, hg, hn, hm, hs, ht⟩⟩ := h
  · cases h0
  · cases hv
    exact ⟨cur, hg, hb, hm, by simpa using hs, hn, by simpa using ht⟩
theorem Stk.of {base : Nat} {w : World} {g cap : Nat} {st : List Nat} {cur : Array Value} (hg : w.heap[g]? = some (.cells cur 3 (0, 0))) (hb : base ≤ g) (hm : cap ≤ maxLen) (hs : cur.size = cap) (hn : st.length ≤ cap) (ht : cur.toList.take st.length = ic st) : Stk base w g cap st :=
  ⟨by simp [ic], .inr ⟨g, cap, cur, rfl, hb, hg, hn, hm, by simpa using hs, by simpa using ht⟩⟩
theorem Stk.cell {base : Nat} {w : World} {g cap : Nat} {st : List Nat} (h : Stk base w g cap st) (j : Nat) (hj : j < st.length) : w.cell? ⟨g, j, none⟩ = some (.int .i64 (st[j] : Int)) := by
  obtain ⟨cur, hg, _, _, hs, hn, ht⟩ := h.parts
  have : cur.toList[j]? = (ic st)[j]? := by rw [← ht, List.getElem?_take_of_lt hj]
  simp only [ic, List.getElem?_map, List.getElem?_eq_getElem hj, Option.map_some] at this
  simp only [World.cell?, hg]
  simpa using this
theorem Stk.soft {base : Nat} {w : World} {g cap : Nat} {st : List Nat} (h : Stk base w g cap st) (j : Nat) : w.frozen? ⟨g, j, none⟩ = false := by
  obtain ⟨cur, hg, _⟩ := h.parts
  simp [World.frozen?, hg]
theorem Stk.cap {base : Nat} {w : World} {g cap : Nat} {st : List Nat} (h : Stk base w g cap st) : st.length ≤ cap ∧ cap ≤ maxLen := by
  obtain ⟨cur, _, _, hm, _, hn, _⟩ := h.parts
  exact ⟨hn, hm⟩
theorem heap_setCell (w : World) (g o : Nat) (v : Value) (k : Nat) : (w.setCell ⟨g, o, none⟩ v).heap[k]? = if g = k then (w.heap[k]?).map (fun x => match x with | .cells c elem frozen => .cells (c.setIfInBounds o v) elem frozen | o => o) else w.heap[k]? := by
  simp only [World.setCell, Array.getElem?_modify]
  by_cases h : g = k
  · simp [h]
    rfl
  · simp [h]
/-- The nearest number that is above zero made one fewer; what stood behind it is gone. -/
theorem Stk.down {base : Nat} {w : World} {g cap : Nat} {st : List Nat} (h : Stk base w g cap st) (i y : Nat) (hi : i < st.length) : Stk base (w.setCell ⟨g, i, none⟩ (.int .i64 (y : Int))) g cap (st.take i ++ [y]) := by
  obtain ⟨cur, hg, hb, hm, hs, hn, ht⟩ := h.parts
  refine Stk.of (cur := cur.setIfInBounds i (.int .i64 (y : Int))) (by simp [heap_setCell, hg]) hb hm (by simpa using hs) (by simp; omega) ?_
  have hl : (st.take i ++ [y]).length = i + 1 := by simp; omega
  rw [hl]
  refine List.ext_getElem? fun j => ?_
  rw [List.getElem?_take]
  by_cases hj : j < i + 1
  · rw [if_pos hj, Array.getElem?_toList, Array.getElem?_setIfInBounds]
    by_cases hji : j = i
    · subst hji
      rw [if_pos rfl, if_pos (by omega)]
      simp [ic, List.length_take, Nat.min_eq_left (Nat.le_of_lt hi)]
    · have e : cur.toList[j]? = (ic st)[j]? := by rw [← ht, List.getElem?_take_of_lt (by omega)]
      rw [if_neg (by omega), ← Array.getElem?_toList, e]
      simp only [ic, List.getElem?_map]
      rw [List.getElem?_append_left (by simp; omega), List.getElem?_take_of_lt (by omega)]
  · rw [if_neg hj, List.getElem?_eq_none (by simp [ic]; omega)]
theorem below_setCell {B : Nat} {w0 w : World} (h : Below B w0 w) (g o : Nat) (v : Value) (hg : B ≤ g) : Below B w0 (w.setCell ⟨g, o, none⟩ v) :=
  ⟨h.os, h.tape, h.output, by rw [show (w.setCell ⟨g, o, none⟩ v).heap.size = w.heap.size by simp [World.setCell]]; exact h.size, fun k hk => by rw [heap_setCell, if_neg (by omega)]; exact h.block k hk⟩
theorem Stk.push {base : Nat} {w : World} {g cap : Nat} {st : List Nat} (a : Nat) (h : Stk base w g cap st) (hbase : base ≤ w.heap.size) (hlen : st.length ≤ 8796093022208) :
    ∃ g' cap' w', (Builtin.append_ #[46, 46] 46 #[.slice (some ⟨g, 0, none⟩) st.length cap, .slice (some ⟨w.heap.size, 0, none⟩) 1 1]).run Try.prog (w.alloc (.cells #[.int .i64 (a : Int)] 3)) = .ok (.slice (some ⟨g', 0, none⟩) (st.length + 1) cap') w' ∧ Stk base w' g' cap' (st ++ [a]) ∧ Below base w w' := by
  obtain ⟨i0, hi, hz, hs1, hb8⟩ := info_parts infoI
  obtain ⟨v', w', h1, h2, h3, h4, h5⟩ := Ap.run_append_one (P := Try.prog) (ty := 46) Try.underlying46 hi hz hs1 hb8 (by rfl) (by omega) h hbase #[.int .i64 (a : Int)] rfl
    (by intro u hu; simp at hu; subst hu; rfl) (by unfold maxLen; omega) (by omega)
  have hform : ∃ g' cap', v' = .slice (some ⟨g', 0, none⟩) (st.length + 1) cap' := by
    obtain ⟨_, ⟨_, h0⟩ | ⟨g', cap', cur, hv, _⟩⟩ := h2
    · omega
    · exact ⟨g', cap', hv⟩
  obtain ⟨g', cap', rfl⟩ := hform
  refine ⟨g', cap', w', h1, ?_, h4⟩
  unfold Stk
  have e : ic (st ++ [a]) = ic st ++ [.int .i64 (a : Int)] := by simp [ic]
  rw [e, show (st ++ [a]).length = st.length + 1 by simp]
  exact h2
theorem pop_last {st : List Nat} {i : Nat} (h : i < st.length) : (st.take (i + 1)).reverse = st[i] :: (st.take i).reverse := by
  rw [List.take_succ_eq_append_getElem h, List.reverse_append]
  rfl
/-- What is still to be told. -/
def Rest (l : List Nd) (k : Nat) (st : List Nat) (d : Nat) : Prop := Rx.ms (l.drop k) st.reverse d k = (size l, depth l)
theorem Rest.start (l : List Nd) : Rest l 0 [] 0 := ms_of l
theorem Rest.stop {l : List Nd} {k d : Nat} {st : List Nat} (h : Rest l k st d) (hk : k < l.length) (ha : ar l[k].k < 0) : size l = 0 ∧ depth l = 0 := by
  unfold Rest at h
  rw [List.drop_eq_getElem_cons hk, Rx.ms, if_pos ha] at h
  exact ⟨(congrArg Prod.fst h).symm, (congrArg Prod.snd h).symm⟩
theorem Rest.out {l : List Nd} {k d : Nat} {st : List Nat} (h : Rest l k st d) (hk : ¬ k < l.length) : size l = 0 ∧ depth l = 0 := by
  unfold Rest at h
  rw [List.drop_eq_nil_of_le (by omega), Rx.ms] at h
  exact ⟨(congrArg Prod.fst h).symm, (congrArg Prod.snd h).symm⟩
theorem Rest.end {l : List Nd} {k d a : Nat} {st : List Nat} (h : Rest l k st d) (hk : k < l.length) (ha : ar l[k].k = (a : Int)) (hp : pop (st ++ [a]).reverse = none) : size l = k + 1 ∧ depth l = max d (st.length + 1) := by
  unfold Rest at h
  rw [List.reverse_concat] at hp
  rw [List.drop_eq_getElem_cons hk, Rx.ms, if_neg (by omega), ha, Int.toNat_natCast, hp, List.length_reverse] at h
  exact ⟨(congrArg Prod.fst h).symm, (congrArg Prod.snd h).symm⟩
theorem Rest.more {l : List Nd} {k d a : Nat} {st s : List Nat} (h : Rest l k st d) (hk : k < l.length) (ha : ar l[k].k = (a : Int)) (hp : pop (st ++ [a]).reverse = some s.reverse) : Rest l (k + 1) s (max d (st.length + 1)) := by
  unfold Rest at h ⊢
  rw [List.reverse_concat] at hp
  rw [List.drop_eq_getElem_cons hk, Rx.ms, if_neg (by omega), ha, Int.toNat_natCast, hp, List.length_reverse] at h
  exact h
end Go.Proofs.Ytpingbiibbmcaaa.Rx

namespace Go.Proofs.Ytpingbiibbmcaaa.Rw
open Go Go.RowKit
set_option maxRecDepth 20000

/-- A row of the call's own that may be written into; out: a block in which it does not lie. -/
def Own1 (base : Nat) (out : Option Nat) (w : World) (a : Value) (r : List Nd) : Prop :=
  Ap.RdO (fun g => base ≤ g ∧ some g ≠ out) w 3 a r.length (cls r) ∧ ∀ b off cap, a = .slice (some ⟨b, off, none⟩) r.length cap → ∀ j, j < r.length * 3 → w.frozen? ⟨b, off + j, none⟩ = false
def OwnC (base : Nat) (out : Option Nat) (w : World) : List Value → List (List Nd) → Prop
  | [], [] => True
  | a :: cs, r :: rs => Own1 base out w a r ∧ OwnC base out w cs rs
  | _, _ => False
def blk : Value → Option Nat
  | .slice (some a) _ _ => some a.block
  | _ => none
def KidsPost (ls : List (List Nd)) (w : World) (e : Ending) (w' : World) : Prop :=
  ∃ y cs, e = .returned y ∧ Ap.RdO (fun g => w.heap.size ≤ g) w' 1 y ls.length cs ∧ OwnC w.heap.size (blk y) w' cs ls ∧ Below w.heap.size w w'
theorem OwnC.rwc {base : Nat} {out : Option Nat} {w : World} : ∀ {cs : List Value} {ls : List (List Nd)}, OwnC base out w cs ls → RwC w cs ls
  | [], [], _ => trivial
  | _ :: _, _ :: _, h => ⟨h.1.1.rd, OwnC.rwc h.2⟩
  | [], _ :: _, h => h.elim
  | _ :: _, [], h => h.elim
end Go.Proofs.Ytpingbiibbmcaaa.Rw

namespace Go.Proofs.Ytpingbiibbmcaaa.Rx
open Go Go.RowKit Rw
set_option maxRecDepth 20000
/-- A name that an action may have. -/
def nm (n : ByteArray) : Bool := low n.data.toList && (decide (1 ≤ n.size) && decide (n.size ≤ 8)) && !wordB n
set_option maxHeartbeats 1000000 in
theorem name_other (s : ByteArray) (w : World) (h : wordB s = false) (h0 : s.size ≠ 0) (hs : s.size ≤ 140737488355328) : Calls Try.prog 87 #[.string s] w fun e w' => e = .returned (.bool (nm s)) ∧ Below w.heap.size w w' := by
  have hb : ¬ (s = w1 ∨ s = w2 ∨ s = w3 ∨ s = w4 ∨ s = w5 ∨ s = w6) := by simpa [wordB] using h
  have e0 := not_empty h0
  have HN : Hid (nm s = (low s.data.toList && decide (s.size ≤ 8))) := by
    show _ = _
    unfold nm
    rw [h, decide_eq_true (show 1 ≤ s.size by omega)]
    simp
  clear h h0
  simp only [not_or] at hb
  obtain ⟨h1, h2, h3, h4, h5, h6⟩ := hb
  have e1 := str_ne' (l := [115, 107, 105, 112]) h1
  have e2 := str_ne' (l := [116, 104, 114, 111, 119]) h2
  have e3 := str_ne' (l := [121, 105, 101, 108, 100]) h3
  have e4 := str_ne' (l := [115, 107, 105, 112, 112]) h4
  have e5 := str_ne' (l := [116, 104, 114, 111, 119, 119]) h5
  have e6 := str_ne' (l := [121, 105, 101, 108, 100, 100]) h6
  clear h1 h2 h3 h4 h5 h6
  go_enter Try.func87, Try.ntmps87
  go_wp2_with fail
  go_loopw [] (fun wr => ∃ pos : Nat, pos ≤ s.size ∧ wr = w.iter s pos ∧ Hid (low (s.data.toList.take pos) = true)) (fun wr => s.size - wr.iterPos w.heap.size)
  case atStart => exact ⟨0, Nat.zero_le _, rfl, Lib.hid rfl⟩
  case round =>
    obtain ⟨pos, hp, rfl, HL⟩ := hrel
    by_cases hlt : pos < s.size
    · have HT := Lib.hid (low_take s pos hlt)
      have HF := Lib.hid (fun hb => low_no hlt hb)
      by_cases ha : (s[pos]'hlt).toNat < 128
      · have hnx : ∀ ty, (Instr.next (.pointer (some ⟨w.heap.size, 0, none⟩)) true ty).run Try.prog (w.iter s pos) = _ := fun ty => run_next_ascii w s pos ty hlt ha
        obtain ⟨c, hc⟩ : ∃ c, (s[pos]'hlt).toNat = c := ⟨_, rfl⟩
        have HC := Lib.hid hc
        rw [hc] at hnx ha
        clear hc
        by_cases b1 : c < 97
        · have d1 : decide ((c : Int) < 97) = true := by simp; omega
          go_wp2_with fail
          go_ret
          refine ⟨ret_bool ?_, (Below.refl _ _).alloc (Nat.le_refl _) _⟩
          rw [HN.out, HF.out (by rw [HC.out]; simp; omega)]
          rfl
        · have d1 : decide ((c : Int) < 97) = false := by simp; omega
          by_cases b2 : 122 < c
          · have d2 : decide (122 < (c : Int)) = true := by simp; omega
            go_wp2_with fail
            go_ret
            refine ⟨ret_bool ?_, (Below.refl _ _).alloc (Nat.le_refl _) _⟩
            rw [HN.out, HF.out (by rw [HC.out]; simp; omega)]
            rfl
          · have d2 : decide (122 < (c : Int)) = false := by simp; omega
            have HG : Hid (low (s.data.toList.take (pos + 1)) = true) := by
              show _ = true
              rw [HT.out, HL.out, HC.out]
              simp
              omega
            go_wp2_with fail
            go_roundw
            case rel => exact ⟨pos + 1, by omega, rfl, HG⟩
            case measure => simp only [World.iterPos_iter]; omega
      · have hnx : ∀ ty, (Instr.next (.pointer (some ⟨w.heap.size, 0, none⟩)) true ty).run Try.prog (w.iter s pos) = _ := fun ty => run_next_any w s pos ty hlt
        have hh := (decode_high s pos hlt (by omega)).1
        obtain ⟨c, hc⟩ : ∃ c, (Utf8.decode s pos).1 = c := ⟨_, rfl⟩
        obtain ⟨q, hq⟩ : ∃ q, pos + (Utf8.decode s pos).2 = q := ⟨_, rfl⟩
        rw [hc] at hh
        rw [hc, hq] at hnx
        have HC := Lib.hid ha
        clear hc hq ha
        have d1 : decide ((c : Int) < 97) = false := by simp; omega
        have d2 : decide (122 < (c : Int)) = true := by simp; omega
        go_wp2_with fail
        go_ret
        refine ⟨ret_bool ?_, (Below.refl _ _).alloc (Nat.le_refl _) _⟩
        rw [HN.out, HF.out (by have := HC.out; simp; omega)]
        rfl
    · have hnx : ∀ ty, (Instr.next (.pointer (some ⟨w.heap.size, 0, none⟩)) true ty).run Try.prog (w.iter s pos) = _ := fun ty => run_next_end w s pos ty hlt
      have HF : Hid (low s.data.toList = true) := by
        have := HL.out
        rwa [List.take_of_length_le (by simp; omega)] at this
      by_cases q2 : s.size ≤ 8
      · go_wp2_with fail
        go_ret
        refine ⟨ret_bool ?_, (Below.refl _ _).alloc (Nat.le_refl _) _⟩
        rw [HN.out, HF.out, Bool.true_and, Bool.eq_iff_iff]
        simp
        omega
      · go_wp2_with fail
        go_ret
        refine ⟨ret_bool ?_, (Below.refl _ _).alloc (Nat.le_refl _) _⟩
        rw [HN.out, HF.out, Bool.true_and, Bool.eq_iff_iff]
        simp
        omega
theorem name_any (s : ByteArray) (w : World) (hs : s.size ≤ 140737488355328) : Calls Try.prog 87 #[.string s] w fun e w' => e = .returned (.bool (nm s)) ∧ Below w.heap.size w w' := by
  by_cases h0 : s.size = 0
  · obtain rfl := empty_of h0
    clear h0 hs
    rw [show nm ⟨#[]⟩ = false from rfl]
    go_enter Try.func87, Try.ntmps87
    go_wp2_with fail
    go_ret
    exact ⟨rfl, Below.refl _ _⟩
  · cases hw : wordB s with
    | false => exact name_other s w hw h0 hs
    | true =>
      have hb : nm s = false := by unfold nm; rw [hw]; simp
      rw [hb]
      have : s = w1 ∨ s = w2 ∨ s = w3 ∨ s = w4 ∨ s = w5 ∨ s = w6 := by simpa [wordB] using hw
      clear hw h0 hs hb
      rcases this with rfl | rfl | rfl | rfl | rfl | rfl
      all_goals
        simp only [w1, w2, w3, w4, w5, w6]
        go_enter Try.func87, Try.ntmps87
        go_wp2_with fail
        go_ret
        exact ⟨rfl, Below.refl _ _⟩
end Go.Proofs.Ytpingbiibbmcaaa.Rx

namespace Go.Proofs.Ytpingbiibbmcaaa.Rw
open Go Go.RowKit
set_option maxRecDepth 20000

/-- Are two rows the same? -/
def sameN (l m : List Nd) : Bool := decide (l = m)
theorem sameN_len {l m : List Nd} (h : l.length ≠ m.length) : sameN l m = false := decide_eq_false fun e => h (by rw [e])
theorem sameN_at {l m : List Nd} {k : Nat} (h1 : k < l.length) (h2 : k < m.length) : sameN (l.drop k) (m.drop k) = (decide (l[k] = m[k]) && sameN (l.drop (k + 1)) (m.drop (k + 1))) := by
  unfold sameN
  rw [List.drop_eq_getElem_cons h1, List.drop_eq_getElem_cons h2, Bool.eq_iff_iff]
  simp only [decide_eq_true_eq, Bool.and_eq_true, List.cons.injEq]
end Go.Proofs.Ytpingbiibbmcaaa.Rw

namespace Go.Proofs.Ytpingbiibbmcaaa.Rw
open Go Go.RowKit
set_option maxRecDepth 20000

set_option maxHeartbeats 1000000 in
theorem cnt_empty (a : Option Addr) (cap : Nat) (y : Value) (w : World) :
    Calls Try.prog 26 #[.slice a 0 cap, y] w fun e w' => e = .returned (.int .i64 0) ∧ Below w.heap.size w w' := by
  go_enter Try.func26, Try.ntmps26
  go_wp2_with fail
  refine Go.wp_loop_rounds 1 ?_
  rw [rounds_succ]
  go_wp2_with fail
  go_ret
  exact ⟨rfl, Below.refl _ _⟩
set_option maxHeartbeats 4000000 in
theorem cnt_cells (b off cap : Nat) (l : List Nd) (b2 o2 c2 : Nat) (ks : List Int) (w : World) (hl : l.length ≤ 1000000) (hk : ks.length ≤ 1000000) (h1 : At w b off l) (h2 : AtI w b2 o2 ks) :
    Calls Try.prog 26 #[.slice (some ⟨b, off, none⟩) l.length cap, .slice (some ⟨b2, o2, none⟩) ks.length c2] w fun e w' => e = .returned (.int .i64 (cnt l ks)) ∧ Below w.heap.size w w' := by
  have H1 := Lib.hid h1
  have H2 := Lib.hid h2
  clear h1 h2
  go_enter Try.func26, Try.ntmps26
  go_wp2_with fail
  go_loopw [5, 6] (fun n i wr => ∃ k c : Nat, k ≤ l.length ∧ c ≤ k ∧ i = .int .i64 k ∧ n = .int .i64 c ∧ Below w.heap.size w wr ∧ Hid (cnt (l.take k) ks = c)) (fun _ i _ => l.length - (intOf i).toNat)
  case atStart => exact ⟨0, 0, Nat.zero_le _, Nat.zero_le _, rfl, rfl, Below.refl _ _, Lib.hid rfl⟩
  case round =>
    obtain ⟨k, c, hk', hck, rfl, rfl, hb, HC⟩ := hrel
    have HB := Lib.hid hb
    clear hb
    by_cases hlt : k < l.length
    · have e1 := (H1.out k hlt).1
      have HY := Lib.hid (cnt_yes l ks k hlt)
      have HN := Lib.hid (cnt_no l ks k hlt)
      obtain ⟨x, hx⟩ : ∃ x, l[k].k = x := ⟨_, rfl⟩
      rw [hx] at e1 HY HN
      clear hx
      have E1 := Lib.hid e1
      clear e1
      go_wp2_with fail
      obtain ⟨wo, hwo⟩ : ∃ wo : World, wo = wr := ⟨_, rfl⟩
      subst hwo
      go_loopw [7, 8] (fun s j wr => ∃ i : Nat, i ≤ ks.length ∧ j = .int .i64 i ∧ s = .bool (decide (x ∈ ks.take i)) ∧ Below w.heap.size w wr) (fun _ j _ => ks.length - (intOf j).toNat)
      case atStart => exact ⟨0, Nat.zero_le _, rfl, by rw [has_start], HB.out⟩
      case round =>
        obtain ⟨i, hi, rfl, rfl, hb⟩ := hrel
        have HB2 := Lib.hid hb
        clear hb
        by_cases hlt2 : i < ks.length
        · have e2 := H2.out i hlt2
          have hht := has_take ks x i hlt2
          have d1 : wr.cell? ⟨b, off + k * 3, none⟩ = some (.int .i64 x) := by rw [HB2.out.cell (Ap.cell_lt E1.out)]; exact E1.out
          have d2 : wr.cell? ⟨b2, o2 + i, none⟩ = some (.int .i64 ks[i]) := by rw [HB2.out.cell (Ap.cell_lt e2)]; exact e2
          clear e2
          obtain ⟨y, hy⟩ : ∃ y, ks[i] = y := ⟨_, rfl⟩
          rw [hy] at d2 hht
          clear hy
          cases hd : decide (x ∈ ks.take i) with
          | true =>
            rw [hd, Bool.true_or] at hht
            have HT := Lib.hid hht
            clear hht
            go_wp2_with fail
            go_quiet (fail)
            go_wp2_with fail
            go_roundw
            case rel => exact ⟨i + 1, by omega, by go_num, by rw [HT.out], HB2.out.trans (Below.drewN _ _ _)⟩
            case measure => simp [intOf]; omega
          | false =>
            rw [hd, Bool.false_or] at hht
            have HT := Lib.hid hht
            clear hht
            go_wp2_with fail
            go_quiet (fail)
            go_wp2_with fail
            go_roundw
            case rel => exact ⟨i + 1, by omega, by go_num, by rw [HT.out], HB2.out.trans (Below.drewN _ _ _)⟩
            case measure => simp [intOf]; omega
        · have hte : ks.take i = ks := List.take_of_length_le (by omega)
          cases hd : decide (x ∈ ks.take i) with
          | true =>
            have HX : Hid (x ∈ ks) := by have := of_decide_eq_true hd; rwa [hte] at this
            clear hte
            go_wp2_with fail
            go_roundw
            case rel => exact ⟨k + 1, c + 1, by omega, by omega, by go_num, by go_num, HB2.out, Lib.hid (by rw [HY.out HX.out, HC.out])⟩
            case measure => simp [intOf]; omega
          | false =>
            have HX : Hid (¬ x ∈ ks) := by have := of_decide_eq_false hd; rwa [hte] at this
            clear hte
            go_wp2_with fail
            go_roundw
            case rel => exact ⟨k + 1, c, by omega, by omega, by go_num, rfl, HB2.out, Lib.hid (by rw [HN.out HX.out, HC.out])⟩
            case measure => simp [intOf]; omega
    · have HZ : Hid (cnt l ks = c) := by
        have := HC.out
        rwa [List.take_of_length_le (by omega)] at this
      go_wp2_with fail
      go_ret
      exact ⟨ret_int (by rw [HZ.out]), HB.out⟩
set_option maxHeartbeats 2000000 in
theorem cnt_nil (b off cap : Nat) (l : List Nd) (a2 : Option Addr) (c2 : Nat) (w : World) (hl : l.length ≤ 1000000) :
    Calls Try.prog 26 #[.slice (some ⟨b, off, none⟩) l.length cap, .slice a2 0 c2] w fun e w' => e = .returned (.int .i64 (cnt l [])) ∧ Below w.heap.size w w' := by
  have hz : cnt l [] = 0 := by simp [cnt]
  rw [hz]
  clear hz
  go_enter Try.func26, Try.ntmps26
  go_wp2_with fail
  go_loop [5, 6] (fun n i => ∃ k : Nat, k ≤ l.length ∧ i = .int .i64 k ∧ n = .int .i64 0) (fun _ i => l.length - (intOf i).toNat)
  case atStart => exact ⟨0, Nat.zero_le _, rfl, rfl⟩
  case round =>
    obtain ⟨k, hk', rfl, rfl⟩ := hrel
    by_cases hlt : k < l.length
    · go_wp2_with fail
      refine Go.wp_loop_rounds 1 ?_
      rw [rounds_succ]
      go_wp2_with fail
      go_round
      case rel => exact ⟨k + 1, by omega, by go_num, rfl⟩
      case measure => simp [intOf]; omega
    · go_wp2_with fail
      go_ret
      exact ⟨rfl, Below.refl _ _⟩
theorem cntR_any (x y : Value) (l : List Nd) (ks : List Int) (w : World) (hx : Nds w x l) (hy : Ints w y ks) (hl : l.length ≤ 1000000) (hk : ks.length ≤ 1000000) :
    Calls Try.prog 26 #[x, y] w fun e w' => e = .returned (.int .i64 (cnt l ks)) ∧ Below w.heap.size w w' := by
  rcases hx.form with ⟨rfl, a, cap, rfl⟩ | ⟨b, off, cap, rfl, _, hc⟩
  · exact cnt_empty a cap y w
  · rcases hy.form with ⟨rfl, a', cap', rfl⟩ | ⟨b', off', cap', rfl, _, hc'⟩
    · exact cnt_nil b off cap l a' cap' w hl
    · exact cnt_cells b off cap l b' off' cap' ks w hl hk hc hc'
end Go.Proofs.Ytpingbiibbmcaaa.Rw

namespace Go.Proofs.Ytpingbiibbmcaaa.St
open Go Go.RowKit Go.Proofs.Ytpingbiibbmcaaa.Rw
set_option maxRecDepth 20000

/-- A row, of which the tree that begins at a place is another one. -/
def putN (l : List Nd) (q : Nat) (x : List Nd) : List Nd := if size (l.drop q) = 0 then l else l.take q ++ x ++ l.drop (q + size (l.drop q))
def putR (l : List Nd) (at_ : Int) (x : List Nd) : List Nd := if at_ < 0 ∨ at_ ≥ l.length then l else putN l at_.toNat x
theorem drop_nds {w : World} {b o n c : Nat} {l : List Nd} (hn : l.length = n) (hat : At w b o l) (q : Nat) (hq : q ≤ n) (hc : n ≤ c) : Nds w (.slice (some ⟨b, o + q * 3, none⟩) (n - q) (c - q)) (l.drop q) := by
  subst hn
  have := part_nds hat q (l.length - q) (c - q) (by omega) (by omega)
  rwa [List.take_of_length_le (by rw [List.length_drop]; omega)] at this
theorem take_nds {w : World} {b o n c : Nat} {l : List Nd} (hn : l.length = n) (hat : At w b o l) (q : Nat) (hq : q ≤ n) (hc : n ≤ c) : Nds w (.slice (some ⟨b, o, none⟩) q c) (l.take q) := by
  subst hn
  have := part_nds hat 0 q c (by omega) (by omega)
  simpa using this
end Go.Proofs.Ytpingbiibbmcaaa.St

namespace Go.Proofs.Ytpingbiibbmcaaa.Rx
open Go Go.RowKit Rw
set_option maxRecDepth 20000

/-- Where a number stands first. -/
def idxAt (x : Int) : List Int → Nat → Int
  | [], _ => -1
  | y :: l, k => if x = y then k else idxAt x l (k + 1)
theorem idxAt_mem (x : Int) (l : List Int) (k : Nat) : decide (0 ≤ idxAt x l k) = decide (x ∈ l) := by
  induction l generalizing k with
  | nil => simp [idxAt]
  | cons y l ih =>
    unfold idxAt
    by_cases h : x = y
    · rw [if_pos h, decide_eq_true (show x ∈ y :: l by rw [h]; exact List.mem_cons_self)]
      simp
    · rw [if_neg h, ih (k + 1)]
      simp [h]
theorem idxAt_end {x : Int} {l : List Int} {k : Nat} (h : ¬ k < l.length) : idxAt x (l.drop k) k = -1 := by rw [List.drop_eq_nil_of_le (by omega)]; rfl
theorem idxAt_at {x : Int} {l : List Int} {k : Nat} (h : k < l.length) : idxAt x (l.drop k) k = if x = l[k] then (k : Int) else idxAt x (l.drop (k + 1)) (k + 1) := by
  rw [List.drop_eq_getElem_cons h, idxAt]

set_option maxHeartbeats 400000 in
theorem idx_empty (a : Option Addr) (cap : Nat) (x : Int) (w : World) :
    Calls Try.prog 77 #[.slice a 0 cap, .int .i64 x] w fun e w' => e = .returned (.int .i64 (-1)) ∧ w = w' := by
  go_enter Try.func77, Try.ntmps77
  go_wp2_with fail
  refine Go.wp_loop_rounds 1 ?_
  rw [rounds_succ]
  go_wp2_with fail
  go_ret
  exact ⟨rfl, rfl⟩
set_option maxHeartbeats 800000 in
theorem idx_cells (b off cap : Nat) (l : List Int) (x : Int) (w : World) (hat : AtI w b off l) (hl : l.length ≤ 1000000) :
    Calls Try.prog 77 #[.slice (some ⟨b, off, none⟩) l.length cap, .int .i64 x] w fun e w' => e = .returned (.int .i64 (idxAt x l 0)) ∧ Below w.heap.size w w' := by
  have HA := Lib.hid hat
  clear hat
  go_enter Try.func77, Try.ntmps77
  go_wp2_with fail
  go_loopw [8] (fun i wr => ∃ k : Nat, k ≤ l.length ∧ i = .int .i64 k ∧ Below w.heap.size w wr ∧ Hid (idxAt x l 0 = idxAt x (l.drop k) k)) (fun i _ => l.length - (intOf i).toNat)
  case atStart => exact ⟨0, Nat.zero_le _, rfl, Below.refl _ _, Lib.hid rfl⟩
  case round =>
    obtain ⟨k, hk, rfl, hb, HK⟩ := hrel
    have HB := Lib.hid hb
    clear hb
    by_cases hlt : k < l.length
    · have e1 := HA.out k hlt
      have c1 : wr.cell? ⟨b, off + k, none⟩ = some (.int .i64 l[k]) := by rw [HB.out.cell (Ap.cell_lt e1)]; exact e1
      have HX := Lib.hid (HK.out.trans (idxAt_at hlt))
      obtain ⟨y, hy⟩ : ∃ y, l[k] = y := ⟨_, rfl⟩
      rw [hy] at c1 HX
      clear hy e1
      by_cases hxy : x = y
      · rw [if_pos hxy] at HX
        subst hxy
        go_wp2_with fail
        try go_quiet (fail)
        try go_wp2_with fail
        go_ret
        exact ⟨ret_int HX.out.symm, by first | exact HB.out.trans (Below.drewN _ _ _) | exact HB.out⟩
      · rw [if_neg hxy] at HX
        have g : (x == y) = false := by rw [beq_eq_false_iff_ne]; exact hxy
        clear hxy
        go_wp2_with fail
        try go_quiet (fail)
        try go_wp2_with fail
        go_roundw
        case rel => exact ⟨k + 1, by omega, by go_num, by first | exact HB.out.trans (Below.drewN _ _ _) | exact HB.out, HX⟩
        case measure => simp [intOf]; omega
    · go_wp2_with fail
      go_ret
      exact ⟨ret_int (by rw [HK.out, idxAt_end hlt]), HB.out⟩
theorem idx_any (v : Value) (l : List Int) (x : Int) (w : World) (h : Ints w v l) (hl : l.length ≤ 1000000) :
    Calls Try.prog 77 #[v, .int .i64 x] w fun e w' => e = .returned (.int .i64 (idxAt x l 0)) ∧ Below w.heap.size w w' := by
  rcases h.form with ⟨rfl, a, cap, rfl⟩ | ⟨b, off, cap, rfl, _, hat⟩
  · refine (idx_empty a cap x w).mono ?_
    rintro e w' ⟨rfl, rfl⟩
    exact ⟨rfl, Below.refl _ _⟩
  · exact idx_cells b off cap l x w hat hl
set_option maxHeartbeats 400000 in
theorem has_any (v : Value) (l : List Int) (x : Int) (w : World) (h : Ints w v l) (hl : l.length ≤ 1000000) :
    Calls Try.prog 49 #[v, .int .i64 x] w fun e w' => e = .returned (.bool (decide (x ∈ l))) ∧ Below w.heap.size w w' := by
  have H := Lib.hid h
  have HQ := Lib.hid (idxAt_mem x l 0)
  obtain ⟨q, hq⟩ : ∃ q, idxAt x l 0 = q := ⟨_, rfl⟩
  rw [hq] at HQ
  have HC := Lib.hid hq
  clear h hq
  go_enter Try.func49, Try.ntmps49
  go_wp2_with fail
  refine (idx_any v l x _ H.out hl).mono ?_
  rw [HC.out]
  rintro e w' ⟨rfl, hb⟩
  have HB := Lib.hid hb
  clear hb
  go_wp2_with fail
  go_ret
  exact ⟨ret_bool HQ.out, HB.out⟩

end Go.Proofs.Ytpingbiibbmcaaa.Rx

namespace Go.Proofs.Ytpingbiibbmcaaa.Tr
open Go Go.RowKit
set_option maxRecDepth 20000

end Go.Proofs.Ytpingbiibbmcaaa.Tr

namespace Go.Proofs.Ytpingbiibbmcaaa.So
open Go Go.RowKit Go.Proofs.Ytpingbiibbmcaaa.Rw
set_option maxRecDepth 20000

/-- Just one tree. -/
def Tre (l : List Nd) : Prop := ∃ d, T l = some (l.length, d)
theorem Tre.pos {l : List Nd} (h : Tre l) : 0 < l.length := by
  obtain ⟨d, h⟩ := h
  exact (T_bd h).1
theorem Tre.size {l : List Nd} (h : Tre l) : Rw.size l = l.length := by
  obtain ⟨d, h⟩ := h
  unfold Rw.size
  rw [h]
theorem Tre.of_size {l : List Nd} (h : Rw.size l = l.length) (h0 : l ≠ []) : Tre l := by
  unfold Rw.size at h
  cases ht : T l with
  | none =>
    rw [ht] at h
    exact absurd (List.eq_nil_of_length_eq_zero h.symm) h0
  | some x =>
    rw [ht] at h
    obtain ⟨c, d⟩ := x
    simp only at h
    exact ⟨d, by rw [ht, h]⟩
theorem Tre.of_head {l : List Nd} {c d : Nat} (h : T l = some (c, d)) : Tre (l.take c) := by
  have hh := T_head h
  have hb := T_bd h
  exact ⟨d, by rw [hh, List.length_take, Nat.min_eq_left hb.2.1]⟩
theorem kidsN_tre : ∀ (j : Nat) (r : List Nd) (c d : Nat), S j r = some (c, d) → ∀ t ∈ kidsN j r, Tre t
  | 0, _, _, _, _, t, ht => by cases ht
  | j + 1, r, c, d, h, t, ht => by
    rw [S_succ] at h
    cases hj : S j r with
    | none => rw [hj] at h; cases h
    | some x =>
      obtain ⟨c1, d1⟩ := x
      rw [hj] at h
      simp only at h
      cases hx : T (r.drop c1) with
      | none => rw [hx] at h; cases h
      | some y =>
        obtain ⟨c2, d2⟩ := y
        rw [kidsN, hj, List.mem_append, List.mem_singleton] at ht
        rcases ht with ht | ht
        · exact kidsN_tre j r c1 d1 hj t ht
        · rw [ht]
          simp only [Option.getD_some]
          have hs : Rw.size (r.drop c1) = c2 := by unfold Rw.size; rw [hx]
          rw [hs]
          exact Tre.of_head hx
theorem Tre.ar {l : List Nd} (h : Tre l) : 0 ≤ Rw.ar (hd l) := by
  obtain ⟨d, h⟩ := h
  cases l with
  | nil => rw [T_nil] at h; cases h
  | cons n r =>
    rw [T_cons] at h
    split at h
    · cases h
    · rename_i hk
      show 0 ≤ Rw.ar n.k
      omega
theorem Tre.kids {l : List Nd} (h : Tre l) : (Rw.kids l).length = (Rw.ar (hd l)).toNat ∧ ∀ t ∈ Rw.kids l, Tre t := by
  have hs : Rw.size l ≠ 0 := by rw [h.size]; have := h.pos; omega
  have ha := h.ar
  obtain ⟨d, h⟩ := h
  cases l with
  | nil => rw [T_nil] at h; cases h
  | cons n r =>
    unfold Rw.kids
    rw [if_neg hs]
    refine ⟨kidsN_len _ _, ?_⟩
    rw [T_cons] at h
    split at h
    · cases h
    · cases hj : S (Rw.ar n.k).toNat r with
      | none => rw [hj] at h; cases h
      | some x => exact kidsN_tre _ r x.1 x.2 hj
theorem Tre.two {l : List Nd} (h : Tre l) (h2 : Rw.ar (hd l) = 2) : ∃ a b, Rw.kids l = [a, b] ∧ Tre a ∧ Tre b ∧ a.length < l.length ∧ b.length < l.length := by
  obtain ⟨hl, ht⟩ := h.kids
  rw [h2] at hl
  match hk : Rw.kids l, hl with
  | [a, b], _ =>
    have ha : a ∈ Rw.kids l := by rw [hk]; simp
    have hb : b ∈ Rw.kids l := by rw [hk]; simp
    exact ⟨a, b, rfl, ht a ha, ht b hb, kids_short ha, kids_short hb⟩
theorem Tre.one {l : List Nd} (h : Tre l) (h1 : Rw.ar (hd l) = 1) : ∃ a, Rw.kids l = [a] ∧ Tre a ∧ a.length < l.length := by
  obtain ⟨hl, ht⟩ := h.kids
  rw [h1] at hl
  match hk : Rw.kids l, hl with
  | [a], _ =>
    have ha : a ∈ Rw.kids l := by rw [hk]; simp
    exact ⟨a, rfl, ht a ha, kids_short ha⟩
/-- The first node's kind, in memory. -/
theorem head_cell {w : World} {v : Value} {l : List Nd} (hv : Nds w v l) (h : Tre l) : ∃ b o c, v = .slice (some ⟨b, o, none⟩) l.length c ∧ w.cell? ⟨b, o, none⟩ = some (.int .i64 (hd l)) := by
  rcases hv.form with ⟨rfl, _⟩ | ⟨b, o, c, rfl, _, hat⟩
  · exact absurd h.pos (Nat.lt_irrefl 0)
  · refine ⟨b, o, c, rfl, ?_⟩
    have := (hat 0 h.pos).1
    rw [Nat.zero_mul, Nat.add_zero] at this
    rw [this]
    cases l with
    | nil => exact absurd h.pos (Nat.lt_irrefl 0)
    | cons n r => rfl
theorem two_rows {w : World} {y : Value} {r s : List Nd} (h : Rws w y [r, s]) :
    ∃ b o c a0 a1, y = .slice (some ⟨b, o, none⟩) 2 c ∧ w.cell? ⟨b, o, none⟩ = some a0 ∧ w.cell? ⟨b, o + 1, none⟩ = some a1 ∧ Nds w a0 r ∧ Nds w a1 s := by
  obtain ⟨cs, ⟨_, a, c, rfl, _, _, hcell⟩, hr⟩ := h
  obtain ⟨b, o, rfl, hj⟩ := hcell (by simp)
  match cs, hr with
  | [a0, a1], hr => exact ⟨b, o, c, a0, a1, rfl, hj 0 _ rfl, hj 1 _ rfl, hr.1, hr.2.1⟩
theorem one_row {w : World} {y : Value} {r : List Nd} (h : Rws w y [r]) :
    ∃ b o c a0, y = .slice (some ⟨b, o, none⟩) 1 c ∧ w.cell? ⟨b, o, none⟩ = some a0 ∧ Nds w a0 r := by
  obtain ⟨cs, ⟨_, a, c, rfl, _, _, hcell⟩, hr⟩ := h
  obtain ⟨b, o, rfl, hj⟩ := hcell (by simp)
  match cs, hr with
  | [a0], hr => exact ⟨b, o, c, a0, rfl, hj 0 _ rfl, hr.1⟩
theorem kinds {k : Int} (h : 0 ≤ Rw.ar k) : k = 1 ∨ k = 2 ∨ k = 3 ∨ k = 4 ∨ k = 5 ∨ k = 6 ∨ k = 7 ∨ k = 8 ∨ k = 9 ∨ k = 10 ∨ k = 11 ∨ k = 12 ∨ k = 13 ∨ k = 14 := by
  rcases cases15 k with h1 | h1 | h1 | h1 | h1 | h1 | h1 | h1 | h1 | h1 | h1 | h1 | h1 | h1 | h1
  case inr.inr.inr.inr.inr.inr.inr.inr.inr.inr.inr.inr.inr.inr => rw [ar_no h1] at h; exact absurd h (by decide)
  all_goals omega
/-- What the walk of Is is asked of shorter trees. -/
def IsC (n : Nat) : Prop := ∀ (r : List Nd) (s : Nat) (w : World) (v : Value), r.length < n → Tre r → Nds w v r → 1 ≤ s → s ≤ 4 → Calls Try.prog 42 #[v, .int .i64 s] w fun e w' => e = .returned (.bool (Is s r)) ∧ Below w.heap.size w w'
end Go.Proofs.Ytpingbiibbmcaaa.So

namespace Go.Proofs.Ytpingbiibbmcaaa.Rx
open Go Go.RowKit Rw
set_option maxRecDepth 20000

set_option maxHeartbeats 2000000 in
theorem measure_cells (b off cap : Nat) (l : List Nd) (w : World) (hat : At w b off l) (hl : l.length ≤ 4398046511104) :
    Calls Try.prog 85 #[.slice (some ⟨b, off, none⟩) l.length cap] w fun e w' => e = .returned (.tuple #[.int .i64 (size l), .int .i64 (depth l)]) ∧ Below w.heap.size w w' := by
  have HA := Lib.hid hat
  clear hat
  obtain ⟨i0, hi0, hz0, hs0, hb0⟩ := info_parts infoI
  go_enter Try.func85, Try.ntmps85
  go_wp2_with fail
  go_step3
  go_wp2_with (at_make; refine wpList_make_own _ rfl _ _ 46 rfl w.heap.size 3 i0 _ 1 Try.underlying46 hi0 hz0 hs0 .i64 .i64 _ 16 rfl rfl rfl (by rw [hb0]; omega) (by unfold maxLen; omega) (Nat.le_refl _) ?_; intro w0 hown0 hgrow0)
  go_step3
  go_wp2_with fail
  go_loopg [3, 4, 12] l.length (fun g0 dv ov iv wr => ∃ (k d g c : Nat) (st : List Nat), k + g0 = l.length ∧ d ≤ k ∧ st.length ≤ k ∧ dv = .int .i64 d ∧ ov = .slice (some ⟨g, 0, none⟩) st.length c ∧ iv = .int .i64 k ∧ Hid (Stk w.heap.size wr g c st) ∧ Hid (Below w.heap.size w wr) ∧ Hid (Rest l k st d) ∧ Hid (∀ y ∈ st, y ≤ 2))
  case atStart =>
    exact ⟨0, 0, w.heap.size, 16, [], Nat.zero_add _, Nat.le_refl _, Nat.le_refl _, rfl, rfl, rfl, Lib.hid hown0, Lib.hid ((Below.refl _ _).grown hgrow0 (Nat.le_refl _) (fun k hk => by cases hk)), Lib.hid (Rest.start l), Lib.hid (fun y hy => by cases hy)⟩
  case round =>
    obtain ⟨k, d, g, c, st, hk, hd, hst, rfl, rfl, rfl, HS, HB, HR, HY⟩ := hrel
    by_cases hlt : k < l.length
    · obtain ⟨e1, e2, e3⟩ := HA.out k hlt
      have c1 : wr.cell? ⟨b, off + k * 3, none⟩ = some (.int .i64 l[k].k) := by rw [HB.out.cell (Ap.cell_lt e1)]; exact e1
      have c2 : wr.cell? ⟨b, off + k * 3 + 1, none⟩ = some (.string l[k].n) := by rw [HB.out.cell (Ap.cell_lt e2)]; exact e2
      have c3 : wr.cell? ⟨b, off + k * 3 + 2, none⟩ = some (.int .i64 l[k].s) := by rw [HB.out.cell (Ap.cell_lt e3)]; exact e3
      have H1 := Lib.hid (fun ha => HR.out.stop hlt ha)
      have H2 := Lib.hid (fun a ha hp => HR.out.end (a := a) hlt ha hp)
      have H3 := Lib.hid (fun a s ha hp => HR.out.more (a := a) (s := s) hlt ha hp)
      obtain ⟨x, hx⟩ : ∃ x, l[k] = x := ⟨_, rfl⟩
      rw [hx] at c1 c2 c3 H1 H2 H3
      clear hx e1 e2 e3
      obtain ⟨a, ha⟩ : ∃ a, ar x.k = a := ⟨_, rfl⟩
      rw [ha] at H1 H2 H3
      have HAR := Lib.hid ha
      have HBD : Hid (a ≤ 2) := by have := ar_le x.k; rw [ha] at this; exact this.2
      clear ha
      by_cases h0 : a < 0
      · have HZ := Lib.hid (H1.out h0)
        have d1 : decide (a < 0) = true := decide_eq_true h0
        go_wp2_with fail
        refine (arP_eq x.k _).mono ?_
        rw [HAR.out]
        rintro e w' ⟨rfl, rfl⟩
        go_wp2_with fail
        rw [Exit.noGoto_ret]
        go_ret2
        rw [HZ.out.1, HZ.out.2]
        exact ⟨rfl, HB.out.alloc HB.out.size _⟩
      · obtain ⟨a, rfl⟩ : ∃ a' : Nat, a = (a' : Int) := ⟨a.toNat, by omega⟩
        have d1 : decide ((a : Int) < 0) = false := decide_eq_false h0
        have HB1 : Hid (Below w.heap.size w (wr.alloc (nb x))) := HB.out.alloc HB.out.size _
        have hS1 : Stk w.heap.size (wr.alloc (nb x)) g c st := Ap.own_below HS.out (below1 wr (nb x))
        obtain ⟨g', c', w2, hrun, hS2, hB2⟩ := hS1.push a HB1.out.size (by omega)
        rw [show (wr.alloc (nb x)).heap.size = wr.heap.size + 1 by simp] at hrun
        have R := Lib.hid hrun
        have HYA : Hid (∀ y ∈ st ++ [a], y ≤ 2) := Lib.hid fun y hy => by
          rcases List.mem_append.1 hy with h | h
          · exact HY.out y h
          · rw [List.mem_singleton] at h; have := HBD.out; omega
        have HL : Hid ((st ++ [a]).length = st.length + 1) := by show _ = _; simp
        have HS2 := Lib.hid hS2
        have HB2 := Lib.hid (HB1.out.trans hB2)
        have HG : Hid (w.heap.size ≤ g') := by obtain ⟨_, _, hb', _⟩ := hS2.parts; exact hb'
        obtain ⟨n, hn⟩ : ∃ n, st.length = n := ⟨_, rfl⟩
        rw [hn] at R H2 H3 hst HL
        clear hrun hS2 hB2 hS1
        go_wp2_with fail
        refine (arP_eq x.k _).mono ?_
        rw [HAR.out]
        rintro e w' ⟨rfl, rfl⟩
        go_wp2_with (at_builtin; refine Ap.wpList_append_run (by rfl) (.tmp 22) (.tmp 24) _ _ rfl _ _ rfl rfl _ w2 R.out ?_)
        all_goals
          go_loopg [4, 8] (n + 1) (fun g2 sv lv wy => w2 = wy ∧ sv = .slice (some ⟨g', 0, none⟩) (n + 1) c' ∧ g2 ≤ n + 1 ∧ Hid (pop (st ++ [a]).reverse = pop ((st ++ [a]).take g2).reverse) ∧ ((g2 = 0 ∧ lv = .int .i64 (-1)) ∨ ∃ i : Nat, g2 = i + 1 ∧ lv = .int .i64 i))
          case atStart => exact ⟨rfl, rfl, Nat.le_refl _, Lib.hid (by rw [List.take_of_length_le (by rw [HL.out]; exact Nat.le_refl _)]), Or.inr ⟨n, rfl, rfl⟩⟩
          case round =>
            obtain ⟨rfl, rfl, hg2, HP, ⟨rfl, rfl⟩ | ⟨i, rfl, rfl⟩⟩ := hrel
            · have HE := Lib.hid (H2.out a rfl HP.out)
              go_wp2_with fail
              rw [Exit.noGoto_ret]
              go_ret2
              rw [HE.out.1, HE.out.2]
              refine ⟨?_, HB2.out⟩
              first
                | (rw [Nat.max_eq_left (by omega)]; rfl)
                | (rw [Nat.max_eq_right (by omega)]; rfl)
            · have hi : i < (st ++ [a]).length := by rw [HL.out]; omega
              have ci := HS2.out.cell i hi
              have HPI := Lib.hid (HP.out.trans (congrArg pop (pop_last hi)))
              obtain ⟨y, hy⟩ : ∃ y, (st ++ [a])[i] = y := ⟨_, rfl⟩
              rw [hy] at ci HPI
              have HY2 : Hid (y ≤ 2) := HYA.out y (by rw [← hy]; exact List.getElem_mem hi)
              clear hy
              cases y with
              | zero =>
                go_wp2_with fail
                go_roundg i
                case measure => omega
                case rel =>
                  refine ⟨rfl, rfl, by omega, HPI, ?_⟩
                  cases i with
                  | zero => exact Or.inl ⟨rfl, rfl⟩
                  | succ j => exact Or.inr ⟨j, rfl, by go_num⟩
              | succ z =>
                have hwz : wrap64 ((z : Nat) : Int) = (z : Int) := by have := HY2.out; unfold wrap64; omega
                have HYZ : Hid (∀ y ∈ (st ++ [a]).take i ++ [z], y ≤ 2) := Lib.hid fun y hy => by
                  rcases List.mem_append.1 hy with h | h
                  · exact HYA.out y (List.mem_of_mem_take h)
                  · rw [List.mem_singleton] at h; have := HY2.out; omega
                have hic : i + 1 ≤ c' := by have := HS2.out.cap.1; omega
                have HZ := Lib.hid (HS2.out.down i z hi)
                have HN : Hid (Rest l (k + 1) ((st ++ [a]).take i ++ [z]) (max d (n + 1))) := H3.out a _ rfl (HPI.out.trans (by rw [List.reverse_concat]; rfl))
                have HLZ : Hid (((st ++ [a]).take i ++ [z]).length = i + 1) := by
                  show _ = _
                  rw [List.length_append, List.length_take]
                  simp only [List.length_cons, List.length_nil]
                  omega
                have fi := HS2.out.soft i
                go_wp2_with fail
                go_roundg (gk - 1)
                case measure => omega
                case rel =>
                  refine ⟨k + 1, max d (n + 1), g', c', (st ++ [a]).take i ++ [z], by omega, by omega, by rw [HLZ.out]; omega, ?_, by rw [HLZ.out], rfl, HZ, Lib.hid (below_setCell HB2.out _ _ _ HG.out), HN, HYZ⟩
                  first
                    | (rw [Nat.max_eq_left (by omega)]; done)
                    | (rw [Nat.max_eq_right (by omega)]; rfl)
    · have HZ := Lib.hid (HR.out.out hlt)
      go_wp2_with fail
      rw [Exit.noGoto_ret]
      go_ret2
      rw [HZ.out.1, HZ.out.2]
      exact ⟨rfl, HB.out⟩
set_option maxHeartbeats 1000000 in
theorem measure_empty (a : Option Addr) (cap : Nat) (w : World) :
    Calls Try.prog 85 #[.slice a 0 cap] w fun e w' => e = .returned (.tuple #[.int .i64 0, .int .i64 0]) ∧ Below w.heap.size w w' := by
  obtain ⟨i0, hi0, hz0, hs0, hb0⟩ := info_parts infoI
  go_enter Try.func85, Try.ntmps85
  go_wp2_with fail
  go_step3
  go_wp2_with (at_make; refine wpList_make_own _ rfl _ _ 46 rfl w.heap.size 3 i0 _ 1 Try.underlying46 hi0 hz0 hs0 .i64 .i64 _ 16 rfl rfl rfl (by rw [hb0]; omega) (by unfold maxLen; omega) (Nat.le_refl _) ?_; intro w0 hown0 hgrow0)
  go_step3
  go_wp2_with fail
  refine Go.wp_loop_rounds 1 ?_
  rw [rounds_succ]
  go_wp2_with fail
  rw [Exit.noGoto_ret]
  go_ret2
  exact ⟨rfl, (Below.refl _ _).grown hgrow0 (Nat.le_refl _) (fun k hk => by cases hk)⟩
theorem measure_big (v : Value) (l : List Nd) (w : World) (h : Nds w v l) (hl : l.length ≤ 4398046511104) :
    Calls Try.prog 85 #[v] w fun e w' => e = .returned (.tuple #[.int .i64 (size l), .int .i64 (depth l)]) ∧ Below w.heap.size w w' := by
  rcases h.form with ⟨rfl, a, cap, rfl⟩ | ⟨b, off, cap, rfl, _, hat⟩
  · exact measure_empty a cap w
  · exact measure_cells b off cap l w hat hl
set_option maxHeartbeats 400000 in
theorem sizeP_big (v : Value) (l : List Nd) (w : World) (h : Nds w v l) (hl : l.length ≤ 4398046511104) :
    Calls Try.prog 57 #[v] w fun e w' => e = .returned (.int .i64 (size l)) ∧ Below w.heap.size w w' := by
  have H := Lib.hid h
  clear h
  go_enter Try.func57, Try.ntmps57
  go_wp2_with fail
  refine (measure_big v l _ H.out hl).mono ?_
  rintro e w' ⟨rfl, hb⟩
  have HB := Lib.hid hb
  clear hb
  go_wp2_with fail
  go_ret
  exact ⟨rfl, HB.out⟩
theorem sizeP_any (v : Value) (l : List Nd) (w : World) (h : Nds w v l) (hl : l.length ≤ 1000000) :
    Calls Try.prog 57 #[v] w fun e w' => e = .returned (.int .i64 (size l)) ∧ Below w.heap.size w w' := sizeP_big v l w h (by omega)
end Go.Proofs.Ytpingbiibbmcaaa.Rx
