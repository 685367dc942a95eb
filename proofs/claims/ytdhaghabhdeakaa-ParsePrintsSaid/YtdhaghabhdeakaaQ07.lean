/- The document's Same over rows of nodes. What Lex makes is its own. The program's Make. The program's Size and Depth: measure. The program's names: isName. Rows of a call's own: what Kids makes. The document's Name, leaf, kind, rank. -/
import Derived.Test.YtdhaghabhdeakaaQ06
import Derived.Deep.QuietTactic
import Derived.BigQuiet
import Derived.Test.YtdhaghabhdeakaaQ05
import Derived.Test.YtdhaghabhdeakaaQ04
import Derived.Test.YtdhaghabhdeakaaQ03
import Derived.Laws.MakeOwn
import Derived.OwnWalk
import Derived.WalkMore
import Derived.Deep.LoopGhost
import Derived.Laws.RangeAny

namespace Go.Proofs.Ytdhaghabhdeakaa.Rw
open Go Go.RowKit
set_option maxRecDepth 20000

/-- Are two rows the same? -/
def sameN (l m : List Nd) : Bool := decide (l = m)
theorem sameN_len {l m : List Nd} (h : l.length ≠ m.length) : sameN l m = false := decide_eq_false fun e => h (by rw [e])
theorem sameN_at {l m : List Nd} {k : Nat} (h1 : k < l.length) (h2 : k < m.length) : sameN (l.drop k) (m.drop k) = (decide (l[k] = m[k]) && sameN (l.drop (k + 1)) (m.drop (k + 1))) := by
  unfold sameN
  rw [List.drop_eq_getElem_cons h1, List.drop_eq_getElem_cons h2, Bool.eq_iff_iff]
  simp only [decide_eq_true_eq, Bool.and_eq_true, List.cons.injEq]
set_option maxHeartbeats 400000 in
theorem sameN_other (a1 a2 : Option Addr) (c1 c2 n m : Nat) (w : World) (h : n ≠ m) :
    Calls Try.prog 13 #[.slice a1 n c1, .slice a2 m c2] w fun e w' => e = .returned (.bool false) ∧ Below w.heap.size w w' := by
  have hne : ((n : Int) == (m : Int)) = false := by rw [beq_eq_false_iff_ne]; omega
  have hne' : ((n : Int) != (m : Int)) = true := by rw [bne_iff_ne]; omega
  go_enter Try.func13, Try.ntmps13
  go_wp2_with fail
  go_ret
  exact ⟨rfl, Below.refl _ _⟩
set_option maxHeartbeats 400000 in
theorem sameN_empty (a1 a2 : Option Addr) (c1 c2 : Nat) (w : World) :
    Calls Try.prog 13 #[.slice a1 0 c1, .slice a2 0 c2] w fun e w' => e = .returned (.bool true) ∧ Below w.heap.size w w' := by
  go_enter Try.func13, Try.ntmps13
  go_wp2_with fail
  refine Go.wp_loop_rounds 1 ?_
  rw [rounds_succ]
  go_wp2_with fail
  go_ret
  exact ⟨rfl, Below.refl _ _⟩
set_option maxHeartbeats 2000000 in
theorem sameN_cells (b1 o1 c1 b2 o2 c2 : Nat) (l m : List Nd) (w : World) (hl : l.length ≤ 1000000) (he : m.length = l.length) (h1 : At w b1 o1 l) (h2 : At w b2 o2 m) :
    Calls Try.prog 13 #[.slice (some ⟨b1, o1, none⟩) l.length c1, .slice (some ⟨b2, o2, none⟩) l.length c2] w fun e w' => e = .returned (.bool (sameN l m)) ∧ Below w.heap.size w w' := by
  have H1 := Lib.hid h1
  have H2 := Lib.hid h2
  have HE := Lib.hid he
  clear h1 h2 he
  go_enter Try.func13, Try.ntmps13
  go_wp2_with fail
  go_loopw [5] (fun i wr => ∃ k : Nat, k ≤ l.length ∧ i = .int .i64 k ∧ Below w.heap.size w wr ∧ sameN l m = sameN (l.drop k) (m.drop k)) (fun i _ => l.length - (intOf i).toNat)
  case atStart => exact ⟨0, Nat.zero_le _, rfl, Below.refl _ _, rfl⟩
  case round =>
    obtain ⟨k, hk, rfl, hb, hsame⟩ := hrel
    have HB := Lib.hid hb
    have HS := Lib.hid hsame
    clear hb hsame
    by_cases hlt : k < l.length
    · have hlt2 : k < m.length := by rw [HE.out]; exact hlt
      obtain ⟨e1, e2, e3⟩ := H1.out k hlt
      obtain ⟨e1', e2', e3'⟩ := H2.out k hlt2
      have d1 : wr.cell? ⟨b1, o1 + k * 3, none⟩ = some (.int .i64 l[k].k) := by rw [HB.out.cell (Ap.cell_lt e1)]; exact e1
      have d2 : wr.cell? ⟨b1, o1 + k * 3 + 1, none⟩ = some (.string l[k].n) := by rw [HB.out.cell (Ap.cell_lt e2)]; exact e2
      have d3 : wr.cell? ⟨b1, o1 + k * 3 + 2, none⟩ = some (.int .i64 l[k].s) := by rw [HB.out.cell (Ap.cell_lt e3)]; exact e3
      have d4 : wr.cell? ⟨b2, o2 + k * 3, none⟩ = some (.int .i64 m[k].k) := by rw [HB.out.cell (Ap.cell_lt e1')]; exact e1'
      have d5 : wr.cell? ⟨b2, o2 + k * 3 + 1, none⟩ = some (.string m[k].n) := by rw [HB.out.cell (Ap.cell_lt e2')]; exact e2'
      have d6 : wr.cell? ⟨b2, o2 + k * 3 + 2, none⟩ = some (.int .i64 m[k].s) := by rw [HB.out.cell (Ap.cell_lt e3')]; exact e3'
      have HA := Lib.hid (HS.out.trans (sameN_at hlt hlt2))
      clear e1 e2 e3 e1' e2' e3'
      obtain ⟨u, hu⟩ : ∃ u, l[k] = u := ⟨_, rfl⟩
      obtain ⟨v, hv⟩ : ∃ v, m[k] = v := ⟨_, rfl⟩
      rw [hu] at d1 d2 d3 HA
      rw [hv] at d4 d5 d6 HA
      clear hu hv
      have hq := neq_nd u v
      by_cases huv : u = v
      · rw [decide_eq_true huv] at hq
        have HV := Lib.hid huv
        clear huv
        go_wp2_with fail
        go_quiet (fail)
        go_wp2_with fail
        go_roundw
        case rel => exact ⟨k + 1, by omega, by go_num, HB.out.trans (Below.drewN _ _ _), by rw [HA.out, decide_eq_true HV.out, Bool.true_and]⟩
        case measure => simp [intOf]; omega
      · rw [decide_eq_false huv] at hq
        have HV := Lib.hid huv
        clear huv
        go_wp2_with fail
        go_quiet (fail)
        go_wp2_with fail
        go_ret
        exact ⟨ret_bool (by rw [HA.out, decide_eq_false HV.out, Bool.false_and]), HB.out.trans (Below.drewN _ _ _)⟩
    · go_wp2_with fail
      go_ret
      refine ⟨ret_bool ?_, HB.out⟩
      rw [HS.out, List.drop_eq_nil_of_le (by omega), List.drop_eq_nil_of_le (by rw [HE.out]; omega)]
      rfl
theorem sameR_any (x y : Value) (l m : List Nd) (w : World) (hx : Nds w x l) (hy : Nds w y m) (hl : l.length ≤ 1000000) :
    Calls Try.prog 13 #[x, y] w fun e w' => e = .returned (.bool (sameN l m)) ∧ Below w.heap.size w w' := by
  by_cases he : l.length = m.length
  · rcases hx.form with ⟨rfl, a, cap, rfl⟩ | ⟨b, off, cap, rfl, _, hc⟩
    · obtain rfl : m = [] := List.eq_nil_of_length_eq_zero he.symm
      obtain ⟨_, a', cap', rfl, _⟩ := hy
      exact sameN_empty a a' cap cap' w
    · rcases hy.form with ⟨rfl, a', cap', rfl⟩ | ⟨b', off', cap', rfl, _, hc'⟩
      · obtain rfl : l = [] := List.eq_nil_of_length_eq_zero he
        exact sameN_empty _ a' cap cap' w
      · rw [← he]
        exact sameN_cells b off cap b' off' cap' l m w hl he.symm hc hc'
  · rw [sameN_len he]
    obtain ⟨_, a, cap, rfl, _⟩ := hx
    obtain ⟨_, a', cap', rfl, _⟩ := hy
    exact sameN_other a a' cap cap' l.length m.length w he

end Go.Proofs.Ytdhaghabhdeakaa.Rw

namespace Go.Proofs.Ytdhaghabhdeakaa.To
open Go Go.RowKit
set_option maxRecDepth 20000

/-- The same, in memory of the call's own. -/
def LexNew (r : Res) (n : Nat) (w : World) (e : Ending) (w' : World) : Prop := ∃ y, e = .returned (.tuple #[y, .int .i64 (r.place n : Nat), .int .i64 r.err]) ∧ Ap.RdO (fun g => w.heap.size ≤ g) w' 3 y r.toks.length (cls r.toks) ∧ Below w.heap.size w w'
/-- The same, in a row that the call owns. -/
def LexOwn (r : Res) (n : Nat) (w : World) (e : Ending) (w' : World) : Prop := ∃ y, e = .returned (.tuple #[y, .int .i64 (r.place n : Nat), .int .i64 r.err]) ∧ w'.ownsRow w.heap.size 64 3 y r.toks.length (cls r.toks) ∧ Below w.heap.size w w'
theorem LexOwn.new {r : Res} {n : Nat} {w w' : World} {e : Ending} (h : LexOwn r n w e w') : LexNew r n w e w' := by
  obtain ⟨y, he, ht, hb⟩ := h
  exact ⟨y, he, Ap.RdO.fresh ht, hb⟩
theorem LexNew.post {r : Res} {n : Nat} {w w' : World} {e : Ending} (h : LexNew r n w e w') : LexPost r n w e w' := by
  obtain ⟨y, he, ht, hb⟩ := h
  exact ⟨y, he, ht.rd, hb⟩
/-- A read of a text that gives these tokens. -/
theorem LexPost.ok {l : List Tk} {n : Nat} {w w' : World} {e : Ending} (h : LexPost (.ok l) n w e w') (hl : l ≠ []) : ∃ b off cap, e = .returned (.tuple #[.slice (some ⟨b, off, none⟩) l.length cap, .int .i64 (n : Int), .int .i64 0]) ∧ l.length ≤ cap ∧ At w' b off l ∧ Below w.heap.size w w' := by
  obtain ⟨y, rfl, ht, hb⟩ := h
  rcases ht.form with ⟨rfl, _⟩ | ⟨b, off, cap, rfl, hc, hat⟩
  · exact absurd rfl hl
  · exact ⟨b, off, cap, rfl, hc, hat, hb⟩
theorem At.below {w w' : World} {b off : Nat} {l : List Tk} (h : At w b off l) (hb : Below w.heap.size w w') : At w' b off l := fun k hk => by
  obtain ⟨e1, e2, e3⟩ := h k hk
  exact ⟨by rw [hb.cell (Ap.cell_lt e1)]; exact e1, by rw [hb.cell (Ap.cell_lt e2)]; exact e2, by rw [hb.cell (Ap.cell_lt e3)]; exact e3⟩
end Go.Proofs.Ytdhaghabhdeakaa.To

namespace Go.Proofs.Ytdhaghabhdeakaa.Rx
open Go Go.RowKit Rw
set_option maxRecDepth 20000

theorem rwC_at {w : World} : ∀ {cs : List Value} {ls : List (List Nd)}, RwC w cs ls → ∀ i (h : i < ls.length), ∃ a, cs[i]? = some a ∧ Nds w a ls[i]
  | [], [], _, i, h => by simp at h
  | a :: _, _ :: _, hr, 0, _ => ⟨a, rfl, hr.1⟩
  | _ :: cs, _ :: ls, hr, i + 1, h => by
    obtain ⟨a, h1, h2⟩ := rwC_at hr.2 i (by simpa using h)
    exact ⟨a, by simpa using h1, by simpa using h2⟩
  | [], _ :: _, h, _, _ => h.elim
  | _ :: _, [], h, _, _ => h.elim
/-- The rows' cells. -/
def AtRs (w : World) (b off : Nat) (ls : List (List Nd)) : Prop := ∀ i, (h : i < ls.length) → ∃ a, w.cell? ⟨b, off + i, none⟩ = some a ∧ Nds w a ls[i]
theorem rws_form {w : World} {v : Value} {ls : List (List Nd)} (h : Rws w v ls) :
    (ls = [] ∧ ∃ a cap, v = .slice a 0 cap) ∨ ∃ b off cap, v = .slice (some ⟨b, off, none⟩) ls.length cap ∧ AtRs w b off ls := by
  obtain ⟨cs, ⟨_, a, cap, rfl, hle, _, hcell⟩, hr⟩ := h
  by_cases h0 : 0 < ls.length
  · obtain ⟨b, off, rfl, hj⟩ := hcell h0
    refine Or.inr ⟨b, off, cap, rfl, fun i hi => ?_⟩
    obtain ⟨a, h1, h2⟩ := rwC_at hr i hi
    exact ⟨a, hj i a h1, h2⟩
  · have : ls = [] := List.eq_nil_of_length_eq_zero (by omega)
    subst this
    exact Or.inl ⟨rfl, a, cap, rfl⟩
theorem heap_new (w : World) (o : Obj) : (w.alloc o).heap[w.heap.size]? = some o := by
  show (w.heap.push o)[w.heap.size]? = some o
  simp
/-- What the loop has made. -/
def Mk (w wr : World) (x : Nd) (ls : List (List Nd)) (k : Nat) (v : Value) : Prop := wr.ownsRow w.heap.size 37 3 v (x :: (ls.take k).flatten).length (cls (x :: (ls.take k).flatten)) ∧ Below w.heap.size w wr
theorem Mk.start (w : World) (x : Nd) (ls : List (List Nd)) : Mk w ((w.alloc (nb x)).alloc (nb x)) x ls 0 (.slice (some ⟨w.heap.size + 1, 0, none⟩) 1 1) := by
  refine ⟨⟨by simp [cls, cl], .inr ⟨w.heap.size + 1, 1, #[.int .i64 x.k, .string x.n, .int .i64 x.s], rfl, by omega, ?_, by simp, by decide, rfl, by simp [cls, cl]⟩⟩, ?_⟩
  · have h := heap_new (w.alloc (nb x)) (nb x)
    rw [show (w.alloc (nb x)).heap.size = w.heap.size + 1 by simp] at h
    exact h
  · exact (below1 w _).alloc (below1 w _).size _
theorem take_flat {ls : List (List Nd)} {k : Nat} (h : k < ls.length) : (ls.take (k + 1)).flatten = (ls.take k).flatten ++ ls[k] := by
  rw [List.take_succ_eq_append_getElem h, List.flatten_append]
  simp only [List.flatten_cons, List.flatten_nil, List.append_nil]
theorem flat_le : ∀ (ls : List (List Nd)) (k : Nat), (ls.take k).flatten.length ≤ ls.flatten.length
  | [], k => by simp
  | _ :: _, 0 => by simp
  | l :: ls, k + 1 => by have := flat_le ls k; simp [List.take_succ_cons]; simp at this; omega
theorem Mk.next {w wr : World} {x : Nd} {ls : List (List Nd)} {k : Nat} {v a : Value} (h : Mk w wr x ls k v) (hk : k < ls.length) (ha : Nds wr a ls[k]) (hf : ls.flatten.length ≤ 1000000) :
    ∃ v' w', (Builtin.append_ #[23, 23] 23 #[v, a]).run Try.prog wr = .ok v' w' ∧ Mk w w' x ls (k + 1) v' := by
  have h1 := flat_le ls (k + 1)
  rw [take_flat hk, List.length_append] at h1
  obtain ⟨v', w', hrun, hown, _, hb, _⟩ := run_append_nds h.1 h.2.size ha (by rw [List.length_cons]; omega)
  refine ⟨v', w', hrun, ?_, h.2.trans hb⟩
  rw [take_flat hk, ← List.cons_append]
  exact hown
theorem own_slice {w : World} {base size n : Nat} {e : TypeId} {v : Value} {xs : List Value} (h : w.ownsRow base e size v n xs) : ∃ a c, v = .slice a n c := by
  obtain ⟨_, ⟨rfl, rfl⟩ | ⟨g, cap, cur, rfl, _⟩⟩ := h
  · exact ⟨none, 0, rfl⟩
  · exact ⟨_, _, rfl⟩

set_option maxHeartbeats 800000 in
theorem make_cells (x : Nd) (b off cap : Nat) (ls : List (List Nd)) (w : World) (hat : AtRs w b off ls) (hl : ls.length ≤ 1000) (hf : ls.flatten.length ≤ 1000000) :
    Calls Try.prog 33 #[.agg #[.int .i64 x.k, .string x.n, .int .i64 x.s], .slice (some ⟨b, off, none⟩) ls.length cap] w fun e w' => ∃ y, e = .returned y ∧ Ap.RdO (fun g => w.heap.size ≤ g) w' 3 y (x :: ls.flatten).length (cls (x :: ls.flatten)) ∧ Below w.heap.size w w' := by
  have HA := Lib.hid hat
  have HF := Lib.hid hf
  have HS := Lib.hid (Mk.start w x ls)
  clear hat hf
  go_enter Try.func33, Try.ntmps33
  go_wp2_with fail
  go_loopw [5, 12] (fun mv iv wr => ∃ k : Nat, k ≤ ls.length ∧ iv = .int .i64 k ∧ Hid (Mk w wr x ls k mv)) (fun _ i _ => ls.length - (intOf i).toNat)
  case atStart => exact ⟨0, Nat.zero_le _, rfl, HS⟩
  case round =>
    obtain ⟨k, hk, rfl, HM⟩ := hrel
    by_cases hlt : k < ls.length
    · obtain ⟨a, ha, hnd⟩ := HA.out k hlt
      have c1 : wr.cell? ⟨b, off + k, none⟩ = some a := by rw [HM.out.2.cell (Ap.cell_lt ha)]; exact ha
      obtain ⟨v', w', hrun, hmk⟩ := HM.out.next hlt (hnd.below HM.out.2) HF.out
      obtain ⟨am, cm, rfl⟩ := own_slice HM.out.1
      obtain ⟨_, aa, ca, rfl, -⟩ := hnd
      have R := Lib.hid hrun
      have HM' := Lib.hid hmk
      clear ha hrun hmk
      go_wp2_with (at_builtin; refine Ap.wpList_append_run (by rfl) (.tmp 16) (.tmp 17) _ _ rfl _ _ rfl rfl v' w' R.out ?_)
      go_roundw
      case rel => exact ⟨k + 1, by omega, by go_num, HM'⟩
      case measure => simp [intOf]; omega
    · have h1 := HM.out
      unfold Mk at h1
      rw [List.take_of_length_le (by omega)] at h1
      obtain ⟨am, cm, rfl⟩ := own_slice h1.1
      have H1 := Lib.hid h1
      clear h1
      go_wp2_with fail
      go_ret
      exact ⟨_, rfl, Ap.RdO.fresh H1.out.1, H1.out.2⟩
set_option maxHeartbeats 400000 in
theorem make_empty (x : Nd) (a : Option Addr) (cap : Nat) (w : World) :
    Calls Try.prog 33 #[.agg #[.int .i64 x.k, .string x.n, .int .i64 x.s], .slice a 0 cap] w fun e w' => ∃ y, e = .returned y ∧ Ap.RdO (fun g => w.heap.size ≤ g) w' 3 y (x :: ([] : List (List Nd)).flatten).length (cls (x :: ([] : List (List Nd)).flatten)) ∧ Below w.heap.size w w' := by
  have HS := Lib.hid (Mk.start w x [])
  go_enter Try.func33, Try.ntmps33
  go_wp2_with fail
  refine Go.wp_loop_rounds 1 ?_
  rw [rounds_succ]
  go_wp2_with fail
  go_ret
  exact ⟨_, rfl, Ap.RdO.fresh HS.out.1, HS.out.2⟩
/-- The program's Make. -/
theorem makeP_any (x : Nd) (v : Value) (ls : List (List Nd)) (w : World) (h : Rws w v ls) (hl : ls.length ≤ 1000) (hf : ls.flatten.length ≤ 1000000) :
    Calls Try.prog 33 #[.agg #[.int .i64 x.k, .string x.n, .int .i64 x.s], v] w fun e w' => ∃ y, e = .returned y ∧ Ap.RdO (fun g => w.heap.size ≤ g) w' 3 y (x :: ls.flatten).length (cls (x :: ls.flatten)) ∧ Below w.heap.size w w' := by
  rcases rws_form h with ⟨rfl, a, cap, rfl⟩ | ⟨b, off, cap, rfl, hat⟩
  · exact make_empty x a cap w
  · exact make_cells x b off cap ls w hat hl hf
end Go.Proofs.Ytdhaghabhdeakaa.Rx

namespace Go.Proofs.Ytdhaghabhdeakaa.Rx
open Go Go.RowKit Rw
set_option maxRecDepth 20000

theorem infoI : (Try.prog.info? 3).map (fun i => (i.zero, i.size, i.bytes)) = some (some (.int .i64 0), 1, 8) := by kernel_rfl
def ic (st : List Nat) : List Value := st.map fun (k : Nat) => .int .i64 (k : Int)
/-- A row of numbers in a block of the call's own. -/
def Stk (base : Nat) (w : World) (g cap : Nat) (st : List Nat) : Prop := w.ownsRow base 3 1 (.slice (some ⟨g, 0, none⟩) st.length cap) st.length (ic st)
theorem Stk.parts {base : Nat} {w : World} {g cap : Nat} {st : List Nat} (h : Stk base w g cap st) : ∃ cur : Array Value, w.heap[g]? = some (.cells cur 3 (0, 0)) ∧ base ≤ g ∧ cap ≤ maxLen ∧ cur.size = cap ∧ st.length ≤ cap ∧ cur.toList.take st.length = ic st := by
  obtain ⟨_, ⟨h0, _⟩ | ⟨g', cap', cur, hv, hb, hg, hn, hm, hs, ht⟩⟩ := h
  · cases h0
  · cases hv
    exact ⟨cur, hg, hb, hm, by simpa using hs, hn, by simpa using ht⟩
theorem Stk.of {base : Nat} {w : World} {g cap : Nat} {st : List Nat} {cur : Array Value} (hg : w.heap[g]? = some (.cells cur 3 (0, 0))) (hb : base ≤ g) (hm : cap ≤ maxLen) (hs : cur.size = cap) (hn : st.length ≤ cap) (ht : cur.toList.take st.length = ic st) : Stk base w g cap st :=
  ⟨by simp [ic], .inr ⟨g, cap, cur, rfl, hb, hg, hn, hm, by simpa using hs, by simpa using ht⟩⟩
theorem Stk.cell {base : Nat} {w : World} {g cap : Nat} {st : List Nat} (h : Stk base w g cap st) (j : Nat) (hj : j < st.length) : w.cell? ⟨g, j, none⟩ = some (.int .i64 (st[j] : Int)) := by
  obtain ⟨cur, hg, _, _, hs, hn, ht⟩ := h.parts
  have : cur.toList[j]? = (ic st)[j]? := by rw [← ht, List.getElem?_take_of_lt hj]
  simp only [ic, List.getElem?_map, List.getElem?_eq_getElem hj, Option.map_some] at this
  simp only [World.cell?, hg]
  simpa using this
theorem Stk.soft {base : Nat} {w : World} {g cap : Nat} {st : List Nat} (h : Stk base w g cap st) (j : Nat) : w.frozen? ⟨g, j, none⟩ = false := by
  obtain ⟨cur, hg, _⟩ := h.parts
  simp [World.frozen?, hg]
theorem Stk.cap {base : Nat} {w : World} {g cap : Nat} {st : List Nat} (h : Stk base w g cap st) : st.length ≤ cap ∧ cap ≤ maxLen := by
  obtain ⟨cur, _, _, hm, _, hn, _⟩ := h.parts
  exact ⟨hn, hm⟩
theorem heap_setCell (w : World) (g o : Nat) (v : Value) (k : Nat) : (w.setCell ⟨g, o, none⟩ v).heap[k]? = if g = k then (w.heap[k]?).map (fun x => match x with | .cells c elem frozen => .cells (c.setIfInBounds o v) elem frozen | o => o) else w.heap[k]? := by
  simp only [World.setCell, Array.getElem?_modify]
  by_cases h : g = k
  · simp [h]
    rfl
  · simp [h]
/-- The nearest number that is above zero made one fewer; what stood behind it is gone. -/
theorem Stk.down {base : Nat} {w : World} {g cap : Nat} {st : List Nat} (h : Stk base w g cap st) (i y : Nat) (hi : i < st.length) : Stk base (w.setCell ⟨g, i, none⟩ (.int .i64 (y : Int))) g cap (st.take i ++ [y]) := by
  obtain ⟨cur, hg, hb, hm, hs, hn, ht⟩ := h.parts
  refine Stk.of (cur := cur.setIfInBounds i (.int .i64 (y : Int))) (by simp [heap_setCell, hg]) hb hm (by simpa using hs) (by simp; omega) ?_
  have hl : (st.take i ++ [y]).length = i + 1 := by simp; omega
  rw [hl]
  refine List.ext_getElem? fun j => ?_
  rw [List.getElem?_take]
  by_cases hj : j < i + 1
  · rw [if_pos hj, Array.getElem?_toList, Array.getElem?_setIfInBounds]
    by_cases hji : j = i
    · subst hji
      rw [if_pos rfl, if_pos (by omega)]
      simp [ic, List.length_take, Nat.min_eq_left (Nat.le_of_lt hi)]
    · have e : cur.toList[j]? = (ic st)[j]? := by rw [← ht, List.getElem?_take_of_lt (by omega)]
      rw [if_neg (by omega), ← Array.getElem?_toList, e]
      simp only [ic, List.getElem?_map]
      rw [List.getElem?_append_left (by simp; omega), List.getElem?_take_of_lt (by omega)]
  · rw [if_neg hj, List.getElem?_eq_none (by simp [ic]; omega)]
theorem below_setCell {B : Nat} {w0 w : World} (h : Below B w0 w) (g o : Nat) (v : Value) (hg : B ≤ g) : Below B w0 (w.setCell ⟨g, o, none⟩ v) :=
  ⟨h.os, h.tape, h.output, by rw [show (w.setCell ⟨g, o, none⟩ v).heap.size = w.heap.size by simp [World.setCell]]; exact h.size, fun k hk => by rw [heap_setCell, if_neg (by omega)]; exact h.block k hk⟩
theorem Stk.push {base : Nat} {w : World} {g cap : Nat} {st : List Nat} (a : Nat) (h : Stk base w g cap st) (hbase : base ≤ w.heap.size) (hlen : st.length ≤ 2000000) :
    ∃ g' cap' w', (Builtin.append_ #[84, 84] 84 #[.slice (some ⟨g, 0, none⟩) st.length cap, .slice (some ⟨w.heap.size, 0, none⟩) 1 1]).run Try.prog (w.alloc (.cells #[.int .i64 (a : Int)] 3)) = .ok (.slice (some ⟨g', 0, none⟩) (st.length + 1) cap') w' ∧ Stk base w' g' cap' (st ++ [a]) ∧ Below base w w' := by
  obtain ⟨i0, hi, hz, hs1, hb8⟩ := info_parts infoI
  obtain ⟨v', w', h1, h2, h3, h4, h5⟩ := Ap.run_append_one (P := Try.prog) (ty := 84) Try.underlying84 hi hz hs1 hb8 (by rfl) (by omega) h hbase #[.int .i64 (a : Int)] rfl
    (by intro u hu; simp at hu; subst hu; rfl) (by unfold maxLen; omega) (by omega)
  have hform : ∃ g' cap', v' = .slice (some ⟨g', 0, none⟩) (st.length + 1) cap' := by
    obtain ⟨_, ⟨_, h0⟩ | ⟨g', cap', cur, hv, _⟩⟩ := h2
    · omega
    · exact ⟨g', cap', hv⟩
  obtain ⟨g', cap', rfl⟩ := hform
  refine ⟨g', cap', w', h1, ?_, h4⟩
  unfold Stk
  have e : ic (st ++ [a]) = ic st ++ [.int .i64 (a : Int)] := by simp [ic]
  rw [e, show (st ++ [a]).length = st.length + 1 by simp]
  exact h2
theorem pop_last {st : List Nat} {i : Nat} (h : i < st.length) : (st.take (i + 1)).reverse = st[i] :: (st.take i).reverse := by
  rw [List.take_succ_eq_append_getElem h, List.reverse_append]
  rfl
/-- What is still to be told. -/
def Rest (l : List Nd) (k : Nat) (st : List Nat) (d : Nat) : Prop := Rx.ms (l.drop k) st.reverse d k = (size l, depth l)
theorem Rest.start (l : List Nd) : Rest l 0 [] 0 := ms_of l
theorem Rest.stop {l : List Nd} {k d : Nat} {st : List Nat} (h : Rest l k st d) (hk : k < l.length) (ha : ar l[k].k < 0) : size l = 0 ∧ depth l = 0 := by
  unfold Rest at h
  rw [List.drop_eq_getElem_cons hk, Rx.ms, if_pos ha] at h
  exact ⟨(congrArg Prod.fst h).symm, (congrArg Prod.snd h).symm⟩
theorem Rest.out {l : List Nd} {k d : Nat} {st : List Nat} (h : Rest l k st d) (hk : ¬ k < l.length) : size l = 0 ∧ depth l = 0 := by
  unfold Rest at h
  rw [List.drop_eq_nil_of_le (by omega), Rx.ms] at h
  exact ⟨(congrArg Prod.fst h).symm, (congrArg Prod.snd h).symm⟩
theorem Rest.end {l : List Nd} {k d a : Nat} {st : List Nat} (h : Rest l k st d) (hk : k < l.length) (ha : ar l[k].k = (a : Int)) (hp : pop (st ++ [a]).reverse = none) : size l = k + 1 ∧ depth l = max d (st.length + 1) := by
  unfold Rest at h
  rw [List.reverse_concat] at hp
  rw [List.drop_eq_getElem_cons hk, Rx.ms, if_neg (by omega), ha, Int.toNat_natCast, hp, List.length_reverse] at h
  exact ⟨(congrArg Prod.fst h).symm, (congrArg Prod.snd h).symm⟩
theorem Rest.more {l : List Nd} {k d a : Nat} {st s : List Nat} (h : Rest l k st d) (hk : k < l.length) (ha : ar l[k].k = (a : Int)) (hp : pop (st ++ [a]).reverse = some s.reverse) : Rest l (k + 1) s (max d (st.length + 1)) := by
  unfold Rest at h ⊢
  rw [List.reverse_concat] at hp
  rw [List.drop_eq_getElem_cons hk, Rx.ms, if_neg (by omega), ha, Int.toNat_natCast, hp, List.length_reverse] at h
  exact h
end Go.Proofs.Ytdhaghabhdeakaa.Rx

namespace Go.Proofs.Ytdhaghabhdeakaa.Rx
open Go Go.RowKit Rw
set_option maxRecDepth 20000
/-- A name that an action may have. -/
def nm (n : ByteArray) : Bool := low n.data.toList && (decide (1 ≤ n.size) && decide (n.size ≤ 8)) && !wordB n
set_option maxHeartbeats 1000000 in
theorem name_other (s : ByteArray) (w : World) (h : wordB s = false) (h0 : s.size ≠ 0) (hs : s.size ≤ 140737488355328) : Calls Try.prog 82 #[.string s] w fun e w' => e = .returned (.bool (nm s)) ∧ Below w.heap.size w w' := by
  have hb : ¬ (s = w1 ∨ s = w2 ∨ s = w3 ∨ s = w4 ∨ s = w5 ∨ s = w6) := by simpa [wordB] using h
  have e0 := not_empty h0
  have HN : Hid (nm s = (low s.data.toList && decide (s.size ≤ 8))) := by
    show _ = _
    unfold nm
    rw [h, decide_eq_true (show 1 ≤ s.size by omega)]
    simp
  clear h h0
  simp only [not_or] at hb
  obtain ⟨h1, h2, h3, h4, h5, h6⟩ := hb
  have e1 := str_ne' (l := [115, 107, 105, 112]) h1
  have e2 := str_ne' (l := [116, 104, 114, 111, 119]) h2
  have e3 := str_ne' (l := [121, 105, 101, 108, 100]) h3
  have e4 := str_ne' (l := [115, 107, 105, 112, 112]) h4
  have e5 := str_ne' (l := [116, 104, 114, 111, 119, 119]) h5
  have e6 := str_ne' (l := [121, 105, 101, 108, 100, 100]) h6
  clear h1 h2 h3 h4 h5 h6
  go_enter Try.func82, Try.ntmps82
  go_wp2_with fail
  go_loopw [] (fun wr => ∃ pos : Nat, pos ≤ s.size ∧ wr = w.iter s pos ∧ Hid (low (s.data.toList.take pos) = true)) (fun wr => s.size - wr.iterPos w.heap.size)
  case atStart => exact ⟨0, Nat.zero_le _, rfl, Lib.hid rfl⟩
  case round =>
    obtain ⟨pos, hp, rfl, HL⟩ := hrel
    by_cases hlt : pos < s.size
    · have HT := Lib.hid (low_take s pos hlt)
      have HF := Lib.hid (fun hb => low_no hlt hb)
      by_cases ha : (s[pos]'hlt).toNat < 128
      · have hnx : ∀ ty, (Instr.next (.pointer (some ⟨w.heap.size, 0, none⟩)) true ty).run Try.prog (w.iter s pos) = _ := fun ty => run_next_ascii w s pos ty hlt ha
        obtain ⟨c, hc⟩ : ∃ c, (s[pos]'hlt).toNat = c := ⟨_, rfl⟩
        have HC := Lib.hid hc
        rw [hc] at hnx ha
        clear hc
        by_cases b1 : c < 97
        · have d1 : decide ((c : Int) < 97) = true := by simp; omega
          go_wp2_with fail
          go_ret
          refine ⟨ret_bool ?_, (Below.refl _ _).alloc (Nat.le_refl _) _⟩
          rw [HN.out, HF.out (by rw [HC.out]; simp; omega)]
          rfl
        · have d1 : decide ((c : Int) < 97) = false := by simp; omega
          by_cases b2 : 122 < c
          · have d2 : decide (122 < (c : Int)) = true := by simp; omega
            go_wp2_with fail
            go_ret
            refine ⟨ret_bool ?_, (Below.refl _ _).alloc (Nat.le_refl _) _⟩
            rw [HN.out, HF.out (by rw [HC.out]; simp; omega)]
            rfl
          · have d2 : decide (122 < (c : Int)) = false := by simp; omega
            have HG : Hid (low (s.data.toList.take (pos + 1)) = true) := by
              show _ = true
              rw [HT.out, HL.out, HC.out]
              simp
              omega
            go_wp2_with fail
            go_roundw
            case rel => exact ⟨pos + 1, by omega, rfl, HG⟩
            case measure => simp only [World.iterPos_iter]; omega
      · have hnx : ∀ ty, (Instr.next (.pointer (some ⟨w.heap.size, 0, none⟩)) true ty).run Try.prog (w.iter s pos) = _ := fun ty => run_next_any w s pos ty hlt
        have hh := (decode_high s pos hlt (by omega)).1
        obtain ⟨c, hc⟩ : ∃ c, (Utf8.decode s pos).1 = c := ⟨_, rfl⟩
        obtain ⟨q, hq⟩ : ∃ q, pos + (Utf8.decode s pos).2 = q := ⟨_, rfl⟩
        rw [hc] at hh
        rw [hc, hq] at hnx
        have HC := Lib.hid ha
        clear hc hq ha
        have d1 : decide ((c : Int) < 97) = false := by simp; omega
        have d2 : decide (122 < (c : Int)) = true := by simp; omega
        go_wp2_with fail
        go_ret
        refine ⟨ret_bool ?_, (Below.refl _ _).alloc (Nat.le_refl _) _⟩
        rw [HN.out, HF.out (by have := HC.out; simp; omega)]
        rfl
    · have hnx : ∀ ty, (Instr.next (.pointer (some ⟨w.heap.size, 0, none⟩)) true ty).run Try.prog (w.iter s pos) = _ := fun ty => run_next_end w s pos ty hlt
      have HF : Hid (low s.data.toList = true) := by
        have := HL.out
        rwa [List.take_of_length_le (by simp; omega)] at this
      by_cases q2 : s.size ≤ 8
      · go_wp2_with fail
        go_ret
        refine ⟨ret_bool ?_, (Below.refl _ _).alloc (Nat.le_refl _) _⟩
        rw [HN.out, HF.out, Bool.true_and, Bool.eq_iff_iff]
        simp
        omega
      · go_wp2_with fail
        go_ret
        refine ⟨ret_bool ?_, (Below.refl _ _).alloc (Nat.le_refl _) _⟩
        rw [HN.out, HF.out, Bool.true_and, Bool.eq_iff_iff]
        simp
        omega
theorem name_any (s : ByteArray) (w : World) (hs : s.size ≤ 140737488355328) : Calls Try.prog 82 #[.string s] w fun e w' => e = .returned (.bool (nm s)) ∧ Below w.heap.size w w' := by
  by_cases h0 : s.size = 0
  · obtain rfl := empty_of h0
    clear h0 hs
    rw [show nm ⟨#[]⟩ = false from rfl]
    go_enter Try.func82, Try.ntmps82
    go_wp2_with fail
    go_ret
    exact ⟨rfl, Below.refl _ _⟩
  · cases hw : wordB s with
    | false => exact name_other s w hw h0 hs
    | true =>
      have hb : nm s = false := by unfold nm; rw [hw]; simp
      rw [hb]
      have : s = w1 ∨ s = w2 ∨ s = w3 ∨ s = w4 ∨ s = w5 ∨ s = w6 := by simpa [wordB] using hw
      clear hw h0 hs hb
      rcases this with rfl | rfl | rfl | rfl | rfl | rfl
      all_goals
        simp only [w1, w2, w3, w4, w5, w6]
        go_enter Try.func82, Try.ntmps82
        go_wp2_with fail
        go_ret
        exact ⟨rfl, Below.refl _ _⟩
end Go.Proofs.Ytdhaghabhdeakaa.Rx

namespace Go.Proofs.Ytdhaghabhdeakaa.Rw
open Go Go.RowKit
set_option maxRecDepth 20000

/-- A row of the call's own that may be written into; out: a block in which it does not lie. -/
def Own1 (base : Nat) (out : Option Nat) (w : World) (a : Value) (r : List Nd) : Prop :=
  Ap.RdO (fun g => base ≤ g ∧ some g ≠ out) w 3 a r.length (cls r) ∧ ∀ b off cap, a = .slice (some ⟨b, off, none⟩) r.length cap → ∀ j, j < r.length * 3 → w.frozen? ⟨b, off + j, none⟩ = false
def OwnC (base : Nat) (out : Option Nat) (w : World) : List Value → List (List Nd) → Prop
  | [], [] => True
  | a :: cs, r :: rs => Own1 base out w a r ∧ OwnC base out w cs rs
  | _, _ => False
def blk : Value → Option Nat
  | .slice (some a) _ _ => some a.block
  | _ => none
def KidsPost (ls : List (List Nd)) (w : World) (e : Ending) (w' : World) : Prop :=
  ∃ y cs, e = .returned y ∧ Ap.RdO (fun g => w.heap.size ≤ g) w' 1 y ls.length cs ∧ OwnC w.heap.size (blk y) w' cs ls ∧ Below w.heap.size w w'
theorem OwnC.rwc {base : Nat} {out : Option Nat} {w : World} : ∀ {cs : List Value} {ls : List (List Nd)}, OwnC base out w cs ls → RwC w cs ls
  | [], [], _ => trivial
  | _ :: _, _ :: _, h => ⟨h.1.1.rd, OwnC.rwc h.2⟩
  | [], _ :: _, h => h.elim
  | _ :: _, [], h => h.elim
end Go.Proofs.Ytdhaghabhdeakaa.Rw

namespace Go.Proofs.Ytdhaghabhdeakaa.Pa
open Go Go.RowKit Rw
set_option maxRecDepth 20000

def word6 (n : ByteArray) : Nat := if n = w1 then 1 else if n = w2 then 2 else if n = w3 then 3 else if n = w4 then 4 else if n = w5 then 5 else if n = w6 then 6 else 0
theorem word6_cases (n : ByteArray) : n = w1 ∨ n = w2 ∨ n = w3 ∨ n = w4 ∨ n = w5 ∨ n = w6 ∨ (word6 n = 0 ∧ n ≠ w1 ∧ n ≠ w2 ∧ n ≠ w3 ∧ n ≠ w4 ∧ n ≠ w5 ∧ n ≠ w6) := by
  by_cases h1 : n = w1
  · exact Or.inl h1
  by_cases h2 : n = w2
  · exact Or.inr (Or.inl h2)
  by_cases h3 : n = w3
  · exact Or.inr (Or.inr (Or.inl h3))
  by_cases h4 : n = w4
  · exact Or.inr (Or.inr (Or.inr (Or.inl h4)))
  by_cases h5 : n = w5
  · exact Or.inr (Or.inr (Or.inr (Or.inr (Or.inl h5))))
  by_cases h6 : n = w6
  · exact Or.inr (Or.inr (Or.inr (Or.inr (Or.inr (Or.inl h6)))))
  refine Or.inr (Or.inr (Or.inr (Or.inr (Or.inr (Or.inr ⟨?_, h1, h2, h3, h4, h5, h6⟩)))))
  unfold word6
  rw [if_neg h1, if_neg h2, if_neg h3, if_neg h4, if_neg h5, if_neg h6]
set_option maxHeartbeats 800000 in
theorem wordN_any (n : ByteArray) (w : World) : Calls Try.prog 34 #[.string n] w fun e w' => e = .returned (.int .i64 (word6 n)) ∧ w = w' := by
  rcases word6_cases n with rfl | rfl | rfl | rfl | rfl | rfl | ⟨h0, h1, h2, h3, h4, h5, h6⟩
  case inr.inr.inr.inr.inr.inr =>
    rw [h0]
    have e1 := To.str_ne' (l := [115, 107, 105, 112]) h1
    have e2 := To.str_ne' (l := [116, 104, 114, 111, 119]) h2
    have e3 := To.str_ne' (l := [121, 105, 101, 108, 100]) h3
    have e4 := To.str_ne' (l := [115, 107, 105, 112, 112]) h4
    have e5 := To.str_ne' (l := [116, 104, 114, 111, 119, 119]) h5
    have e6 := To.str_ne' (l := [121, 105, 101, 108, 100, 100]) h6
    clear h0 h1 h2 h3 h4 h5 h6
    go_enter Try.func34, Try.ntmps34
    go_wp2_with fail
    go_ret
    exact ⟨rfl, rfl⟩
  all_goals
    simp only [w1, w2, w3, w4, w5, w6]
    go_enter Try.func34, Try.ntmps34
    go_wp2_with fail
    go_ret
    refine ⟨ret_int ?_, rfl⟩
    decide +kernel
/-- A row of nodes in memory of the call's own. -/
def NewRow (l : List Nd) (w : World) (e : Ending) (w' : World) : Prop := ∃ y, e = .returned y ∧ Ap.RdO (fun g => w.heap.size ≤ g) w' 3 y l.length (cls l) ∧ Below w.heap.size w w'
theorem new_one (w : World) (x : Nd) : Ap.RdO (fun g => w.heap.size ≤ g) (w.alloc (nb x)) 3 (.slice (some ⟨w.heap.size, 0, none⟩) 1 1) [x].length (cls [x]) := by
  have h : (w.alloc (nb x)).heap[w.heap.size]? = some (nb x) := by
    show (w.heap.push _)[w.heap.size]? = some _
    simp
  refine ⟨by simp [cls, cl], _, _, rfl, Nat.le_refl _, fun e => (by cases e), fun _ => ⟨_, _, rfl, Nat.le_refl _, by simp, fun j u hu => ?_⟩⟩
  simp only [World.cell?, h, Nat.zero_add]
  simpa [cls, cl] using hu
set_option maxHeartbeats 400000 in
theorem leaf_any (k : Int) (w : World) : Calls Try.prog 35 #[.int .i64 k] w (NewRow [nOf k] w) := by
  go_enter Try.func35, Try.ntmps35
  go_wp2_with fail
  go_ret
  exact ⟨_, rfl, new_one w (nOf k), below1 _ _⟩
set_option maxHeartbeats 400000 in
theorem rank_any (k : Int) (w : World) : Calls Try.prog 40 #[.int .i64 k] w fun e w' => e = .returned (.int .i64 (rankK k)) ∧ w = w' := by
  by_cases h : k = 7 ∨ k = 6 ∨ k = 8 ∨ k = 5 ∨ k = 10
  · rcases h with rfl | rfl | rfl | rfl | rfl
    all_goals
      go_enter Try.func40, Try.ntmps40
      go_wp2_with fail
      go_ret
      exact ⟨rfl, rfl⟩
  · have hr : rankK k = 5 := by
      unfold rankK
      rw [if_neg (by omega), if_neg (by omega), if_neg (by omega), if_neg (by omega), if_neg (by omega)]
    have b1 : (k == 7) = false := by rw [beq_eq_false_iff_ne]; omega
    have b2 : (k == 6) = false := by rw [beq_eq_false_iff_ne]; omega
    have b3 : (k == 8) = false := by rw [beq_eq_false_iff_ne]; omega
    have b4 : (k == 5) = false := by rw [beq_eq_false_iff_ne]; omega
    have b5 : (k == 10) = false := by rw [beq_eq_false_iff_ne]; omega
    rw [hr]
    clear h hr
    go_enter Try.func40, Try.ntmps40
    go_wp2_with fail
    go_ret
    exact ⟨rfl, rfl⟩
set_option maxHeartbeats 800000 in
theorem name_any (n : ByteArray) (w : World) : Calls Try.prog 19 #[.string n] w (NewRow (name n) w) := by
  have WD := Lib.hid (wordN_any n)
  rcases word6_cases n with h | h | h | h | h | h | ⟨h0, h1, h2, h3, h4, h5, h6⟩
  case inr.inr.inr.inr.inr.inr =>
    have HN : Hid (name n = [⟨1, n, 0⟩]) := by
      show _ = _
      unfold name
      rw [if_neg h1, if_neg h2, if_neg h3, if_neg h4, if_neg h5, if_neg h6]
    rw [h0] at WD
    rw [HN.out]
    clear h0 h1 h2 h3 h4 h5 h6
    go_enter Try.func19, Try.ntmps19
    go_wp2_with fail
    refine (WD.out _).mono ?_
    rintro e w' ⟨rfl, rfl⟩
    go_wp2_with fail
    go_ret
    exact ⟨_, rfl, new_one w ⟨1, n, 0⟩, below1 _ _⟩
  case inl =>
    subst h
    rw [show word6 w1 = 1 from by decide +kernel] at WD
    have HN : Hid (name w1 = [nOf 2]) := by show _ = _; decide +kernel
    rw [HN.out]
    go_enter Try.func19, Try.ntmps19
    go_wp2_with fail
    refine (WD.out _).mono ?_
    rintro e w' ⟨rfl, rfl⟩
    go_wp2_with fail
    refine (leaf_any 2 _).mono ?_
    rintro e w1 ⟨y, rfl, hy, hb⟩
    have HY := Lib.hid hy
    have HB := Lib.hid hb
    clear hy hb
    go_wp2_with fail
    go_ret
    exact ⟨_, rfl, HY.out, HB.out⟩
  case inr.inl =>
    subst h
    rw [show word6 w2 = 2 from by decide +kernel] at WD
    have HN : Hid (name w2 = [nOf 3]) := by show _ = _; decide +kernel
    rw [HN.out]
    go_enter Try.func19, Try.ntmps19
    go_wp2_with fail
    refine (WD.out _).mono ?_
    rintro e w' ⟨rfl, rfl⟩
    go_wp2_with fail
    refine (leaf_any 3 _).mono ?_
    rintro e w1 ⟨y, rfl, hy, hb⟩
    have HY := Lib.hid hy
    have HB := Lib.hid hb
    clear hy hb
    go_wp2_with fail
    go_ret
    exact ⟨_, rfl, HY.out, HB.out⟩
  case inr.inr.inl =>
    subst h
    rw [show word6 w3 = 3 from by decide +kernel] at WD
    have HN : Hid (name w3 = [nOf 4]) := by show _ = _; decide +kernel
    rw [HN.out]
    go_enter Try.func19, Try.ntmps19
    go_wp2_with fail
    refine (WD.out _).mono ?_
    rintro e w' ⟨rfl, rfl⟩
    go_wp2_with fail
    refine (leaf_any 4 _).mono ?_
    rintro e w1 ⟨y, rfl, hy, hb⟩
    have HY := Lib.hid hy
    have HB := Lib.hid hb
    clear hy hb
    go_wp2_with fail
    go_ret
    exact ⟨_, rfl, HY.out, HB.out⟩
  case inr.inr.inr.inl =>
    subst h
    rw [show word6 w4 = 4 from by decide +kernel] at WD
    have HN : Hid (name w4 = nOf 10 :: ([nOf 2] ++ [nOf 2])) := by show _ = _; decide +kernel
    rw [HN.out]
    go_enter Try.func19, Try.ntmps19
    go_wp2_with fail
    refine (WD.out _).mono ?_
    rintro e w' ⟨rfl, rfl⟩
    go_wp2_with fail
    refine (leaf_any 2 _).mono ?_
    rintro e wa ⟨y, rfl, hy, hb⟩
    have HY := Lib.hid hy.rd
    have HB := Lib.hid hb
    clear hy hb
    go_wp2_with fail
    refine (leaf_any 2 _).mono ?_
    rintro e wb ⟨z, rfl, hz, hb⟩
    have HY2 := Lib.hid (Ap.Rd.below HY.out hb)
    have HZ := Lib.hid hz.rd
    have HB2 := Lib.hid (HB.out.trans (hb.mono HB.out.size))
    clear hz hb
    go_wp2_with fail
    refine (twoR_own (nOf 10) y z [nOf 2] [nOf 2] _ HY2.out HZ.out (by simp) (by simp)).mono ?_
    rintro e wc ⟨u, rfl, hu, hb⟩
    have HU := Lib.hid ((Ap.RdO.fresh hu).imp (ok' := fun g => w.heap.size ≤ g) fun b _ hb' => Nat.le_trans HB2.out.size hb')
    have HB3 := Lib.hid (HB2.out.trans (hb.mono HB2.out.size))
    clear hu hb
    go_wp2_with fail
    go_ret
    exact ⟨_, rfl, HU.out, HB3.out⟩
  case inr.inr.inr.inr.inl =>
    subst h
    rw [show word6 w5 = 5 from by decide +kernel] at WD
    have HN : Hid (name w5 = nOf 10 :: ([nOf 3] ++ [nOf 2])) := by show _ = _; decide +kernel
    rw [HN.out]
    go_enter Try.func19, Try.ntmps19
    go_wp2_with fail
    refine (WD.out _).mono ?_
    rintro e w' ⟨rfl, rfl⟩
    go_wp2_with fail
    refine (leaf_any 3 _).mono ?_
    rintro e wa ⟨y, rfl, hy, hb⟩
    have HY := Lib.hid hy.rd
    have HB := Lib.hid hb
    clear hy hb
    go_wp2_with fail
    refine (leaf_any 2 _).mono ?_
    rintro e wb ⟨z, rfl, hz, hb⟩
    have HY2 := Lib.hid (Ap.Rd.below HY.out hb)
    have HZ := Lib.hid hz.rd
    have HB2 := Lib.hid (HB.out.trans (hb.mono HB.out.size))
    clear hz hb
    go_wp2_with fail
    refine (twoR_own (nOf 10) y z [nOf 3] [nOf 2] _ HY2.out HZ.out (by simp) (by simp)).mono ?_
    rintro e wc ⟨u, rfl, hu, hb⟩
    have HU := Lib.hid ((Ap.RdO.fresh hu).imp (ok' := fun g => w.heap.size ≤ g) fun b _ hb' => Nat.le_trans HB2.out.size hb')
    have HB3 := Lib.hid (HB2.out.trans (hb.mono HB2.out.size))
    clear hu hb
    go_wp2_with fail
    go_ret
    exact ⟨_, rfl, HU.out, HB3.out⟩
  case inr.inr.inr.inr.inr.inl =>
    subst h
    rw [show word6 w6 = 6 from by decide +kernel] at WD
    have HN : Hid (name w6 = nOf 10 :: ([nOf 4] ++ [nOf 2])) := by show _ = _; decide +kernel
    rw [HN.out]
    go_enter Try.func19, Try.ntmps19
    go_wp2_with fail
    refine (WD.out _).mono ?_
    rintro e w' ⟨rfl, rfl⟩
    go_wp2_with fail
    refine (leaf_any 4 _).mono ?_
    rintro e wa ⟨y, rfl, hy, hb⟩
    have HY := Lib.hid hy.rd
    have HB := Lib.hid hb
    clear hy hb
    go_wp2_with fail
    refine (leaf_any 2 _).mono ?_
    rintro e wb ⟨z, rfl, hz, hb⟩
    have HY2 := Lib.hid (Ap.Rd.below HY.out hb)
    have HZ := Lib.hid hz.rd
    have HB2 := Lib.hid (HB.out.trans (hb.mono HB.out.size))
    clear hz hb
    go_wp2_with fail
    refine (twoR_own (nOf 10) y z [nOf 4] [nOf 2] _ HY2.out HZ.out (by simp) (by simp)).mono ?_
    rintro e wc ⟨u, rfl, hu, hb⟩
    have HU := Lib.hid ((Ap.RdO.fresh hu).imp (ok' := fun g => w.heap.size ≤ g) fun b _ hb' => Nat.le_trans HB2.out.size hb')
    have HB3 := Lib.hid (HB2.out.trans (hb.mono HB2.out.size))
    clear hu hb
    go_wp2_with fail
    go_ret
    exact ⟨_, rfl, HU.out, HB3.out⟩
theorem kd_at {ts : List To.Tk} {i : Nat} (h : i < ts.length) : kd (tkn ts) i = ts[i].k ∧ nmAt (tkn ts) i = ts[i].n := by
  unfold kd nmAt tkn
  rw [List.getElem?_map, List.getElem?_eq_getElem h]
  exact ⟨rfl, rfl⟩
set_option maxHeartbeats 400000 in
theorem kind_out (a : Option Addr) (cap i n : Nat) (w : World) (h : n ≤ i) : Calls Try.prog 50 #[.slice a n cap, .int .i64 (i : Int)] w fun e w' => e = .returned (.int .i64 0) ∧ w = w' := by
  have g0 : decide ((i : Int) ≥ (n : Int)) = true := by simp; omega
  go_enter Try.func50, Try.ntmps50
  go_wp2_with fail
  go_ret
  exact ⟨rfl, rfl⟩
set_option maxHeartbeats 400000 in
theorem kindT_any (v : Value) (ts : List To.Tk) (i : Nat) (w : World) (hv : To.Tks w v ts) : Calls Try.prog 50 #[v, .int .i64 (i : Int)] w fun e w' => e = .returned (.int .i64 (kd (tkn ts) i)) ∧ w = w' := by
  rcases hv.form with ⟨rfl, a, cap, rfl⟩ | ⟨b, off, cap, rfl, _, hat⟩
  · exact kind_out a cap i 0 w (Nat.zero_le _)
  · by_cases h : i < ts.length
    · have c1 := (hat i h).1
      rw [(kd_at h).1]
      have g0 : decide ((i : Int) ≥ (ts.length : Int)) = false := by simp; omega
      obtain ⟨x, hx⟩ : ∃ x, ts[i].k = x := ⟨_, rfl⟩
      rw [hx] at c1 ⊢
      clear hat hx hv
      go_enter Try.func50, Try.ntmps50
      go_wp2_with fail
      go_ret
      exact ⟨rfl, rfl⟩
    · rw [kd_out (by simp [tkn]; omega)]
      exact kind_out _ _ _ _ w (by omega)
end Go.Proofs.Ytdhaghabhdeakaa.Pa
