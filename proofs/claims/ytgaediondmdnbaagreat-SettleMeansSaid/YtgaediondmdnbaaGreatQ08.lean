/- Plain: the sort of a tree out of those of its kids, as the program makes it. The program's Whole: IndexFunc, ContainsFunc over Right. The program's Depth. The document's Set: by halves. A trace appended to a row of the program's. slices.CompactFunc over rests: the walk. -/
import Derived.Test.YtgaediondmdnbaaGreatQ06
import Derived.Test.YtgaediondmdnbaaGreatQ07
import Derived.IntWalk
import Derived.Test.YtgaediondmdnbaaGreatQ03

namespace Go.Proofs.YtgaediondmdnbaaGreat.Sx
open Go.Proofs.YtgaediondmdnbaaGreat.Rw Go.Proofs.YtgaediondmdnbaaGreat.So

def pl (s : Nat) : Bool := s == 1 || s == 3
def pd (s : Nat) : Bool := s == 2 || s == 4
def on (s : Nat) : Bool := s == 3 || s == 4
/-- May a node of a kind have kids of these sorts? -/
def fit (k : Int) (a b : Nat) : Bool :=
  if k = 9 then pd a else if k = 14 then a == 1 else if k = 13 then pd a && b == 1
  else if k = 10 then !on a && (pl a && b == 1) else if k = 8 ∨ k = 12 then pl a && b == 1
  else if k = 6 then !on a && (!on b && (pl a && pl b || pd a && pd b)) else if k = 5 then !on b && (pl a && pl b || pd a && pd b)
  else if k = 7 then pl a && pl b || pd a && pd b else true
/-- The sort that it then is of. -/
def made (k : Int) (a b : Nat) : Nat :=
  if k = 5 ∨ k = 6 ∨ k = 7 ∨ k = 8 then max a b else if k = 9 then (if a = 4 then 3 else 1) else if k = 11 then 3
  else if k = 10 then 2 else if k = 12 ∨ k = 13 ∨ k = 14 then 4 else 1
def comb (k : Int) (a b : Nat) : Nat := if fit k a b then made k a b else 0
theorem first_le (l : List Nd) : first l ≤ 4 := by
  unfold first
  repeat' split
  all_goals omega
theorem apart_of (l : List Nd) : ¬ (Is 3 l = true ∧ Is 4 l = true) := apart l.length l (Nat.le_refl _)
theorem is_first (l : List Nd) : Is 1 l = (first l == 1) ∧ Is 2 l = (first l == 2) ∧ Is 3 l = pl (first l) ∧ Is 4 l = pd (first l) := by
  have h := apart_of l
  have h1 := @one_three l
  have h2 := @two_four l
  unfold first
  cases e1 : Is 1 l <;> cases e2 : Is 2 l <;> cases e3 : Is 3 l <;> cases e4 : Is 4 l <;> simp [e1, e2, e3, e4, pl, pd] at h h1 h2 ⊢
/-- The document's steps, with the sorts of the kids. -/
def p1 (k : Int) (a b : Nat) : Bool := if k = 1 ∨ k = 2 ∨ k = 3 ∨ k = 4 then true else if k = 5 ∨ k = 6 ∨ k = 7 ∨ k = 8 then a == 1 && b == 1 else if k = 9 then a == 2 else false
def p2 (k : Int) (a b : Nat) : Bool := if k = 10 then a == 1 && b == 1 else if k = 5 ∨ k = 6 ∨ k = 7 then a == 2 && b == 2 else false
def p3 (k : Int) (a b : Nat) : Bool := if k = 11 then true else if k = 5 ∨ k = 8 then pl a && b == 1 else if k = 7 then pl a && pl b else if k = 9 then pd a else false
def p4 (k : Int) (a b : Nat) : Bool := if k = 12 then pl a && b == 1 else if k = 5 then pd a && b == 2 else if k = 7 then pd a && pd b else if k = 13 then pd a && b == 1 else if k = 14 then a == 1 else false
def step (k : Int) (a b : Nat) : Nat := if p1 k a b then 1 else if p2 k a b then 2 else if p1 k a b || p3 k a b then 3 else if p2 k a b || p4 k a b then 4 else 0
theorem first_step (l : List Nd) : first l = step (hd l) (first (k0 l)) (first (k1 l)) := by
  obtain ⟨a1, a2, a3, a4⟩ := is_first (k0 l)
  obtain ⟨b1, b2, b3, b4⟩ := is_first (k1 l)
  have h1 : Is 1 l = p1 (hd l) (first (k0 l)) (first (k1 l)) := by
    rw [Is_one]; unfold plainB p1; rw [a1, a2, b1]
  have h2 : Is 2 l = p2 (hd l) (first (k0 l)) (first (k1 l)) := by
    rw [Is_two]; unfold pairedB p2; rw [a1, a2, b1, b2]
  have h3 : Is 3 l = (p1 (hd l) (first (k0 l)) (first (k1 l)) || p3 (hd l) (first (k0 l)) (first (k1 l))) := by
    rw [Is_three, ← Is_one, h1]; unfold plainOnB p3; rw [a3, a4, b1, b3]
  have h4 : Is 4 l = (p2 (hd l) (first (k0 l)) (first (k1 l)) || p4 (hd l) (first (k0 l)) (first (k1 l))) := by
    rw [Is_four, ← Is_two, h2]; unfold pairedOnB p4; rw [a1, a3, a4, b1, b2, b4]
  rw [first, h1, h2, h3, h4]
  rfl
theorem steps : ∀ k ∈ ([1, 2, 3, 4, 5, 6, 7, 8, 9, 10, 11, 12, 13, 14] : List Int), ∀ a ∈ ([0, 1, 2, 3, 4] : List Nat), ∀ b ∈ ([0, 1, 2, 3, 4] : List Nat), step k a b = comb k a b := by decide +kernel
theorem mem5 {a : Nat} (h : a ≤ 4) : a ∈ ([0, 1, 2, 3, 4] : List Nat) := by
  simp only [List.mem_cons, List.not_mem_nil, or_false]
  omega
theorem first_comb {l : List Nd} (h : 0 ≤ Rw.ar (hd l)) : first l = comb (hd l) (first (k0 l)) (first (k1 l)) := by
  rw [first_step]
  refine steps _ ?_ _ (mem5 (first_le _)) _ (mem5 (first_le _))
  simp only [List.mem_cons, List.not_mem_nil, or_false]
  exact kinds h
theorem first_nil : first [] = 0 := by decide +kernel
/-- A tree is its first node and its kids. -/
theorem parts {l : List Nd} (h : Tre l) : ∃ n, hd l = n.k ∧ l = n :: (kids l).flatten := by
  have hs : Rw.size l ≠ 0 := by rw [h.size]; have := h.pos; omega
  cases l with
  | nil => exact absurd h.pos (Nat.lt_irrefl 0)
  | cons n r =>
    have := kids_flat hs
    rw [h.size, List.take_length] at this
    exact ⟨n, rfl, this.symm⟩
theorem parts0 {l : List Nd} (h : Tre l) (h0 : Rw.ar (hd l) = 0) : ∃ n, hd l = n.k ∧ l = [n] ∧ first l = comb n.k 0 0 := by
  obtain ⟨n, hn, hl⟩ := parts h
  have hk : kids l = [] := by
    have := h.kids.1
    rw [h0] at this
    exact List.eq_nil_of_length_eq_zero this
  refine ⟨n, hn, by rw [hl, hk]; rfl, ?_⟩
  rw [first_comb (by omega), hn, show k0 l = [] by unfold k0; rw [hk]; rfl, show k1 l = [] by unfold k1; rw [hk]; rfl, first_nil]
theorem parts1 {l : List Nd} (h : Tre l) (h0 : Rw.ar (hd l) = 1) : ∃ n a, hd l = n.k ∧ l = n :: a ∧ Tre a ∧ first l = comb n.k (first a) 0 := by
  obtain ⟨n, hn, hl⟩ := parts h
  obtain ⟨a, hk, ha, _⟩ := h.one h0
  refine ⟨n, a, hn, by rw [hl, hk]; simp, ha, ?_⟩
  rw [first_comb (by omega), hn, show k0 l = a by unfold k0; rw [hk]; rfl, show k1 l = [] by unfold k1; rw [hk]; rfl, first_nil]
theorem parts2 {l : List Nd} (h : Tre l) (h0 : Rw.ar (hd l) = 2) : ∃ n a b, hd l = n.k ∧ l = n :: (a ++ b) ∧ Tre a ∧ Tre b ∧ first l = comb n.k (first a) (first b) := by
  obtain ⟨n, hn, hl⟩ := parts h
  obtain ⟨a, b, hk, ha, hb, _⟩ := h.two h0
  refine ⟨n, a, b, hn, by rw [hl, hk]; simp, ha, hb, ?_⟩
  rw [first_comb (by omega), hn, show k0 l = a by unfold k0; rw [hk]; rfl, show k1 l = b by unfold k1; rw [hk]; rfl]
end Go.Proofs.YtgaediondmdnbaaGreat.Sx

namespace Go.Proofs.YtgaediondmdnbaaGreat.Rx
open Go Go.RowKit Rw
set_option maxRecDepth 20000

set_option maxHeartbeats 400000 in
theorem not_any (x : Nd) (w : World) (hn : x.n.size ≤ 140737488355328) : Calls Tryz.prog 68 #[.agg #[.int .i64 x.k, .string x.n, .int .i64 x.s]] w fun e w' => e = .returned (.bool (!rgt x)) ∧ Below w.heap.size w w' := by
  obtain ⟨r, hr⟩ : ∃ r, rgt x = r := ⟨_, rfl⟩
  have HR := Lib.hid hr
  rw [hr]
  clear hr
  go_enter Tryz.func68, Tryz.ntmps68
  go_wp2_with fail
  refine (rgtP_any x _ hn).mono ?_
  rw [HR.out]
  rintro e w' ⟨rfl, hb⟩
  have HB := Lib.hid hb
  clear hb
  go_wp2_with fail
  go_ret
  exact ⟨rfl, (below_any w _).trans (HB.out.mono (below_any w _).size)⟩
/-- Where the first node stands that may not be. -/
def badAt : List Nd → Nat → Int
  | [], _ => -1
  | x :: l, k => if rgt x then badAt l (k + 1) else k
theorem badAt_neg (l : List Nd) (k : Nat) : decide (0 ≤ badAt l k) = !l.all rgt := by
  induction l generalizing k with
  | nil => rfl
  | cons x l ih =>
    unfold badAt
    cases hr : rgt x with
    | true => simp only [if_true, ih, List.all_cons, hr, Bool.true_and]
    | false => simp only [List.all_cons, hr, Bool.false_and]; simp
theorem badAt_end {l : List Nd} {k : Nat} (h : ¬ k < l.length) : badAt (l.drop k) k = -1 := by rw [List.drop_eq_nil_of_le (by omega)]; rfl
theorem badAt_at {l : List Nd} {k : Nat} (h : k < l.length) : badAt (l.drop k) k = if rgt l[k] then badAt (l.drop (k + 1)) (k + 1) else (k : Int) := by
  rw [List.drop_eq_getElem_cons h, badAt]

set_option maxHeartbeats 800000 in
theorem index_empty (a : Option Addr) (cap : Nat) (w : World) :
    Calls Tryz.prog 106 #[.slice a 0 cap, .func (.func 68) #[] #[]] w fun e w' => e = .returned (.int .i64 (-1)) ∧ Below w.heap.size w w' := by
  go_enter Tryz.func106, Tryz.ntmps106
  go_wp2_with fail
  refine Go.wp_loop_rounds 1 ?_
  rw [rounds_succ]
  go_wp2_with fail
  go_ret
  exact ⟨rfl, Below.refl _ _⟩
set_option maxHeartbeats 800000 in
theorem index_cells (b off cap : Nat) (l : List Nd) (w : World) (hat : At w b off l) (hl : l.length ≤ 1000000) (hm : Nms l) :
    Calls Tryz.prog 106 #[.slice (some ⟨b, off, none⟩) l.length cap, .func (.func 68) #[] #[]] w fun e w' => e = .returned (.int .i64 (badAt l 0)) ∧ Below w.heap.size w w' := by
  have HA := Lib.hid hat
  have HM := Lib.hid hm
  clear hat hm
  go_enter Tryz.func106, Tryz.ntmps106
  go_wp2_with fail
  go_loopw [8] (fun i wr => ∃ k : Nat, k ≤ l.length ∧ i = .int .i64 k ∧ Below w.heap.size w wr ∧ Hid (badAt l 0 = badAt (l.drop k) k)) (fun i _ => l.length - (intOf i).toNat)
  case atStart => exact ⟨0, Nat.zero_le _, rfl, Below.refl _ _, Lib.hid rfl⟩
  case round =>
    obtain ⟨k, hk, rfl, hb, HK⟩ := hrel
    have HB := Lib.hid hb
    clear hb
    by_cases hlt : k < l.length
    · obtain ⟨e1, e2, e3⟩ := HA.out k hlt
      have c1 : wr.cell? ⟨b, off + k * 3, none⟩ = some (.int .i64 l[k].k) := by rw [HB.out.cell (Ap.cell_lt e1)]; exact e1
      have c2 : wr.cell? ⟨b, off + k * 3 + 1, none⟩ = some (.string l[k].n) := by rw [HB.out.cell (Ap.cell_lt e2)]; exact e2
      have c3 : wr.cell? ⟨b, off + k * 3 + 2, none⟩ = some (.int .i64 l[k].s) := by rw [HB.out.cell (Ap.cell_lt e3)]; exact e3
      have HX := Lib.hid (HK.out.trans (badAt_at hlt))
      have hxm : (l[k]).n.size ≤ 140737488355328 := HM.out _ (List.getElem_mem hlt)
      obtain ⟨x, hx⟩ : ∃ x, l[k] = x := ⟨_, rfl⟩
      rw [hx] at c1 c2 c3 HX hxm
      have HXM := Lib.hid hxm
      clear hx e1 e2 e3 hxm
      cases hr : rgt x with
      | false =>
        rw [hr] at HX
        have HR := Lib.hid hr
        clear hr
        go_wp2_with fail
        refine (not_any x _ HXM.out).mono ?_
        rw [HR.out]
        rintro e w' ⟨rfl, hb'⟩
        have HB' := Lib.hid hb'
        clear hb'
        go_wp2_with fail
        go_ret
        exact ⟨ret_int HX.out.symm, HB.out.trans (HB'.out.mono HB.out.size)⟩
      | true =>
        rw [hr] at HX
        have HR := Lib.hid hr
        clear hr
        go_wp2_with fail
        refine (not_any x _ HXM.out).mono ?_
        rw [HR.out]
        rintro e w' ⟨rfl, hb'⟩
        have HB' := Lib.hid hb'
        clear hb'
        go_wp2_with fail
        go_roundw
        case rel => exact ⟨k + 1, by omega, by go_num, HB.out.trans (HB'.out.mono HB.out.size), HX⟩
        case measure => simp [intOf]; omega
    · go_wp2_with fail
      go_ret
      exact ⟨ret_int (by rw [HK.out, badAt_end hlt]), HB.out⟩
theorem index_any (v : Value) (l : List Nd) (w : World) (h : Nds w v l) (hl : l.length ≤ 1000000) (hm : Nms l) :
    Calls Tryz.prog 106 #[v, .func (.func 68) #[] #[]] w fun e w' => e = .returned (.int .i64 (badAt l 0)) ∧ Below w.heap.size w w' := by
  rcases h.form with ⟨rfl, a, cap, rfl⟩ | ⟨b, off, cap, rfl, _, hat⟩
  · exact index_empty a cap w
  · exact index_cells b off cap l w hat hl hm
set_option maxHeartbeats 400000 in
theorem contains_any (v : Value) (l : List Nd) (w : World) (h : Nds w v l) (hl : l.length ≤ 1000000) (hm : Nms l) :
    Calls Tryz.prog 67 #[v, .func (.func 68) #[] #[]] w fun e w' => e = .returned (.bool (!l.all rgt)) ∧ Below w.heap.size w w' := by
  have H := Lib.hid h
  have HM := Lib.hid hm
  have HQ := Lib.hid (badAt_neg l 0)
  obtain ⟨q, hq⟩ : ∃ q, badAt l 0 = q := ⟨_, rfl⟩
  rw [hq] at HQ
  have HC := Lib.hid hq
  clear h hm hq
  go_enter Tryz.func67, Tryz.ntmps67
  go_wp2_with fail
  refine (index_any v l _ H.out hl HM.out).mono ?_
  rw [HC.out]
  rintro e w' ⟨rfl, hb⟩
  have HB := Lib.hid hb
  clear hb
  go_wp2_with fail
  go_ret
  exact ⟨ret_bool HQ.out, HB.out⟩

set_option maxHeartbeats 2000000 in
/-- The program's Whole. -/
theorem wholeP_any (v : Value) (l : List Nd) (w : World) (h : Nds w v l) (hl : l.length ≤ 1000) (hm : Nms l) :
    Calls Tryz.prog 38 #[v] w fun e w' => e = .returned (.bool (whole l)) ∧ Below w.heap.size w w' := by
  have H := Lib.hid h
  have HM := Lib.hid hm
  obtain ⟨_, a, cap, rfl, -⟩ := h
  clear hm
  by_cases q1 : 1 ≤ l.length
  · by_cases q2 : l.length ≤ 200
    · have hz := size_le l
      obtain ⟨z, hzz⟩ : ∃ z, size l = z := ⟨_, rfl⟩
      have HZ := Lib.hid hzz
      rw [hzz] at hz
      by_cases q3 : z = l.length
      · have HW : Hid (whole l = l.all rgt) := by
          show _ = _
          unfold whole
          rw [decide_eq_true q1, decide_eq_true q2, hzz, decide_eq_true q3]
          simp
        have g0 : ((z : Int) != (l.length : Int)) = false := by rw [bne_eq_false_iff_eq]; omega
        have g1 : ((l.length : Int) == 0) = false := by rw [beq_eq_false_iff_ne]; omega
        obtain ⟨r, hr⟩ : ∃ r, l.all rgt = r := ⟨_, rfl⟩
        rw [hr] at HW
        have HR := Lib.hid hr
        have HQ3 := Lib.hid q3
        clear hzz hr q3
        go_enter Tryz.func38, Tryz.ntmps38
        go_wp2_with fail
        refine (sizeP_any _ l _ H.out (by omega)).mono ?_
        rw [HZ.out]
        rintro e w' ⟨rfl, hb⟩
        have HB := Lib.hid hb
        clear hb
        go_wp2_with fail
        refine (contains_any _ l _ (H.out.below HB.out) (by omega) HM.out).mono ?_
        rw [HR.out]
        rintro e w'' ⟨rfl, hb⟩
        have HB2 := Lib.hid hb
        clear hb
        go_wp2_with fail
        go_ret
        exact ⟨ret_bool HW.out.symm, HB.out.trans (HB2.out.mono HB.out.size)⟩
      · have HW : Hid (whole l = false) := by
          show _ = _
          unfold whole
          rw [hzz, decide_eq_false q3, Bool.and_false]
        have g0 : ((z : Int) != (l.length : Int)) = true := by rw [bne_iff_ne]; omega
        have g1 : ((l.length : Int) == 0) = false := by rw [beq_eq_false_iff_ne]; omega
        clear hzz q3
        go_enter Tryz.func38, Tryz.ntmps38
        go_wp2_with fail
        refine (sizeP_any _ l _ H.out (by omega)).mono ?_
        rw [HZ.out]
        rintro e w' ⟨rfl, hb⟩
        have HB := Lib.hid hb
        clear hb
        go_wp2_with fail
        go_ret
        exact ⟨ret_bool HW.out.symm, HB.out⟩
    · have HW : Hid (whole l = false) := by
        show _ = _
        unfold whole
        rw [decide_eq_false q2, Bool.and_false, Bool.and_false]
        rfl
      have g1 : ((l.length : Int) == 0) = false := by rw [beq_eq_false_iff_ne]; omega
      go_enter Tryz.func38, Tryz.ntmps38
      go_wp2_with fail
      go_ret
      exact ⟨ret_bool HW.out.symm, Below.refl _ _⟩
  · have HW : Hid (whole l = false) := by
      show _ = _
      unfold whole
      rw [decide_eq_false q1, Bool.false_and, Bool.and_false]
      rfl
    have g1 : ((l.length : Int) == 0) = true := by rw [beq_iff_eq]; omega
    go_enter Tryz.func38, Tryz.ntmps38
    go_wp2_with fail
    go_ret
    exact ⟨ret_bool HW.out.symm, Below.refl _ _⟩
end Go.Proofs.YtgaediondmdnbaaGreat.Rx

namespace Go.Proofs.YtgaediondmdnbaaGreat.Rx
open Go Go.RowKit Rw
set_option maxRecDepth 20000
set_option maxHeartbeats 400000 in
theorem depthP_big (v : Value) (l : List Nd) (w : World) (h : Nds w v l) (hl : l.length ≤ 4398046511104) :
    Calls Tryz.prog 54 #[v] w fun e w' => e = .returned (.int .i64 (depth l)) ∧ Below w.heap.size w w' := by
  have H := Lib.hid h
  clear h
  go_enter Tryz.func54, Tryz.ntmps54
  go_wp2_with fail
  refine (measure_big v l _ H.out hl).mono ?_
  rintro e w' ⟨rfl, hb⟩
  have HB := Lib.hid hb
  clear hb
  go_wp2_with fail
  go_ret
  exact ⟨rfl, HB.out⟩
theorem depthP_any (v : Value) (l : List Nd) (w : World) (h : Nds w v l) (hl : l.length ≤ 1000000) :
    Calls Tryz.prog 54 #[v] w fun e w' => e = .returned (.int .i64 (depth l)) ∧ Below w.heap.size w w' := depthP_big v l w h (by omega)
end Go.Proofs.YtgaediondmdnbaaGreat.Rx

namespace Go.Proofs.YtgaediondmdnbaaGreat.Tr
open Go Go.RowKit
set_option maxRecDepth 20000

theorem TrCells.take {w : World} : ∀ {cs : List Value} {ts : List Tr}, TrCells w cs ts → ∀ k, TrCells w (cs.take (k * 2)) (ts.take k)
  | [], [], _, k => by simp [TrCells]
  | a :: e :: cs, t :: ts, h, 0 => by simp [TrCells]
  | a :: e :: cs, t :: ts, h, k + 1 => by
    rw [show (k + 1) * 2 = k * 2 + 1 + 1 by omega]
    exact ⟨h.1, h.2.1, TrCells.take h.2.2 k⟩
  | [], _ :: _, h, _ => h.elim
  | [_], [], h, _ => h.elim
  | [_], _ :: _, h, _ => h.elim
  | _ :: _ :: _, [], h, _ => h.elim
theorem TrCells.drop {w : World} : ∀ {cs : List Value} {ts : List Tr}, TrCells w cs ts → ∀ k, TrCells w (cs.drop (k * 2)) (ts.drop k)
  | [], [], _, k => by simp [TrCells]
  | a :: e :: cs, t :: ts, h, 0 => by simpa using h
  | a :: e :: cs, t :: ts, h, k + 1 => by
    rw [show (k + 1) * 2 = k * 2 + 1 + 1 by omega]
    exact TrCells.drop h.2.2 k
  | [], _ :: _, h, _ => h.elim
  | [_], [], h, _ => h.elim
  | [_], _ :: _, h, _ => h.elim
  | _ :: _ :: _, [], h, _ => h.elim

/-- The beginning of a row. -/
theorem Trs.take {w : World} {b off cap : Nat} {ts : List Tr} (h : Trs w (.slice (some ⟨b, off, none⟩) ts.length cap) ts) (k : Nat) (hk : k ≤ ts.length) : Trs w (.slice (some ⟨b, off, none⟩) k cap) (ts.take k) := by
  obtain ⟨cs, ⟨hl, a, cap', hv, hc, hn, hcell⟩, ht⟩ := h
  cases hv
  refine ⟨cs.take (k * 2), ⟨?_, some ⟨b, off, none⟩, cap, ?_, ?_, fun h => (by cases h), fun h0 => ?_⟩, ht.take k⟩
  · simp; omega
  · rw [List.length_take, Nat.min_eq_left hk]
  · simp; omega
  · obtain ⟨b', off', ha, hj⟩ := hcell (by simp at h0; omega)
    cases ha
    exact ⟨b, off, rfl, fun j u hu => hj j u (by rw [List.getElem?_take] at hu; split at hu; exact hu; cases hu)⟩
/-- The rest of a row. -/
theorem Trs.drop {w : World} {b off cap : Nat} {ts : List Tr} (h : Trs w (.slice (some ⟨b, off, none⟩) ts.length cap) ts) (k : Nat) (hk : k < ts.length) : Trs w (.slice (some ⟨b, off + k * 2, none⟩) (ts.length - k) (cap - k)) (ts.drop k) := by
  obtain ⟨cs, ⟨hl, a, cap', hv, hc, hn, hcell⟩, ht⟩ := h
  cases hv
  refine ⟨cs.drop (k * 2), ⟨?_, some ⟨b, off + k * 2, none⟩, cap - k, ?_, ?_, fun h => (by cases h), fun h0 => ?_⟩, ht.drop k⟩
  · simp; omega
  · simp
  · simp; omega
  · obtain ⟨b', off', ha, hj⟩ := hcell (by omega)
    cases ha
    exact ⟨b, _, rfl, fun j u hu => by rw [Nat.add_assoc]; exact hj _ u (by rw [List.getElem?_drop] at hu; exact hu)⟩

theorem Few.sub {l m : List Tr} (h : Few l) (hl : m.length ≤ l.length) (hm : ∀ t ∈ m, t ∈ l) : Few m := ⟨Nat.le_trans hl h.1, fun t ht => h.2 t (hm t ht)⟩
theorem Few.norm {l : List Tr} (h : Few l) : Few (norm l) := h.sub (length_norm l) fun t ht => (mem_norm t l).1 ht
end Go.Proofs.YtgaediondmdnbaaGreat.Tr

namespace Go.Proofs.YtgaediondmdnbaaGreat.Tr
open Go Go.RowKit
set_option maxRecDepth 20000

theorem info_news : (Tryz.prog.info? 55).map (fun i => (i.zero, i.size, i.bytes)) = some (some (.agg #[.slice none 0 0, .int .i64 0]), 2, 32) := by kernel_rfl
theorem run_append_news {wk wr : World} {base : Nat} {v a : Value} {o : List Tr} {t : Tr} {cs : List Value} (hown : wr.ownsRow base 55 2 v o.length cs) (hbase : base ≤ wr.heap.size) (ha : Strs wk a t.a) (hlen : o.length ≤ 2000000000000) :
    ∃ v' w', (Builtin.append_ #[27, 27] 27 #[v, .slice (some ⟨wr.heap.size, 0, none⟩) 1 1]).run Tryz.prog (wr.alloc (.cells #[a, .int .i64 t.e] 55)) = .ok v' w' ∧
      w'.ownsRow base 55 2 v' (o ++ [t]).length (cs ++ [a, .int .i64 t.e]) ∧ wr.grownBy w' v.ownBlock ∧ Below base wr w' ∧ Ap.Fresh wr v v' := by
  obtain ⟨i0, hi, hz, hs1, hb8⟩ := info_parts info_news
  obtain ⟨v', w', h1, h2, h3, h4, h5⟩ := Ap.run_append_one (P := Tryz.prog) (ty := 27) Tryz.underlying27 hi hz hs1 hb8 (by rfl) (by omega) hown hbase #[a, .int .i64 t.e] rfl
    (fun u hu => by
      simp at hu
      rcases hu with rfl | rfl
      · exact ha.one
      · rfl) (by unfold maxLen; omega) (by omega)
  exact ⟨v', w', h1, by simpa using h2, h3, h4, h5⟩
end Go.Proofs.YtgaediondmdnbaaGreat.Tr

namespace Go.Proofs.YtgaediondmdnbaaGreat.Tr
open Go Go.RowKit
set_option maxRecDepth 20000

def ShapeR (x : Value × Value) : Prop := ∃ a n c a' n' c', x = (.slice a n c, .slice a' n' c')

theorem zsR (n : Nat) : (Builtin.zeroCells #[.slice none 0 0, .slice none 0 0] n).toList.length = n * 2 ∧ ∀ v ∈ (Builtin.zeroCells #[.slice none 0 0, .slice none 0 0] n).toList, v.oneCell' = true := by
  refine ⟨by simp [Builtin.zeroCells], fun v hv => ?_⟩
  obtain ⟨i, _, rfl⟩ := zc_mem hv
  rcases Nat.mod_two_eq_zero_or_one i with h | h
  · show ((#[.slice none 0 0, .slice none 0 0] : Array Value)[i % 2]!).oneCell' = true
    rw [h]; rfl
  · show ((#[.slice none 0 0, .slice none 0 0] : Array Value)[i % 2]!).oneCell' = true
    rw [h]; rfl

set_option maxHeartbeats 4000000 in
theorem compactR (g cap : Nat) (q : Value × Value → Value × Value → Bool) (xs : List (Value × Value)) (w : World) (h : Own2 w g 164 cap xs) (hlen : xs.length ≤ 1000000000000) (hsh : ∀ x ∈ xs, ShapeR x)
    (hq : ∀ W, w.grownBy W (some g) → ∀ x ∈ xs, ∀ y ∈ xs, Calls Tryz.prog 167 #[.agg #[x.1, x.2], .agg #[y.1, y.2]] W fun e w' => e = .returned (.bool (q x y)) ∧ Below W.heap.size W w') :
    Calls Tryz.prog 166 #[.slice (some ⟨g, 0, none⟩) xs.length cap, .func (.func 167) #[] #[]] w fun e w' => e = .returned (.slice (some ⟨g, 0, none⟩) (cpt q xs).length cap) ∧ Own2 w' g 164 cap (cpt q xs) ∧ w.grownBy w' (some g) := by
  have hcap := h.len
  have H := Lib.hid h
  have HS := Lib.hid hsh
  have HQ := Lib.hid hq
  clear h hsh hq
  by_cases h2 : xs.length < 2
  · have HX : Hid (cpt q xs = xs) := by
      match xs, h2 with
      | [], _ => exact rfl
      | [x], _ => exact rfl
    go_enter Tryz.func166, Tryz.ntmps166
    go_wp2_with fail
    go_ret
    rw [HX.out]
    exact ⟨rfl, H.out, gb_refl _ _⟩
  · go_enter Tryz.func166, Tryz.ntmps166
    go_wp2_with fail
    go_loopw [5] (fun kv wr => ∃ k : Nat, 1 ≤ k ∧ k ≤ xs.length ∧ kv = .int .i64 (k : Int) ∧ Own2 wr g 164 cap xs ∧ w.grownBy wr (some g) ∧ cpt q (xs.take k) = xs.take k) (fun kv _ => xs.length - (intOf kv).toNat)
    case atStart =>
      refine ⟨1, Nat.le_refl _, by omega, rfl, H.out, gb_refl _ _, ?_⟩
      match xs, h2 with
      | x :: xs, _ => simp [cpt, cptF]
    case round =>
      obtain ⟨k, hk1, hk, rfl, ho, hg, hcp⟩ := hrel
      have HO := Lib.hid ho
      have HG := Lib.hid hg
      have HCP := Lib.hid hcp
      clear ho hg hcp
      by_cases hlt : k < xs.length
      · have c0 := HO.out.cell0 k hlt
        have c1 := HO.out.cell1 k hlt
        have d0 := HO.out.cell0 (k - 1) (by omega)
        have d1 := HO.out.cell1 (k - 1) (by omega)
        have M1 := Lib.hid (List.getElem_mem hlt)
        have M0 := Lib.hid (List.getElem_mem (show k - 1 < xs.length by omega))
        have SN := Lib.hid (cpt_at q xs k hk1 hlt)
        have TK := Lib.hid (List.take_succ_eq_append_getElem hlt)
        obtain ⟨x, hx⟩ : ∃ x, xs[k] = x := ⟨_, rfl⟩
        obtain ⟨y, hy⟩ : ∃ y, xs[k - 1]'(by omega) = y := ⟨_, rfl⟩
        rw [hx] at c0 c1 M1 SN TK
        rw [hy] at d0 d1 M0 SN
        clear hx hy
        obtain ⟨j, hjk⟩ : ∃ j, k - 1 = j := ⟨_, rfl⟩
        have HW1 := Lib.hid (wrap_pred k j hjk hk1 (by omega))
        have hjlt : j < xs.length := by omega
        rw [hjk] at d0 d1
        have HJK := Lib.hid hjk
        clear hjk
        have QC := Lib.hid (fun W hW => HQ.out W hW x M1.out y M0.out)
        cases hxy : q x y with
        | false =>
          rw [hxy] at QC SN
          obtain ⟨x1, x2⟩ := x
          obtain ⟨y1, y2⟩ := y
          go_wp2_with fail
          go_still_tail 10, (by kernel_rfl)
          simp only [HW1.out]
          repeat still_step
          refine wpStill_nil ?_
          change wpList _ _ _ _ _ wr.drew
          go_wp2_with fail
          refine (QC.out _ (gb_trans HG.out (gb_drew _ _))).mono ?_
          rintro e w1 ⟨rfl, hb1⟩
          have G1 := Lib.hid (gb_trans (gb_trans HG.out (gb_drew _ _)) (gb_below hb1))
          have O1 := Lib.hid (HO.out.below ((Below.refl _ _).drew.trans hb1))
          clear hb1
          go_wp2_with fail
          go_roundw
          case rel => exact ⟨k + 1, by omega, by omega, by go_num, O1.out, G1.out, by rw [SN.out, HCP.out, TK.out]; rfl⟩
          case measure => simp [intOf]; omega
        | true =>
          rw [hxy] at QC SN
          obtain ⟨x1, x2⟩ := x
          obtain ⟨y1, y2⟩ := y
          go_wp2_with fail
          go_still_tail 10, (by kernel_rfl)
          simp only [HW1.out]
          repeat still_step
          refine wpStill_nil ?_
          change wpList _ _ _ _ _ wr.drew
          go_wp2_with fail
          refine (QC.out _ (gb_trans HG.out (gb_drew _ _))).mono ?_
          rintro e w1 ⟨rfl, hb1⟩
          have G1 := Lib.hid (gb_trans (gb_trans HG.out (gb_drew _ _)) (gb_below hb1))
          have O1 := Lib.hid (HO.out.below ((Below.refl _ _).drew.trans hb1))
          clear hb1 c0 c1 d0 d1
          go_wp2_with fail
          go_loopw [5, 7] (fun kv k2v wr => ∃ kk k2 : Nat, kv = .int .i64 (kk : Int) ∧ k2v = .int .i64 (k2 : Int) ∧ 1 ≤ k2 ∧ k + k2 ≤ xs.length ∧ kk = (cpt q (xs.take (k + k2))).length ∧ kk < k + k2 ∧ Own2 wr g 164 cap (cpt q (xs.take (k + k2)) ++ xs.drop kk) ∧ w.grownBy wr (some g)) (fun _ k2v _ => xs.length - (k + (intOf k2v).toNat))
          case atStart =>
            have e0 : cpt q (xs.take (k + 1)) = xs.take k := by rw [SN.out, HCP.out]; simp
            refine ⟨k, 1, rfl, rfl, Nat.le_refl _, by omega, by rw [e0, List.length_take]; omega, by omega, ?_, G1.out⟩
            rw [e0, List.take_append_drop]
            exact O1.out
          case round =>
            obtain ⟨kk, k2, rfl, rfl, hk2, hle, hkk, hkl, ho2, hg2⟩ := hrel
            have HKK := Lib.hid hkk
            have HO2 := Lib.hid ho2
            have HG2 := Lib.hid hg2
            clear hkk ho2 hg2
            by_cases hlt2 : k + k2 < xs.length
            · have ey : ∀ m (hm : m < xs.length) (hk : kk ≤ m), ∃ hm' : m < (cpt q (xs.take (k + k2)) ++ xs.drop kk).length, (cpt q (xs.take (k + k2)) ++ xs.drop kk)[m] = xs[m] := fun m hm hk => by
                refine ⟨by simp [← HKK.out]; omega, ?_⟩
                rw [List.getElem_append_right (by rw [← HKK.out]; exact hk)]
                simp [← HKK.out, Nat.add_sub_cancel' hk]
              obtain ⟨hA, eA⟩ := ey (k + k2) hlt2 (by omega)
              obtain ⟨hB, eB⟩ := ey (k + k2 - 1) (by omega) (by omega)
              have c0 := HO2.out.cell0 _ hA
              have c1 := HO2.out.cell1 _ hA
              have d0 := HO2.out.cell0 _ hB
              have d1 := HO2.out.cell1 _ hB
              rw [eA] at c0 c1
              rw [eB] at d0 d1
              have M1' := Lib.hid (List.getElem_mem hlt2)
              have M0' := Lib.hid (List.getElem_mem (show k + k2 - 1 < xs.length by omega))
              have SN' := Lib.hid (cpt_at q xs (k + k2) (by omega) hlt2)
              have DK := Lib.hid (List.drop_eq_getElem_cons (show kk < xs.length by omega))
              obtain ⟨u, hu⟩ : ∃ u, xs[k + k2] = u := ⟨_, rfl⟩
              obtain ⟨v, hv⟩ : ∃ v, xs[k + k2 - 1]'(by omega) = v := ⟨_, rfl⟩
              rw [hu] at c0 c1 M1' SN'
              rw [hv] at d0 d1 M0' SN'
              clear hu hv eA eB ey
              have f0 := HO2.out.soft (kk * 2)
              have f1 := HO2.out.soft (kk * 2 + 1)
              have t0 := HO2.out.there (kk * 2) (by omega)
              have t1 := HO2.out.there (kk * 2 + 1) (by omega)
              obtain ⟨o0, t0⟩ := Option.isSome_iff_exists.1 t0
              obtain ⟨o1, t1⟩ := Option.isSome_iff_exists.1 t1
              rw [show (k + k2) * 2 = k * 2 + k2 * 2 by omega] at c0 c1
              rw [show (k + k2 - 1) * 2 = k * 2 + (k2 - 1) * 2 by omega] at d0 d1
              obtain ⟨j2, hjk2⟩ : ∃ j2, k2 - 1 = j2 := ⟨_, rfl⟩
              have HW2 := Lib.hid (wrap_pred k2 j2 hjk2 hk2 (by omega))
              have hjlt2 : j2 < xs.length - k := by omega
              have hklt2 : k2 < xs.length - k := by omega
              rw [hjk2] at d0 d1
              have HJK2 := Lib.hid hjk2
              clear hjk2
              have QC2 := Lib.hid (fun W hW => HQ.out W hW u M1'.out v M0'.out)
              cases huv : q u v with
              | true =>
                rw [huv] at QC2 SN'
                obtain ⟨u1, u2⟩ := u
                obtain ⟨v1, v2⟩ := v
                go_wp2_with fail
                go_still_tail 10, (by kernel_rfl)
                simp only [HW2.out]
                repeat still_step
                refine wpStill_nil ?_
                change wpList _ _ _ _ _ wr.drew
                go_wp2_with fail
                refine (QC2.out _ (gb_trans HG2.out (gb_drew _ _))).mono ?_
                rintro e w2 ⟨rfl, hb2⟩
                have G2 := Lib.hid (gb_trans (gb_trans HG2.out (gb_drew _ _)) (gb_below hb2))
                have O2 := Lib.hid (HO2.out.below ((Below.refl _ _).drew.trans hb2))
                clear hb2
                go_wp2_with fail
                go_roundw
                case rel =>
                  have e1 : cpt q (xs.take (k + (k2 + 1))) = cpt q (xs.take (k + k2)) := by
                    rw [show k + (k2 + 1) = k + k2 + 1 by omega]
                    have := SN'.out
                    simpa using this
                  refine ⟨kk, k2 + 1, rfl, by go_num, by omega, by omega, by rw [e1]; exact HKK.out, by omega, ?_, G2.out⟩
                  rw [e1]
                  exact O2.out
                case measure => simp [intOf]; omega
              | false =>
                rw [huv] at QC2 SN'
                obtain ⟨a', n', c', a3, n3, c3, rfl⟩ := HS.out u M1'.out
                obtain ⟨v1, v2⟩ := v
                go_wp2_with fail
                go_still_tail 10, (by kernel_rfl)
                simp only [HW2.out]
                repeat still_step
                refine wpStill_nil ?_
                change wpList _ _ _ _ _ wr.drew
                go_wp2_with fail
                refine (QC2.out _ (gb_trans HG2.out (gb_drew _ _))).mono ?_
                rintro e w2 ⟨rfl, hb2⟩
                have hD : Below wr.heap.size wr w2 := (Below.refl _ _).drew.trans hb2
                have G2 := Lib.hid (gb_trans (gb_trans HG2.out (gb_drew _ _)) (gb_below hb2))
                have O2 := Lib.hid (HO2.out.below hD)
                have hgl := HO2.out.lt
                rw [← hD.cell (p := ⟨g, k * 2 + k2 * 2, none⟩) hgl] at c0
                rw [← hD.cell (p := ⟨g, k * 2 + k2 * 2 + 1, none⟩) hgl] at c1
                rw [← hD.cell (p := ⟨g, kk * 2, none⟩) hgl] at t0
                rw [← hD.cell (p := ⟨g, kk * 2 + 1, none⟩) hgl] at t1
                rw [← hD.frozen (p := ⟨g, kk * 2, none⟩) hgl] at f0
                rw [← hD.frozen (p := ⟨g, kk * 2 + 1, none⟩) hgl] at f1
                clear hb2 hD d0 d1
                go_wp2_with fail
                go_roundw
                case rel =>
                  have e1 : cpt q (xs.take (k + (k2 + 1))) = cpt q (xs.take (k + k2)) ++ [(.slice a' n' c', .slice a3 n3 c3)] := by
                    rw [show k + (k2 + 1) = k + k2 + 1 by omega]
                    have := SN'.out
                    simpa using this
                  refine ⟨kk + 1, k2 + 1, by go_num, by go_num, by omega, by omega, by rw [e1, List.length_append, ← HKK.out]; rfl, by omega, ?_, gb_trans G2.out (gb_trans (gb_setCell _ _ _ _) (gb_setCell _ _ _ _))⟩
                  have := O2.out.store kk (by simp [← HKK.out]; omega) (.slice a' n' c') (.slice a3 n3 c3)
                  rw [DK.out] at this
                  rw [e1]
                  have e3 := set_mid (cpt q (xs.take (k + k2))) (xs.drop (kk + 1)) (xs[kk]'(by omega)) (.slice a' n' c', .slice a3 n3 c3)
                  rw [← HKK.out] at e3
                  rw [e3] at this
                  simpa using this
                case measure => simp [intOf]; omega
            · have hend : k + k2 = xs.length := by omega
              have hcl : ∀ ty, (Builtin.clear_ #[160] ty #[.slice (some ⟨g, kk * 2, none⟩) (xs.length - kk) (cap - kk)]).run Tryz.prog wr = .ok (.tuple #[]) (wr.setCells g (kk * 2) (Builtin.zeroCells #[.slice none 0 0, .slice none 0 0] (xs.length - kk)).toList) :=
                fun ty => run_clear2 wr _ _ ty (.agg #[.slice none 0 0, .slice none 0 0]) Tryz.underlying160 Tryz.zeroValue164 g (kk * 2) _ _ (by omega) (zsR _).1 (zsR _).2 (fun j hj => HO2.out.there _ (by omega)) (fun j hj => HO2.out.soft _)
              have ET : Hid (cpt q (xs.take (k + k2)) = cpt q xs) := by rw [hend, List.take_length]; exact rfl
              have KC := HKK.out
              rw [ET.out] at KC
              have O3 := HO2.out.take kk
              rw [ET.out, List.take_left' KC.symm] at O3
              have HO3 := Lib.hid O3
              have HKC := Lib.hid KC
              clear O3 KC
              go_wp2_with fail
              go_ret
              refine ⟨by rw [← HKC.out]; go_num, HO3.out.setOut _ _ _ (by rw [← HKC.out]; exact Nat.le_refl _), gb_trans HG2.out (gb_setCells _ _ _ _)⟩
      · have hend : k = xs.length := by omega
        have HX : Hid (cpt q xs = xs) := by
          have := HCP.out
          rw [hend, List.take_length] at this
          exact this
        go_wp2_with fail
        go_ret
        rw [HX.out]
        exact ⟨rfl, HO.out, HG.out⟩
end Go.Proofs.YtgaediondmdnbaaGreat.Tr
