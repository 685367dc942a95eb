/- Nodes appended; rows of rows of nodes, and parts of rows. Plain: the sorts of trees. The document's Same over any rows of traces. The program's order of traces: cmp.Compare, slices.Compare, cmp.Or, the method against and Compare: the walks. How many nodes are of some kinds: plain. Nodes that are compared as structs. The document's Kids. The document's merge of two rows of traces: the walk. The program's order of traces: the method against, and Compare: the walks. -/
import Derived.Test.YtpkbpooiaddcaaaGreatQ04
import Derived.Laws.AppendOwn
import Derived.Laws.StructEq
import Derived.Sort.Grow

namespace Go.Proofs.YtpkbpooiaddcaaaGreat.Rw
open Go Go.RowKit
set_option maxRecDepth 20000

theorem infoN : (Tryz.prog.info? 41).map (fun i => (i.zero, i.size, i.bytes)) = some (some (.agg #[.int .i64 0, .string ⟨#[]⟩, .int .i64 0]), 3, 32) := by kernel_rfl
theorem cls_one {l : List Nd} : ∀ u ∈ cls l, u.oneCell' = true := by
  induction l with
  | nil => intro u hu; cases hu
  | cons x l ih =>
    intro u hu
    rw [cls, List.mem_append] at hu
    rcases hu with hu | hu
    · simp [cl] at hu
      rcases hu with rfl | rfl | rfl <;> rfl
    · exact ih u hu

/-- Nodes of any slice appended to a row that the call owns. -/
theorem run_append_nds {w : World} {base : Nat} {v x : Value} {l m : List Nd} (hown : w.ownsRow base 41 3 v l.length (cls l)) (hbase : base ≤ w.heap.size) (hx : Nds w x m) (hlen : l.length + m.length ≤ 2000000) :
    ∃ v' w', (Builtin.append_ #[22, 22] 22 #[v, x]).run Tryz.prog w = .ok v' w' ∧ w'.ownsRow base 41 3 v' (l ++ m).length (cls (l ++ m)) ∧ w.grownBy w' v.ownBlock ∧ Below base w w' ∧ Ap.Fresh w v v' := by
  obtain ⟨i0, hi, hz, hs1, hb8⟩ := info_parts infoN
  obtain ⟨v', w', h1, h2, h3, h4, h5⟩ := Ap.run_append_rd (P := Tryz.prog) (ty := 22) Tryz.underlying22 hi hz hs1 hb8 (by rfl) (by omega) hown hbase hx
    cls_one (by unfold maxLen; omega) (by omega)
  exact ⟨v', w', h1, by rw [cls_append]; simpa using h2, h3, h4, h5⟩
/-- One node, given by itself. -/
theorem run_append_nd {w : World} {base : Nat} {v : Value} {l : List Nd} (x : Nd) (hown : w.ownsRow base 41 3 v l.length (cls l)) (hbase : base ≤ w.heap.size) (hlen : l.length ≤ 2000000) :
    ∃ v' w', (Builtin.append_ #[22, 22] 22 #[v, .slice (some ⟨w.heap.size, 0, none⟩) 1 1]).run Tryz.prog (w.alloc (.cells #[.int .i64 x.k, .string x.n, .int .i64 x.s] 41)) = .ok v' w' ∧ w'.ownsRow base 41 3 v' (l ++ [x]).length (cls (l ++ [x])) ∧ w.grownBy w' v.ownBlock ∧ Below base w w' ∧ Ap.Fresh w v v' := by
  obtain ⟨i0, hi, hz, hs1, hb8⟩ := info_parts infoN
  obtain ⟨v', w', h1, h2, h3, h4, h5⟩ := Ap.run_append_one (P := Tryz.prog) (ty := 22) Tryz.underlying22 hi hz hs1 hb8 (by rfl) (by omega) hown hbase #[.int .i64 x.k, .string x.n, .int .i64 x.s] rfl
    (by intro u hu; simp at hu; rcases hu with rfl | rfl | rfl <;> rfl) (by unfold maxLen; omega) (by omega)
  exact ⟨v', w', h1, by rw [cls_append, List.length_append]; exact h2, h3, h4, h5⟩

/-- A node's block. -/
abbrev nb (x : Nd) : Obj := .cells #[.int .i64 x.k, .string x.n, .int .i64 x.s] 41
theorem below1 (w : World) (x : Obj) : Below w.heap.size w (w.alloc x) := (Below.refl _ _).alloc (Nat.le_refl _) _
/-- Rows of rows of nodes. -/
def RwC (w : World) : List Value → List (List Nd) → Prop
  | [], [] => True
  | a :: cs, r :: rs => Nds w a r ∧ RwC w cs rs
  | _, _ => False
theorem RwC.below {w w' : World} (hb : Below w.heap.size w w') : ∀ {cs : List Value} {ls : List (List Nd)}, RwC w cs ls → RwC w' cs ls
  | [], [], _ => trivial
  | _ :: _, _ :: _, h => ⟨h.1.below hb, RwC.below hb h.2⟩
  | [], _ :: _, h => h.elim
  | _ :: _, [], h => h.elim
theorem RwC.snoc {w : World} {a : Value} {r : List Nd} (ha : Nds w a r) : ∀ {cs : List Value} {ls : List (List Nd)}, RwC w cs ls → RwC w (cs ++ [a]) (ls ++ [r])
  | [], [], _ => ⟨ha, trivial⟩
  | _ :: _, _ :: _, h => ⟨h.1, RwC.snoc ha h.2⟩
  | [], _ :: _, h => h.elim
  | _ :: _, [], h => h.elim
theorem RwC.len {w : World} : ∀ {cs : List Value} {ls : List (List Nd)}, RwC w cs ls → cs.length = ls.length
  | [], [], _ => rfl
  | _ :: _, _ :: _, h => by rw [List.length_cons, List.length_cons, RwC.len h.2]
  | [], _ :: _, h => h.elim
  | _ :: _, [], h => h.elim
def Rws (w : World) (v : Value) (ls : List (List Nd)) : Prop := ∃ cs, Ap.Rd w 1 v ls.length cs ∧ RwC w cs ls
theorem Rws.below {w w' : World} {v : Value} {ls : List (List Nd)} (h : Rws w v ls) (hb : Below w.heap.size w w') : Rws w' v ls := by
  obtain ⟨cs, h1, h2⟩ := h
  exact ⟨cs, h1.below hb, h2.below hb⟩
theorem infoR : (Tryz.prog.info? 22).map (fun i => (i.zero, i.size, i.bytes)) = some (some (.slice none 0 0), 1, 24) := by kernel_rfl
/-- A part of a slice. -/
theorem part_nds {w : World} {b off : Nat} {l : List Nd} (h : At w b off l) (p n c : Nat) (hp : p + n ≤ l.length) (hn : n ≤ c) : Nds w (.slice (some ⟨b, off + p * 3, none⟩) n c) ((l.drop p).take n) := by
  have hlen : ((l.drop p).take n).length = n := by rw [List.length_take, List.length_drop]; omega
  unfold Nds
  rw [hlen]
  refine ⟨by rw [cls_len, hlen], _, c, rfl, hn, fun e => (by cases e), fun _ => ⟨b, off + p * 3, rfl, fun j u hu => ?_⟩⟩
  have hj : j < n * 3 := by
    have := (List.getElem?_eq_some_iff.1 hu).1
    rw [cls_len, hlen] at this
    exact this
  have hk : j / 3 < ((l.drop p).take n).length := by rw [hlen]; omega
  obtain ⟨h1, h2, h3⟩ := cls_at _ (j / 3) hk
  have hkl : p + j / 3 < l.length := by omega
  have hx : ((l.drop p).take n)[j / 3] = l[p + j / 3] := by simp
  rw [hx] at h1 h2 h3
  obtain ⟨g1, g2, g3⟩ := h (p + j / 3) hkl
  have hr : j % 3 = 0 ∨ j % 3 = 1 ∨ j % 3 = 2 := by omega
  rcases hr with hr | hr | hr
  · have : j = j / 3 * 3 := by omega
    rw [← this, hu] at h1
    rw [Option.some.inj h1, show off + p * 3 + j = off + (p + j / 3) * 3 by omega]
    exact g1
  · have : j = j / 3 * 3 + 1 := by omega
    rw [← this, hu] at h2
    rw [Option.some.inj h2, show off + p * 3 + j = off + (p + j / 3) * 3 + 1 by omega]
    exact g2
  · have : j = j / 3 * 3 + 2 := by omega
    rw [← this, hu] at h3
    rw [Option.some.inj h3, show off + p * 3 + j = off + (p + j / 3) * 3 + 2 by omega]
    exact g3
/-- One kid more. -/
theorem kids_next {l : List Nd} {k p d c' d' : Nat} (h : Far l 0 k p d) (ht : T (l.drop p) = some (c', d')) : kidsN (k + 1) (l.drop 1) = kidsN k (l.drop 1) ++ [(l.drop p).take c'] := by
  obtain ⟨c, hs, rfl⟩ := h
  rw [Nat.zero_add] at hs ht
  rw [kidsN, hs]
  simp only [Option.getD_some, List.drop_drop, Nat.zero_add]
  have : size (l.drop (1 + c)) = c' := by unfold size; rw [ht]
  rw [this]
theorem kids_more {l : List Nd} {k p d : Nat} (h0 : 0 < l.length) (hs : size l ≠ 0) (h : Far l 0 k p d) (hk : (k : Int) < ar l[0].k) : ∃ c' d', T (l.drop p) = some (c', d') := by
  cases ht : T (l.drop p) with
  | some x => exact ⟨x.1, x.2, rfl⟩
  | none =>
    exfalso
    have h1 := h.stop ht
    have hn : ¬ ar l[0].k < 0 := by omega
    have := walk_none (l := l) (i := 0) h0 hn hk h1
    rw [List.drop_zero] at this
    exact hs (size_pos.2 this)
theorem kids_of {l : List Nd} (h0 : 0 < l.length) (hs : size l ≠ 0) : kids l = kidsN (ar l[0].k).toNat (l.drop 1) := by
  cases l with
  | nil => simp at h0
  | cons n r =>
    unfold kids
    rw [if_neg hs]
    rfl
end Go.Proofs.YtpkbpooiaddcaaaGreat.Rw

namespace Go.Proofs.YtpkbpooiaddcaaaGreat.So
open Go.Proofs.YtpkbpooiaddcaaaGreat.Rw

def k0 (l : List Nd) : List Nd := (kids l).getD 0 []
def k1 (l : List Nd) : List Nd := (kids l).getD 1 []
def hd (l : List Nd) : Int := match l with | [] => 0 | n :: _ => n.k
/-- The four sorts, one step; t: what its kids are. -/
def plainB (t : Nat → List Nd → Bool) (l : List Nd) : Bool :=
  if hd l = 1 ∨ hd l = 2 ∨ hd l = 3 ∨ hd l = 4 then true
  else if hd l = 5 ∨ hd l = 6 ∨ hd l = 7 ∨ hd l = 8 then t 1 (k0 l) && t 1 (k1 l)
  else if hd l = 9 then t 2 (k0 l) else false
def pairedB (t : Nat → List Nd → Bool) (l : List Nd) : Bool :=
  if hd l = 10 then t 1 (k0 l) && t 1 (k1 l)
  else if hd l = 5 ∨ hd l = 6 ∨ hd l = 7 then t 2 (k0 l) && t 2 (k1 l) else false
def plainOnB (t : Nat → List Nd → Bool) (l : List Nd) : Bool :=
  if hd l = 11 then true
  else if hd l = 5 ∨ hd l = 8 then t 3 (k0 l) && t 1 (k1 l)
  else if hd l = 7 then t 3 (k0 l) && t 3 (k1 l)
  else if hd l = 9 then t 4 (k0 l) else false
def pairedOnB (t : Nat → List Nd → Bool) (l : List Nd) : Bool :=
  if hd l = 12 then t 3 (k0 l) && t 1 (k1 l)
  else if hd l = 5 then t 4 (k0 l) && t 2 (k1 l)
  else if hd l = 7 then t 4 (k0 l) && t 4 (k1 l)
  else if hd l = 13 then t 4 (k0 l) && t 1 (k1 l)
  else if hd l = 14 then t 1 (k0 l) else false
def stepB (t : Nat → List Nd → Bool) (s : Nat) (l : List Nd) : Bool :=
  if s = 1 then plainB t l else if s = 2 then pairedB t l else if s = 3 then plainB t l || plainOnB t l else pairedB t l || pairedOnB t l
def isF : Nat → Nat → List Nd → Bool
  | 0, _, _ => false
  | f + 1, s, l => stepB (isF f) s l
theorem kids_short {l r : List Nd} (hr : r ∈ kids l) : r.length < l.length := by
  have hs : size l ≠ 0 := fun e => by
    unfold kids at hr
    rw [if_pos e] at hr
    cases hr
  have h0 : 0 < l.length := by have := size_le l; omega
  cases l with
  | nil => simp at h0
  | cons n rs =>
    have := kids_flat hs
    have h1 : r.length ≤ (kids (n :: rs)).flatten.length := by
      obtain ⟨s, t, hst⟩ := List.append_of_mem hr
      rw [hst]
      simp
      omega
    have h2 : (kids (n :: rs)).flatten.length + 1 = ((n :: rs).take (size (n :: rs))).length := by rw [← this]; simp
    rw [List.length_take] at h2
    omega
theorem getD_short (l : List Nd) (i : Nat) (h : 0 < l.length) : ((kids l).getD i []).length < l.length := by
  rw [List.getD_eq_getElem?_getD]
  cases hx : (kids l)[i]? with
  | none => simpa using h
  | some r => exact kids_short (List.mem_of_getElem? hx)
theorem stepB_congr {t t' : Nat → List Nd → Bool} (s : Nat) (l : List Nd) (h : ∀ s i, t s ((kids l).getD i []) = t' s ((kids l).getD i [])) : stepB t s l = stepB t' s l := by
  unfold stepB plainB pairedB plainOnB pairedOnB k0 k1
  simp only [h]
theorem stepB_nil (t : Nat → List Nd → Bool) (s : Nat) : stepB t s [] = false := by
  unfold stepB plainB pairedB plainOnB pairedOnB
  simp [hd]
theorem isF_nil : ∀ (f s : Nat), isF f s [] = false
  | 0, _ => rfl
  | _ + 1, s => stepB_nil _ s
theorem isF_fuel : ∀ (f : Nat) (s : Nat) (l : List Nd), l.length ≤ f → isF (f + 1) s l = isF f s l
  | 0, s, l, h => by
    have : l = [] := List.eq_nil_of_length_eq_zero (by omega)
    subst this
    rw [isF_nil, isF_nil]
  | f + 1, s, l, h => by
    by_cases h0 : 0 < l.length
    · exact stepB_congr s l fun s' i => isF_fuel f s' _ (by have := getD_short l i h0; omega)
    · have : l = [] := List.eq_nil_of_length_eq_zero (by omega)
      subst this
      rw [isF_nil, isF_nil]
/-- Is a tree of a sort? 1: plain, 2: paired, 3: plain or goes on so, 4: paired or goes on so. -/
def Is (s : Nat) (l : List Nd) : Bool := isF l.length s l
theorem isF_Is (f s : Nat) (l : List Nd) (h : l.length ≤ f) : isF f s l = Is s l := by
  have : ∀ g, isF (l.length + g) s l = isF l.length s l := by
    intro g
    induction g with
    | zero => rfl
    | succ g ih => rw [← Nat.add_assoc, isF_fuel _ _ _ (by omega), ih]
  have h' := this (f - l.length)
  rw [show l.length + (f - l.length) = f by omega] at h'
  exact h'
theorem Is_eq (s : Nat) (l : List Nd) : Is s l = stepB Is s l := by
  cases hl : l.length with
  | zero =>
    have : l = [] := List.eq_nil_of_length_eq_zero hl
    subst this
    rw [stepB_nil]
    rfl
  | succ n =>
    unfold Is
    rw [hl]
    exact stepB_congr s l fun s' i => isF_Is n s' _ (by have := getD_short l i (by omega); omega)
theorem Is_one (l : List Nd) : Is 1 l = plainB Is l := Is_eq 1 l
theorem Is_two (l : List Nd) : Is 2 l = pairedB Is l := Is_eq 2 l
theorem Is_three (l : List Nd) : Is 3 l = (plainB Is l || plainOnB Is l) := Is_eq 3 l
theorem Is_four (l : List Nd) : Is 4 l = (pairedB Is l || pairedOnB Is l) := Is_eq 4 l
theorem one_three {l : List Nd} (h : Is 1 l = true) : Is 3 l = true := by rw [Is_three, ← Is_one, h]; rfl
theorem two_four {l : List Nd} (h : Is 2 l = true) : Is 4 l = true := by rw [Is_four, ← Is_two, h]; rfl

/-- The sort of a row. -/
def first (l : List Nd) : Nat := if Is 1 l then 1 else if Is 2 l then 2 else if Is 3 l then 3 else if Is 4 l then 4 else 0
def of (l : List Nd) : Nat := if whole l then first l else 0
theorem of_le (l : List Nd) : of l ≤ 4 := by
  unfold of first
  repeat' split
  all_goals omega

theorem of_cases (l : List Nd) : of l = 0 ∨ of l = 1 ∨ of l = 2 ∨ of l = 3 ∨ of l = 4 := by have := of_le l; omega

/-- No tree is of both kinds. -/
theorem apart : ∀ (m : Nat) (l : List Nd), l.length ≤ m → ¬ (Is 3 l = true ∧ Is 4 l = true)
  | 0, l, h, hh => by
    have : l = [] := List.eq_nil_of_length_eq_zero (by omega)
    subst this
    rw [Is_eq, stepB_nil] at hh
    cases hh.1
  | m + 1, l, h, hh => by
    by_cases h0 : 0 < l.length
    case neg =>
      have : l = [] := List.eq_nil_of_length_eq_zero (by omega)
      subst this
      rw [Is_eq, stepB_nil] at hh
      cases hh.1
    have i0 := apart m (k0 l) (by have := getD_short l 0 h0; unfold k0; omega)
    obtain ⟨h3, h4⟩ := hh
    have key : ∀ r, (Is 1 r = true ∨ Is 3 r = true) → (Is 2 r = true ∨ Is 4 r = true) → Is 3 r = true ∧ Is 4 r = true := fun r a b =>
      ⟨a.elim one_three id, b.elim two_four id⟩
    rw [Is_three, Bool.or_eq_true] at h3
    rw [Is_four, Bool.or_eq_true] at h4
    unfold plainB plainOnB at h3
    unfold pairedB pairedOnB at h4
    generalize hd l = k at h3 h4
    apply i0
    apply key
    · rcases h3 with h3 | h3
      all_goals
        repeat' split at h3
        all_goals (first | (simp only [Bool.and_eq_true] at h3; exact Or.inl h3.1) | (simp only [Bool.and_eq_true] at h3; exact Or.inr h3.1) | skip)
        all_goals (exfalso; rcases h4 with h4 | h4 <;> (repeat' split at h4) <;> first | omega | (cases h4; done) | (cases h3; done))
    · rcases h4 with h4 | h4
      all_goals
        repeat' split at h4
        all_goals (first | (simp only [Bool.and_eq_true] at h4; exact Or.inl h4.1) | (simp only [Bool.and_eq_true] at h4; exact Or.inr h4.1) | skip)
        all_goals (exfalso; rcases h3 with h3 | h3 <;> (repeat' split at h3) <;> first | omega | (cases h4; done) | (cases h3; done))
end Go.Proofs.YtpkbpooiaddcaaaGreat.So

namespace Go.Proofs.YtpkbpooiaddcaaaGreat.Tr
open Go Go.RowKit
set_option maxRecDepth 20000

/-- Are two rows of traces the same? -/
def same : List Tr → List Tr → Bool
  | [], [] => true
  | p :: l, q :: m => cmp p q == 0 && same l m
  | _, _ => false
theorem same_iff : ∀ l m : List Tr, same l m = true ↔ l = m
  | [], [] => by simp [same]
  | [], _ :: _ => by simp [same]
  | _ :: _, [] => by simp [same]
  | p :: l, q :: m => by
    simp only [same, Bool.and_eq_true, beq_iff_eq, same_iff l m, List.cons.injEq]
    exact and_congr_left fun _ => ⟨cmp_eq0, fun h => by rw [h]; exact cmp_self q⟩
theorem same_len : ∀ {l m : List Tr}, l.length ≠ m.length → same l m = false
  | [], [], h => absurd rfl h
  | [], _ :: _, _ => rfl
  | _ :: _, [], _ => rfl
  | p :: l, q :: m, h => by simp [same, same_len (l := l) (m := m) (by simpa using h)]
theorem same_at (l m : List Tr) (k : Nat) (h1 : k < l.length) (h2 : k < m.length) : same (l.drop k) (m.drop k) = (cmp l[k] m[k] == 0 && same (l.drop (k + 1)) (m.drop (k + 1))) := by
  rw [List.drop_eq_getElem_cons h1, List.drop_eq_getElem_cons h2]
  rfl

set_option maxHeartbeats 400000 in
theorem same_other (a1 a2 : Option Addr) (c1 c2 n m : Nat) (w : World) (h : n ≠ m) :
    Calls Tryz.prog 13 #[.slice a1 n c1, .slice a2 m c2] w fun e w' => e = .returned (.bool false) ∧ Below w.heap.size w w' := by
  have hne : ((n : Int) == (m : Int)) = false := by rw [beq_eq_false_iff_ne]; omega
  have hne' : ((n : Int) != (m : Int)) = true := by rw [bne_iff_ne]; omega
  go_enter Tryz.func13, Tryz.ntmps13
  go_wp2_with fail
  go_ret
  exact ⟨rfl, Below.refl _ _⟩
set_option maxHeartbeats 400000 in
theorem same_empty (a1 a2 : Option Addr) (c1 c2 : Nat) (w : World) :
    Calls Tryz.prog 13 #[.slice a1 0 c1, .slice a2 0 c2] w fun e w' => e = .returned (.bool true) ∧ Below w.heap.size w w' := by
  go_enter Tryz.func13, Tryz.ntmps13
  go_wp2_with fail
  refine Go.wp_loop_rounds 1 ?_
  rw [rounds_succ]
  go_wp2_with fail
  go_ret
  exact ⟨rfl, Below.refl _ _⟩

set_option maxHeartbeats 1000000 in
theorem same_cells (b1 o1 c1 b2 o2 c2 : Nat) (l m : List Tr) (w : World) (hf : Few l) (hg : Few m) (he : m.length = l.length)
    (h1 : ∀ k, (hk : k < l.length) → ∃ a, w.cell? ⟨b1, o1 + 2 * k, none⟩ = some a ∧ w.cell? ⟨b1, o1 + 2 * k + 1, none⟩ = some (.int .i64 l[k].e) ∧ Strs w a l[k].a)
    (h2 : ∀ k, (hk : k < m.length) → ∃ a, w.cell? ⟨b2, o2 + 2 * k, none⟩ = some a ∧ w.cell? ⟨b2, o2 + 2 * k + 1, none⟩ = some (.int .i64 m[k].e) ∧ Strs w a m[k].a) :
    Calls Tryz.prog 13 #[.slice (some ⟨b1, o1, none⟩) l.length c1, .slice (some ⟨b2, o2, none⟩) l.length c2] w fun e w' => e = .returned (.bool (same l m)) ∧ Below w.heap.size w w' := by
  have H1 := Lib.hid h1
  have H2 := Lib.hid h2
  have HF := Lib.hid hf
  have HG := Lib.hid hg
  have HE := Lib.hid he
  have hlen := hf.1
  clear h1 h2 hf hg he
  go_enter Tryz.func13, Tryz.ntmps13
  go_wp2_with fail
  go_loopw [5] (fun i wr => ∃ k : Nat, k ≤ l.length ∧ i = .int .i64 k ∧ Below w.heap.size w wr ∧ same l m = same (l.drop k) (m.drop k)) (fun i _ => l.length - (intOf i).toNat)
  case atStart => exact ⟨0, Nat.zero_le _, rfl, Below.refl _ _, rfl⟩
  case round =>
    obtain ⟨k, hk, rfl, hb, hsame⟩ := hrel
    have HB := Lib.hid hb
    have HS := Lib.hid hsame
    clear hb hsame
    by_cases hlt : k < l.length
    · have hlt2 : k < m.length := by rw [HE.out]; exact hlt
      obtain ⟨a, e1, e2, hs⟩ := H1.out k hlt
      obtain ⟨a', e1', e2', hs'⟩ := H2.out k hlt2
      have c1 : wr.cell? ⟨b1, o1 + k * 2, none⟩ = some a := by rw [Nat.mul_comm k 2, HB.out.cell (Ap.cell_lt e1)]; exact e1
      have c2 : wr.cell? ⟨b1, o1 + k * 2 + 1, none⟩ = some (.int .i64 l[k].e) := by rw [Nat.mul_comm k 2, HB.out.cell (Ap.cell_lt e2)]; exact e2
      have c3 : wr.cell? ⟨b2, o2 + k * 2, none⟩ = some a' := by rw [Nat.mul_comm k 2, HB.out.cell (Ap.cell_lt e1')]; exact e1'
      have c4 : wr.cell? ⟨b2, o2 + k * 2 + 1, none⟩ = some (.int .i64 m[k].e) := by rw [Nat.mul_comm k 2, HB.out.cell (Ap.cell_lt e2')]; exact e2'
      have HS1 := Lib.hid hs
      have HS2 := Lib.hid hs'
      have HA := Lib.hid (HS.out.trans (same_at l m k hlt hlt2))
      clear e1 e2 hs e1' e2' hs'
      obtain ⟨u, hu⟩ : ∃ u, l[k] = u := ⟨_, rfl⟩
      obtain ⟨v, hv⟩ : ∃ v, m[k] = v := ⟨_, rfl⟩
      have hua : u.a.length ≤ 1000000000000 := by rw [← hu]; exact HF.out.2 _ (List.getElem_mem hlt)
      have hva : v.a.length ≤ 1000000000000 := by rw [← hv]; exact HG.out.2 _ (List.getElem_mem hlt2)
      rw [hu] at c2 HS1 HA
      rw [hv] at c4 HS2 HA
      clear hu hv
      cases hcu : cmp u v == 0 with
      | true =>
        have hcn : (cmp u v != 0) = false := by rw [bne, hcu]; rfl
        go_wp2_with fail
        go_still_tail 8, (by kernel_rfl)
        change wpList _ _ _ _ _ wr.drew
        go_wp2_with fail
        refine (cmp_any _ _ u v _ (HS1.out.below HB.out.drew) (HS2.out.below HB.out.drew) hua hva).mono ?_
        rintro e w' ⟨rfl, hb'⟩
        go_wp2_with fail
        go_roundw
        case rel => exact ⟨k + 1, by omega, by go_num, HB.out.drew.trans (hb'.mono HB.out.size), by rw [HA.out, hcu]; rfl⟩
        case measure => simp [intOf]; omega
      | false =>
        have hcn : (cmp u v != 0) = true := by rw [bne, hcu]; rfl
        go_wp2_with fail
        go_still_tail 8, (by kernel_rfl)
        change wpList _ _ _ _ _ wr.drew
        go_wp2_with fail
        refine (cmp_any _ _ u v _ (HS1.out.below HB.out.drew) (HS2.out.below HB.out.drew) hua hva).mono ?_
        rintro e w' ⟨rfl, hb'⟩
        go_wp2_with fail
        go_ret
        exact ⟨ret_bool (by rw [HA.out, hcu]; rfl), HB.out.drew.trans (hb'.mono HB.out.size)⟩
    · go_wp2_with fail
      go_ret
      refine ⟨ret_bool ?_, HB.out⟩
      rw [HS.out, List.drop_eq_nil_of_le (by omega), List.drop_eq_nil_of_le (by rw [HE.out]; omega)]
      rfl

theorem same_any (x y : Value) (l m : List Tr) (w : World) (hx : Trs w x l) (hy : Trs w y m) (hf : Few l) (hg : Few m) :
    Calls Tryz.prog 13 #[x, y] w fun e w' => e = .returned (.bool (same l m)) ∧ Below w.heap.size w w' := by
  by_cases he : l.length = m.length
  · rcases hx.form with ⟨rfl, a, cap, rfl⟩ | ⟨b, off, cap, rfl, hc⟩
    · obtain rfl : m = [] := List.eq_nil_of_length_eq_zero he.symm
      obtain ⟨_, ⟨_, a', cap', rfl, _⟩, _⟩ := hy
      exact same_empty a a' cap cap' w
    · rcases hy.form with ⟨rfl, a', cap', rfl⟩ | ⟨b', off', cap', rfl, hc'⟩
      · obtain rfl : l = [] := List.eq_nil_of_length_eq_zero he
        exact same_empty _ a' cap cap' w
      · rw [← he]
        exact same_cells b off cap b' off' cap' l m w hf hg he.symm hc hc'
  · rw [same_len he]
    obtain ⟨_, ⟨_, a, cap, rfl, _⟩, _⟩ := hx
    obtain ⟨_, ⟨_, a', cap', rfl, _⟩, _⟩ := hy
    exact same_other a a' cap cap' l.length m.length w he
end Go.Proofs.YtpkbpooiaddcaaaGreat.Tr

namespace Go.Proofs.YtpkbpooiaddcaaaGreat.Tr
open Go Go.RowKit
set_option maxRecDepth 20000

/-- Below 0, 0, above 0. -/
def sg3 (c : Int) : Int := if c < 0 then -1 else if 0 < c then 1 else 0
/-- How one text stands to another. -/
def cmpS (x y : ByteArray) : Int := if ls x y then -1 else if ls y x then 1 else 0
/-- How one number stands to another. -/
def cmpI (x y : Int) : Int := if x < y then -1 else if y < x then 1 else 0

set_option maxHeartbeats 400000 in
theorem nanS (x : ByteArray) (w : World) : Calls Tryz.prog 135 #[.string x] w fun e w' => e = .returned (.bool false) ∧ w' = w := by
  have hxx : (x.toList == x.toList) = true := by simp
  go_enter Tryz.func135, Tryz.ntmps135
  go_wp2_with fail
  go_ret
  exact ⟨rfl, rfl⟩
set_option maxHeartbeats 400000 in
theorem nanI (x : Int) (w : World) : Calls Tryz.prog 119 #[.int .i64 x] w fun e w' => e = .returned (.bool false) ∧ w' = w := by
  go_enter Tryz.func119, Tryz.ntmps119
  go_wp2_with fail
  go_ret
  exact ⟨rfl, rfl⟩

set_option maxHeartbeats 1000000 in
theorem cmpS_any (x y : ByteArray) (w : World) : Calls Tryz.prog 118 #[.string x, .string y] w fun e w' => e = .returned (.int .i64 (cmpS x y)) ∧ w' = w := by
  cases hx : ls x y with
  | true =>
    have hx' : Op.bytesLess x.toList y.toList = true := hx
    have HX := Lib.hid hx
    clear hx
    go_enter Tryz.func118, Tryz.ntmps118
    go_wp2_with (go_at_call 135; refine (nanS _ _).mono ?_; rintro e w' ⟨rfl, rfl⟩)
    go_ret
    exact ⟨ret_int (by rw [cmpS, HX.out]; rfl), rfl⟩
  | false =>
    have hx' : Op.bytesLess x.toList y.toList = false := hx
    have hy' := eq_of_ls hx
    have HX := Lib.hid hx
    clear hx
    cases hy : ls y x with
    | true =>
      rw [hy] at hy'
      have HY := Lib.hid hy
      clear hy
      go_enter Tryz.func118, Tryz.ntmps118
      go_wp2_with (go_at_call 135; refine (nanS _ _).mono ?_; rintro e w' ⟨rfl, rfl⟩)
      go_ret
      exact ⟨ret_int (by rw [cmpS, HX.out, HY.out]; rfl), rfl⟩
    | false =>
      rw [hy] at hy'
      have HY := Lib.hid hy
      clear hy
      go_enter Tryz.func118, Tryz.ntmps118
      go_wp2_with (go_at_call 135; refine (nanS _ _).mono ?_; rintro e w' ⟨rfl, rfl⟩)
      go_ret
      exact ⟨ret_int (by rw [cmpS, HX.out, HY.out]; rfl), rfl⟩

set_option maxHeartbeats 1000000 in
theorem cmpI_any (x y : Int) (w : World) : Calls Tryz.prog 86 #[.int .i64 x, .int .i64 y] w fun e w' => e = .returned (.int .i64 (cmpI x y)) ∧ w' = w := by
  by_cases h1 : x < y
  · go_enter Tryz.func86, Tryz.ntmps86
    go_wp2_with (go_at_call 119; refine (nanI _ _).mono ?_; rintro e w' ⟨rfl, rfl⟩)
    go_ret
    exact ⟨ret_int (by rw [cmpI, if_pos h1]), rfl⟩
  · by_cases h2 : y < x
    · go_enter Tryz.func86, Tryz.ntmps86
      go_wp2_with (go_at_call 119; refine (nanI _ _).mono ?_; rintro e w' ⟨rfl, rfl⟩)
      go_ret
      exact ⟨ret_int (by rw [cmpI, if_neg (by omega), if_pos h2]), rfl⟩
    · go_enter Tryz.func86, Tryz.ntmps86
      go_wp2_with (go_at_call 119; refine (nanI _ _).mono ?_; rintro e w' ⟨rfl, rfl⟩)
      go_ret
      exact ⟨ret_int (by rw [cmpI, if_neg (by omega), if_neg (by omega)]), rfl⟩

theorem sg3_at (l m : List ByteArray) (k : Nat) (h1 : k < l.length) (h2 : k < m.length) :
    sg3 (row (l.drop k) (m.drop k)) = if cmpS l[k] m[k] = 0 then sg3 (row (l.drop (k + 1)) (m.drop (k + 1))) else cmpS l[k] m[k] := by
  rw [row_at l m k h1 h2, cmpS]
  cases ls l[k] m[k] with
  | true => rfl
  | false =>
    cases ls m[k] l[k] with
    | true => rfl
    | false => rfl
theorem sg3_over (l m : List ByteArray) (k : Nat) (h1 : k < l.length) (h2 : ¬ k < m.length) (h3 : k ≤ m.length) : sg3 (row (l.drop k) (m.drop k)) = 1 := by
  rw [row_end l m k (by omega) h3 (.inr h2), sg3, if_neg (by omega), if_pos (by omega)]
theorem sg3_end (l m : List ByteArray) (k : Nat) (h1 : k = l.length) (h3 : k ≤ m.length) : sg3 (row (l.drop k) (m.drop k)) = if l.length < m.length then -1 else 0 := by
  rw [row_end l m k (by omega) h3 (.inl (by omega)), sg3]
  by_cases h : l.length < m.length
  · rw [if_pos (by omega), if_pos h]
  · rw [if_neg (by omega), if_neg (by omega), if_neg h]

set_option maxHeartbeats 1000000 in
theorem rowc_cells (b1 o1 c1 b2 o2 c2 : Nat) (l m : List ByteArray) (w : World) (hl : l.length ≤ 1000000000000) (_hm : m.length ≤ 1000000000000)
    (h1 : ∀ k, (h : k < l.length) → w.cell? ⟨b1, o1 + k, none⟩ = some (.string l[k])) (h2 : ∀ k, (h : k < m.length) → w.cell? ⟨b2, o2 + k, none⟩ = some (.string m[k])) :
    Calls Tryz.prog 85 #[.slice (some ⟨b1, o1, none⟩) l.length c1, .slice (some ⟨b2, o2, none⟩) m.length c2] w fun e w' => e = .returned (.int .i64 (sg3 (row l m))) ∧ w' = w := by
  have H1 := Lib.hid h1
  have H2 := Lib.hid h2
  clear h1 h2
  go_enter Tryz.func85, Tryz.ntmps85
  go_wp2_with fail
  go_loopw [11] (fun i wr => ∃ k : Nat, k ≤ l.length ∧ k ≤ m.length ∧ i = .int .i64 k ∧ wr = w ∧ sg3 (row l m) = sg3 (row (l.drop k) (m.drop k))) (fun i _ => l.length - (intOf i).toNat)
  case atStart => exact ⟨0, Nat.zero_le _, Nat.zero_le _, rfl, rfl, rfl⟩
  case round =>
    obtain ⟨k, hk1, hk2, rfl, rfl, hrow⟩ := hrel
    have HROW := Lib.hid hrow
    clear hrow
    by_cases hlt : k < l.length
    · have e1 := H1.out k hlt
      by_cases hlt2 : k < m.length
      · have e2 := H2.out k hlt2
        have HA := Lib.hid (HROW.out.trans (sg3_at l m k hlt hlt2))
        obtain ⟨x, hx⟩ : ∃ x, l[k] = x := ⟨_, rfl⟩
        obtain ⟨y, hy⟩ : ∃ y, m[k] = y := ⟨_, rfl⟩
        rw [hx] at e1 HA
        rw [hy] at e2 HA
        clear hx hy
        obtain ⟨c, hc⟩ : ∃ c, cmpS x y = c := ⟨_, rfl⟩
        have HC := Lib.hid (cmpS_any x y)
        rw [hc] at HA HC
        clear hc
        by_cases h0 : c = 0
        · subst h0
          go_wp2_with (go_at_call 118; refine (HC.out _).mono ?_; rintro e w' ⟨rfl, rfl⟩)
          go_roundw
          case rel => exact ⟨k + 1, by omega, by omega, by go_num, (by first | rfl | trivial), HA.out⟩
          case measure => simp [intOf]; omega
        · have H0 := Lib.hid h0
          go_wp2_with (go_at_call 118; refine (HC.out _).mono ?_; rintro e w' ⟨rfl, rfl⟩)
          go_ret
          exact ⟨ret_int (by rw [HA.out, if_neg H0.out]), rfl⟩
      · have HE := Lib.hid (HROW.out.trans (sg3_over l m k hlt hlt2 hk2))
        go_wp2_with fail
        go_ret
        exact ⟨ret_int HE.out.symm, rfl⟩
    · have HE := Lib.hid (HROW.out.trans (sg3_end l m k (by omega) hk2))
      by_cases hlm : l.length < m.length
      · rw [if_pos hlm] at HE
        go_wp2_with fail
        go_ret
        exact ⟨ret_int HE.out.symm, rfl⟩
      · rw [if_neg hlm] at HE
        go_wp2_with fail
        go_ret
        exact ⟨ret_int HE.out.symm, rfl⟩

set_option maxHeartbeats 400000 in
theorem rowc_empty_l (a1 a2 : Option Addr) (c1 c2 n : Nat) (w : World) (_hn : n ≤ 1000000000000) :
    Calls Tryz.prog 85 #[.slice a1 0 c1, .slice a2 n c2] w fun e w' => e = .returned (.int .i64 (if 0 < n then -1 else 0)) ∧ w' = w := by
  by_cases h : 0 < n
  · rw [if_pos h]
    go_enter Tryz.func85, Tryz.ntmps85
    go_wp2_with fail
    refine Go.wp_loop_rounds 1 ?_
    rw [rounds_succ]
    go_wp2_with fail
    go_ret
    exact ⟨rfl, rfl⟩
  · rw [if_neg h]
    go_enter Tryz.func85, Tryz.ntmps85
    go_wp2_with fail
    refine Go.wp_loop_rounds 1 ?_
    rw [rounds_succ]
    go_wp2_with fail
    go_ret
    exact ⟨rfl, rfl⟩
set_option maxHeartbeats 400000 in
theorem rowc_empty_r (b1 o1 c1 : Nat) (a2 : Option Addr) (c2 n : Nat) (w : World) (x : ByteArray) (_hn : n ≤ 1000000000000) (h0 : 0 < n) (h1 : w.cell? ⟨b1, o1, none⟩ = some (.string x)) :
    Calls Tryz.prog 85 #[.slice (some ⟨b1, o1, none⟩) n c1, .slice a2 0 c2] w fun e w' => e = .returned (.int .i64 1) ∧ w' = w := by
  go_enter Tryz.func85, Tryz.ntmps85
  go_wp2_with fail
  refine Go.wp_loop_rounds 1 ?_
  rw [rounds_succ]
  go_wp2_with fail
  go_ret
  exact ⟨rfl, rfl⟩

theorem rowc_any (v1 v2 : Value) (l m : List ByteArray) (w : World) (h1 : Strs w v1 l) (h2 : Strs w v2 m) (hl : l.length ≤ 1000000000000) (hm : m.length ≤ 1000000000000) :
    Calls Tryz.prog 85 #[v1, v2] w fun e w' => e = .returned (.int .i64 (sg3 (row l m))) ∧ w' = w := by
  have hL : ∀ m : List ByteArray, sg3 (row [] m) = if 0 < m.length then -1 else 0 := fun m => by
    have := sg3_end [] m 0 rfl (Nat.zero_le _)
    simpa using this
  rcases h1.form with ⟨rfl, a1, c1, rfl⟩ | ⟨b1, o1, c1, rfl, hc1⟩
  · obtain ⟨_, a2, c2, rfl, _⟩ := h2
    rw [hL]
    exact rowc_empty_l a1 a2 c1 c2 m.length w hm
  · by_cases h0 : 0 < l.length
    · rcases h2.form with ⟨rfl, a2, c2, rfl⟩ | ⟨b2, o2, c2, rfl, hc2⟩
      · rw [row_nil_r, sg3, if_neg (by omega), if_pos (by omega)]
        exact rowc_empty_r b1 o1 c1 a2 c2 l.length w l[0] hl h0 (hc1 0 h0)
      · exact rowc_cells b1 o1 c1 b2 o2 c2 l m w hl hm hc1 hc2
    · obtain rfl : l = [] := List.eq_nil_of_length_eq_zero (by omega)
      obtain ⟨_, a2, c2, rfl, _⟩ := h2
      rw [hL]
      exact rowc_empty_l _ a2 c1 c2 m.length w hm

set_option maxHeartbeats 400000 in
theorem or2_any (x y : Int) (b : Nat) (w : World) (h1 : w.cell? ⟨b, 0, none⟩ = some (.int .i64 x)) (h2 : w.cell? ⟨b, 1, none⟩ = some (.int .i64 y)) :
    Calls Tryz.prog 84 #[.slice (some ⟨b, 0, none⟩) 2 2] w fun e w' => e = .returned (.int .i64 (if x = 0 then y else x)) ∧ w' = w := by
  by_cases hx : x = 0
  · rw [if_pos hx]
    subst hx
    by_cases hy : y = 0
    · subst hy
      go_enter Tryz.func84, Tryz.ntmps84
      go_wp2_with fail
      refine Go.wp_loop_rounds 3 ?_
      rw [rounds_succ]
      go_wp2_with fail
      rw [rounds_succ]
      go_wp2_with fail
      rw [rounds_succ]
      go_wp2_with fail
      go_ret
      exact ⟨rfl, rfl⟩
    · go_enter Tryz.func84, Tryz.ntmps84
      go_wp2_with fail
      refine Go.wp_loop_rounds 2 ?_
      rw [rounds_succ]
      go_wp2_with fail
      rw [rounds_succ]
      go_wp2_with fail
      go_ret
      exact ⟨rfl, rfl⟩
  · rw [if_neg hx]
    go_enter Tryz.func84, Tryz.ntmps84
    go_wp2_with fail
    refine Go.wp_loop_rounds 1 ?_
    rw [rounds_succ]
    go_wp2_with fail
    go_ret
    exact ⟨rfl, rfl⟩
theorem cmp_or (p q : Tr) : (if sg3 (row p.a q.a) = 0 then cmpI p.e q.e else sg3 (row p.a q.a)) = cmp p q := by
  rcases Int.lt_trichotomy (row p.a q.a) 0 with h | h | h
  · have e : sg3 (row p.a q.a) = -1 := by rw [sg3, if_pos h]
    rw [e, if_neg (by decide)]
    have := cmp_neg (p := p) (q := q) |>.2 (.inl h)
    have := cmp_bd p q
    omega
  · have e : sg3 (row p.a q.a) = 0 := by rw [h]; rfl
    rw [e, if_pos rfl, cmpI, cmp]
    simp [h]
    repeat' split
    all_goals omega
  · have e : sg3 (row p.a q.a) = 1 := by rw [sg3, if_neg (by omega), if_pos h]
    rw [e, if_neg (by decide)]
    have h2 : row q.a p.a < 0 := (row_anti _ _).2 h
    have := cmp_neg (p := q) (q := p) |>.2 (.inl h2)
    have := cmp_anti p q
    have := cmp_bd p q
    omega
end Go.Proofs.YtpkbpooiaddcaaaGreat.Tr

namespace Go.Proofs.YtpkbpooiaddcaaaGreat.Rw
open Go Go.RowKit
set_option maxRecDepth 20000

theorem cnt_yes (l : List Nd) (ks : List Int) (k : Nat) (h : k < l.length) (hm : l[k].k ∈ ks) : cnt (l.take (k + 1)) ks = cnt (l.take k) ks + 1 := by
  unfold cnt
  rw [List.take_succ_eq_append_getElem h, List.countP_append]
  simp [hm]
theorem cnt_no (l : List Nd) (ks : List Int) (k : Nat) (h : k < l.length) (hm : ¬ l[k].k ∈ ks) : cnt (l.take (k + 1)) ks = cnt (l.take k) ks := by
  unfold cnt
  rw [List.take_succ_eq_append_getElem h, List.countP_append]
  simp [hm]
end Go.Proofs.YtpkbpooiaddcaaaGreat.Rw

namespace Go.Proofs.YtpkbpooiaddcaaaGreat.Rw
open Go Go.RowKit
set_option maxRecDepth 20000

theorem nd_ext {x y : Nd} : x = y ↔ x.k = y.k ∧ x.n = y.n ∧ x.s = y.s := by
  cases x; cases y; simp
theorem eql_nd (d : Nat) (x y : Nd) (w : World) : (Op.equalIn (d + 2) 41 (.agg #[.int .i64 x.k, .string x.n, .int .i64 x.s]) (.agg #[.int .i64 y.k, .string y.n, .int .i64 y.s])).run Tryz.prog w = .ok (decide (x = y)) w := by
  rw [run_equalIn_struct w (d + 1) _ _ _ (by kernel_rfl) (by kernel_rfl)]
  simp only [Program.fieldsOf, Tryz.underlying41]
  by_cases h1 : x.k = y.k
  · by_cases h2 : x.n = y.n
    · by_cases h3 : x.s = y.s
      · rw [decide_eq_true (nd_ext.2 ⟨h1, h2, h3⟩), h1, h2, h3]
        simp [go_sem, Op.eqFields]
      · rw [decide_eq_false (fun e => h3 (nd_ext.1 e).2.2), h1, h2]
        simp [go_sem, Op.eqFields, h3]
    · have e2 : (x.n.toList == y.n.toList) = false := by
        rw [ByteArray.toList_eq y.n]
        exact str_ne' fun e => h2 (by rw [e])
      rw [decide_eq_false (fun e => h2 (nd_ext.1 e).2.1), h1]
      simp [go_sem, Op.eqFields, e2]
  · rw [decide_eq_false (fun e => h1 (nd_ext.1 e).1)]
    simp [go_sem, Op.eqFields, h1]
theorem neq_nd (x y : Nd) (w : World) : (binOp .neq 41 (.agg #[.int .i64 x.k, .string x.n, .int .i64 x.s]) (.agg #[.int .i64 y.k, .string y.n, .int .i64 y.s])).run Tryz.prog w = .ok (.bool (!decide (x = y))) w := by
  rw [run_neq_struct, show (10000 : Nat) = 9998 + 2 from rfl, eql_nd]
  rfl
end Go.Proofs.YtpkbpooiaddcaaaGreat.Rw

namespace Go.Proofs.YtpkbpooiaddcaaaGreat.Rw
open Go Go.RowKit
set_option maxRecDepth 20000

/-- What the loop has made: the first k kids, in a row of its own. -/
def Made (w wr : World) (v : Value) (l : List Nd) (k p : Nat) : Prop := ∃ cs d, Far l 0 k p d ∧ wr.ownsRow w.heap.size 22 1 v k cs ∧ RwC w cs (kidsN k (l.drop 1)) ∧ Below w.heap.size w wr
theorem Made.start (w : World) (l : List Nd) : Made w w (.slice none 0 0) l 0 1 := ⟨[], 0, Far.start l 0, ⟨rfl, .inl ⟨rfl, rfl⟩⟩, trivial, Below.refl _ _⟩
theorem Made.next {w wr : World} {v : Value} {l : List Nd} {k p c' d' b off cap : Nat} (h : Made w wr v l k p) (ht : T (l.drop p) = some (c', d')) (hat : At w b off l) (hp : p + c' ≤ l.length) (hc : c' ≤ cap) (hk : k ≤ 2) :
    ∃ v' w', (Builtin.append_ #[62, 62] 62 #[v, .slice (some ⟨wr.heap.size, 0, none⟩) 1 1]).run Tryz.prog (wr.alloc (.cells #[.slice (some ⟨b, off + p * 3, none⟩) c' cap] 22)) = .ok v' w' ∧ Made w w' v' l (k + 1) (p + c') := by
  obtain ⟨cs, d, hfar, hown, hrw, hb⟩ := h
  obtain ⟨i0, hi, hz, hs1, hb8⟩ := info_parts infoR
  obtain ⟨v', w', h1, h2, h3, h4, h5⟩ := Ap.run_append_one (P := Tryz.prog) (ty := 62) Tryz.underlying62 hi hz hs1 hb8 (by rfl) (by omega) hown hb.size #[.slice (some ⟨b, off + p * 3, none⟩) c' cap] rfl
    (by intro u hu; simp at hu; subst hu; rfl) (by unfold maxLen; omega) (by omega)
  refine ⟨v', w', h1, cs ++ [.slice (some ⟨b, off + p * 3, none⟩) c' cap], max d d', hfar.next ht, h2, ?_, hb.trans h4⟩
  rw [kids_next hfar ht]
  exact hrw.snoc (part_nds hat p c' cap hp hc)

end Go.Proofs.YtpkbpooiaddcaaaGreat.Rw

namespace Go.Proofs.YtpkbpooiaddcaaaGreat.Tr
open Go Go.RowKit
set_option maxRecDepth 20000

theorem infoT : (Tryz.prog.info? 53).map (fun i => (i.zero, i.size, i.bytes)) = some (some (.agg #[.slice none 0 0, .int .i64 0]), 2, 32) := by kernel_rfl

theorem TrCells.snoc {w : World} {a : Value} {t : Tr} (ha : Strs w a t.a) : ∀ {cs : List Value} {ts : List Tr}, TrCells w cs ts → TrCells w (cs ++ [a, .int .i64 t.e]) (ts ++ [t])
  | [], [], _ => ⟨ha, rfl, trivial⟩
  | _ :: _ :: _, _ :: _, h => ⟨h.1, h.2.1, TrCells.snoc ha h.2.2⟩
  | [], _ :: _, h => h.elim
  | [_], [], h => h.elim
  | [_], _ :: _, h => h.elim
  | _ :: _ :: _, [], h => h.elim

theorem mg_lt (l m : List Tr) (p q : Nat) (h1 : p < l.length) (h2 : q < m.length) (h : cmp l[p] m[q] < 0) :
    mg (l.length + m.length + 1 - p - q) (l.drop p) (m.drop q) = l[p] :: mg (l.length + m.length + 1 - (p + 1) - q) (l.drop (p + 1)) (m.drop q) := by
  rw [List.drop_eq_getElem_cons h1, List.drop_eq_getElem_cons h2, show l.length + m.length + 1 - p - q = (l.length + m.length + 1 - (p + 1) - q) + 1 by omega, mg, if_pos h]
theorem mg_eq (l m : List Tr) (p q : Nat) (h1 : p < l.length) (h2 : q < m.length) (h : cmp l[p] m[q] = 0) :
    mg (l.length + m.length + 1 - p - q) (l.drop p) (m.drop q) = l[p] :: mg (l.length + m.length + 1 - (p + 1) - (q + 1)) (l.drop (p + 1)) (m.drop (q + 1)) := by
  rw [List.drop_eq_getElem_cons h1, List.drop_eq_getElem_cons h2, show l.length + m.length + 1 - p - q = (l.length + m.length + 1 - (p + 1) - q) + 1 by omega, mg, if_neg (by omega), if_pos h,
    mg_fuel _ (l.length + m.length + 1 - (p + 1) - (q + 1)) _ _ (by simp; omega) (by simp; omega)]
theorem mg_gt (l m : List Tr) (p q : Nat) (h1 : p < l.length) (h2 : q < m.length) (h : 0 < cmp l[p] m[q]) :
    mg (l.length + m.length + 1 - p - q) (l.drop p) (m.drop q) = m[q] :: mg (l.length + m.length + 1 - p - (q + 1)) (l.drop p) (m.drop (q + 1)) := by
  rw [List.drop_eq_getElem_cons h1, List.drop_eq_getElem_cons h2, show l.length + m.length + 1 - p - q = (l.length + m.length + 1 - p - (q + 1)) + 1 by omega, mg, if_neg (by omega), if_neg (by omega)]
theorem mg_l (l m : List Tr) (p q : Nat) (h1 : p < l.length) (h2 : q = m.length) :
    mg (l.length + m.length + 1 - p - q) (l.drop p) (m.drop q) = l[p] :: mg (l.length + m.length + 1 - (p + 1) - q) (l.drop (p + 1)) (m.drop q) := by
  subst h2
  rw [List.drop_eq_getElem_cons h1, List.drop_length, show l.length + m.length + 1 - p - m.length = (l.length + m.length + 1 - (p + 1) - m.length) + 1 by omega]
  obtain ⟨n, hn⟩ : ∃ n, l.length + m.length + 1 - (p + 1) - m.length = n + 1 := ⟨l.length - p - 1, by omega⟩
  rw [hn]
  cases l.drop (p + 1) <;> simp [mg]
theorem mg_r (l m : List Tr) (p q : Nat) (h1 : p = l.length) (h2 : q < m.length) :
    mg (l.length + m.length + 1 - p - q) (l.drop p) (m.drop q) = m[q] :: mg (l.length + m.length + 1 - p - (q + 1)) (l.drop p) (m.drop (q + 1)) := by
  subst h1
  rw [List.drop_eq_getElem_cons h2, List.drop_length, show l.length + m.length + 1 - l.length - q = (l.length + m.length + 1 - l.length - (q + 1)) + 1 by omega]
  obtain ⟨n, hn⟩ : ∃ n, l.length + m.length + 1 - l.length - (q + 1) = n + 1 := ⟨m.length - q - 1, by omega⟩
  rw [hn]
  simp [mg]
theorem mg_end (l m : List Tr) (p q n : Nat) (h1 : p = l.length) (h2 : q = m.length) : mg n (l.drop p) (m.drop q) = [] := by
  subst h1; subst h2
  cases n <;> simp [mg]

end Go.Proofs.YtpkbpooiaddcaaaGreat.Tr

namespace Go.Proofs.YtpkbpooiaddcaaaGreat.Tr
open Go Go.RowKit
set_option maxRecDepth 20000

theorem below_grow (w : World) (n : Nat) (os : Array Obj) : Below w.heap.size w (Go.Sort.grow (w.drewN n) os) :=
  ⟨rfl, rfl, rfl, by simp [Go.Sort.grow, World.drewN], fun k hk => by
    show (w.heap ++ os)[k]? = w.heap[k]?
    rw [Array.getElem?_append_left hk]⟩
theorem grow2_eq (w : World) (x y : Obj) : (w.alloc x).alloc y = Go.Sort.grow w #[x, y] := by
  rw [Go.Sort.alloc_eq_grow, Go.Sort.alloc_eq_grow, Go.Sort.grow_grow]
  rfl
theorem grow3_eq (w : World) (x y z : Obj) : ((w.alloc x).alloc y).alloc z = Go.Sort.grow w #[x, y, z] := by
  rw [grow2_eq, Go.Sort.alloc_eq_grow, Go.Sort.grow_grow]
  rfl
theorem grow3_drew (w : World) (x y z : Obj) : (((w.alloc x).alloc y).alloc z).drew = Go.Sort.grow (w.drewN 1) #[x, y, z] := by
  rw [grow3_eq]
  rfl
theorem strs_alloc2 {w : World} {v : Value} {l : List ByteArray} (h : Strs w v l) (x y : Obj) : Strs (((w.alloc x).alloc y).drew) v l :=
  h.below (((Below.refl _ _).alloc (Nat.le_refl _) x).alloc (by simp) y).drew

set_option maxHeartbeats 2000000 in
theorem against_any (v1 v2 : Value) (p q : Tr) (w : World) (h1 : Strs w v1 p.a) (h2 : Strs w v2 q.a) (hl : p.a.length ≤ 1000000000000) (hm : q.a.length ≤ 1000000000000) :
    Calls Tryz.prog 59 #[.agg #[v1, .int .i64 p.e], .agg #[v2, .int .i64 q.e]] w fun e w' => e = .returned (.int .i64 (cmp p q)) ∧ ∃ n os, w' = Go.Sort.grow (w.drewN n) os := by
  have H1 := Lib.hid (strs_alloc2 h1)
  have H2 := Lib.hid (strs_alloc2 h2)
  obtain ⟨_, a1, c1, rfl, -⟩ := h1
  obtain ⟨_, a2, c2, rfl, -⟩ := h2
  have HC := Lib.hid (cmp_or p q)
  obtain ⟨x, hx⟩ : ∃ x, sg3 (row p.a q.a) = x := ⟨_, rfl⟩
  obtain ⟨y, hy⟩ : ∃ y, cmpI p.e q.e = y := ⟨_, rfl⟩
  have R1 : Hid (∀ w, Strs w (.slice a1 p.a.length c1) p.a → Strs w (.slice a2 q.a.length c2) q.a → Calls Tryz.prog 85 #[.slice a1 p.a.length c1, .slice a2 q.a.length c2] w fun e w' => e = .returned (.int .i64 x) ∧ w' = w) := Lib.hid (fun w ha hb => by rw [← hx]; exact rowc_any _ _ _ _ w ha hb hl hm)
  have R2 : Hid (∀ w, Calls Tryz.prog 86 #[.int .i64 p.e, .int .i64 q.e] w fun e w' => e = .returned (.int .i64 y) ∧ w' = w) := Lib.hid (fun w => by rw [← hy]; exact cmpI_any _ _ w)
  rw [hx, hy] at HC
  have R3 : Hid (∀ b w, w.cell? ⟨b, 0, none⟩ = some (.int .i64 x) → w.cell? ⟨b, 1, none⟩ = some (.int .i64 y) → Calls Tryz.prog 84 #[.slice (some ⟨b, 0, none⟩) 2 2] w fun e w' => e = .returned (.int .i64 (cmp p q)) ∧ w' = w) := Lib.hid (fun b w ha hb => by rw [← HC.out]; exact or2_any x y b w ha hb)
  clear hx hy HC
  go_enter Tryz.func59, Tryz.ntmps59
  go_wp2_with fail
  go_region_held3 (fun w' => w'.cell? ⟨w.heap.size, 0, none⟩ = some (.slice a1 p.a.length c1) ∧ w'.cell? ⟨w.heap.size, 1, none⟩ = some (.int .i64 p.e) ∧ w'.cell? ⟨w.heap.size + 1, 0, none⟩ = some (.slice a2 q.a.length c2) ∧ w'.cell? ⟨w.heap.size + 1, 1, none⟩ = some (.int .i64 q.e)) (first | (simp [go_sem]; done) | go_keep | fail) (first
    | (go_at_call 85
       refine (R1.out _ (H1.out _ _) (H2.out _ _)).mono ?_
       rintro e w' ⟨rfl, rfl⟩)
    | (go_at_call 86
       refine (R2.out _).mono ?_
       rintro e w' ⟨rfl, rfl⟩)
    | (go_at_call 84
       refine (R3.out _ _ (by simp [go_sem]) (by simp [go_sem])).mono ?_
       rintro e w' ⟨rfl, rfl⟩)
    | fail)
  go_wp2_with fail
  go_ret
  exact ⟨rfl, 1, _, grow3_drew _ _ _ _⟩

/-- The program's test whether two traces of a row are the same one. -/
def EqPost (p q : Tr) (w : World) (e : Ending) (w' : World) : Prop := e = .returned (.bool (cmp p q == 0)) ∧ Below w.heap.size w w'
set_option maxHeartbeats 1000000 in
theorem set1_any (v1 v2 : Value) (p q : Tr) (w : World) (h1 : Strs w v1 p.a) (h2 : Strs w v2 q.a) (hl : p.a.length ≤ 1000000000000) (hm : q.a.length ≤ 1000000000000) :
    Calls Tryz.prog 61 #[.agg #[v1, .int .i64 p.e], .agg #[v2, .int .i64 q.e]] w (EqPost p q w) := by
  have H1 := Lib.hid (fun x y => h1.below (((Below.refl _ _).alloc (Nat.le_refl _) x).alloc (by simp) y))
  have H2 := Lib.hid (fun x y => h2.below (((Below.refl _ _).alloc (Nat.le_refl _) x).alloc (by simp) y))
  obtain ⟨_, a1, c1, rfl, -⟩ := h1
  obtain ⟨_, a2, c2, rfl, -⟩ := h2
  have HB : Hid (∀ x y n os, Below w.heap.size w (Go.Sort.grow (((w.alloc x).alloc y).drewN n) os)) := Lib.hid fun x y n os => (((Below.refl _ _).alloc (Nat.le_refl _) _).alloc (by simp) _).trans ((below_grow _ n os).mono (by simp; omega))
  unfold EqPost
  cases hc : cmp p q == 0 with
  | true =>
    have hc' : cmp p q = 0 := by simpa using hc
    have A := Lib.hid (fun w ha hb => against_any (.slice a1 p.a.length c1) (.slice a2 q.a.length c2) p q w ha hb hl hm)
    rw [hc'] at A
    clear hc hc'
    go_enter Tryz.func61, Tryz.ntmps61
    go_wp2_with (go_at_call 59; refine (A.out _ (H1.out _ _) (H2.out _ _)).mono ?_; rintro e w' ⟨rfl, n, os, rfl⟩)
    go_ret
    exact ⟨rfl, HB.out _ _ n os⟩
  | false =>
    have hc' : cmp p q ≠ 0 := by simpa using hc
    have A := Lib.hid (fun w ha hb => against_any (.slice a1 p.a.length c1) (.slice a2 q.a.length c2) p q w ha hb hl hm)
    generalize cmp p q = c at A hc' ⊢
    clear hc
    go_enter Tryz.func61, Tryz.ntmps61
    go_wp2_with (go_at_call 59; refine (A.out _ (H1.out _ _) (H2.out _ _)).mono ?_; rintro e w' ⟨rfl, n, os, rfl⟩)
    go_ret
    exact ⟨by simp [hc'], HB.out _ _ n os⟩
end Go.Proofs.YtpkbpooiaddcaaaGreat.Tr
