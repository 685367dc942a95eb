/- Arguments that are nodes, and rows of nodes: how they lie in memory, and what the reach says of them. The document's Same over any rows of traces. Plain: the sorts of trees. Nodes appended; rows of rows of nodes, and parts of rows. Nodes that are compared as structs. How many nodes are of some kinds: plain. The program's order of traces: cmp.Compare, slices.Compare, cmp.Or, the method against and Compare: the walks. The document's merge of two rows of traces: the walk. The document's Kids. The document's One and Two. The program's Make. -/
import Derived.Test.YtekblibhaipioaaGreatQ04
import Derived.Test.YtekblibhaipioaaGreatQ02
import Derived.Deep.Strs
import Derived.Deep.Slices
import Derived.Lib.SmallJoins
import Derived.Laws.AppendOwn
import Derived.Laws.StructEq

namespace Go.Proofs.YtekblibhaipioaaGreat.Rw
open Go Go.RowKit Go.ChangeShapes Go.WideShapes
set_option maxRecDepth 100000
section
variable {H : Type} {enc : TypeId × Value → H} {P : Program} {w : World}
def nodeD (x : Nd) : DataW H := .agg [.lit (.int .i64 x.k), .lit (.string x.n.data.toList), .lit (.int .i64 x.s)]
theorem nd_of {held : Bool} {fuel : Nat} {t ti ts tj : TypeId} {f0 f1 f2 : Field} {cs : List Value} {x : DataW H × List MemPlace} (ut : P.underlying t = some (.struct #[f0, f1, f2])) (ct : P.cellsOf t = 3) (h0 : f0.type = ti) (o0 : f0.offset = 0) (h1 : f1.type = ts) (o1 : f1.offset = 1) (h2 : f2.type = tj) (o2 : f2.offset = 2)
    (ui : P.underlying ti = some (.int .i64)) (ci : P.cellsOf ti = 1) (us : P.underlying ts = some .string) (cs1 : P.cellsOf ts = 1) (uj : P.underlying tj = some (.int .i64)) (cj : P.cellsOf tj = 1)
    (h : DataW.trod enc P w 0 (fun _ => true) held fuel t cs = some x) : ∃ n : Nd, cs = cl n ∧ x.1 = nodeD n := by
  obtain ⟨y0, y1, y2, n, rfl, hl, hy0, hy1, hy2⟩ := Deep.trod_struct3 ut h
  rw [ct] at hl
  match cs, hl with
  | [a, b, c], _ =>
    rw [h0, o0, ci] at hy0
    rw [h1, o1, cs1] at hy1
    rw [h2, o2, cj] at hy2
    obtain ⟨k, e1, e2, _⟩ := DataW.trod_int ui hy0
    obtain ⟨s, e3, e4, _⟩ := DataW.trod_string us hy1
    obtain ⟨j, e5, e6, _⟩ := DataW.trod_int uj hy2
    have e1' : a = .int .i64 k := by simpa using e1
    have e3' : b = .string s := by simpa using e3
    have e5' : c = .int .i64 j := by simpa using e5
    subst e1' e3' e5'
    exact ⟨⟨k, s, j⟩, rfl, by simp [nodeD, e2, e4, e6]⟩
def nodesD (l : List Nd) (d : DataW H) : Prop := (l = [] ∧ d = .nil) ∨ ∃ sp : List (DataW H), d = .slice (l.map nodeD) sp
theorem trip_at (f : Nat → Nd) : ∀ (n j : Nat) (u : Value), (cls ((List.range n).map f))[j]? = some u → ∃ i k, i < n ∧ k < 3 ∧ j = i * 3 + k ∧ (cl (f i))[k]? = some u := by
  intro n j u hu
  have hlen : (cls ((List.range n).map f)).length = n * 3 := by rw [cls_len]; simp
  have hj : j < n * 3 := by
    have := (List.getElem?_eq_some_iff.1 hu).1
    omega
  have hk : j / 3 < ((List.range n).map f).length := by simp; omega
  obtain ⟨h1, h2, h3⟩ := cls_at _ (j / 3) hk
  have hx : ((List.range n).map f)[j / 3] = f (j / 3) := by simp
  rw [hx] at h1 h2 h3
  have hr : j % 3 = 0 ∨ j % 3 = 1 ∨ j % 3 = 2 := by omega
  rcases hr with hr | hr | hr
  · rw [← show j = j / 3 * 3 by omega] at h1
    exact ⟨j / 3, 0, by omega, by omega, by omega, by rw [← hu, h1]; rfl⟩
  · rw [← show j = j / 3 * 3 + 1 by omega] at h2
    exact ⟨j / 3, 1, by omega, by omega, by omega, by rw [← hu, h2]; rfl⟩
  · rw [← show j = j / 3 * 3 + 2 by omega] at h3
    exact ⟨j / 3, 2, by omega, by omega, by omega, by rw [← hu, h3]; rfl⟩
theorem nds_of {held : Bool} {fuel : Nat} {tt t ti ts tj : TypeId} {f0 f1 f2 : Field} {v : Value} {x : DataW H × List MemPlace} (utt : P.underlying tt = some (.slice t)) (ut : P.underlying t = some (.struct #[f0, f1, f2])) (ct : P.cellsOf t = 3) (h0 : f0.type = ti) (o0 : f0.offset = 0) (h1 : f1.type = ts) (o1 : f1.offset = 1) (h2 : f2.type = tj) (o2 : f2.offset = 2)
    (ui : P.underlying ti = some (.int .i64)) (ci : P.cellsOf ti = 1) (us : P.underlying ts = some .string) (cs1 : P.cellsOf ts = 1) (uj : P.underlying tj = some (.int .i64)) (cj : P.cellsOf tj = 1)
    (h : DataW.trod enc P w 0 (fun _ => true) held fuel tt [v] = some x) : ∃ l : List Nd, Nds w v l ∧ nodesD l x.1 := by
  rcases Deep.open_slice utt h with ⟨hcs, rfl⟩ | ⟨a, len, cap, m, n, D, Pl, hcs, _, hl, hm, hmm, rfl, hel⟩
  · cases hcs
    exact ⟨[], ⟨rfl, none, 0, rfl, Nat.le_refl _, fun _ => ⟨rfl, rfl⟩, fun h => absurd h (by simp)⟩, .inl ⟨rfl, rfl⟩⟩
  · cases hcs
    have hm' : m = cap := by simpa using hmm
    subst hm'
    rw [ct] at hel
    obtain ⟨F, hF⟩ : ∃ F : Nat → Nd, ∀ i, i < len → w.cells? 0 (a.add (i * 3)) 3 = some (cl (F i)) ∧ D i = nodeD (F i) := by
      haveI : Inhabited Nd := ⟨⟨0, ⟨#[]⟩, 0⟩⟩
      refine Deep.choose_lt (α := Nd) (p := fun i z => w.cells? 0 (a.add (i * 3)) 3 = some (cl z) ∧ D i = nodeD z) fun i hi => ?_
      obtain ⟨cs', hc, ht⟩ := hel i (by omega)
      obtain ⟨z, rfl, hz⟩ := nd_of ut ct h0 o0 h1 o1 h2 o2 ui ci us cs1 uj cj ht
      exact ⟨z, hc, hz⟩
    have hlen : ((List.range len).map F).length = len := by simp
    refine ⟨(List.range len).map F, ⟨cls_len _, some a, m, by rw [hlen], by omega, fun h => (by cases h), fun hp => ?_⟩, .inr ⟨(List.range (m - len)).map fun j => D (len + j), ?_⟩⟩
    · rw [hlen] at hp
      obtain ⟨b, off, spot⟩ := a
      have hc0 := (World.cells?_some (hF 0 hp).1).2.2 0 (by omega)
      have hspot : spot = none := by
        have := hc0
        simp [Addr.add, cl] at this
        exact World.cell?_spot this
      subst hspot
      refine ⟨b, off, rfl, fun j u hu => ?_⟩
      obtain ⟨i, k, hi, hk, rfl, hu'⟩ := trip_at F len j u hu
      have hc := (World.cells?_some (hF i hi).1).2.2 k hk
      rw [hu'] at hc
      simpa [Addr.add_lit, Nat.add_assoc] using hc
    · have e : (List.range len).map D = ((List.range len).map F).map nodeD := by
        rw [List.map_map]
        exact List.map_congr_left fun i hi => (hF i (List.mem_range.1 hi)).2
      simp only [e]
theorem all_each {e : TypeId} {q : Nat → Bool} : ∀ {l : List (DataW H)}, (DataW.weightsAll P e l).all q = true → ∀ d ∈ l, (d.weights P e).all q = true
  | [], _, d, hd => by cases hd
  | x :: l, h, d, hd => by
    have h' : (DataW.weights P e x ++ DataW.weightsAll P e l).all q = true := h
    rw [List.all_append, Bool.and_eq_true] at h'
    rcases List.mem_cons.1 hd with rfl | hd
    · exact h'.1
    · exact all_each h'.2 d hd
theorem nd_reach {t : TypeId} {f0 f1 f2 : Field} (ut : P.underlying t = some (.struct #[f0, f1, f2])) {x : Nd} (h : ((nodeD x : DataW H).weights P t).all (· ≤ reachBytes) = true) : x.n.size ≤ 140737488355328 := by
  unfold nodeD at h
  rw [DataW.weights, ut] at h
  have h' : (DataW.weights P f0.type (.lit (.int .i64 x.k) : DataW H) ++ (DataW.weights P f1.type (.lit (.string x.n.data.toList) : DataW H) ++ DataW.weightsEach P [f2.type] [.lit (.int .i64 x.s)])).all (· ≤ reachBytes) = true := h
  rw [List.all_append, List.all_append, Bool.and_eq_true, Bool.and_eq_true] at h'
  have h1 : ([x.n.data.toList.length].all (· ≤ reachBytes)) = true := h'.2.1
  have h2 : x.n.data.toList.length = x.n.size := by simp
  rw [h2] at h1
  have h3 : x.n.size ≤ reachBytes := by simpa using h1
  unfold reachBytes at h3
  omega
theorem nds_reach {tt t : TypeId} {f0 f1 f2 : Field} (utt : P.underlying tt = some (.slice t)) (ut : P.underlying t = some (.struct #[f0, f1, f2])) {l : List Nd} {d : DataW H} (hd : nodesD l d) (h : (d.weights P tt).all (· ≤ reachBytes) = true) : Nms l := by
  rcases hd with ⟨rfl, _⟩ | ⟨sp, rfl⟩
  · intro p hp; cases hp
  · rw [DataW.weights, utt] at h
    simp only [List.all_cons, List.all_append, Bool.and_eq_true] at h
    intro x hx
    exact nd_reach ut (all_each h.2.1 _ (List.mem_map.2 ⟨x, hx, rfl⟩))
theorem reach_cons {t : TypeId} {ts : List TypeId} {d : DataW H} {ds : List (DataW H)} (h : (DataW.weightsEach P (t :: ts) (d :: ds)).all (· ≤ reachBytes) = true) : (d.weights P t).all (· ≤ reachBytes) = true ∧ (DataW.weightsEach P ts ds).all (· ≤ reachBytes) = true := by
  have h' : (DataW.weights P t d ++ DataW.weightsEach P ts ds).all (· ≤ reachBytes) = true := h
  rwa [List.all_append, Bool.and_eq_true] at h'
end
theorem own : ownKnob Tryz.prog.godebug = none := by kernel_rfl
theorem laidOut : laidOutB Tryz.prog = true := by kernel_rfl
theorem cN : Tryz.prog.cellsOf 42 = 3 := by kernel_rfl
theorem cStr : Tryz.prog.cellsOf 9 = 1 := by kernel_rfl
theorem cInt : Tryz.prog.cellsOf 3 = 1 := by kernel_rfl
section
variable {H : Type} {enc : TypeId × Value → H} {W : World} {base : Nat} {v : Value} {d : DataW H} {p : List MemPlace}
theorem nds_arg (hok : Value.okWide Tryz.prog W .any base 22 v) (h : DataW.Trod enc Tryz.prog W 0 (fun _ => true) true 22 v d p) :
    ∃ l : List Nd, Nds W v l ∧ nodesD l d := by
  obtain ⟨a, len, cap, rfl⟩ := okWide_slice Tryz.underlying22 hok
  obtain ⟨fuel, hf⟩ := h
  exact nds_of Tryz.underlying22 Tryz.underlying42 cN rfl rfl rfl rfl rfl rfl Tryz.underlying3 cInt Tryz.underlying9 cStr Tryz.underlying3 cInt hf
theorem nds_in {l : List Nd} (hd : nodesD l d) (h : (d.weights Tryz.prog 22).all (· ≤ reachBytes) = true) : Nms l := nds_reach Tryz.underlying22 Tryz.underlying42 hd h
end
end Go.Proofs.YtekblibhaipioaaGreat.Rw

namespace Go.Proofs.YtekblibhaipioaaGreat.Tr
open Go Go.RowKit
set_option maxRecDepth 20000
def same : List Tr → List Tr → Bool
  | [], [] => true
  | p :: l, q :: m => cmp p q == 0 && same l m
  | _, _ => false
end Go.Proofs.YtekblibhaipioaaGreat.Tr

namespace Go.Proofs.YtekblibhaipioaaGreat.So
open Rw
def k0 (l : List Nd) : List Nd := (kids l).getD 0 []
def k1 (l : List Nd) : List Nd := (kids l).getD 1 []
def hd (l : List Nd) : Int := match l with | [] => 0 | n :: _ => n.k
def plainB (t : Nat → List Nd → Bool) (l : List Nd) : Bool :=
  if hd l = 1 ∨ hd l = 2 ∨ hd l = 3 ∨ hd l = 4 then true
  else if hd l = 5 ∨ hd l = 6 ∨ hd l = 7 ∨ hd l = 8 then t 1 (k0 l) && t 1 (k1 l)
  else if hd l = 9 then t 2 (k0 l) else false
def pairedB (t : Nat → List Nd → Bool) (l : List Nd) : Bool :=
  if hd l = 10 then t 1 (k0 l) && t 1 (k1 l)
  else if hd l = 5 ∨ hd l = 6 ∨ hd l = 7 then t 2 (k0 l) && t 2 (k1 l) else false
def plainOnB (t : Nat → List Nd → Bool) (l : List Nd) : Bool :=
  if hd l = 11 then true
  else if hd l = 5 ∨ hd l = 8 then t 3 (k0 l) && t 1 (k1 l)
  else if hd l = 7 then t 3 (k0 l) && t 3 (k1 l)
  else if hd l = 9 then t 4 (k0 l) else false
def pairedOnB (t : Nat → List Nd → Bool) (l : List Nd) : Bool :=
  if hd l = 12 then t 3 (k0 l) && t 1 (k1 l)
  else if hd l = 5 then t 4 (k0 l) && t 2 (k1 l)
  else if hd l = 7 then t 4 (k0 l) && t 4 (k1 l)
  else if hd l = 13 then t 4 (k0 l) && t 1 (k1 l)
  else if hd l = 14 then t 1 (k0 l) else false
def stepB (t : Nat → List Nd → Bool) (s : Nat) (l : List Nd) : Bool :=
  if s = 1 then plainB t l else if s = 2 then pairedB t l else if s = 3 then plainB t l || plainOnB t l else pairedB t l || pairedOnB t l
def isF : Nat → Nat → List Nd → Bool
  | 0, _, _ => false
  | f + 1, s, l => stepB (isF f) s l
theorem kids_short {l r : List Nd} (hr : r ∈ kids l) : r.length < l.length := by
  have hs : size l ≠ 0 := fun e => by
    unfold kids at hr
    rw [if_pos e] at hr
    cases hr
  have h0 : 0 < l.length := by have := size_le l; omega
  cases l with
  | nil => simp at h0
  | cons n rs =>
    have := kids_flat hs
    have h1 : r.length ≤ (kids (n :: rs)).flatten.length := by
      obtain ⟨s, t, hst⟩ := List.append_of_mem hr
      rw [hst]
      simp
      omega
    have h2 : (kids (n :: rs)).flatten.length + 1 = ((n :: rs).take (size (n :: rs))).length := by rw [← this]; simp
    rw [List.length_take] at h2
    omega
theorem getD_short (l : List Nd) (i : Nat) (h : 0 < l.length) : ((kids l).getD i []).length < l.length := by
  rw [List.getD_eq_getElem?_getD]
  cases hx : (kids l)[i]? with
  | none => simpa using h
  | some r => exact kids_short (List.mem_of_getElem? hx)
theorem stepB_congr {t t' : Nat → List Nd → Bool} (s : Nat) (l : List Nd) (h : ∀ s i, t s ((kids l).getD i []) = t' s ((kids l).getD i [])) : stepB t s l = stepB t' s l := by
  unfold stepB plainB pairedB plainOnB pairedOnB k0 k1
  simp only [h]
theorem stepB_nil (t : Nat → List Nd → Bool) (s : Nat) : stepB t s [] = false := by
  unfold stepB plainB pairedB plainOnB pairedOnB
  simp [hd]
theorem isF_nil : ∀ (f s : Nat), isF f s [] = false
  | 0, _ => rfl
  | _ + 1, s => stepB_nil _ s
theorem isF_fuel : ∀ (f : Nat) (s : Nat) (l : List Nd), l.length ≤ f → isF (f + 1) s l = isF f s l
  | 0, s, l, h => by
    have : l = [] := List.eq_nil_of_length_eq_zero (by omega)
    subst this
    rw [isF_nil, isF_nil]
  | f + 1, s, l, h => by
    by_cases h0 : 0 < l.length
    · exact stepB_congr s l fun s' i => isF_fuel f s' _ (by have := getD_short l i h0; omega)
    · have : l = [] := List.eq_nil_of_length_eq_zero (by omega)
      subst this
      rw [isF_nil, isF_nil]
def Is (s : Nat) (l : List Nd) : Bool := isF l.length s l
theorem isF_Is (f s : Nat) (l : List Nd) (h : l.length ≤ f) : isF f s l = Is s l := by
  have : ∀ g, isF (l.length + g) s l = isF l.length s l := by
    intro g
    induction g with
    | zero => rfl
    | succ g ih => rw [← Nat.add_assoc, isF_fuel _ _ _ (by omega), ih]
  have h' := this (f - l.length)
  rw [show l.length + (f - l.length) = f by omega] at h'
  exact h'
theorem Is_eq (s : Nat) (l : List Nd) : Is s l = stepB Is s l := by
  cases hl : l.length with
  | zero =>
    have : l = [] := List.eq_nil_of_length_eq_zero hl
    subst this
    rw [stepB_nil]
    rfl
  | succ n =>
    unfold Is
    rw [hl]
    exact stepB_congr s l fun s' i => isF_Is n s' _ (by have := getD_short l i (by omega); omega)
theorem Is_one (l : List Nd) : Is 1 l = plainB Is l := Is_eq 1 l
theorem Is_two (l : List Nd) : Is 2 l = pairedB Is l := Is_eq 2 l
theorem Is_three (l : List Nd) : Is 3 l = (plainB Is l || plainOnB Is l) := Is_eq 3 l
theorem Is_four (l : List Nd) : Is 4 l = (pairedB Is l || pairedOnB Is l) := Is_eq 4 l
theorem one_three {l : List Nd} (h : Is 1 l = true) : Is 3 l = true := by rw [Is_three, ← Is_one, h]; rfl
theorem two_four {l : List Nd} (h : Is 2 l = true) : Is 4 l = true := by rw [Is_four, ← Is_two, h]; rfl
def first (l : List Nd) : Nat := if Is 1 l then 1 else if Is 2 l then 2 else if Is 3 l then 3 else if Is 4 l then 4 else 0
def of (l : List Nd) : Nat := if whole l then first l else 0
theorem of_le (l : List Nd) : of l ≤ 4 := by
  unfold of first
  repeat' split
  all_goals omega
theorem apart : ∀ (m : Nat) (l : List Nd), l.length ≤ m → ¬ (Is 3 l = true ∧ Is 4 l = true)
  | 0, l, h, hh => by
    have : l = [] := List.eq_nil_of_length_eq_zero (by omega)
    subst this
    rw [Is_eq, stepB_nil] at hh
    cases hh.1
  | m + 1, l, h, hh => by
    by_cases h0 : 0 < l.length
    case neg =>
      have : l = [] := List.eq_nil_of_length_eq_zero (by omega)
      subst this
      rw [Is_eq, stepB_nil] at hh
      cases hh.1
    have i0 := apart m (k0 l) (by have := getD_short l 0 h0; unfold k0; omega)
    obtain ⟨h3, h4⟩ := hh
    have key : ∀ r, (Is 1 r = true ∨ Is 3 r = true) → (Is 2 r = true ∨ Is 4 r = true) → Is 3 r = true ∧ Is 4 r = true := fun r a b =>
      ⟨a.elim one_three id, b.elim two_four id⟩
    rw [Is_three, Bool.or_eq_true] at h3
    rw [Is_four, Bool.or_eq_true] at h4
    unfold plainB plainOnB at h3
    unfold pairedB pairedOnB at h4
    generalize hd l = k at h3 h4
    apply i0
    apply key
    · rcases h3 with h3 | h3
      all_goals
        repeat' split at h3
        all_goals (first | (simp only [Bool.and_eq_true] at h3; exact Or.inl h3.1) | (simp only [Bool.and_eq_true] at h3; exact Or.inr h3.1) | skip)
        all_goals (exfalso; rcases h4 with h4 | h4 <;> (repeat' split at h4) <;> first | omega | (cases h4; done) | (cases h3; done))
    · rcases h4 with h4 | h4
      all_goals
        repeat' split at h4
        all_goals (first | (simp only [Bool.and_eq_true] at h4; exact Or.inl h4.1) | (simp only [Bool.and_eq_true] at h4; exact Or.inr h4.1) | skip)
        all_goals (exfalso; rcases h3 with h3 | h3 <;> (repeat' split at h3) <;> first | omega | (cases h4; done) | (cases h3; done))
end Go.Proofs.YtekblibhaipioaaGreat.So

namespace Go.Proofs.YtekblibhaipioaaGreat.Rw
open Go Go.RowKit
set_option maxRecDepth 20000
theorem infoN : (Tryz.prog.info? 42).map (fun i => (i.zero, i.size, i.bytes)) = some (some (.agg #[.int .i64 0, .string ⟨#[]⟩, .int .i64 0]), 3, 32) := by kernel_rfl
theorem cls_one {l : List Nd} : ∀ u ∈ cls l, u.oneCell' = true := by
  induction l with
  | nil => intro u hu; cases hu
  | cons x l ih =>
    intro u hu
    rw [cls, List.mem_append] at hu
    rcases hu with hu | hu
    · simp [cl] at hu
      rcases hu with rfl | rfl | rfl <;> rfl
    · exact ih u hu
theorem run_append_nds {w : World} {base : Nat} {v x : Value} {l m : List Nd} (hown : w.ownsRow base 42 3 v l.length (cls l)) (hbase : base ≤ w.heap.size) (hx : Nds w x m) (hlen : l.length + m.length ≤ 2000000) :
    ∃ v' w', (Builtin.append_ #[22, 22] 22 #[v, x]).run Tryz.prog w = .ok v' w' ∧ w'.ownsRow base 42 3 v' (l ++ m).length (cls (l ++ m)) ∧ w.grownBy w' v.ownBlock ∧ Below base w w' ∧ Ap.Fresh w v v' := by
  obtain ⟨i0, hi, hz, hs1, hb8⟩ := info_parts infoN
  obtain ⟨v', w', h1, h2, h3, h4, h5⟩ := Ap.run_append_rd (P := Tryz.prog) (ty := 22) Tryz.underlying22 hi hz hs1 hb8 (by rfl) (by omega) hown hbase hx
    cls_one (by unfold maxLen; omega) (by omega)
  exact ⟨v', w', h1, by rw [cls_append]; simpa using h2, h3, h4, h5⟩
abbrev nb (x : Nd) : Obj := .cells #[.int .i64 x.k, .string x.n, .int .i64 x.s] 42
theorem below1 (w : World) (x : Obj) : Below w.heap.size w (w.alloc x) := (Below.refl _ _).alloc (Nat.le_refl _) _
def RwC (w : World) : List Value → List (List Nd) → Prop
  | [], [] => True
  | a :: cs, r :: rs => Nds w a r ∧ RwC w cs rs
  | _, _ => False
theorem RwC.below {w w' : World} (hb : Below w.heap.size w w') : ∀ {cs : List Value} {ls : List (List Nd)}, RwC w cs ls → RwC w' cs ls
  | [], [], _ => trivial
  | _ :: _, _ :: _, h => ⟨h.1.below hb, RwC.below hb h.2⟩
  | [], _ :: _, h => h.elim
  | _ :: _, [], h => h.elim
def Rws (w : World) (v : Value) (ls : List (List Nd)) : Prop := ∃ cs, Ap.Rd w 1 v ls.length cs ∧ RwC w cs ls
theorem Rws.below {w w' : World} {v : Value} {ls : List (List Nd)} (h : Rws w v ls) (hb : Below w.heap.size w w') : Rws w' v ls := by
  obtain ⟨cs, h1, h2⟩ := h
  exact ⟨cs, h1.below hb, h2.below hb⟩
theorem infoR : (Tryz.prog.info? 22).map (fun i => (i.zero, i.size, i.bytes)) = some (some (.slice none 0 0), 1, 24) := by kernel_rfl
theorem part_nds {w : World} {b off : Nat} {l : List Nd} (h : At w b off l) (p n c : Nat) (hp : p + n ≤ l.length) (hn : n ≤ c) : Nds w (.slice (some ⟨b, off + p * 3, none⟩) n c) ((l.drop p).take n) := by
  have hlen : ((l.drop p).take n).length = n := by rw [List.length_take, List.length_drop]; omega
  unfold Nds
  rw [hlen]
  refine ⟨by rw [cls_len, hlen], _, c, rfl, hn, fun e => (by cases e), fun _ => ⟨b, off + p * 3, rfl, fun j u hu => ?_⟩⟩
  have hj : j < n * 3 := by
    have := (List.getElem?_eq_some_iff.1 hu).1
    rw [cls_len, hlen] at this
    exact this
  have hk : j / 3 < ((l.drop p).take n).length := by rw [hlen]; omega
  obtain ⟨h1, h2, h3⟩ := cls_at _ (j / 3) hk
  have hkl : p + j / 3 < l.length := by omega
  have hx : ((l.drop p).take n)[j / 3] = l[p + j / 3] := by simp
  rw [hx] at h1 h2 h3
  obtain ⟨g1, g2, g3⟩ := h (p + j / 3) hkl
  have hr : j % 3 = 0 ∨ j % 3 = 1 ∨ j % 3 = 2 := by omega
  rcases hr with hr | hr | hr
  · have : j = j / 3 * 3 := by omega
    rw [← this, hu] at h1
    rw [Option.some.inj h1, show off + p * 3 + j = off + (p + j / 3) * 3 by omega]
    exact g1
  · have : j = j / 3 * 3 + 1 := by omega
    rw [← this, hu] at h2
    rw [Option.some.inj h2, show off + p * 3 + j = off + (p + j / 3) * 3 + 1 by omega]
    exact g2
  · have : j = j / 3 * 3 + 2 := by omega
    rw [← this, hu] at h3
    rw [Option.some.inj h3, show off + p * 3 + j = off + (p + j / 3) * 3 + 2 by omega]
    exact g3
theorem kids_next {l : List Nd} {k p d c' d' : Nat} (h : Far l 0 k p d) (ht : T (l.drop p) = some (c', d')) : kidsN (k + 1) (l.drop 1) = kidsN k (l.drop 1) ++ [(l.drop p).take c'] := by
  obtain ⟨c, hs, rfl⟩ := h
  rw [Nat.zero_add] at hs ht
  rw [kidsN, hs]
  simp only [Option.getD_some, List.drop_drop, Nat.zero_add]
  have : size (l.drop (1 + c)) = c' := by unfold size; rw [ht]
  rw [this]
theorem kids_more {l : List Nd} {k p d : Nat} (h0 : 0 < l.length) (hs : size l ≠ 0) (h : Far l 0 k p d) (hk : (k : Int) < ar l[0].k) : ∃ c' d', T (l.drop p) = some (c', d') := by
  cases ht : T (l.drop p) with
  | some x => exact ⟨x.1, x.2, rfl⟩
  | none =>
    exfalso
    have h1 := h.stop ht
    have hn : ¬ ar l[0].k < 0 := by omega
    have := walk_none (l := l) (i := 0) h0 hn hk h1
    rw [List.drop_zero] at this
    exact hs (size_pos.2 this)
theorem kids_of {l : List Nd} (h0 : 0 < l.length) (hs : size l ≠ 0) : kids l = kidsN (ar l[0].k).toNat (l.drop 1) := by
  cases l with
  | nil => simp at h0
  | cons n r =>
    unfold kids
    rw [if_neg hs]
    rfl
end Go.Proofs.YtekblibhaipioaaGreat.Rw

namespace Go.Proofs.YtekblibhaipioaaGreat.Rw
open Go Go.RowKit
set_option maxRecDepth 20000
theorem nd_ext {x y : Nd} : x = y ↔ x.k = y.k ∧ x.n = y.n ∧ x.s = y.s := by
  cases x; cases y; simp
theorem eql_nd (d : Nat) (x y : Nd) (w : World) : (Op.equalIn (d + 2) 42 (.agg #[.int .i64 x.k, .string x.n, .int .i64 x.s]) (.agg #[.int .i64 y.k, .string y.n, .int .i64 y.s])).run Tryz.prog w = .ok (decide (x = y)) w := by
  rw [run_equalIn_struct w (d + 1) _ _ _ (by kernel_rfl) (by kernel_rfl)]
  simp only [Program.fieldsOf, Tryz.underlying42]
  by_cases h1 : x.k = y.k
  · by_cases h2 : x.n = y.n
    · by_cases h3 : x.s = y.s
      · rw [decide_eq_true (nd_ext.2 ⟨h1, h2, h3⟩), h1, h2, h3]
        simp [go_sem, Op.eqFields]
      · rw [decide_eq_false (fun e => h3 (nd_ext.1 e).2.2), h1, h2]
        simp [go_sem, Op.eqFields, h3]
    · have e2 : (x.n.toList == y.n.toList) = false := by
        rw [ByteArray.toList_eq y.n]
        exact str_ne' fun e => h2 (by rw [e])
      rw [decide_eq_false (fun e => h2 (nd_ext.1 e).2.1), h1]
      simp [go_sem, Op.eqFields, e2]
  · rw [decide_eq_false (fun e => h1 (nd_ext.1 e).1)]
    simp [go_sem, Op.eqFields, h1]
theorem neq_nd (x y : Nd) (w : World) : (binOp .neq 42 (.agg #[.int .i64 x.k, .string x.n, .int .i64 x.s]) (.agg #[.int .i64 y.k, .string y.n, .int .i64 y.s])).run Tryz.prog w = .ok (.bool (!decide (x = y))) w := by
  rw [run_neq_struct, show (10000 : Nat) = 9998 + 2 from rfl, eql_nd]
  rfl
end Go.Proofs.YtekblibhaipioaaGreat.Rw

namespace Go.Proofs.YtekblibhaipioaaGreat.Rw
open Go Go.RowKit
set_option maxRecDepth 20000
theorem cnt_yes (l : List Nd) (ks : List Int) (k : Nat) (h : k < l.length) (hm : l[k].k ∈ ks) : cnt (l.take (k + 1)) ks = cnt (l.take k) ks + 1 := by
  unfold cnt
  rw [List.take_succ_eq_append_getElem h, List.countP_append]
  simp [hm]
theorem cnt_no (l : List Nd) (ks : List Int) (k : Nat) (h : k < l.length) (hm : ¬ l[k].k ∈ ks) : cnt (l.take (k + 1)) ks = cnt (l.take k) ks := by
  unfold cnt
  rw [List.take_succ_eq_append_getElem h, List.countP_append]
  simp [hm]
end Go.Proofs.YtekblibhaipioaaGreat.Rw

namespace Go.Proofs.YtekblibhaipioaaGreat.Tr
open Go Go.RowKit
set_option maxRecDepth 20000
def sg3 (c : Int) : Int := if c < 0 then -1 else if 0 < c then 1 else 0
def cmpS (x y : ByteArray) : Int := if ls x y then -1 else if ls y x then 1 else 0
def cmpI (x y : Int) : Int := if x < y then -1 else if y < x then 1 else 0
set_option maxHeartbeats 400000 in
theorem nanS (x : ByteArray) (w : World) : Calls Tryz.prog 171 #[.string x] w fun e w' => e = .returned (.bool false) ∧ w' = w := by
  have hxx : (x.toList == x.toList) = true := by simp
  go_enter Tryz.func171, Tryz.ntmps171
  go_wp2_with fail
  go_ret
  exact ⟨rfl, rfl⟩
set_option maxHeartbeats 400000 in
theorem nanI (x : Int) (w : World) : Calls Tryz.prog 155 #[.int .i64 x] w fun e w' => e = .returned (.bool false) ∧ w' = w := by
  go_enter Tryz.func155, Tryz.ntmps155
  go_wp2_with fail
  go_ret
  exact ⟨rfl, rfl⟩
set_option maxHeartbeats 1000000 in
theorem cmpS_any (x y : ByteArray) (w : World) : Calls Tryz.prog 154 #[.string x, .string y] w fun e w' => e = .returned (.int .i64 (cmpS x y)) ∧ w' = w := by
  cases hx : ls x y with
  | true =>
    have hx' : Op.bytesLess x.toList y.toList = true := hx
    have HX := Lib.hid hx
    clear hx
    go_enter Tryz.func154, Tryz.ntmps154
    go_wp2_with (go_at_call 171; refine (nanS _ _).mono ?_; rintro e w' ⟨rfl, rfl⟩)
    go_ret
    exact ⟨ret_int (by rw [cmpS, HX.out]; rfl), rfl⟩
  | false =>
    have hx' : Op.bytesLess x.toList y.toList = false := hx
    have hy' := eq_of_ls hx
    have HX := Lib.hid hx
    clear hx
    cases hy : ls y x with
    | true =>
      rw [hy] at hy'
      have HY := Lib.hid hy
      clear hy
      go_enter Tryz.func154, Tryz.ntmps154
      go_wp2_with (go_at_call 171; refine (nanS _ _).mono ?_; rintro e w' ⟨rfl, rfl⟩)
      go_ret
      exact ⟨ret_int (by rw [cmpS, HX.out, HY.out]; rfl), rfl⟩
    | false =>
      rw [hy] at hy'
      have HY := Lib.hid hy
      clear hy
      go_enter Tryz.func154, Tryz.ntmps154
      go_wp2_with (go_at_call 171; refine (nanS _ _).mono ?_; rintro e w' ⟨rfl, rfl⟩)
      go_ret
      exact ⟨ret_int (by rw [cmpS, HX.out, HY.out]; rfl), rfl⟩
set_option maxHeartbeats 1000000 in
theorem cmpI_any (x y : Int) (w : World) : Calls Tryz.prog 121 #[.int .i64 x, .int .i64 y] w fun e w' => e = .returned (.int .i64 (cmpI x y)) ∧ w' = w := by
  by_cases h1 : x < y
  · go_enter Tryz.func121, Tryz.ntmps121
    go_wp2_with (go_at_call 155; refine (nanI _ _).mono ?_; rintro e w' ⟨rfl, rfl⟩)
    go_ret
    exact ⟨ret_int (by rw [cmpI, if_pos h1]), rfl⟩
  · by_cases h2 : y < x
    · go_enter Tryz.func121, Tryz.ntmps121
      go_wp2_with (go_at_call 155; refine (nanI _ _).mono ?_; rintro e w' ⟨rfl, rfl⟩)
      go_ret
      exact ⟨ret_int (by rw [cmpI, if_neg (by omega), if_pos h2]), rfl⟩
    · go_enter Tryz.func121, Tryz.ntmps121
      go_wp2_with (go_at_call 155; refine (nanI _ _).mono ?_; rintro e w' ⟨rfl, rfl⟩)
      go_ret
      exact ⟨ret_int (by rw [cmpI, if_neg (by omega), if_neg (by omega)]), rfl⟩
theorem sg3_at (l m : List ByteArray) (k : Nat) (h1 : k < l.length) (h2 : k < m.length) :
    sg3 (row (l.drop k) (m.drop k)) = if cmpS l[k] m[k] = 0 then sg3 (row (l.drop (k + 1)) (m.drop (k + 1))) else cmpS l[k] m[k] := by
  rw [row_at l m k h1 h2, cmpS]
  cases ls l[k] m[k] with
  | true => rfl
  | false =>
    cases ls m[k] l[k] with
    | true => rfl
    | false => rfl
theorem sg3_over (l m : List ByteArray) (k : Nat) (h1 : k < l.length) (h2 : ¬ k < m.length) (h3 : k ≤ m.length) : sg3 (row (l.drop k) (m.drop k)) = 1 := by
  rw [row_end l m k (by omega) h3 (.inr h2), sg3, if_neg (by omega), if_pos (by omega)]
theorem sg3_end (l m : List ByteArray) (k : Nat) (h1 : k = l.length) (h3 : k ≤ m.length) : sg3 (row (l.drop k) (m.drop k)) = if l.length < m.length then -1 else 0 := by
  rw [row_end l m k (by omega) h3 (.inl (by omega)), sg3]
  by_cases h : l.length < m.length
  · rw [if_pos (by omega), if_pos h]
  · rw [if_neg (by omega), if_neg (by omega), if_neg h]
set_option maxHeartbeats 1000000 in
theorem rowc_cells (b1 o1 c1 b2 o2 c2 : Nat) (l m : List ByteArray) (w : World) (hl : l.length ≤ 1000000000000) (_hm : m.length ≤ 1000000000000)
    (h1 : ∀ k, (h : k < l.length) → w.cell? ⟨b1, o1 + k, none⟩ = some (.string l[k])) (h2 : ∀ k, (h : k < m.length) → w.cell? ⟨b2, o2 + k, none⟩ = some (.string m[k])) :
    Calls Tryz.prog 120 #[.slice (some ⟨b1, o1, none⟩) l.length c1, .slice (some ⟨b2, o2, none⟩) m.length c2] w fun e w' => e = .returned (.int .i64 (sg3 (row l m))) ∧ w' = w := by
  have H1 := Lib.hid h1
  have H2 := Lib.hid h2
  clear h1 h2
  go_enter Tryz.func120, Tryz.ntmps120
  go_wp2_with fail
  go_loopw [11] (fun i wr => ∃ k : Nat, k ≤ l.length ∧ k ≤ m.length ∧ i = .int .i64 k ∧ wr = w ∧ sg3 (row l m) = sg3 (row (l.drop k) (m.drop k))) (fun i _ => l.length - (intOf i).toNat)
  case atStart => exact ⟨0, Nat.zero_le _, Nat.zero_le _, rfl, rfl, rfl⟩
  case round =>
    obtain ⟨k, hk1, hk2, rfl, rfl, hrow⟩ := hrel
    have HROW := Lib.hid hrow
    clear hrow
    by_cases hlt : k < l.length
    · have e1 := H1.out k hlt
      by_cases hlt2 : k < m.length
      · have e2 := H2.out k hlt2
        have HA := Lib.hid (HROW.out.trans (sg3_at l m k hlt hlt2))
        obtain ⟨x, hx⟩ : ∃ x, l[k] = x := ⟨_, rfl⟩
        obtain ⟨y, hy⟩ : ∃ y, m[k] = y := ⟨_, rfl⟩
        rw [hx] at e1 HA
        rw [hy] at e2 HA
        clear hx hy
        obtain ⟨c, hc⟩ : ∃ c, cmpS x y = c := ⟨_, rfl⟩
        have HC := Lib.hid (cmpS_any x y)
        rw [hc] at HA HC
        clear hc
        by_cases h0 : c = 0
        · subst h0
          go_wp2_with (go_at_call 154; refine (HC.out _).mono ?_; rintro e w' ⟨rfl, rfl⟩)
          go_roundw
          case rel => exact ⟨k + 1, by omega, by omega, by go_num, (by first | rfl | trivial), HA.out⟩
          case measure => simp [intOf]; omega
        · have H0 := Lib.hid h0
          go_wp2_with (go_at_call 154; refine (HC.out _).mono ?_; rintro e w' ⟨rfl, rfl⟩)
          go_ret
          exact ⟨ret_int (by rw [HA.out, if_neg H0.out]), rfl⟩
      · have HE := Lib.hid (HROW.out.trans (sg3_over l m k hlt hlt2 hk2))
        go_wp2_with fail
        go_ret
        exact ⟨ret_int HE.out.symm, rfl⟩
    · have HE := Lib.hid (HROW.out.trans (sg3_end l m k (by omega) hk2))
      by_cases hlm : l.length < m.length
      · rw [if_pos hlm] at HE
        go_wp2_with fail
        go_ret
        exact ⟨ret_int HE.out.symm, rfl⟩
      · rw [if_neg hlm] at HE
        go_wp2_with fail
        go_ret
        exact ⟨ret_int HE.out.symm, rfl⟩
set_option maxHeartbeats 400000 in
theorem rowc_empty_l (a1 a2 : Option Addr) (c1 c2 n : Nat) (w : World) (_hn : n ≤ 1000000000000) :
    Calls Tryz.prog 120 #[.slice a1 0 c1, .slice a2 n c2] w fun e w' => e = .returned (.int .i64 (if 0 < n then -1 else 0)) ∧ w' = w := by
  by_cases h : 0 < n
  · rw [if_pos h]
    go_enter Tryz.func120, Tryz.ntmps120
    go_wp2_with fail
    refine Go.wp_loop_rounds 1 ?_
    rw [rounds_succ]
    go_wp2_with fail
    go_ret
    exact ⟨rfl, rfl⟩
  · rw [if_neg h]
    go_enter Tryz.func120, Tryz.ntmps120
    go_wp2_with fail
    refine Go.wp_loop_rounds 1 ?_
    rw [rounds_succ]
    go_wp2_with fail
    go_ret
    exact ⟨rfl, rfl⟩
set_option maxHeartbeats 400000 in
theorem rowc_empty_r (b1 o1 c1 : Nat) (a2 : Option Addr) (c2 n : Nat) (w : World) (x : ByteArray) (_hn : n ≤ 1000000000000) (h0 : 0 < n) (h1 : w.cell? ⟨b1, o1, none⟩ = some (.string x)) :
    Calls Tryz.prog 120 #[.slice (some ⟨b1, o1, none⟩) n c1, .slice a2 0 c2] w fun e w' => e = .returned (.int .i64 1) ∧ w' = w := by
  go_enter Tryz.func120, Tryz.ntmps120
  go_wp2_with fail
  refine Go.wp_loop_rounds 1 ?_
  rw [rounds_succ]
  go_wp2_with fail
  go_ret
  exact ⟨rfl, rfl⟩
theorem rowc_any (v1 v2 : Value) (l m : List ByteArray) (w : World) (h1 : Strs w v1 l) (h2 : Strs w v2 m) (hl : l.length ≤ 1000000000000) (hm : m.length ≤ 1000000000000) :
    Calls Tryz.prog 120 #[v1, v2] w fun e w' => e = .returned (.int .i64 (sg3 (row l m))) ∧ w' = w := by
  have hL : ∀ m : List ByteArray, sg3 (row [] m) = if 0 < m.length then -1 else 0 := fun m => by
    have := sg3_end [] m 0 rfl (Nat.zero_le _)
    simpa using this
  rcases h1.form with ⟨rfl, a1, c1, rfl⟩ | ⟨b1, o1, c1, rfl, hc1⟩
  · obtain ⟨_, a2, c2, rfl, _⟩ := h2
    rw [hL]
    exact rowc_empty_l a1 a2 c1 c2 m.length w hm
  · by_cases h0 : 0 < l.length
    · rcases h2.form with ⟨rfl, a2, c2, rfl⟩ | ⟨b2, o2, c2, rfl, hc2⟩
      · rw [row_nil_r, sg3, if_neg (by omega), if_pos (by omega)]
        exact rowc_empty_r b1 o1 c1 a2 c2 l.length w l[0] hl h0 (hc1 0 h0)
      · exact rowc_cells b1 o1 c1 b2 o2 c2 l m w hl hm hc1 hc2
    · obtain rfl : l = [] := List.eq_nil_of_length_eq_zero (by omega)
      obtain ⟨_, a2, c2, rfl, _⟩ := h2
      rw [hL]
      exact rowc_empty_l _ a2 c1 c2 m.length w hm
set_option maxHeartbeats 400000 in
theorem or2_any (x y : Int) (b : Nat) (w : World) (h1 : w.cell? ⟨b, 0, none⟩ = some (.int .i64 x)) (h2 : w.cell? ⟨b, 1, none⟩ = some (.int .i64 y)) :
    Calls Tryz.prog 110 #[.slice (some ⟨b, 0, none⟩) 2 2] w fun e w' => e = .returned (.int .i64 (if x = 0 then y else x)) ∧ w' = w := by
  by_cases hx : x = 0
  · rw [if_pos hx]
    subst hx
    by_cases hy : y = 0
    · subst hy
      go_enter Tryz.func110, Tryz.ntmps110
      go_wp2_with fail
      refine Go.wp_loop_rounds 3 ?_
      rw [rounds_succ]
      go_wp2_with fail
      rw [rounds_succ]
      go_wp2_with fail
      rw [rounds_succ]
      go_wp2_with fail
      go_ret
      exact ⟨rfl, rfl⟩
    · go_enter Tryz.func110, Tryz.ntmps110
      go_wp2_with fail
      refine Go.wp_loop_rounds 2 ?_
      rw [rounds_succ]
      go_wp2_with fail
      rw [rounds_succ]
      go_wp2_with fail
      go_ret
      exact ⟨rfl, rfl⟩
  · rw [if_neg hx]
    go_enter Tryz.func110, Tryz.ntmps110
    go_wp2_with fail
    refine Go.wp_loop_rounds 1 ?_
    rw [rounds_succ]
    go_wp2_with fail
    go_ret
    exact ⟨rfl, rfl⟩
theorem cmp_or (p q : Tr) : (if sg3 (row p.a q.a) = 0 then cmpI p.e q.e else sg3 (row p.a q.a)) = cmp p q := by
  rcases Int.lt_trichotomy (row p.a q.a) 0 with h | h | h
  · have e : sg3 (row p.a q.a) = -1 := by rw [sg3, if_pos h]
    rw [e, if_neg (by decide)]
    have := cmp_neg (p := p) (q := q) |>.2 (.inl h)
    have := cmp_bd p q
    omega
  · have e : sg3 (row p.a q.a) = 0 := by rw [h]; rfl
    rw [e, if_pos rfl, cmpI, cmp]
    simp [h]
    repeat' split
    all_goals omega
  · have e : sg3 (row p.a q.a) = 1 := by rw [sg3, if_neg (by omega), if_pos h]
    rw [e, if_neg (by decide)]
    have h2 : row q.a p.a < 0 := (row_anti _ _).2 h
    have := cmp_neg (p := q) (q := p) |>.2 (.inl h2)
    have := cmp_anti p q
    have := cmp_bd p q
    omega
end Go.Proofs.YtekblibhaipioaaGreat.Tr

namespace Go.Proofs.YtekblibhaipioaaGreat.Tr
open Go Go.RowKit
set_option maxRecDepth 20000
end Go.Proofs.YtekblibhaipioaaGreat.Tr

namespace Go.Proofs.YtekblibhaipioaaGreat.Rw
open Go Go.RowKit
set_option maxRecDepth 20000
def Made (w wr : World) (v : Value) (l : List Nd) (k p : Nat) : Prop := ∃ cs d, Far l 0 k p d ∧ wr.ownsRow w.heap.size 22 1 v k cs ∧ RwC w cs (kidsN k (l.drop 1)) ∧ Below w.heap.size w wr
theorem Made.start (w : World) (l : List Nd) : Made w w (.slice none 0 0) l 0 1 := ⟨[], 0, Far.start l 0, ⟨rfl, .inl ⟨rfl, rfl⟩⟩, trivial, Below.refl _ _⟩
end Go.Proofs.YtekblibhaipioaaGreat.Rw

namespace Go.Proofs.YtekblibhaipioaaGreat.Rw
open Go Go.RowKit
set_option maxRecDepth 20000
end Go.Proofs.YtekblibhaipioaaGreat.Rw

namespace Go.Proofs.YtekblibhaipioaaGreat.Rx
open Go Go.RowKit Rw
set_option maxRecDepth 20000
theorem rwC_at {w : World} : ∀ {cs : List Value} {ls : List (List Nd)}, RwC w cs ls → ∀ i (h : i < ls.length), ∃ a, cs[i]? = some a ∧ Nds w a ls[i]
  | [], [], _, i, h => by simp at h
  | a :: _, _ :: _, hr, 0, _ => ⟨a, rfl, hr.1⟩
  | _ :: cs, _ :: ls, hr, i + 1, h => by
    obtain ⟨a, h1, h2⟩ := rwC_at hr.2 i (by simpa using h)
    exact ⟨a, by simpa using h1, by simpa using h2⟩
  | [], _ :: _, h, _, _ => h.elim
  | _ :: _, [], h, _, _ => h.elim
def AtRs (w : World) (b off : Nat) (ls : List (List Nd)) : Prop := ∀ i, (h : i < ls.length) → ∃ a, w.cell? ⟨b, off + i, none⟩ = some a ∧ Nds w a ls[i]
theorem rws_form {w : World} {v : Value} {ls : List (List Nd)} (h : Rws w v ls) :
    (ls = [] ∧ ∃ a cap, v = .slice a 0 cap) ∨ ∃ b off cap, v = .slice (some ⟨b, off, none⟩) ls.length cap ∧ AtRs w b off ls := by
  obtain ⟨cs, ⟨_, a, cap, rfl, hle, _, hcell⟩, hr⟩ := h
  by_cases h0 : 0 < ls.length
  · obtain ⟨b, off, rfl, hj⟩ := hcell h0
    refine Or.inr ⟨b, off, cap, rfl, fun i hi => ?_⟩
    obtain ⟨a, h1, h2⟩ := rwC_at hr i hi
    exact ⟨a, hj i a h1, h2⟩
  · have : ls = [] := List.eq_nil_of_length_eq_zero (by omega)
    subst this
    exact Or.inl ⟨rfl, a, cap, rfl⟩
theorem heap_new (w : World) (o : Obj) : (w.alloc o).heap[w.heap.size]? = some o := by
  show (w.heap.push o)[w.heap.size]? = some o
  simp
def Mk (w wr : World) (x : Nd) (ls : List (List Nd)) (k : Nat) (v : Value) : Prop := wr.ownsRow w.heap.size 42 3 v (x :: (ls.take k).flatten).length (cls (x :: (ls.take k).flatten)) ∧ Below w.heap.size w wr
theorem Mk.start (w : World) (x : Nd) (ls : List (List Nd)) : Mk w ((w.alloc (nb x)).alloc (nb x)) x ls 0 (.slice (some ⟨w.heap.size + 1, 0, none⟩) 1 1) := by
  refine ⟨⟨by simp [cls, cl], .inr ⟨w.heap.size + 1, 1, #[.int .i64 x.k, .string x.n, .int .i64 x.s], rfl, by omega, ?_, by simp, by decide, rfl, by simp [cls, cl]⟩⟩, ?_⟩
  · have h := heap_new (w.alloc (nb x)) (nb x)
    rw [show (w.alloc (nb x)).heap.size = w.heap.size + 1 by simp] at h
    exact h
  · exact (below1 w _).alloc (below1 w _).size _
theorem take_flat {ls : List (List Nd)} {k : Nat} (h : k < ls.length) : (ls.take (k + 1)).flatten = (ls.take k).flatten ++ ls[k] := by
  rw [List.take_succ_eq_append_getElem h, List.flatten_append]
  simp only [List.flatten_cons, List.flatten_nil, List.append_nil]
theorem flat_le : ∀ (ls : List (List Nd)) (k : Nat), (ls.take k).flatten.length ≤ ls.flatten.length
  | [], k => by simp
  | _ :: _, 0 => by simp
  | l :: ls, k + 1 => by have := flat_le ls k; simp [List.take_succ_cons]; simp at this; omega
theorem Mk.next {w wr : World} {x : Nd} {ls : List (List Nd)} {k : Nat} {v a : Value} (h : Mk w wr x ls k v) (hk : k < ls.length) (ha : Nds wr a ls[k]) (hf : ls.flatten.length ≤ 1000000) :
    ∃ v' w', (Builtin.append_ #[22, 22] 22 #[v, a]).run Tryz.prog wr = .ok v' w' ∧ Mk w w' x ls (k + 1) v' := by
  have h1 := flat_le ls (k + 1)
  rw [take_flat hk, List.length_append] at h1
  obtain ⟨v', w', hrun, hown, _, hb, _⟩ := run_append_nds h.1 h.2.size ha (by rw [List.length_cons]; omega)
  refine ⟨v', w', hrun, ?_, h.2.trans hb⟩
  rw [take_flat hk, ← List.cons_append]
  exact hown
theorem own_slice {w : World} {base size n : Nat} {e : TypeId} {v : Value} {xs : List Value} (h : w.ownsRow base e size v n xs) : ∃ a c, v = .slice a n c := by
  obtain ⟨_, ⟨rfl, rfl⟩ | ⟨g, cap, cur, rfl, _⟩⟩ := h
  · exact ⟨none, 0, rfl⟩
  · exact ⟨_, _, rfl⟩
set_option maxHeartbeats 800000 in
theorem make_cells (x : Nd) (b off cap : Nat) (ls : List (List Nd)) (w : World) (hat : AtRs w b off ls) (hl : ls.length ≤ 1000) (hf : ls.flatten.length ≤ 1000000) :
    Calls Tryz.prog 124 #[.agg #[.int .i64 x.k, .string x.n, .int .i64 x.s], .slice (some ⟨b, off, none⟩) ls.length cap] w fun e w' => ∃ y, e = .returned y ∧ Ap.RdO (fun g => w.heap.size ≤ g) w' 3 y (x :: ls.flatten).length (cls (x :: ls.flatten)) ∧ Below w.heap.size w w' := by
  have HA := Lib.hid hat
  have HF := Lib.hid hf
  have HS := Lib.hid (Mk.start w x ls)
  clear hat hf
  go_enter Tryz.func124, Tryz.ntmps124
  go_wp2_with fail
  go_loopw [5, 12] (fun mv iv wr => ∃ k : Nat, k ≤ ls.length ∧ iv = .int .i64 k ∧ Hid (Mk w wr x ls k mv)) (fun _ i _ => ls.length - (intOf i).toNat)
  case atStart => exact ⟨0, Nat.zero_le _, rfl, HS⟩
  case round =>
    obtain ⟨k, hk, rfl, HM⟩ := hrel
    by_cases hlt : k < ls.length
    · obtain ⟨a, ha, hnd⟩ := HA.out k hlt
      have c1 : wr.cell? ⟨b, off + k, none⟩ = some a := by rw [HM.out.2.cell (Ap.cell_lt ha)]; exact ha
      obtain ⟨v', w', hrun, hmk⟩ := HM.out.next hlt (hnd.below HM.out.2) HF.out
      obtain ⟨am, cm, rfl⟩ := own_slice HM.out.1
      obtain ⟨_, aa, ca, rfl, -⟩ := hnd
      have R := Lib.hid hrun
      have HM' := Lib.hid hmk
      clear ha hrun hmk
      go_wp2_with (at_builtin; refine Ap.wpList_append_run (by rfl) (.tmp 16) (.tmp 17) _ _ rfl _ _ rfl rfl v' w' R.out ?_)
      go_roundw
      case rel => exact ⟨k + 1, by omega, by go_num, HM'⟩
      case measure => simp [intOf]; omega
    · have h1 := HM.out
      unfold Mk at h1
      rw [List.take_of_length_le (by omega)] at h1
      obtain ⟨am, cm, rfl⟩ := own_slice h1.1
      have H1 := Lib.hid h1
      clear h1
      go_wp2_with fail
      go_ret
      exact ⟨_, rfl, Ap.RdO.fresh H1.out.1, H1.out.2⟩
set_option maxHeartbeats 400000 in
theorem make_empty (x : Nd) (a : Option Addr) (cap : Nat) (w : World) :
    Calls Tryz.prog 124 #[.agg #[.int .i64 x.k, .string x.n, .int .i64 x.s], .slice a 0 cap] w fun e w' => ∃ y, e = .returned y ∧ Ap.RdO (fun g => w.heap.size ≤ g) w' 3 y (x :: ([] : List (List Nd)).flatten).length (cls (x :: ([] : List (List Nd)).flatten)) ∧ Below w.heap.size w w' := by
  have HS := Lib.hid (Mk.start w x [])
  go_enter Tryz.func124, Tryz.ntmps124
  go_wp2_with fail
  refine Go.wp_loop_rounds 1 ?_
  rw [rounds_succ]
  go_wp2_with fail
  go_ret
  exact ⟨_, rfl, Ap.RdO.fresh HS.out.1, HS.out.2⟩
theorem makeP_any (x : Nd) (v : Value) (ls : List (List Nd)) (w : World) (h : Rws w v ls) (hl : ls.length ≤ 1000) (hf : ls.flatten.length ≤ 1000000) :
    Calls Tryz.prog 124 #[.agg #[.int .i64 x.k, .string x.n, .int .i64 x.s], v] w fun e w' => ∃ y, e = .returned y ∧ Ap.RdO (fun g => w.heap.size ≤ g) w' 3 y (x :: ls.flatten).length (cls (x :: ls.flatten)) ∧ Below w.heap.size w w' := by
  rcases rws_form h with ⟨rfl, a, cap, rfl⟩ | ⟨b, off, cap, rfl, hat⟩
  · exact make_empty x a cap w
  · exact make_cells x b off cap ls w hat hl hf
end Go.Proofs.YtekblibhaipioaaGreat.Rx
