/- Arguments that are nodes, and rows of nodes: how they lie in memory, and what the reach says of them. -/
import Derived.Test.YtpkbpooiaddcaaaRwv
import Derived.Test.YtpkbpooiaddcaaaFr
import Derived.Deep.Strs
import Derived.Deep.Slices
import Derived.Lib.SmallJoins
namespace Go.Proofs.Ytpkbpooiaddcaaa.Rw
open Go Go.RowKit Go.ChangeShapes Go.WideShapes
set_option maxRecDepth 100000

section
variable {H : Type} {enc : TypeId × Value → H} {P : Program} {w : World}
/-- The datum of a node. -/
def nodeD (x : Nd) : DataW H := .agg [.lit (.int .i64 x.k), .lit (.string x.n.data.toList), .lit (.int .i64 x.s)]
/-- A node's three cells that were read. -/
theorem nd_of {held : Bool} {fuel : Nat} {t ti ts tj : TypeId} {f0 f1 f2 : Field} {cs : List Value} {x : DataW H × List MemPlace} (ut : P.underlying t = some (.struct #[f0, f1, f2])) (ct : P.cellsOf t = 3) (h0 : f0.type = ti) (o0 : f0.offset = 0) (h1 : f1.type = ts) (o1 : f1.offset = 1) (h2 : f2.type = tj) (o2 : f2.offset = 2)
    (ui : P.underlying ti = some (.int .i64)) (ci : P.cellsOf ti = 1) (us : P.underlying ts = some .string) (cs1 : P.cellsOf ts = 1) (uj : P.underlying tj = some (.int .i64)) (cj : P.cellsOf tj = 1)
    (h : DataW.trod enc P w 0 (fun _ => true) held fuel t cs = some x) : ∃ n : Nd, cs = cl n ∧ x.1 = nodeD n := by
  obtain ⟨y0, y1, y2, n, rfl, hl, hy0, hy1, hy2⟩ := Deep.trod_struct3 ut h
  rw [ct] at hl
  match cs, hl with
  | [a, b, c], _ =>
    rw [h0, o0, ci] at hy0
    rw [h1, o1, cs1] at hy1
    rw [h2, o2, cj] at hy2
    obtain ⟨k, e1, e2, _⟩ := DataW.trod_int ui hy0
    obtain ⟨s, e3, e4, _⟩ := DataW.trod_string us hy1
    obtain ⟨j, e5, e6, _⟩ := DataW.trod_int uj hy2
    have e1' : a = .int .i64 k := by simpa using e1
    have e3' : b = .string s := by simpa using e3
    have e5' : c = .int .i64 j := by simpa using e5
    subst e1' e3' e5'
    exact ⟨⟨k, s, j⟩, rfl, by simp [nodeD, e2, e4, e6]⟩
/-- The datum of a row of nodes. -/
def nodesD (l : List Nd) (d : DataW H) : Prop := (l = [] ∧ d = .nil) ∨ ∃ sp : List (DataW H), d = .slice (l.map nodeD) sp
theorem trip_at (f : Nat → Nd) : ∀ (n j : Nat) (u : Value), (cls ((List.range n).map f))[j]? = some u → ∃ i k, i < n ∧ k < 3 ∧ j = i * 3 + k ∧ (cl (f i))[k]? = some u := by
  intro n j u hu
  have hlen : (cls ((List.range n).map f)).length = n * 3 := by rw [cls_len]; simp
  have hj : j < n * 3 := by
    have := (List.getElem?_eq_some_iff.1 hu).1
    omega
  have hk : j / 3 < ((List.range n).map f).length := by simp; omega
  obtain ⟨h1, h2, h3⟩ := cls_at _ (j / 3) hk
  have hx : ((List.range n).map f)[j / 3] = f (j / 3) := by simp
  rw [hx] at h1 h2 h3
  have hr : j % 3 = 0 ∨ j % 3 = 1 ∨ j % 3 = 2 := by omega
  rcases hr with hr | hr | hr
  · rw [← show j = j / 3 * 3 by omega] at h1
    exact ⟨j / 3, 0, by omega, by omega, by omega, by rw [← hu, h1]; rfl⟩
  · rw [← show j = j / 3 * 3 + 1 by omega] at h2
    exact ⟨j / 3, 1, by omega, by omega, by omega, by rw [← hu, h2]; rfl⟩
  · rw [← show j = j / 3 * 3 + 2 by omega] at h3
    exact ⟨j / 3, 2, by omega, by omega, by omega, by rw [← hu, h3]; rfl⟩
/-- A slice of nodes that came in. -/
theorem nds_of {held : Bool} {fuel : Nat} {tt t ti ts tj : TypeId} {f0 f1 f2 : Field} {v : Value} {x : DataW H × List MemPlace} (utt : P.underlying tt = some (.slice t)) (ut : P.underlying t = some (.struct #[f0, f1, f2])) (ct : P.cellsOf t = 3) (h0 : f0.type = ti) (o0 : f0.offset = 0) (h1 : f1.type = ts) (o1 : f1.offset = 1) (h2 : f2.type = tj) (o2 : f2.offset = 2)
    (ui : P.underlying ti = some (.int .i64)) (ci : P.cellsOf ti = 1) (us : P.underlying ts = some .string) (cs1 : P.cellsOf ts = 1) (uj : P.underlying tj = some (.int .i64)) (cj : P.cellsOf tj = 1)
    (h : DataW.trod enc P w 0 (fun _ => true) held fuel tt [v] = some x) : ∃ l : List Nd, Nds w v l ∧ nodesD l x.1 := by
  rcases Deep.open_slice utt h with ⟨hcs, rfl⟩ | ⟨a, len, cap, m, n, D, Pl, hcs, _, hl, hm, hmm, rfl, hel⟩
  · cases hcs
    exact ⟨[], ⟨rfl, none, 0, rfl, Nat.le_refl _, fun _ => ⟨rfl, rfl⟩, fun h => absurd h (by simp)⟩, .inl ⟨rfl, rfl⟩⟩
  · cases hcs
    have hm' : m = cap := by simpa using hmm
    subst hm'
    rw [ct] at hel
    obtain ⟨F, hF⟩ : ∃ F : Nat → Nd, ∀ i, i < len → w.cells? 0 (a.add (i * 3)) 3 = some (cl (F i)) ∧ D i = nodeD (F i) := by
      haveI : Inhabited Nd := ⟨⟨0, ⟨#[]⟩, 0⟩⟩
      refine Deep.choose_lt (α := Nd) (p := fun i z => w.cells? 0 (a.add (i * 3)) 3 = some (cl z) ∧ D i = nodeD z) fun i hi => ?_
      obtain ⟨cs', hc, ht⟩ := hel i (by omega)
      obtain ⟨z, rfl, hz⟩ := nd_of ut ct h0 o0 h1 o1 h2 o2 ui ci us cs1 uj cj ht
      exact ⟨z, hc, hz⟩
    have hlen : ((List.range len).map F).length = len := by simp
    refine ⟨(List.range len).map F, ⟨cls_len _, some a, m, by rw [hlen], by omega, fun h => (by cases h), fun hp => ?_⟩, .inr ⟨(List.range (m - len)).map fun j => D (len + j), ?_⟩⟩
    · rw [hlen] at hp
      obtain ⟨b, off, spot⟩ := a
      have hc0 := (World.cells?_some (hF 0 hp).1).2.2 0 (by omega)
      have hspot : spot = none := by
        have := hc0
        simp [Addr.add, cl] at this
        exact World.cell?_spot this
      subst hspot
      refine ⟨b, off, rfl, fun j u hu => ?_⟩
      obtain ⟨i, k, hi, hk, rfl, hu'⟩ := trip_at F len j u hu
      have hc := (World.cells?_some (hF i hi).1).2.2 k hk
      rw [hu'] at hc
      simpa [Addr.add_lit, Nat.add_assoc] using hc
    · have e : (List.range len).map D = ((List.range len).map F).map nodeD := by
        rw [List.map_map]
        exact List.map_congr_left fun i hi => (hF i (List.mem_range.1 hi)).2
      simp only [e]
/-- The reach, element by element. -/
theorem all_each {e : TypeId} {q : Nat → Bool} : ∀ {l : List (DataW H)}, (DataW.weightsAll P e l).all q = true → ∀ d ∈ l, (d.weights P e).all q = true
  | [], _, d, hd => by cases hd
  | x :: l, h, d, hd => by
    have h' : (DataW.weights P e x ++ DataW.weightsAll P e l).all q = true := h
    rw [List.all_append, Bool.and_eq_true] at h'
    rcases List.mem_cons.1 hd with rfl | hd
    · exact h'.1
    · exact all_each h'.2 d hd
theorem nd_reach {t : TypeId} {f0 f1 f2 : Field} (ut : P.underlying t = some (.struct #[f0, f1, f2])) {x : Nd} (h : ((nodeD x : DataW H).weights P t).all (· ≤ reachBytes) = true) : x.n.size ≤ 140737488355328 := by
  unfold nodeD at h
  rw [DataW.weights, ut] at h
  have h' : (DataW.weights P f0.type (.lit (.int .i64 x.k) : DataW H) ++ (DataW.weights P f1.type (.lit (.string x.n.data.toList) : DataW H) ++ DataW.weightsEach P [f2.type] [.lit (.int .i64 x.s)])).all (· ≤ reachBytes) = true := h
  rw [List.all_append, List.all_append, Bool.and_eq_true, Bool.and_eq_true] at h'
  have h1 : ([x.n.data.toList.length].all (· ≤ reachBytes)) = true := h'.2.1
  have h2 : x.n.data.toList.length = x.n.size := by simp
  rw [h2] at h1
  have h3 : x.n.size ≤ reachBytes := by simpa using h1
  unfold reachBytes at h3
  omega
theorem nds_reach {tt t : TypeId} {f0 f1 f2 : Field} (utt : P.underlying tt = some (.slice t)) (ut : P.underlying t = some (.struct #[f0, f1, f2])) {l : List Nd} {d : DataW H} (hd : nodesD l d) (h : (d.weights P tt).all (· ≤ reachBytes) = true) : Nms l := by
  rcases hd with ⟨rfl, _⟩ | ⟨sp, rfl⟩
  · intro p hp; cases hp
  · rw [DataW.weights, utt] at h
    simp only [List.all_cons, List.all_append, Bool.and_eq_true] at h
    intro x hx
    exact nd_reach ut (all_each h.2.1 _ (List.mem_map.2 ⟨x, hx, rfl⟩))
theorem reach_cons {t : TypeId} {ts : List TypeId} {d : DataW H} {ds : List (DataW H)} (h : (DataW.weightsEach P (t :: ts) (d :: ds)).all (· ≤ reachBytes) = true) : (d.weights P t).all (· ≤ reachBytes) = true ∧ (DataW.weightsEach P ts ds).all (· ≤ reachBytes) = true := by
  have h' : (DataW.weights P t d ++ DataW.weightsEach P ts ds).all (· ≤ reachBytes) = true := h
  rwa [List.all_append, Bool.and_eq_true] at h'
end

theorem own : ownKnob Try.prog.godebug = none := by kernel_rfl
theorem laidOut : laidOutB Try.prog = true := by kernel_rfl
theorem cN : Try.prog.cellsOf 39 = 3 := by kernel_rfl
theorem cStr : Try.prog.cellsOf 9 = 1 := by kernel_rfl
theorem cInt : Try.prog.cellsOf 3 = 1 := by kernel_rfl
section
variable {H : Type} {enc : TypeId × Value → H} {W : World} {base : Nat} {v : Value} {d : DataW H} {p : List MemPlace}
/-- A node that came in. -/
theorem nd_arg (hok : Value.okWide Try.prog W .any base 39 v) (h : DataW.Trod enc Try.prog W 0 (fun _ => true) true 39 v d p) :
    ∃ x : Nd, v = .agg #[.int .i64 x.k, .string x.n, .int .i64 x.s] ∧ d = nodeD x := by
  obtain ⟨cs, rfl, hsz⟩ := okWide_struct Try.underlying39 hok
  obtain ⟨fuel, hf⟩ := h
  obtain ⟨x, hcs, hd⟩ := nd_of Try.underlying39 cN rfl rfl rfl rfl rfl rfl Try.underlying3 cInt Try.underlying9 cStr Try.underlying3 cInt hf
  refine ⟨x, ?_, hd⟩
  have e : cs.toList = cl x := hcs
  cases cs
  simp [cl] at e
  rw [e]
/-- A row of nodes that came in. -/
theorem nds_arg (hok : Value.okWide Try.prog W .any base 22 v) (h : DataW.Trod enc Try.prog W 0 (fun _ => true) true 22 v d p) :
    ∃ l : List Nd, Nds W v l ∧ nodesD l d := by
  obtain ⟨a, len, cap, rfl⟩ := okWide_slice Try.underlying22 hok
  obtain ⟨fuel, hf⟩ := h
  exact nds_of Try.underlying22 Try.underlying39 cN rfl rfl rfl rfl rfl rfl Try.underlying3 cInt Try.underlying9 cStr Try.underlying3 cInt hf
theorem nds_in {l : List Nd} (hd : nodesD l d) (h : (d.weights Try.prog 22).all (· ≤ reachBytes) = true) : Nms l := nds_reach Try.underlying22 Try.underlying39 hd h
/-- A row of integers that came in. -/
theorem is_arg (hok : Value.okWide Try.prog W .any base 27 v) (h : DataW.Trod enc Try.prog W 0 (fun _ => true) true 27 v d p) : ∃ l : List Int, Ints W v l := by
  obtain ⟨a, cap, l, rfl, hle, _, _, hn, hc⟩ := Fr.ints_arg Try.underlying27 Try.underlying3 cInt hok h
  refine ⟨l, by simp, a, cap, rfl, hle, fun e => ?_, fun h0 => ?_⟩
  · have := hn e
    omega
  · rcases hc with rfl | ⟨b, off, rfl, hj⟩
    · simp at h0
    · refine ⟨b, off, rfl, fun j u hu => ?_⟩
      rw [List.getElem?_map, Option.map_eq_some_iff] at hu
      obtain ⟨n, hn', rfl⟩ := hu
      obtain ⟨hj', rfl⟩ := List.getElem?_eq_some_iff.1 hn'
      exact hj j hj'
end
end Go.Proofs.Ytpkbpooiaddcaaa.Rw
