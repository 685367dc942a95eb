/- Rows of traces, and of pairs, in memory, and in which blocks they lie. The statements' own first look at package refuse. -/
import Derived.Test.YtpkbpooiaddcaaaGreatQ14
import Derived.Test.YtpkbpooiaddcaaaGreatQ04
import Derived.Test.YtpkbpooiaddcaaaGreatQ10
import Derived.Test.YtpkbpooiaddcaaaGreatQ13
import Derived.Test.YtpkbpooiaddcaaaGreatQ06

namespace Go.Proofs.YtpkbpooiaddcaaaGreat.Mn
open Go Go.RowKit Tr
set_option maxRecDepth 20000

/-- The cells of a row, element by element, sz cells each. -/
def Cl {α : Type} (E : α → List Value → Prop) (sz : Nat) : List α → List Value → Prop
  | [], cs => cs = []
  | x :: l, cs => E x (cs.take sz) ∧ Cl E sz l (cs.drop sz)
theorem Cl.len {α : Type} {E : α → List Value → Prop} {sz : Nat} (hE : ∀ x cs, E x cs → cs.length = sz) : ∀ {l : List α} {cs : List Value}, Cl E sz l cs → cs.length = l.length * sz
  | [], cs, h => by rw [show cs = [] from h]; simp
  | x :: l, cs, h => by
    have h1 := hE _ _ h.1
    have h2 := Cl.len hE h.2
    rw [List.length_take] at h1
    rw [List.length_drop] at h2
    rw [List.length_cons, Nat.add_mul, Nat.one_mul]
    omega
theorem Cl.imp {α : Type} {E E' : α → List Value → Prop} {sz : Nat} (hE : ∀ x cs, E x cs → E' x cs) : ∀ {l : List α} {cs : List Value}, Cl E sz l cs → Cl E' sz l cs
  | [], _, h => h
  | _ :: _, _, h => ⟨hE _ _ h.1, Cl.imp hE h.2⟩
theorem Cl.append {α : Type} {E : α → List Value → Prop} {sz : Nat} (hE : ∀ x cs, E x cs → cs.length = sz) {m : List α} {ds : List Value} (hd : Cl E sz m ds) : ∀ {l : List α} {cs : List Value}, Cl E sz l cs → Cl E sz (l ++ m) (cs ++ ds)
  | [], cs, h => by rw [show cs = [] from h]; exact hd
  | x :: l, cs, h => by
    have h1 := hE _ _ h.1
    rw [List.length_take] at h1
    refine ⟨?_, ?_⟩
    · rw [List.take_append_of_le_length (by omega)]; exact h.1
    · rw [List.drop_append_of_le_length (by omega)]; exact Cl.append hE hd h.2
theorem Cl.one {α : Type} {E : α → List Value → Prop} {sz : Nat} {x : α} {cs : List Value} (h : E x cs) (hl : cs.length = sz) : Cl E sz [x] cs :=
  ⟨by rw [List.take_of_length_le (by omega)]; exact h, List.drop_eq_nil_of_le (by omega)⟩
theorem Cl.at {α : Type} {E : α → List Value → Prop} {sz : Nat} : ∀ {l : List α} {cs : List Value}, Cl E sz l cs → ∀ k (hk : k < l.length), E l[k] ((cs.drop (k * sz)).take sz)
  | [], _, _, k, hk => by simp at hk
  | x :: l, cs, h, 0, _ => by simpa using h.1
  | x :: l, cs, h, k + 1, hk => by
    have := Cl.at h.2 k (by simpa using hk)
    rw [List.drop_drop] at this
    rw [show (k + 1) * sz = sz + k * sz by rw [Nat.add_mul]; omega]
    exact this
theorem Cl.take {α : Type} {E : α → List Value → Prop} {sz : Nat} (hE : ∀ x cs, E x cs → cs.length = sz) : ∀ {l : List α} {cs : List Value}, Cl E sz l cs → ∀ k, Cl E sz (l.take k) (cs.take (k * sz))
  | [], cs, h, k => by rw [show cs = [] from h]; simp [Cl]
  | x :: l, cs, h, 0 => by simp [Cl]
  | x :: l, cs, h, k + 1 => by
    have h1 := hE _ _ h.1
    rw [List.length_take] at h1
    have e : (k + 1) * sz = k * sz + sz := by rw [Nat.add_mul]; omega
    refine ⟨?_, ?_⟩
    · rw [List.take_take, Nat.min_eq_left (by omega)]; exact h.1
    · rw [List.drop_take, show (k + 1) * sz - sz = k * sz by omega]; exact Cl.take hE h.2 k
theorem Cl.drop {α : Type} {E : α → List Value → Prop} {sz : Nat} : ∀ {l : List α} {cs : List Value}, Cl E sz l cs → ∀ k, Cl E sz (l.drop k) (cs.drop (k * sz))
  | [], cs, h, k => by rw [show cs = [] from h]; simp [Cl]
  | x :: l, cs, h, 0 => by simpa using h
  | x :: l, cs, h, k + 1 => by
    have := Cl.drop h.2 k
    rw [List.drop_drop] at this
    rw [show (k + 1) * sz = sz + k * sz by rw [Nat.add_mul]; omega]
    exact this
theorem Cl.cells {α : Type} {E : α → List Value → Prop} {sz : Nat} (P : Value → Prop) (hE : ∀ x cs, E x cs → ∀ u ∈ cs, P u) : ∀ {l : List α} {cs : List Value}, Cl E sz l cs → ∀ u ∈ cs, P u
  | [], cs, h, u, hu => by rw [show cs = [] from h] at hu; cases hu
  | x :: l, cs, h, u, hu => by
    rw [← List.take_append_drop sz cs] at hu
    rcases List.mem_append.1 hu with hu | hu
    · exact hE _ _ h.1 u hu
    · exact Cl.cells P hE h.2 u hu

/-- The cells of one trace, of one pair. -/
def ET (ok : Nat → Prop) (w : World) (t : Tr) (cs : List Value) : Prop := ∃ a, cs = [a, .int .i64 t.e] ∧ StrsO ok w a t.a
def EP (ok : Nat → Prop) (w : World) (x : Pr) (cs : List Value) : Prop := ∃ a b, cs = [a, .int .i64 x.p.e, b, .int .i64 x.q.e] ∧ StrsO ok w a x.p.a ∧ StrsO ok w b x.q.a
theorem ET.len {ok : Nat → Prop} {w : World} (t : Tr) (cs : List Value) (h : ET ok w t cs) : cs.length = 2 := by
  obtain ⟨a, rfl, _⟩ := h
  rfl
theorem EP.len {ok : Nat → Prop} {w : World} (t : Pr) (cs : List Value) (h : EP ok w t cs) : cs.length = 4 := by
  obtain ⟨a, b, rfl, _⟩ := h
  rfl
theorem strsO_one {ok : Nat → Prop} {w : World} {a : Value} {l : List ByteArray} (h : StrsO ok w a l) : a.oneCell' = true := by
  obtain ⟨_, x, c, rfl, _⟩ := h
  rfl
theorem ET.one {ok : Nat → Prop} {w : World} (t : Tr) (cs : List Value) (h : ET ok w t cs) : ∀ u ∈ cs, u.oneCell' = true := by
  obtain ⟨a, rfl, h⟩ := h
  intro u hu
  simp only [List.mem_cons, List.mem_nil_iff, or_false] at hu
  rcases hu with rfl | rfl
  · exact strsO_one h
  · rfl
theorem EP.one {ok : Nat → Prop} {w : World} (t : Pr) (cs : List Value) (h : EP ok w t cs) : ∀ u ∈ cs, u.oneCell' = true := by
  obtain ⟨a, b, rfl, h, h'⟩ := h
  intro u hu
  simp only [List.mem_cons, List.mem_nil_iff, or_false] at hu
  rcases hu with rfl | rfl | rfl | rfl
  · exact strsO_one h
  · rfl
  · exact strsO_one h'
  · rfl
theorem ET.map {ok ok' : Nat → Prop} {w w' : World} (h : ∀ v l, StrsO ok w v l → StrsO ok' w' v l) (t : Tr) (cs : List Value) (hx : ET ok w t cs) : ET ok' w' t cs := by
  obtain ⟨a, rfl, hx⟩ := hx
  exact ⟨a, rfl, h _ _ hx⟩
theorem EP.map {ok ok' : Nat → Prop} {w w' : World} (h : ∀ v l, StrsO ok w v l → StrsO ok' w' v l) (t : Pr) (cs : List Value) (hx : EP ok w t cs) : EP ok' w' t cs := by
  obtain ⟨a, b, rfl, hx, hy⟩ := hx
  exact ⟨a, b, rfl, h _ _ hx, h _ _ hy⟩

/-- Rows of traces, of pairs, all in blocks that are as ok says. -/
def TsO (ok : Nat → Prop) (w : World) (v : Value) (l : List Tr) : Prop := ∃ cs, Ap.RdO ok w 2 v l.length cs ∧ Cl (ET ok w) 2 l cs
def PsO (ok : Nat → Prop) (w : World) (v : Value) (l : List Pr) : Prop := ∃ cs, Ap.RdO ok w 4 v l.length cs ∧ Cl (EP ok w) 4 l cs
abbrev any : Nat → Prop := fun _ => True
theorem TsO.imp {ok ok' : Nat → Prop} {w : World} {v : Value} {l : List Tr} (h : TsO ok w v l) (hi : ∀ b, b < w.heap.size → ok b → ok' b) : TsO ok' w v l := by
  obtain ⟨cs, h1, h2⟩ := h
  exact ⟨cs, h1.imp hi, h2.imp (ET.map fun _ _ h => Ap.RdO.imp h hi)⟩
theorem PsO.imp {ok ok' : Nat → Prop} {w : World} {v : Value} {l : List Pr} (h : PsO ok w v l) (hi : ∀ b, b < w.heap.size → ok b → ok' b) : PsO ok' w v l := by
  obtain ⟨cs, h1, h2⟩ := h
  exact ⟨cs, h1.imp hi, h2.imp (EP.map fun _ _ h => Ap.RdO.imp h hi)⟩
theorem TsO.below {ok : Nat → Prop} {w w' : World} {v : Value} {l : List Tr} (h : TsO ok w v l) (hb : Below w.heap.size w w') : TsO ok w' v l := by
  obtain ⟨cs, h1, h2⟩ := h
  exact ⟨cs, h1.below hb, h2.imp (ET.map fun _ _ h => Ap.RdO.below h hb)⟩
theorem PsO.below {ok : Nat → Prop} {w w' : World} {v : Value} {l : List Pr} (h : PsO ok w v l) (hb : Below w.heap.size w w') : PsO ok w' v l := by
  obtain ⟨cs, h1, h2⟩ := h
  exact ⟨cs, h1.below hb, h2.imp (EP.map fun _ _ h => Ap.RdO.below h hb)⟩
theorem so_below {ok : Nat → Prop} {w w' : World} {v : Value} {l : List ByteArray} (h : StrsO ok w v l) (hb : Below w.heap.size w w') : StrsO ok w' v l := Ap.RdO.below h hb
theorem so_strs {ok : Nat → Prop} {w : World} {v : Value} {l : List ByteArray} (h : StrsO ok w v l) : Strs w v l := Ap.RdO.rd h
theorem so_of {w : World} {v : Value} {l : List ByteArray} (h : Strs w v l) : StrsO any w v l := Ap.RdO.of (by omega) h
theorem cells_cl {w : World} : ∀ {cs : List Value} {l : List Tr}, TrCells w cs l → Cl (ET any w) 2 l cs
  | [], [], _ => rfl
  | a :: e :: cs, t :: l, h => ⟨⟨a, by simp [h.2.1], so_of h.1⟩, by simpa using cells_cl h.2.2⟩
  | [], _ :: _, h => h.elim
  | [_], [], h => h.elim
  | [_], _ :: _, h => h.elim
  | _ :: _ :: _, [], h => h.elim
theorem cl_cells {ok : Nat → Prop} {w : World} : ∀ {l : List Tr} {cs : List Value}, Cl (ET ok w) 2 l cs → TrCells w cs l
  | [], cs, h => by rw [show cs = [] from h]; trivial
  | t :: l, cs, h => by
    obtain ⟨⟨a, h1, h2⟩, h3⟩ := h
    match cs, h1, h3 with
    | x :: y :: cs, h1, h3 =>
      simp only [List.take_succ_cons, List.take_zero, List.cons.injEq, and_true] at h1
      obtain ⟨rfl, rfl⟩ := h1
      exact ⟨so_strs h2, rfl, cl_cells h3⟩
    | [x], h1, _ => simp at h1
    | [], h1, _ => simp at h1
theorem TsO.of {w : World} {v : Value} {l : List Tr} (h : Trs w v l) : TsO any w v l := by
  obtain ⟨cs, h1, h2⟩ := h
  exact ⟨cs, Ap.RdO.of (by omega) h1, cells_cl h2⟩
theorem TsO.trs {ok : Nat → Prop} {w : World} {v : Value} {l : List Tr} (h : TsO ok w v l) : Trs w v l := by
  obtain ⟨cs, h1, h2⟩ := h
  exact ⟨cs, h1.rd, cl_cells h2⟩
theorem take2 {cs : List Value} {k : Nat} {a b : Value} (h : (cs.drop (k * 2)).take 2 = [a, b]) : cs[2 * k]? = some a ∧ cs[2 * k + 1]? = some b := by
  have h0 : ((cs.drop (k * 2)).take 2)[0]? = some a := by rw [h]; rfl
  have h1 : ((cs.drop (k * 2)).take 2)[1]? = some b := by rw [h]; rfl
  rw [List.getElem?_take_of_lt (by omega), List.getElem?_drop] at h0 h1
  rw [Nat.mul_comm] at h0 h1
  exact ⟨by simpa using h0, h1⟩
theorem take4 {cs : List Value} {k : Nat} {a b c d : Value} (h : (cs.drop (k * 4)).take 4 = [a, b, c, d]) : cs[k * 4]? = some a ∧ cs[k * 4 + 1]? = some b ∧ cs[k * 4 + 2]? = some c ∧ cs[k * 4 + 3]? = some d := by
  have h0 : ((cs.drop (k * 4)).take 4)[0]? = some a := by rw [h]; rfl
  have h1 : ((cs.drop (k * 4)).take 4)[1]? = some b := by rw [h]; rfl
  have h2 : ((cs.drop (k * 4)).take 4)[2]? = some c := by rw [h]; rfl
  have h3 : ((cs.drop (k * 4)).take 4)[3]? = some d := by rw [h]; rfl
  rw [List.getElem?_take_of_lt (by omega), List.getElem?_drop] at h0 h1 h2 h3
  exact ⟨by simpa using h0, h1, h2, h3⟩
/-- A trace of a row: its two cells. -/
theorem TsO.val {ok : Nat → Prop} {w : World} {v : Value} {l : List Tr} (h : TsO ok w v l) : ∃ a cap, v = .slice a l.length cap ∧ l.length ≤ cap ∧
    ∀ k, (hk : k < l.length) → ∃ b off x, a = some ⟨b, off, none⟩ ∧ ok b ∧ w.cell? ⟨b, off + k * 2, none⟩ = some x ∧ w.cell? ⟨b, off + k * 2 + 1, none⟩ = some (.int .i64 l[k].e) ∧ StrsO ok w x l[k].a := by
  obtain ⟨cs, ⟨_, a, cap, rfl, hcap, _, hcell⟩, hc⟩ := h
  refine ⟨a, cap, rfl, hcap, fun k hk => ?_⟩
  obtain ⟨b, off, rfl, ho, _, hj⟩ := hcell (by omega)
  obtain ⟨x, h1, h2⟩ := hc.at k hk
  obtain ⟨e1, e2⟩ := take2 h1
  rw [Nat.mul_comm] at e1 e2
  exact ⟨b, off, x, rfl, ho, hj _ _ e1, by rw [Nat.add_assoc]; exact hj _ _ e2, h2⟩
theorem PsO.val {ok : Nat → Prop} {w : World} {v : Value} {l : List Pr} (h : PsO ok w v l) : ∃ a cap, v = .slice a l.length cap ∧ l.length ≤ cap ∧
    ∀ k, (hk : k < l.length) → ∃ b off x y, a = some ⟨b, off, none⟩ ∧ ok b ∧ w.cell? ⟨b, off + k * 4, none⟩ = some x ∧ w.cell? ⟨b, off + k * 4 + 1, none⟩ = some (.int .i64 l[k].p.e) ∧ w.cell? ⟨b, off + k * 4 + 2, none⟩ = some y ∧ w.cell? ⟨b, off + k * 4 + 3, none⟩ = some (.int .i64 l[k].q.e) ∧ StrsO ok w x l[k].p.a ∧ StrsO ok w y l[k].q.a := by
  obtain ⟨cs, ⟨_, a, cap, rfl, hcap, _, hcell⟩, hc⟩ := h
  refine ⟨a, cap, rfl, hcap, fun k hk => ?_⟩
  obtain ⟨b, off, rfl, ho, _, hj⟩ := hcell (by omega)
  obtain ⟨x, y, h1, h2, h3⟩ := hc.at k hk
  obtain ⟨e1, e2, e3, e4⟩ := take4 h1
  exact ⟨b, off, x, y, rfl, ho, hj _ _ e1, by rw [Nat.add_assoc]; exact hj _ _ e2, by rw [Nat.add_assoc]; exact hj _ _ e3, by rw [Nat.add_assoc]; exact hj _ _ e4, h2, h3⟩

/-- A call that tells a row: all of it in blocks that were there, as ok says, or in new ones. -/
def OutT (ok : Nat → Prop) (l : List Tr) (w : World) (e : Ending) (w' : World) : Prop := ∃ a c, e = .returned (.slice a l.length c) ∧ TsO (fun b => ok b ∨ w.heap.size ≤ b) w' (.slice a l.length c) l ∧ Below w.heap.size w w'
def OutP (ok : Nat → Prop) (l : List Pr) (w : World) (e : Ending) (w' : World) : Prop := ∃ a c, e = .returned (.slice a l.length c) ∧ PsO (fun b => ok b ∨ w.heap.size ≤ b) w' (.slice a l.length c) l ∧ Below w.heap.size w w'
theorem OutT.up {ok ok' : Nat → Prop} {l : List Tr} {w w1 w2 : World} {e : Ending} (h : OutT ok' l w1 e w2) (hb : Below w.heap.size w w1) (hi : ∀ b, ok' b → ok b ∨ w.heap.size ≤ b) : OutT ok l w e w2 := by
  obtain ⟨a, c, rfl, ht, hb'⟩ := h
  have := hb.size
  exact ⟨a, c, rfl, ht.imp fun b _ h => h.elim (hi b) fun h => .inr (by omega), hb.trans (hb'.mono hb.size)⟩
theorem OutP.up {ok ok' : Nat → Prop} {l : List Pr} {w w1 w2 : World} {e : Ending} (h : OutP ok' l w1 e w2) (hb : Below w.heap.size w w1) (hi : ∀ b, ok' b → ok b ∨ w.heap.size ≤ b) : OutP ok l w e w2 := by
  obtain ⟨a, c, rfl, ht, hb'⟩ := h
  have := hb.size
  exact ⟨a, c, rfl, ht.imp fun b _ h => h.elim (hi b) fun h => .inr (by omega), hb.trans (hb'.mono hb.size)⟩
end Go.Proofs.YtpkbpooiaddcaaaGreat.Mn

namespace Go.Proofs.YtpkbpooiaddcaaaGreat.Rf
open Go Go.RowKit Go.Proofs.YtpkbpooiaddcaaaGreat.Rw
set_option maxRecDepth 20000

def fewB (l : List Nd) : Bool := decide (l.length ≤ 120) && decide (depth l ≤ 24)
theorem few_len {l : List Nd} (h : fewB l = true) : l.length ≤ 120 := by
  unfold fewB at h
  rw [Bool.and_eq_true, decide_eq_true_eq] at h
  exact h.1
set_option maxHeartbeats 1000000 in
theorem few_any (v : Value) (l : List Nd) (w : World) (h : Nds w v l) :
    Calls Tryz.prog 6 #[v] w fun e w' => e = .returned (.bool (fewB l)) ∧ w = w' := by
  have H := Lib.hid h
  have hr : fewB l = (decide (l.length ≤ 120) && decide (depth l ≤ 24)) := rfl
  rw [hr]
  obtain ⟨d, hd⟩ : ∃ d, depth l = d := ⟨_, rfl⟩
  have HD := Lib.hid hd
  rw [hd]
  obtain ⟨_, a, cap, rfl, -⟩ := h
  clear hr hd
  by_cases h1 : l.length ≤ 120
  · rw [decide_eq_true h1, Bool.true_and]
    go_enter Tryz.func6, Tryz.ntmps6
    go_wp2_with fail
    refine (depthR_any _ l _ H.out (by omega)).mono ?_
    rw [HD.out]
    rintro e w' ⟨rfl, rfl⟩
    go_wp2_with fail
    go_ret
    exact ⟨ret_bool (decide_eq_decide.2 (by omega)), rfl⟩
  · have g1 : decide (l.length ≤ 120) = false := decide_eq_false h1
    rw [g1, Bool.false_and]
    go_enter Tryz.func6, Tryz.ntmps6
    go_wp2_with fail
    go_ret
    exact ⟨rfl, rfl⟩

/-- Two actions, of which one may be refused. -/
def nSeq : Nd := ⟨5, ⟨#[]⟩, 0⟩
def nA : Nd := ⟨1, ⟨#[97]⟩, 0⟩
def nB : Nd := ⟨1, ⟨#[98]⟩, 0⟩
def lL : List Nd := [nSeq, nA, nB]
def wL : List Nd := [nSeq, nA, ⟨6, ⟨#[]⟩, 0⟩, nB, ⟨3, ⟨#[]⟩, 0⟩]
def aba : List Nd := [nA, nB, nA]
theorem al_rew : sub (inN [⟨#[98]⟩, ⟨#[99]⟩]) lL = wL := by decide +kernel
theorem al_mark2 : mark 2 lL = wL := by decide +kernel
theorem al_mark0 : mark 0 lL = lL := by decide +kernel
theorem al_strip : strip wL = lL := by decide +kernel
theorem al_plc : plc (isN ⟨#[97]⟩) aba = [0, 2] := by decide +kernel
theorem nms_small {l : List Nd} (h : ∀ x ∈ l, x.n.size ≤ 8) : Nms l := fun x hx => Nat.le_trans (h x hx) (by decide)
/-- Both rows in memory. -/
structure Alv (w0 w : World) : Prop where
  bel : Below w0.heap.size w0 w
  l : Nds w (.slice (some ⟨w0.heap.size + 1 + 1, 0, none⟩) 3 3) lL
  want : Nds w (.slice (some ⟨w0.heap.size + 1 + 1 + 1, 0, none⟩) 5 5) wL
theorem Alv.below {w0 w w' : World} (h : Alv w0 w) (hb : Below w.heap.size w w') : Alv w0 w' := ⟨h.bel.trans (hb.mono h.bel.size), h.l.below hb, h.want.below hb⟩
theorem Alv.start (w : World) (t : TypeId) : Alv w ((((w.alloc (nb nA)).alloc (nb nB)).alloc (.cells (cls lL).toArray t)).alloc (.cells (cls wL).toArray t)) := by
  have b1 := below1 w (nb nA)
  have b2 := below1 (w.alloc (nb nA)) (nb nB)
  have b3 := below1 ((w.alloc (nb nA)).alloc (nb nB)) (.cells (cls lL).toArray t)
  have b4 := below1 (((w.alloc (nb nA)).alloc (nb nB)).alloc (.cells (cls lL).toArray t)) (.cells (cls wL).toArray t)
  have h3 := nds_new ((w.alloc (nb nA)).alloc (nb nB)) lL t
  have h4 := nds_new (((w.alloc (nb nA)).alloc (nb nB)).alloc (.cells (cls lL).toArray t)) wL t
  have e3 : ((w.alloc (nb nA)).alloc (nb nB)).heap.size = w.heap.size + 1 + 1 := by simp
  have e4 : (((w.alloc (nb nA)).alloc (nb nB)).alloc (.cells (cls lL).toArray t)).heap.size = w.heap.size + 1 + 1 + 1 := by simp
  rw [e3] at h3
  rw [e4] at h4
  have c1 := b1.trans (b2.mono b1.size)
  have c2 := c1.trans (b3.mono c1.size)
  exact ⟨c2.trans (b4.mono c2.size), h3.below b4, h4⟩
theorem al_start (w : World) : Alv w (((((w.alloc (.cells #[.int .i64 1, .string ⟨#[97]⟩, .int .i64 0] 41)).alloc (.cells #[.int .i64 1, .string ⟨#[98]⟩, .int .i64 0] 41)).alloc (.cells #[.int .i64 5, .string ⟨#[]⟩, .int .i64 0, .int .i64 1, .string ⟨#[97]⟩, .int .i64 0, .int .i64 1, .string ⟨#[98]⟩, .int .i64 0] 41)).alloc (.cells #[.int .i64 5, .string ⟨#[]⟩, .int .i64 0, .int .i64 1, .string ⟨#[97]⟩, .int .i64 0, .int .i64 6, .string ⟨#[]⟩, .int .i64 0, .int .i64 1, .string ⟨#[98]⟩, .int .i64 0, .int .i64 3, .string ⟨#[]⟩, .int .i64 0] 41)).alloc (.cells #[.int .i64 1, .string ⟨#[97]⟩, .int .i64 0, .int .i64 1, .string ⟨#[98]⟩, .int .i64 0, .int .i64 1, .string ⟨#[97]⟩, .int .i64 0] 41)) ∧ Nds (((((w.alloc (.cells #[.int .i64 1, .string ⟨#[97]⟩, .int .i64 0] 41)).alloc (.cells #[.int .i64 1, .string ⟨#[98]⟩, .int .i64 0] 41)).alloc (.cells #[.int .i64 5, .string ⟨#[]⟩, .int .i64 0, .int .i64 1, .string ⟨#[97]⟩, .int .i64 0, .int .i64 1, .string ⟨#[98]⟩, .int .i64 0] 41)).alloc (.cells #[.int .i64 5, .string ⟨#[]⟩, .int .i64 0, .int .i64 1, .string ⟨#[97]⟩, .int .i64 0, .int .i64 6, .string ⟨#[]⟩, .int .i64 0, .int .i64 1, .string ⟨#[98]⟩, .int .i64 0, .int .i64 3, .string ⟨#[]⟩, .int .i64 0] 41)).alloc (.cells #[.int .i64 1, .string ⟨#[97]⟩, .int .i64 0, .int .i64 1, .string ⟨#[98]⟩, .int .i64 0, .int .i64 1, .string ⟨#[97]⟩, .int .i64 0] 41)) (.slice (some ⟨w.heap.size + 1 + 1 + 1 + 1, 0, none⟩) 3 3) aba := by
  have h1 : Alv w ((((w.alloc (.cells #[.int .i64 1, .string ⟨#[97]⟩, .int .i64 0] 41)).alloc (.cells #[.int .i64 1, .string ⟨#[98]⟩, .int .i64 0] 41)).alloc (.cells #[.int .i64 5, .string ⟨#[]⟩, .int .i64 0, .int .i64 1, .string ⟨#[97]⟩, .int .i64 0, .int .i64 1, .string ⟨#[98]⟩, .int .i64 0] 41)).alloc (.cells #[.int .i64 5, .string ⟨#[]⟩, .int .i64 0, .int .i64 1, .string ⟨#[97]⟩, .int .i64 0, .int .i64 6, .string ⟨#[]⟩, .int .i64 0, .int .i64 1, .string ⟨#[98]⟩, .int .i64 0, .int .i64 3, .string ⟨#[]⟩, .int .i64 0] 41)) := Alv.start w 41
  have h2 : Nds (((((w.alloc (.cells #[.int .i64 1, .string ⟨#[97]⟩, .int .i64 0] 41)).alloc (.cells #[.int .i64 1, .string ⟨#[98]⟩, .int .i64 0] 41)).alloc (.cells #[.int .i64 5, .string ⟨#[]⟩, .int .i64 0, .int .i64 1, .string ⟨#[97]⟩, .int .i64 0, .int .i64 1, .string ⟨#[98]⟩, .int .i64 0] 41)).alloc (.cells #[.int .i64 5, .string ⟨#[]⟩, .int .i64 0, .int .i64 1, .string ⟨#[97]⟩, .int .i64 0, .int .i64 6, .string ⟨#[]⟩, .int .i64 0, .int .i64 1, .string ⟨#[98]⟩, .int .i64 0, .int .i64 3, .string ⟨#[]⟩, .int .i64 0] 41)).alloc (.cells #[.int .i64 1, .string ⟨#[97]⟩, .int .i64 0, .int .i64 1, .string ⟨#[98]⟩, .int .i64 0, .int .i64 1, .string ⟨#[97]⟩, .int .i64 0] 41)) (.slice (some ⟨((((w.alloc (.cells #[.int .i64 1, .string ⟨#[97]⟩, .int .i64 0] 41)).alloc (.cells #[.int .i64 1, .string ⟨#[98]⟩, .int .i64 0] 41)).alloc (.cells #[.int .i64 5, .string ⟨#[]⟩, .int .i64 0, .int .i64 1, .string ⟨#[97]⟩, .int .i64 0, .int .i64 1, .string ⟨#[98]⟩, .int .i64 0] 41)).alloc (.cells #[.int .i64 5, .string ⟨#[]⟩, .int .i64 0, .int .i64 1, .string ⟨#[97]⟩, .int .i64 0, .int .i64 6, .string ⟨#[]⟩, .int .i64 0, .int .i64 1, .string ⟨#[98]⟩, .int .i64 0, .int .i64 3, .string ⟨#[]⟩, .int .i64 0] 41)).heap.size, 0, none⟩) 3 3) aba := nds_new ((((w.alloc (.cells #[.int .i64 1, .string ⟨#[97]⟩, .int .i64 0] 41)).alloc (.cells #[.int .i64 1, .string ⟨#[98]⟩, .int .i64 0] 41)).alloc (.cells #[.int .i64 5, .string ⟨#[]⟩, .int .i64 0, .int .i64 1, .string ⟨#[97]⟩, .int .i64 0, .int .i64 1, .string ⟨#[98]⟩, .int .i64 0] 41)).alloc (.cells #[.int .i64 5, .string ⟨#[]⟩, .int .i64 0, .int .i64 1, .string ⟨#[97]⟩, .int .i64 0, .int .i64 6, .string ⟨#[]⟩, .int .i64 0, .int .i64 1, .string ⟨#[98]⟩, .int .i64 0, .int .i64 3, .string ⟨#[]⟩, .int .i64 0] 41)) aba 41
  have e : ((((w.alloc (.cells #[.int .i64 1, .string ⟨#[97]⟩, .int .i64 0] 41)).alloc (.cells #[.int .i64 1, .string ⟨#[98]⟩, .int .i64 0] 41)).alloc (.cells #[.int .i64 5, .string ⟨#[]⟩, .int .i64 0, .int .i64 1, .string ⟨#[97]⟩, .int .i64 0, .int .i64 1, .string ⟨#[98]⟩, .int .i64 0] 41)).alloc (.cells #[.int .i64 5, .string ⟨#[]⟩, .int .i64 0, .int .i64 1, .string ⟨#[97]⟩, .int .i64 0, .int .i64 6, .string ⟨#[]⟩, .int .i64 0, .int .i64 1, .string ⟨#[98]⟩, .int .i64 0, .int .i64 3, .string ⟨#[]⟩, .int .i64 0] 41)).heap.size = w.heap.size + 1 + 1 + 1 + 1 := by simp
  rw [e] at h2
  exact ⟨h1.below (below1 _ _), h2⟩
set_option maxHeartbeats 4000000 in
theorem alive_any (w : World) : Calls Tryz.prog 9 #[] w fun e w' => e = .returned (.bool true) ∧ Below w.heap.size w w' := by
  have I := Lib.hid (al_start w).1
  have A0 := Lib.hid (al_start w).2
  go_enter Tryz.func9, Tryz.ntmps9
  go_wp2_with fail
  refine (placesP_any _ aba ⟨#[97]⟩ _ A0.out (by decide)).mono ?_
  rw [al_plc]
  rintro e w1 ⟨p, rfl, hp, hb⟩
  replace I := Lib.hid (I.out.below hb)
  have HP := Lib.hid hp
  rcases hp.form with ⟨h0, _⟩ | ⟨pb, po, pc, rfl, hat⟩
  · cases h0
  clear hb hat A0
  have S1 := Lib.hid (strs_new w1 [⟨#[98]⟩, ⟨#[99]⟩] 9)
  have B1 := Lib.hid (below1 w1 (.cells #[.string ⟨#[98]⟩, .string ⟨#[99]⟩] 9))
  go_wp2_with fail
  refine (rewP_any _ _ lL [⟨#[98]⟩, ⟨#[99]⟩] _ (I.out.l.below B1.out) (by decide) (nms_small (by decide)) S1.out (by decide) (by decide)).mono ?_
  rw [al_rew]
  rintro e w2 ⟨y, rfl, hy, hb⟩
  have B2 := B1.out.trans (hb.mono B1.out.size)
  replace I := Lib.hid (I.out.below B2)
  replace HP := Lib.hid (HP.out.below B2)
  have HY := Lib.hid hy
  obtain ⟨_, ya, yc, rfl, -⟩ := hy
  clear hb B2 S1 B1
  go_wp2_with fail
  refine (sameR_any _ _ wL wL _ HY.out I.out.want (by decide)).mono ?_
  rw [show sameN wL wL = true by decide +kernel]
  rintro e w3 ⟨rfl, hb⟩
  replace I := Lib.hid (I.out.below hb)
  replace HP := Lib.hid (HP.out.below hb)
  clear hb HY
  go_wp2_with fail
  refine (markP_any _ lL 2 _ I.out.l (by decide)).mono ?_
  rw [al_mark2]
  rintro e w4 ⟨y, rfl, hy, hb⟩
  replace I := Lib.hid (I.out.below hb)
  replace HP := Lib.hid (HP.out.below hb)
  have HY := Lib.hid hy
  obtain ⟨_, ya, yc, rfl, -⟩ := hy
  clear hb
  go_wp2_with fail
  refine (sameR_any _ _ wL wL _ HY.out I.out.want (by decide)).mono ?_
  rw [show sameN wL wL = true by decide +kernel]
  rintro e w5 ⟨rfl, hb⟩
  replace I := Lib.hid (I.out.below hb)
  replace HP := Lib.hid (HP.out.below hb)
  clear hb HY
  go_wp2_with fail
  refine (markP_any _ lL 0 _ I.out.l (by decide)).mono ?_
  rw [al_mark0]
  rintro e w6 ⟨y, rfl, hy, hb⟩
  replace I := Lib.hid (I.out.below hb)
  replace HP := Lib.hid (HP.out.below hb)
  have HY := Lib.hid hy
  obtain ⟨_, ya, yc, rfl, -⟩ := hy
  clear hb
  go_wp2_with fail
  refine (sameR_any _ _ lL lL _ HY.out I.out.l (by decide)).mono ?_
  rw [show sameN lL lL = true by decide +kernel]
  rintro e w7 ⟨rfl, hb⟩
  replace I := Lib.hid (I.out.below hb)
  replace HP := Lib.hid (HP.out.below hb)
  clear hb HY
  go_wp2_with fail
  refine (stripP_any _ wL _ I.out.want (by decide)).mono ?_
  rw [al_strip]
  rintro e w8 ⟨y, rfl, hy, hb⟩
  replace I := Lib.hid (I.out.below hb)
  replace HP := Lib.hid (HP.out.below hb)
  have HY := Lib.hid hy
  obtain ⟨_, ya, yc, rfl, -⟩ := hy
  clear hb
  go_wp2_with fail
  refine (sameR_any _ _ lL lL _ HY.out I.out.l (by decide)).mono ?_
  rw [show sameN lL lL = true by decide +kernel]
  rintro e w9 ⟨rfl, hb⟩
  replace I := Lib.hid (I.out.below hb)
  replace HP := Lib.hid (HP.out.below hb)
  clear hb HY
  have hc : w9.cell? ⟨pb, po + 1, none⟩ = some (.int .i64 2) := by
    rcases HP.out.form with ⟨h0, _⟩ | ⟨pb', po', pc', he, hat⟩
    · cases h0
    · cases he
      exact hat 1 (by decide)
  have S1 := Lib.hid (strs_new w9 [⟨#[97]⟩] 9)
  have B1 := Lib.hid (below1 w9 (.cells #[.string ⟨#[97]⟩] 9))
  go_wp2_with fail
  refine (rewP_any _ _ [] [⟨#[97]⟩] _ ((Got.start w9).nds.below B1.out) (by decide) (nms_small (by decide)) S1.out (by decide) (by decide)).mono ?_
  rintro e w10 ⟨y, rfl, hy, hb⟩
  replace I := Lib.hid ((I.out.below B1.out).below hb)
  obtain ⟨_, ya, yc, rfl, -⟩ := hy
  clear hb hc S1 B1
  go_wp2_with fail
  go_ret
  exact ⟨rfl, I.out.bel⟩
end Go.Proofs.YtpkbpooiaddcaaaGreat.Rf
