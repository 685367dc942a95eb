/- The region that lays a node onto both rows: what holds in its midst. Plain: what is settled means what it meant. The program's comes: the walks. -/
import Derived.Test.YtpingbiibbmcaaaGreatQ18
import Derived.Test.YtpingbiibbmcaaaGreatQ12
import Derived.StillTailTactics

namespace Go.Proofs.YtpingbiibbmcaaaGreat.Pl
open Go Go.RowKit Go.Proofs.YtpingbiibbmcaaaGreat.Rw Go.Proofs.YtpingbiibbmcaaaGreat.So Go.Proofs.YtpingbiibbmcaaaGreat.Ro
set_option maxRecDepth 20000

/-- Which block an operation may turn. -/
def Mn (va vo : Value) (i t : Nat) : Prop := (i = 3 ∧ va.ownBlock = some t) ∨ (i = 9 ∧ vo.ownBlock = some t)
def Bs (w3 : World) (va vo : Value) (bn : Nat) (xk : Int) (w : World) : Prop := w.cell? ⟨bn, 0, none⟩ = some (.int .i64 xk) ∧ Turn (fun t => va.ownBlock = some t ∨ vo.ownBlock = some t) w3 w
/-- A row grown out of another one. -/
def Gr (w3 : World) (v0 v : Value) (L : List Nat) (w : World) : Prop := Ow w v L ∧ ∀ g, v.ownBlock = some g → v0.ownBlock = some g ∨ w3.heap.size ≤ g
/-- One number in a new block. -/
def On1 (w3 : World) (v : Value) (n : Int) (w : World) : Prop := ∃ g, v = .slice (some ⟨g, 0, none⟩) 1 1 ∧ w3.heap.size ≤ g ∧ w.cell? ⟨g, 0, none⟩ = some (.int .i64 n)
def Rn (w3 : World) (va vo : Value) (bn : Nat) (xk : Int) (k r : Nat) (ab st : List Nat) (i : Nat) (v : Value) (w : World) : Prop := match i with
  | 0 => v = va
  | 1 => v = .int .i64 (k : Int)
  | 2 => On1 w3 v k w
  | 3 => Gr w3 va v (ab ++ [k]) w
  | 4 => v = vo
  | 5 => v = .pointer (some ⟨bn, 0, none⟩)
  | 6 => v = .int .i64 xk
  | 7 => v = .int .i64 (r : Int)
  | 8 => On1 w3 v r w
  | 9 => Gr w3 vo v (st ++ [r]) w
  | 10 => Gr w3 va v (ab ++ [k]) w
  | 11 => Gr w3 vo v (st ++ [r]) w
  | _ => True
def Nn (va vo : Value) (ab st : List Nat) (i : Nat) (w : World) : Prop := match i with
  | 3 => Ow w va ab
  | 9 => Ow w vo st
  | _ => True
def Pn (i : Nat) (v : Value) (k : Nat) (u : Value) : Prop := ((i = 3 ∨ i = 10) ∧ (k = 9 ∨ k = 11) ∨ (i = 9 ∨ i = 11) ∧ (k = 3 ∨ k = 10)) → ∀ g, v.ownBlock = some g → u.ownBlock ≠ some g
def tabN : List (List Nat) := [[], [], [1], [0, 1, 2], [], [], [5], [3, 5, 6], [5, 6, 7], [3, 4, 5, 6, 7, 8], [0, 1, 2, 3, 9], [3, 4, 5, 6, 7, 8, 9, 10]]
structure Sep (w3 : World) (va vo : Value) (bn : Nat) : Prop where
  a : ∀ g, va.ownBlock = some g → g < w3.heap.size
  o : ∀ g, vo.ownBlock = some g → g < w3.heap.size
  ne : ∀ g, va.ownBlock = some g → vo.ownBlock ≠ some g
  b : bn < w3.heap.size
  ba : va.ownBlock ≠ some bn
  bo : vo.ownBlock ≠ some bn

section
variable {w3 : World} {va vo : Value} {bn : Nat} {xk : Int} {k r : Nat} {ab st : List Nat}
theorem Bs.turn (hs : Sep w3 va vo bn) (i : Nat) (w w' : World) (h : Bs w3 va vo bn xk w) (ht : Turn (Mn va vo i) w w') : Bs w3 va vo bn xk w' :=
  ⟨ht.cell h.1 (by rintro (⟨_, h⟩ | ⟨_, h⟩); exact hs.ba h; exact hs.bo h), h.2.trans (ht.imp (by rintro t (⟨_, h⟩ | ⟨_, h⟩); exact .inl h; exact .inr h))⟩
theorem On1.turn (hs : Sep w3 va vo bn) {i : Nat} {v : Value} {n : Int} {w w' : World} (h : On1 w3 v n w) (ht : Turn (Mn va vo i) w w') : On1 w3 v n w' := by
  obtain ⟨g, rfl, hg, hc⟩ := h
  exact ⟨g, rfl, hg, ht.cell hc (by rintro (⟨_, h⟩ | ⟨_, h⟩); have := hs.a g h; omega; have := hs.o g h; omega)⟩
theorem Gr.turn {M : Nat → Prop} {v0 v : Value} {L : List Nat} {w w' : World} (h : Gr w3 v0 v L w) (ht : Turn M w w') (hn : ∀ g, v.ownBlock = some g → ¬ M g) : Gr w3 v0 v L w' := ⟨h.1.turn ht hn, h.2⟩
theorem Rn.turn (hs : Sep w3 va vo bn) (i j : Nat) (v : Value) (w w' : World) (hij : i ≠ j) (hlt : i < 12) (hp : Rq.tab tabN j i = false) (h : Rn w3 va vo bn xk k r ab st j v w) (ht : Turn (Mn va vo i) w w') : Rn w3 va vo bn xk k r ab st j v w' := by
  have ga : ∀ g, (va.ownBlock = some g ∨ w3.heap.size ≤ g) → i ≠ 3 → ¬ Mn va vo i g := fun g hg hi hm => by
    rcases hm with ⟨h3, _⟩ | ⟨_, h9⟩
    · exact hi h3
    · rcases hg with hg | hg
      · exact hs.ne g hg h9
      · have := hs.o g h9; omega
  have go : ∀ g, (vo.ownBlock = some g ∨ w3.heap.size ≤ g) → i ≠ 9 → ¬ Mn va vo i g := fun g hg hi hm => by
    rcases hm with ⟨_, h3⟩ | ⟨h9, _⟩
    · rcases hg with hg | hg
      · exact hs.ne g h3 hg
      · have := hs.a g h3; omega
    · exact hi h9
  unfold Rn at h ⊢
  split at h
  case h_3 => exact h.turn hs ht
  case h_4 => exact h.turn ht fun g hg => ga g (h.2 g hg) hij
  case h_9 => exact h.turn hs ht
  case h_10 => exact h.turn ht fun g hg => go g (h.2 g hg) hij
  case h_11 => exact h.turn ht fun g hg => ga g (h.2 g hg) fun e => by subst e; revert hp; decide
  case h_12 => exact h.turn ht fun g hg => go g (h.2 g hg) fun e => by subst e; revert hp; decide
  all_goals exact h
theorem Nn.turn (hs : Sep w3 va vo bn) (i j : Nat) (w w' : World) (hij : i ≠ j) (hp : Rq.tab tabN i j = false) (h : Nn va vo ab st j w) (ht : Turn (Mn va vo i) w w') : Nn va vo ab st j w' := by
  unfold Nn at h ⊢
  split at h
  case h_1 => exact h.turn ht fun g hg hm => by
                rcases hm with ⟨h3, _⟩ | ⟨_, h9⟩
                · exact hij h3
                · exact hs.ne g hg h9
  case h_2 => exact h.turn ht fun g hg hm => by
                rcases hm with ⟨_, h3⟩ | ⟨h9, _⟩
                · exact hs.ne g h3 hg
                · exact hij h9
  all_goals exact h
theorem Pn.no {i j : Nat} {v u : Value} (h : i ≠ 3 ∧ i ≠ 9 ∧ i ≠ 10 ∧ i ≠ 11) : Pn i v j u ∧ Pn j u i v := by
  constructor <;> intro hh <;> exfalso <;> omega
/-- A row that was grown now lies apart from the other one. -/
theorem Pn.new {v0 v0' v u : Value} {L : List Nat} {w : World} (h0 : ∀ g, v0.ownBlock = some g → g < w3.heap.size) (hne : ∀ g, v0.ownBlock = some g → v0'.ownBlock ≠ some g) (hv : Ap.Fresh w v0 v) (hu : Gr w3 v0' u L w) :
    ∀ g, v.ownBlock = some g → u.ownBlock ≠ some g := by
  intro g hg hu'
  have hlt := hu.1.lt g hu'
  rcases hv with hv | ⟨g', hv, hle⟩
  · rw [hv] at hg
    rcases hu.2 g hu' with h | h
    · exact hne g hg h
    · have := h0 g hg; omega
  · rw [hv] at hg
    cases hg
    omega
theorem Pn.three (hs : Sep w3 va vo bn) {v u : Value} {w : World} {j : Nat} (hv : Ap.Fresh w va v) (hu : Rn w3 va vo bn xk k r ab st j u w) (hj : j ≠ 3) : Pn 3 v j u ∧ Pn j u 3 v := by
  by_cases h : j = 9 ∨ j = 11
  · have hg : Gr w3 vo u (st ++ [r]) w := by rcases h with rfl | rfl <;> exact hu
    have := Pn.new hs.a hs.ne hv hg
    exact ⟨fun _ => this, fun _ g h1 h2 => this g h2 h1⟩
  · constructor <;> intro hh <;> exfalso <;> omega
theorem Pn.nine (hs : Sep w3 va vo bn) {v u : Value} {w : World} {j : Nat} (hv : Ap.Fresh w vo v) (hu : Rn w3 va vo bn xk k r ab st j u w) (hj : j ≠ 9) : Pn 9 v j u ∧ Pn j u 9 v := by
  by_cases h : j = 3 ∨ j = 10
  · have hg : Gr w3 va u (ab ++ [k]) w := by rcases h with rfl | rfl <;> exact hu
    have := Pn.new hs.o (fun g h1 h2 => hs.ne g h2 h1) hv hg
    exact ⟨fun _ => this, fun _ g h1 h2 => this g h2 h1⟩
  · constructor <;> intro hh <;> exfalso <;> omega
theorem Pn.ten {v u : Value} {j : Nat} (h : j ≠ 3 → Pn 3 v j u ∧ Pn j u 3 v) : Pn 10 v j u ∧ Pn j u 10 v := by
  constructor
  · intro hh g h1 h2
    exact (h (by omega)).1 (by omega) g h1 h2
  · intro hh g h1 h2
    exact (h (by omega)).2 (by omega) g h1 h2
theorem Pn.eleven {v u : Value} {j : Nat} (h : j ≠ 9 → Pn 9 v j u ∧ Pn j u 9 v) : Pn 11 v j u ∧ Pn j u 11 v := by
  constructor
  · intro hh g h1 h2
    exact (h (by omega)).1 (by omega) g h1 h2
  · intro hh g h1 h2
    exact (h (by omega)).2 (by omega) g h1 h2
theorem Gr.grow {v0 v' : Value} {L : List Nat} {n : Nat} {w w' : World} (h1 : Ow w' v' (L ++ [n])) (hf : Ap.Fresh w v0 v') (hw : w3.heap.size ≤ w.heap.size) : Gr w3 v0 v' (L ++ [n]) w' :=
  ⟨h1, fun g hg => by
    rcases hf with hf | ⟨g', hf, hle⟩
    · rw [hf] at hg; exact .inl hg
    · rw [hf] at hg; cases hg; exact .inr (by omega)⟩
theorem On1.rd {v : Value} {n : Int} {w : World} (h : On1 w3 v n w) : Ap.Rd w 1 v 1 [.int .i64 n] := by
  obtain ⟨g, rfl, _, hc⟩ := h
  refine ⟨rfl, _, 1, rfl, Nat.le_refl _, fun h => (by cases h), fun _ => ⟨g, 0, rfl, fun j u hu => ?_⟩⟩
  match j with
  | 0 => simp at hu; subst hu; exact hc
  | j + 1 => simp at hu
theorem On1.new (n : Int) {w : World} (hw : w3.heap.size ≤ w.heap.size) : On1 w3 (.slice (some ⟨w.heap.size, 0, none⟩) 1 1) n (w.alloc (.cells #[.int .i64 n] 3)) := ⟨_, rfl, hw, by simp⟩
end
end Go.Proofs.YtpingbiibbmcaaaGreat.Pl

namespace Go.Proofs.YtpingbiibbmcaaaGreat.Se
open Go Go.Proofs.YtpingbiibbmcaaaGreat.Rw Go.Proofs.YtpingbiibbmcaaaGreat.So Go.Proofs.YtpingbiibbmcaaaGreat.Tr Go.Proofs.YtpingbiibbmcaaaGreat.Mn

/-- How many Acts. -/
def ac (t : Tm) : Nat := ct (fun x => decide (x.k = 1) && all x.n) t
end Go.Proofs.YtpingbiibbmcaaaGreat.Se

namespace Go.Proofs.YtpingbiibbmcaaaGreat.Se
open Go Go.RowKit Go.Proofs.YtpingbiibbmcaaaGreat.Rw Go.Proofs.YtpingbiibbmcaaaGreat.So
set_option maxRecDepth 20000

set_option maxHeartbeats 1000000 in
theorem comes_seq (base : Nat) (a d : Tm) (bk ck : Nat) (y0 y1 : Value) (w : World) (q0 : w.cell? ⟨bk, 0, none⟩ = some y0) (q1 : w.cell? ⟨bk, 1, none⟩ = some y1) (h0 : NdO base w y0 a) (h1 : Nds w y1 (flat d)) (PB : Hid (PS d)) (hb : base ≤ w.heap.size) (hl : sz a + sz d ≤ 900) :
    Calls Tryz.prog 111 #[.agg #[.int .i64 5, .string ⟨#[]⟩, .int .i64 0], .slice (some ⟨bk, 0, none⟩) 2 ck] w (OutB base (sSeq S a d) w) := by
  have HL := Lib.hid hl
  have HB := Lib.hid hb
  have hlt : bk < w.heap.size := Ap.cell_lt q0
  have CK : Hid (∀ w1, Below w.heap.size w w1 → w1.cell? ⟨bk, 0, none⟩ = some y0 ∧ w1.cell? ⟨bk, 1, none⟩ = some y1) := Lib.hid fun w1 hb => by rw [hb.cell (p := ⟨bk, 0, none⟩) hlt, hb.cell (p := ⟨bk, 1, none⟩) hlt]; exact ⟨q0, q1⟩
  have A0 := Lib.hid (fun w1 (hb : Below w.heap.size w w1) => h0.below hb)
  have A1 := Lib.hid (fun w1 (hb : Below w.heap.size w w1) => h1.below hb)
  obtain ⟨_, a0, c0, rfl, -⟩ := id h0
  obtain ⟨_, a1, c1, rfl, -⟩ := id h1
  unfold OutB
  clear q0 q1 h0 h1 hl hb
  go_enter Tryz.func111, Tryz.ntmps111
  go_wp2_with fail
  have BW0 := below1 w (.cells #[.int .i64 5, .string ⟨#[]⟩, .int .i64 0] 39)
  have BC := box_cells w 5 0 ⟨#[]⟩ 39
  generalize w.alloc (.cells #[.int .i64 5, .string ⟨#[]⟩, .int .i64 0] 39) = W at BW0 BC ⊢
  have BW := Lib.hid BW0
  obtain ⟨x0, x1, x2⟩ := BC W (Below.refl _ _)
  obtain ⟨z0, z1⟩ := CK.out W BW0
  have BD := Lib.hid (BW.out.drew)
  clear BW0 BC
  go_still_tail 8, (by kernel_rfl)
  change wpList _ _ _ _ _ W.drew
  go_wp2_with fail
  refine (turn5P_any base a d _ _ _ (A0.out _ BD.out) (A1.out _ BD.out) PB.out (Nat.le_trans HB.out BD.out.size) HL.out).mono ?_
  rintro e w1 ⟨y, rfl, hn, hb⟩
  have N1 := Lib.hid hn
  have D1 := Lib.hid (BD.out.trans (hb.mono BD.out.size))
  clear hn hb
  go_wp2_with fail
  go_ret
  exact ⟨_, rfl, N1.out, D1.out⟩
set_option maxHeartbeats 1000000 in
theorem comes_hand (base : Nat) (a d : Tm) (bk ck : Nat) (y0 y1 : Value) (w : World) (q0 : w.cell? ⟨bk, 0, none⟩ = some y0) (q1 : w.cell? ⟨bk, 1, none⟩ = some y1) (h0 : NdO base w y0 a) (h1 : Nds w y1 (flat d)) (PB : Hid (PS d)) (g14 : Hid (kd a ≠ 14)) (hb : base ≤ w.heap.size) (hl : sz a + sz d ≤ 900) :
    Calls Tryz.prog 111 #[.agg #[.int .i64 8, .string ⟨#[]⟩, .int .i64 0], .slice (some ⟨bk, 0, none⟩) 2 ck] w (OutB base (sHand S a d) w) := by
  have HL := Lib.hid hl
  have HB := Lib.hid hb
  have hlt : bk < w.heap.size := Ap.cell_lt q0
  have CK : Hid (∀ w1, Below w.heap.size w w1 → w1.cell? ⟨bk, 0, none⟩ = some y0 ∧ w1.cell? ⟨bk, 1, none⟩ = some y1) := Lib.hid fun w1 hb => by rw [hb.cell (p := ⟨bk, 0, none⟩) hlt, hb.cell (p := ⟨bk, 1, none⟩) hlt]; exact ⟨q0, q1⟩
  have A0 := Lib.hid (fun w1 (hb : Below w.heap.size w w1) => h0.below hb)
  have A1 := Lib.hid (fun w1 (hb : Below w.heap.size w w1) => h1.below hb)
  obtain ⟨_, a0, c0, rfl, -⟩ := id h0
  obtain ⟨_, a1, c1, rfl, -⟩ := id h1
  unfold OutB
  clear q0 q1 h0 h1 hl hb
  go_enter Tryz.func111, Tryz.ntmps111
  go_wp2_with fail
  have BW0 := below1 w (.cells #[.int .i64 8, .string ⟨#[]⟩, .int .i64 0] 39)
  have BC := box_cells w 8 0 ⟨#[]⟩ 39
  generalize w.alloc (.cells #[.int .i64 8, .string ⟨#[]⟩, .int .i64 0] 39) = W at BW0 BC ⊢
  have BW := Lib.hid BW0
  obtain ⟨x0, x1, x2⟩ := BC W (Below.refl _ _)
  obtain ⟨z0, z1⟩ := CK.out W BW0
  have BD := Lib.hid (BW.out.drew)
  clear BW0 BC
  go_still_tail 8, (by kernel_rfl)
  change wpList _ _ _ _ _ W.drew
  go_wp2_with fail
  refine (turn8P_any base a d _ _ _ (A0.out _ BD.out) (A1.out _ BD.out) PB.out g14.out (Nat.le_trans HB.out BD.out.size) HL.out).mono ?_
  rintro e w1 ⟨y, rfl, hn, hb⟩
  have N1 := Lib.hid hn
  have D1 := Lib.hid (BD.out.trans (hb.mono BD.out.size))
  clear hn hb
  go_wp2_with fail
  go_ret
  exact ⟨_, rfl, N1.out, D1.out⟩
set_option maxHeartbeats 1000000 in
theorem comes_par (base : Nat) (a d : Tm) (bk ck : Nat) (y0 y1 : Value) (w : World) (q0 : w.cell? ⟨bk, 0, none⟩ = some y0) (q1 : w.cell? ⟨bk, 1, none⟩ = some y1) (h0 : NdO base w y0 a) (h1 : Nds w y1 (flat d)) (hb : base ≤ w.heap.size) (hl : sz a + sz d ≤ 900) :
    Calls Tryz.prog 111 #[.agg #[.int .i64 7, .string ⟨#[]⟩, .int .i64 0], .slice (some ⟨bk, 0, none⟩) 2 ck] w (OutB base (sPar a d) w) := by
  have HL := Lib.hid hl
  have HB := Lib.hid hb
  have hlt : bk < w.heap.size := Ap.cell_lt q0
  have CK : Hid (∀ w1, Below w.heap.size w w1 → w1.cell? ⟨bk, 0, none⟩ = some y0 ∧ w1.cell? ⟨bk, 1, none⟩ = some y1) := Lib.hid fun w1 hb => by rw [hb.cell (p := ⟨bk, 0, none⟩) hlt, hb.cell (p := ⟨bk, 1, none⟩) hlt]; exact ⟨q0, q1⟩
  have A0 := Lib.hid (fun w1 (hb : Below w.heap.size w w1) => h0.below hb)
  have A1 := Lib.hid (fun w1 (hb : Below w.heap.size w w1) => h1.below hb)
  obtain ⟨_, a0, c0, rfl, -⟩ := id h0
  obtain ⟨_, a1, c1, rfl, -⟩ := id h1
  unfold OutB
  clear q0 q1 h0 h1 hl hb
  go_enter Tryz.func111, Tryz.ntmps111
  go_wp2_with fail
  have BW0 := below1 w (.cells #[.int .i64 7, .string ⟨#[]⟩, .int .i64 0] 39)
  have BC := box_cells w 7 0 ⟨#[]⟩ 39
  generalize w.alloc (.cells #[.int .i64 7, .string ⟨#[]⟩, .int .i64 0] 39) = W at BW0 BC ⊢
  have BW := Lib.hid BW0
  obtain ⟨x0, x1, x2⟩ := BC W (Below.refl _ _)
  obtain ⟨z0, z1⟩ := CK.out W BW0
  have BD := Lib.hid (BW.out.drew)
  clear BW0 BC
  go_still_tail 7, (by kernel_rfl)
  change wpList _ _ _ _ _ W.drew
  go_wp2_with fail
  refine (besideP_any base a d _ _ _ (A0.out _ BD.out).nds (A1.out _ BD.out) (Nat.le_trans HB.out BD.out.size) HL.out).mono ?_
  rintro e w1 ⟨y, rfl, hn, hb⟩
  have N1 := Lib.hid hn
  have D1 := Lib.hid (BD.out.trans (hb.mono BD.out.size))
  clear hn hb
  go_wp2_with fail
  go_ret
  exact ⟨_, rfl, N1.out, D1.out⟩
set_option maxHeartbeats 1000000 in
theorem comes_going (base : Nat) (a d : Tm) (bk ck : Nat) (y0 y1 : Value) (w : World) (q0 : w.cell? ⟨bk, 0, none⟩ = some y0) (q1 : w.cell? ⟨bk, 1, none⟩ = some y1) (h0 : NdO base w y0 a) (h1 : Nds w y1 (flat d)) (hb : base ≤ w.heap.size) (hl : sz a + sz d ≤ 900) :
    Calls Tryz.prog 111 #[.agg #[.int .i64 12, .string ⟨#[]⟩, .int .i64 0], .slice (some ⟨bk, 0, none⟩) 2 ck] w (OutB base (sGoing a d) w) := by
  have HL := Lib.hid hl
  have HB := Lib.hid hb
  have hlt : bk < w.heap.size := Ap.cell_lt q0
  have CK : Hid (∀ w1, Below w.heap.size w w1 → w1.cell? ⟨bk, 0, none⟩ = some y0 ∧ w1.cell? ⟨bk, 1, none⟩ = some y1) := Lib.hid fun w1 hb => by rw [hb.cell (p := ⟨bk, 0, none⟩) hlt, hb.cell (p := ⟨bk, 1, none⟩) hlt]; exact ⟨q0, q1⟩
  have A0 := Lib.hid (fun w1 (hb : Below w.heap.size w w1) => h0.below hb)
  have A1 := Lib.hid (fun w1 (hb : Below w.heap.size w w1) => h1.below hb)
  obtain ⟨_, a0, c0, rfl, -⟩ := id h0
  obtain ⟨_, a1, c1, rfl, -⟩ := id h1
  unfold OutB
  clear q0 q1 h0 h1 hl hb
  go_enter Tryz.func111, Tryz.ntmps111
  go_wp2_with fail
  have BW0 := below1 w (.cells #[.int .i64 12, .string ⟨#[]⟩, .int .i64 0] 39)
  have BC := box_cells w 12 0 ⟨#[]⟩ 39
  generalize w.alloc (.cells #[.int .i64 12, .string ⟨#[]⟩, .int .i64 0] 39) = W at BW0 BC ⊢
  have BW := Lib.hid BW0
  obtain ⟨x0, x1, x2⟩ := BC W (Below.refl _ _)
  obtain ⟨z0, z1⟩ := CK.out W BW0
  have BD := Lib.hid (BW.out.drew)
  clear BW0 BC
  go_still_tail 7, (by kernel_rfl)
  change wpList _ _ _ _ _ W.drew
  go_wp2_with fail
  refine (goingP_any base a d _ _ _ (A0.out _ BD.out).nds (A1.out _ BD.out) (Nat.le_trans HB.out BD.out.size) HL.out).mono ?_
  rintro e w1 ⟨y, rfl, hn, hb⟩
  have N1 := Lib.hid hn
  have D1 := Lib.hid (BD.out.trans (hb.mono BD.out.size))
  clear hn hb
  go_wp2_with fail
  go_ret
  exact ⟨_, rfl, N1.out, D1.out⟩
set_option maxHeartbeats 1000000 in
theorem comes_stack (base : Nat) (a d : Tm) (bk ck : Nat) (y0 y1 : Value) (w : World) (q0 : w.cell? ⟨bk, 0, none⟩ = some y0) (q1 : w.cell? ⟨bk, 1, none⟩ = some y1) (h0 : NdO base w y0 a) (h1 : Nds w y1 (flat d)) (hb : base ≤ w.heap.size) (hl : sz a + sz d ≤ 900) :
    Calls Tryz.prog 111 #[.agg #[.int .i64 13, .string ⟨#[]⟩, .int .i64 0], .slice (some ⟨bk, 0, none⟩) 2 ck] w (OutB base (stk a d) w) := by
  have HL := Lib.hid hl
  have HB := Lib.hid hb
  have hlt : bk < w.heap.size := Ap.cell_lt q0
  have CK : Hid (∀ w1, Below w.heap.size w w1 → w1.cell? ⟨bk, 0, none⟩ = some y0 ∧ w1.cell? ⟨bk, 1, none⟩ = some y1) := Lib.hid fun w1 hb => by rw [hb.cell (p := ⟨bk, 0, none⟩) hlt, hb.cell (p := ⟨bk, 1, none⟩) hlt]; exact ⟨q0, q1⟩
  have A0 := Lib.hid (fun w1 (hb : Below w.heap.size w w1) => h0.below hb)
  have A1 := Lib.hid (fun w1 (hb : Below w.heap.size w w1) => h1.below hb)
  obtain ⟨_, a0, c0, rfl, -⟩ := id h0
  obtain ⟨_, a1, c1, rfl, -⟩ := id h1
  unfold OutB
  clear q0 q1 h0 h1 hl hb
  go_enter Tryz.func111, Tryz.ntmps111
  go_wp2_with fail
  have BW0 := below1 w (.cells #[.int .i64 13, .string ⟨#[]⟩, .int .i64 0] 39)
  have BC := box_cells w 13 0 ⟨#[]⟩ 39
  generalize w.alloc (.cells #[.int .i64 13, .string ⟨#[]⟩, .int .i64 0] 39) = W at BW0 BC ⊢
  have BW := Lib.hid BW0
  obtain ⟨x0, x1, x2⟩ := BC W (Below.refl _ _)
  obtain ⟨z0, z1⟩ := CK.out W BW0
  have BD := Lib.hid (BW.out.drew)
  clear BW0 BC
  go_still_tail 6, (by kernel_rfl)
  change wpList _ _ _ _ _ W.drew
  go_wp2_with fail
  refine (stackedP_any base a d _ _ _ (A0.out _ BD.out).nds (A1.out _ BD.out) (Nat.le_trans HB.out BD.out.size) HL.out).mono ?_
  rintro e w1 ⟨y, rfl, hn, hb⟩
  have N1 := Lib.hid hn
  have D1 := Lib.hid (BD.out.trans (hb.mono BD.out.size))
  clear hn hb
  go_wp2_with fail
  go_ret
  exact ⟨_, rfl, N1.out, D1.out⟩
set_option maxHeartbeats 1000000 in
theorem comes_block (base : Nat) (a : Tm) (bk ck : Nat) (y0 : Value) (w : World) (q0 : w.cell? ⟨bk, 0, none⟩ = some y0) (h0 : Nds w y0 (flat a)) (PB : Hid (∀ s c, a = .fin s c → PS c)) (hb : base ≤ w.heap.size) (hl : sz a ≤ 900) :
    Calls Tryz.prog 111 #[.agg #[.int .i64 9, .string ⟨#[]⟩, .int .i64 0], .slice (some ⟨bk, 0, none⟩) 1 ck] w (OutB base (sBlock S a) w) := by
  have HL := Lib.hid hl
  have HB := Lib.hid hb
  have hlt : bk < w.heap.size := Ap.cell_lt q0
  have CK : Hid (∀ w1, Below w.heap.size w w1 → w1.cell? ⟨bk, 0, none⟩ = some y0 ∧ True) := Lib.hid fun w1 hb => by rw [hb.cell (p := ⟨bk, 0, none⟩) hlt]; exact ⟨q0, trivial⟩
  have A0 := Lib.hid (fun w1 (hb : Below w.heap.size w w1) => h0.below hb)
  obtain ⟨_, a0, c0, rfl, -⟩ := id h0
  unfold OutB
  clear q0 h0 hl hb
  go_enter Tryz.func111, Tryz.ntmps111
  go_wp2_with fail
  have BW0 := below1 w (.cells #[.int .i64 9, .string ⟨#[]⟩, .int .i64 0] 39)
  have BC := box_cells w 9 0 ⟨#[]⟩ 39
  generalize w.alloc (.cells #[.int .i64 9, .string ⟨#[]⟩, .int .i64 0] 39) = W at BW0 BC ⊢
  have BW := Lib.hid BW0
  obtain ⟨x0, x1, x2⟩ := BC W (Below.refl _ _)
  obtain ⟨z0, -⟩ := CK.out W BW0
  have BD := Lib.hid (BW.out.drew)
  clear BW0 BC
  go_still_tail 4, (by kernel_rfl)
  change wpList _ _ _ _ _ W.drew
  go_wp2_with fail
  refine (inBlockP_any base a _ _ (A0.out _ BD.out) PB.out (Nat.le_trans HB.out BD.out.size) HL.out).mono ?_
  rintro e w1 ⟨y, rfl, hn, hb⟩
  have N1 := Lib.hid hn
  have D1 := Lib.hid (BD.out.trans (hb.mono BD.out.size))
  clear hn hb
  go_wp2_with fail
  go_ret
  exact ⟨_, rfl, N1.out, D1.out⟩
set_option maxHeartbeats 1000000 in
theorem comes_skip (base : Nat) (v : Value) (w : World) (hv : Rws w v []) (hb : base ≤ w.heap.size) :
    Calls Tryz.prog 111 #[.agg #[.int .i64 2, .string ⟨#[]⟩, .int .i64 0], v] w (OutB base (.over 1) w) := by
  have HB := Lib.hid hb
  obtain ⟨cs, hRd, -⟩ := hv
  obtain ⟨_, ak, ck, rfl, -⟩ := hRd
  unfold OutB
  clear hb
  go_enter Tryz.func111, Tryz.ntmps111
  go_wp2_with fail
  have B0 := Lib.hid (below1 w (.cells #[.int .i64 2, .string ⟨#[]⟩, .int .i64 0] 39))
  refine (overP_any 1 _).mono ?_
  rintro e w1 ⟨rfl, hb1⟩
  have D1 := Lib.hid (B0.out.trans (hb1.mono B0.out.size))
  clear hb1
  go_wp2_with fail
  refine (mkP0 base 11 1 (.over 1) rfl _ (Nat.le_trans HB.out D1.out.size)).mono ?_
  rintro e w2 ⟨y, rfl, hn, hb⟩
  have N2 := Lib.hid hn
  have D2 := Lib.hid (D1.out.trans (hb.mono D1.out.size))
  clear hn hb
  go_wp2_with fail
  go_ret
  exact ⟨_, rfl, N2.out, D2.out⟩
set_option maxHeartbeats 1000000 in
theorem comes_throw (base : Nat) (v : Value) (w : World) (hv : Rws w v []) (hb : base ≤ w.heap.size) :
    Calls Tryz.prog 111 #[.agg #[.int .i64 3, .string ⟨#[]⟩, .int .i64 0], v] w (OutB base (.over 2) w) := by
  have HB := Lib.hid hb
  obtain ⟨cs, hRd, -⟩ := hv
  obtain ⟨_, ak, ck, rfl, -⟩ := hRd
  unfold OutB
  clear hb
  go_enter Tryz.func111, Tryz.ntmps111
  go_wp2_with fail
  have B0 := Lib.hid (below1 w (.cells #[.int .i64 3, .string ⟨#[]⟩, .int .i64 0] 39))
  refine (overP_any 2 _).mono ?_
  rintro e w1 ⟨rfl, hb1⟩
  have D1 := Lib.hid (B0.out.trans (hb1.mono B0.out.size))
  clear hb1
  go_wp2_with fail
  refine (mkP0 base 11 2 (.over 2) rfl _ (Nat.le_trans HB.out D1.out.size)).mono ?_
  rintro e w2 ⟨y, rfl, hn, hb⟩
  have N2 := Lib.hid hn
  have D2 := Lib.hid (D1.out.trans (hb.mono D1.out.size))
  clear hn hb
  go_wp2_with fail
  go_ret
  exact ⟨_, rfl, N2.out, D2.out⟩
theorem mkP_any (base : Nat) (k s : Int) (nm : ByteArray) (ls : List (List Nd)) (t : Tm) (h : flat t = ⟨k, nm, s⟩ :: ls.flatten) (v : Value) (w : World) (hv : Rws w v ls) (hl : ls.length ≤ 2) (hs : sz t ≤ 1000) (hb : base ≤ w.heap.size) :
    Calls Tryz.prog 95 #[.agg #[.int .i64 k, .string nm, .int .i64 s], v] w (OutB base t w) := mkP base ⟨k, nm, s⟩ ls t h v w hv hl hs hb
set_option maxHeartbeats 1000000 in
theorem comes_any (base : Nat) (k s : Int) (nm : ByteArray) (ls : List (List Nd)) (t : Tm) (h : flat t = ⟨k, nm, s⟩ :: ls.flatten) (hk : k ≠ 2 ∧ k ≠ 3 ∧ k ≠ 5 ∧ k ≠ 7 ∧ k ≠ 8 ∧ k ≠ 9 ∧ k ≠ 12 ∧ k ≠ 13) (v : Value) (w : World) (hv : Rws w v ls) (hl : ls.length ≤ 2) (hs : sz t ≤ 1000) (hb : base ≤ w.heap.size) :
    Calls Tryz.prog 111 #[.agg #[.int .i64 k, .string nm, .int .i64 s], v] w (OutB base t w) := by
  have HB := Lib.hid hb
  have HT := Lib.hid (fun w1 (hb : Below w.heap.size w w1) => hv.below hb)
  have HM := Lib.hid (fun v w1 (h1 : Rws w1 v ls) (h2 : base ≤ w1.heap.size) => mkP_any base k s nm ls t h v w1 h1 hl hs h2)
  obtain ⟨cs, hRd, -⟩ := hv
  obtain ⟨_, ak, ck, rfl, -⟩ := hRd
  obtain ⟨q2, q3, q5, q7, q8, q9, q12, q13⟩ := hk
  have f2 : (k == 2) = false := by rw [beq_eq_false_iff_ne]; exact q2
  have f3 : (k == 3) = false := by rw [beq_eq_false_iff_ne]; exact q3
  have f5 : (k == 5) = false := by rw [beq_eq_false_iff_ne]; exact q5
  have f7 : (k == 7) = false := by rw [beq_eq_false_iff_ne]; exact q7
  have f8 : (k == 8) = false := by rw [beq_eq_false_iff_ne]; exact q8
  have f9 : (k == 9) = false := by rw [beq_eq_false_iff_ne]; exact q9
  have f12 : (k == 12) = false := by rw [beq_eq_false_iff_ne]; exact q12
  have f13 : (k == 13) = false := by rw [beq_eq_false_iff_ne]; exact q13
  unfold OutB
  clear hb h hl hs q2 q3 q5 q7 q8 q9 q12 q13
  go_enter Tryz.func111, Tryz.ntmps111
  go_wp2_with fail
  have B0 := Lib.hid (below1 w (.cells #[.int .i64 k, .string nm, .int .i64 s] 39))
  refine (HM.out _ _ (HT.out _ B0.out) (Nat.le_trans HB.out B0.out.size)).mono ?_
  rintro e w2 ⟨y, rfl, hn, hb⟩
  have N2 := Lib.hid hn
  have D2 := Lib.hid (B0.out.trans (hb.mono B0.out.size))
  clear hn hb
  go_wp2_with fail
  go_ret
  exact ⟨_, rfl, N2.out, D2.out⟩
end Go.Proofs.YtpingbiibbmcaaaGreat.Se
