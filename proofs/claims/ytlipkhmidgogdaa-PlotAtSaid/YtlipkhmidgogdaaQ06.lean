/- Rows of texts, and nodes appended in a call's own row: what the walks of layer 8 need. The document's 'in' and 'may' of layer 8. The document's Rewrite of layer 8. The document's Mark and Places of layer 8. Points in memory; the program's point, Turn, leaf and isTree; the document's Turn. The document's Strip of layer 8. The program's walk through a tree (nodes): its own rows, and what it promises. The region that lays a node onto both rows: what holds in its midst. -/
import Derived.Test.YtlipkhmidgogdaaQ04
import Derived.Test.YtlipkhmidgogdaaQ05
import Derived.Deep.QuietTactic
import Derived.BigQuiet
import Derived.Test.YtlipkhmidgogdaaQ01
import Derived.Test.YtlipkhmidgogdaaQ03
import Derived.Test.YtlipkhmidgogdaaQ02
import Derived.RangeFuncBound
import Derived.RangeFuncCalls
import Derived.TacticsIn
import Derived.TacticsInMore
import Derived.OwnWalkIn

namespace Go.Proofs.Ytlipkhmidgogdaa.Rf
open Go Go.RowKit Go.Proofs.Ytlipkhmidgogdaa.Rw
set_option maxRecDepth 20000

/-- A slice of texts that reads as these. -/
def Strs (w : World) (v : Value) (l : List ByteArray) : Prop := Ap.Rd w 1 v l.length (l.map .string)
theorem Strs.below {w w' : World} {v : Value} {l : List ByteArray} (h : Strs w v l) (hb : Below w.heap.size w w') : Strs w' v l := Ap.Rd.below h hb
def AtS (w : World) (b off : Nat) (l : List ByteArray) : Prop := ∀ k, (h : k < l.length) → w.cell? ⟨b, off + k, none⟩ = some (.string l[k])
theorem Strs.form {w : World} {v : Value} {l : List ByteArray} (h : Strs w v l) :
    (l = [] ∧ ∃ a cap, v = .slice a 0 cap) ∨ ∃ b off cap, v = .slice (some ⟨b, off, none⟩) l.length cap ∧ AtS w b off l := by
  obtain ⟨_, a, cap, rfl, hle, _, hcell⟩ := h
  by_cases h0 : 0 < l.length
  · obtain ⟨b, off, rfl, hj⟩ := hcell h0
    exact Or.inr ⟨b, off, cap, rfl, fun k hk => hj _ _ (by rw [List.getElem?_map, List.getElem?_eq_getElem hk]; rfl)⟩
  · have : l = [] := List.eq_nil_of_length_eq_zero (by omega)
    subst this
    exact Or.inl ⟨rfl, a, cap, rfl⟩
theorem AtS.below {w w' : World} {b off : Nat} {l : List ByteArray} (h : AtS w b off l) (hb : Below w.heap.size w w') : AtS w' b off l := fun k hk => by
  rw [hb.cell (Ap.cell_lt (h k hk))]
  exact h k hk
theorem At.below {w w' : World} {b off : Nat} {l : List Nd} (h : At w b off l) (hb : Below w.heap.size w w') : At w' b off l := fun k hk => by
  obtain ⟨h1, h2, h3⟩ := h k hk
  exact ⟨by rw [hb.cell (Ap.cell_lt h1)]; exact h1, by rw [hb.cell (Ap.cell_lt h2)]; exact h2, by rw [hb.cell (Ap.cell_lt h3)]; exact h3⟩
theorem nds_new (w : World) (l : List Nd) (ty : TypeId) : Nds (w.alloc (.cells (cls l).toArray ty)) (.slice (some ⟨w.heap.size, 0, none⟩) l.length l.length) l := by
  refine ⟨cls_len l, some ⟨w.heap.size, 0, none⟩, l.length, rfl, Nat.le_refl _, fun h => (by cases h), fun _ => ⟨w.heap.size, 0, rfl, fun j u hu => ?_⟩⟩
  rw [Nat.zero_add, World.cell?_alloc_new]
  simpa using hu

/-- What a loop has made: a row of nodes of its own. -/
def Got (w wr : World) (v : Value) (l : List Nd) : Prop := wr.ownsRow w.heap.size 44 3 v l.length (cls l) ∧ Below w.heap.size w wr
theorem Got.nds {w wr : World} {v : Value} {l : List Nd} (h : Got w wr v l) : Nds wr v l := Ap.Rd.owned h.1
theorem Got.start (w : World) : Got w w (.slice none 0 0) [] := ⟨⟨rfl, .inl ⟨rfl, rfl⟩⟩, Below.refl _ _⟩
theorem Got.below {w wr w' : World} {v : Value} {l : List Nd} (h : Got w wr v l) (hb : Below wr.heap.size wr w') : Got w w' v l := ⟨Ap.own_below h.1 hb, h.2.trans (hb.mono h.2.size)⟩
theorem Got.slice {w wr : World} {v : Value} {l : List Nd} (h : Got w wr v l) : ∃ a c, v = .slice a l.length c := by
  obtain ⟨_, a, c, e, -⟩ := h.nds
  exact ⟨a, c, e⟩
theorem Got.one {w wr : World} {v : Value} {l : List Nd} (x : Nd) (h : Got w wr v l) (hl : l.length ≤ 2000000) :
    ∃ v' w', (Builtin.append_ #[22, 22] 22 #[v, .slice (some ⟨wr.heap.size, 0, none⟩) 1 1]).run Try.prog (wr.alloc (.cells #[.int .i64 x.k, .string x.n, .int .i64 x.s] 44)) = .ok v' w' ∧ Got w w' v' (l ++ [x]) := by
  obtain ⟨v', w', h1, h2, _, h4, _⟩ := run_append_nd x h.1 h.2.size hl
  exact ⟨v', w', h1, h2, h.2.trans h4⟩
theorem Got.row {w wr : World} {v y : Value} {l m : List Nd} (h : Got w wr v l) (hy : Nds wr y m) (hl : l.length + m.length ≤ 2000000) :
    ∃ v' w', (Builtin.append_ #[22, 22] 22 #[v, y]).run Try.prog wr = .ok v' w' ∧ Got w w' v' (l ++ m) := by
  obtain ⟨v', w', h1, h2, _, h4, _⟩ := run_append_nds h.1 h.2.size hy hl
  exact ⟨v', w', h1, h2, h.2.trans h4⟩
theorem Got.new {w wr : World} {v : Value} {l : List Nd} (m : List Nd) (h : Got w wr v l) (hl : l.length + m.length ≤ 2000000) :
    ∃ v' w', (Builtin.append_ #[22, 22] 22 #[v, .slice (some ⟨wr.heap.size, 0, none⟩) m.length m.length]).run Try.prog (wr.alloc (.cells (cls m).toArray 44)) = .ok v' w' ∧ Got w w' v' (l ++ m) :=
  (h.below (below1 wr _)).row (nds_new wr m _) hl
end Go.Proofs.Ytlipkhmidgogdaa.Rf

namespace Go.Proofs.Ytlipkhmidgogdaa.Rf
open Go Go.RowKit Go.Proofs.Ytlipkhmidgogdaa.Rw
set_option maxRecDepth 20000

end Go.Proofs.Ytlipkhmidgogdaa.Rf

namespace Go.Proofs.Ytlipkhmidgogdaa.Rf
open Go Go.RowKit Go.Proofs.Ytlipkhmidgogdaa.Rw
set_option maxRecDepth 20000

end Go.Proofs.Ytlipkhmidgogdaa.Rf

namespace Go.Proofs.Ytlipkhmidgogdaa.Rf
open Go Go.RowKit Go.Proofs.Ytlipkhmidgogdaa.Rw
set_option maxRecDepth 20000

/-- Places in a row of its own. -/
theorem infoIn : (Try.prog.info? 3).map (fun i => (i.zero, i.size, i.bytes)) = some (some (.int .i64 0), 1, 8) := by kernel_rfl
def GotI (w wr : World) (v : Value) (P : List Nat) : Prop := wr.ownsRow w.heap.size 3 1 v P.length (P.map fun (i : Nat) => .int .i64 (i : Int)) ∧ Below w.heap.size w wr
/-- A slice of places that reads as these. -/
def Plc (w : World) (v : Value) (P : List Nat) : Prop := Ap.Rd w 1 v P.length (P.map fun (i : Nat) => .int .i64 (i : Int))
theorem Plc.below {w w' : World} {v : Value} {P : List Nat} (h : Plc w v P) (hb : Below w.heap.size w w') : Plc w' v P := Ap.Rd.below h hb
def AtP (w : World) (b off : Nat) (P : List Nat) : Prop := ∀ k, (h : k < P.length) → w.cell? ⟨b, off + k, none⟩ = some (.int .i64 (P[k] : Int))
theorem AtP.below {w w' : World} {b off : Nat} {l : List Nat} (h : AtP w b off l) (hb : Below w.heap.size w w') : AtP w' b off l := fun k hk => by
  rw [hb.cell (Ap.cell_lt (h k hk))]
  exact h k hk
theorem Plc.form {w : World} {v : Value} {P : List Nat} (h : Plc w v P) : (P = [] ∧ ∃ a cap, v = .slice a 0 cap) ∨ ∃ b off cap, v = .slice (some ⟨b, off, none⟩) P.length cap ∧ AtP w b off P := by
  obtain ⟨_, a, cap, rfl, hle, _, hcell⟩ := h
  by_cases h0 : 0 < P.length
  · obtain ⟨b, off, rfl, hj⟩ := hcell h0
    exact Or.inr ⟨b, off, cap, rfl, fun k hk => hj _ _ (by rw [List.getElem?_map, List.getElem?_eq_getElem hk]; rfl)⟩
  · have : P = [] := List.eq_nil_of_length_eq_zero (by omega)
    subst this
    exact Or.inl ⟨rfl, a, cap, rfl⟩
theorem GotI.plc {w wr : World} {v : Value} {P : List Nat} (h : GotI w wr v P) : Plc wr v P := Ap.Rd.owned h.1
theorem GotI.start (w : World) : GotI w w (.slice none 0 0) [] := ⟨⟨rfl, .inl ⟨rfl, rfl⟩⟩, Below.refl _ _⟩
theorem GotI.below {w wr w' : World} {v : Value} {P : List Nat} (h : GotI w wr v P) (hb : Below wr.heap.size wr w') : GotI w w' v P := ⟨Ap.own_below h.1 hb, h.2.trans (hb.mono h.2.size)⟩
theorem GotI.slice {w wr : World} {v : Value} {P : List Nat} (h : GotI w wr v P) : ∃ a c, v = .slice a P.length c := by
  obtain ⟨_, a, c, e, -⟩ := h.plc
  exact ⟨a, c, e⟩
theorem GotI.one {w wr : World} {v : Value} {P : List Nat} (k : Nat) (h : GotI w wr v P) (hl : P.length ≤ 2000000) :
    ∃ v' w', (Builtin.append_ #[37, 37] 37 #[v, .slice (some ⟨wr.heap.size, 0, none⟩) 1 1]).run Try.prog (wr.alloc (.cells #[.int .i64 (k : Int)] 3)) = .ok v' w' ∧ GotI w w' v' (P ++ [k]) := by
  obtain ⟨i0, hi, hz, hs1, hb8⟩ := info_parts infoIn
  obtain ⟨v', w', h1, h2, _, h4, _⟩ := Ap.run_append_one (P := Try.prog) (ty := 37) Try.underlying37 hi hz hs1 hb8 (by rfl) (by omega) h.1 h.2.size #[.int .i64 (k : Int)] rfl
    (by intro u hu; simp at hu; subst hu; rfl) (by unfold maxLen; omega) (by omega)
  exact ⟨v', w', h1, by simpa using h2, h.2.trans h4⟩

end Go.Proofs.Ytlipkhmidgogdaa.Rf

namespace Go.Proofs.Ytlipkhmidgogdaa.Pl
open Go Go.RowKit Go.Proofs.Ytlipkhmidgogdaa.Rw
set_option maxRecDepth 20000

/-- The float of a whole number. -/
abbrev fo (n : Int) : Nat := floatOfInt .f64 n
/-- A point of whole numbers. -/
def cx (p : Nat × Nat) : Value := .complex .f64 (fo p.1) (fo p.2)
theorem fo_zero : fo 0 = 0 := by decide +kernel
theorem fo_one : fo 1 = 4607182418800017408 := by decide +kernel
theorem sub_run {t : TypeId} {P : Program} {a b : Int} (ha : a.natAbs < 2 ^ 53) (hb : b.natAbs < 2 ^ 53) (hab : (a - b).natAbs < 2 ^ 53) (w : World) :
    (binOp .sub t (.float .f64 (fo a)) (.float .f64 (fo b))).run P w = .ok (.float .f64 (fo (a - b))) w :=
  run_float_arith w .sub t .f64 _ _ _ (Fl.sub_fl ha hb hab)
theorem add_run {t : TypeId} {P : Program} {a b c d : Int} (ha : a.natAbs < 2 ^ 52) (hb : b.natAbs < 2 ^ 52) (hc : c.natAbs < 2 ^ 52) (hd : d.natAbs < 2 ^ 52) (w : World) :
    (binOp .add t (.complex .f64 (fo a) (fo b)) (.complex .f64 (fo c) (fo d))).run P w = .ok (.complex .f64 (fo (a + c)) (fo (b + d))) w := by
  refine run_complex_sum w .add (.inl rfl) t .f64 _ _ _ _ _ _ ?_
  unfold cSumBits
  rw [show floatBits .add .f64 (fo a) (fo c) = some (fo (a + c)) from Fl.add_fl (by omega) (by omega) (by omega), show floatBits .add .f64 (fo b) (fo d) = some (fo (b + d)) from Fl.add_fl (by omega) (by omega) (by omega)]
  rfl

set_option maxHeartbeats 400000 in
theorem pointP_any (x y : Int) (w : World) : Calls Try.prog 27 #[.int .i64 x, .int .i64 y] w fun e w' => e = .returned (.complex .f64 (fo x) (fo y)) ∧ w = w' := by
  go_enter Try.func27, Try.ntmps27
  go_wp2_with fail
  go_ret
  exact ⟨rfl, rfl⟩
set_option maxHeartbeats 400000 in
theorem turnP_any (x y bx by_ : Int) (w : World) (hx : x.natAbs < 2 ^ 50) (hb : bx.natAbs < 2 ^ 50) :
    Calls Try.prog 22 #[.complex .f64 (fo x) (fo y), .complex .f64 (fo bx) (fo by_)] w fun e w' => e = .returned (.complex .f64 (fo (bx - 1 - x)) (fo y)) ∧ w = w' := by
  have h1 : ∀ w, (binOp .sub 32 (.float .f64 (fo bx)) (.float .f64 4607182418800017408)).run Try.prog w = .ok (.float .f64 (fo (bx - 1))) w := fun w => by
    rw [← fo_one]; exact sub_run (by omega) (by omega) (by omega) w
  have h2 : ∀ w, (binOp .sub 32 (.float .f64 (fo (bx - 1))) (.float .f64 (fo x))).run Try.prog w = .ok (.float .f64 (fo (bx - 1 - x))) w := fun w => sub_run (by omega) (by omega) (by omega) w
  obtain ⟨f1, e1⟩ : ∃ f, fo (bx - 1) = f := ⟨_, rfl⟩
  obtain ⟨f2, e2⟩ : ∃ f, fo (bx - 1 - x) = f := ⟨_, rfl⟩
  obtain ⟨f3, e3⟩ : ∃ f, fo bx = f := ⟨_, rfl⟩
  obtain ⟨f4, e4⟩ : ∃ f, fo x = f := ⟨_, rfl⟩
  obtain ⟨f5, e5⟩ : ∃ f, fo y = f := ⟨_, rfl⟩
  obtain ⟨f6, e6⟩ : ∃ f, fo by_ = f := ⟨_, rfl⟩
  rw [e1, e3] at h1
  rw [e1, e2, e4] at h2
  rw [e2, e3, e4, e5, e6]
  clear e1 e2 e3 e4 e5 e6
  go_enter Try.func22, Try.ntmps22
  go_wp2_with fail
  go_ret
  exact ⟨rfl, rfl⟩
set_option maxHeartbeats 400000 in
theorem turnR_any (x y bx by_ : Int) (w : World) (hx : x.natAbs < 2 ^ 50) (hb : bx.natAbs < 2 ^ 50) :
    Calls Try.prog 23 #[.complex .f64 (fo x) (fo y), .complex .f64 (fo bx) (fo by_)] w fun e w' => e = .returned (.complex .f64 (fo (bx - 1 - x)) (fo y)) ∧ w = w' := by
  have h1 : ∀ w, (binOp .sub 32 (.float .f64 (fo bx)) (.float .f64 4607182418800017408)).run Try.prog w = .ok (.float .f64 (fo (bx - 1))) w := fun w => by
    rw [← fo_one]; exact sub_run (by omega) (by omega) (by omega) w
  have h2 : ∀ w, (binOp .sub 32 (.float .f64 (fo (bx - 1))) (.float .f64 (fo x))).run Try.prog w = .ok (.float .f64 (fo (bx - 1 - x))) w := fun w => sub_run (by omega) (by omega) (by omega) w
  obtain ⟨f1, e1⟩ : ∃ f, fo (bx - 1) = f := ⟨_, rfl⟩
  obtain ⟨f2, e2⟩ : ∃ f, fo (bx - 1 - x) = f := ⟨_, rfl⟩
  obtain ⟨f3, e3⟩ : ∃ f, fo bx = f := ⟨_, rfl⟩
  obtain ⟨f4, e4⟩ : ∃ f, fo x = f := ⟨_, rfl⟩
  obtain ⟨f5, e5⟩ : ∃ f, fo y = f := ⟨_, rfl⟩
  obtain ⟨f6, e6⟩ : ∃ f, fo by_ = f := ⟨_, rfl⟩
  rw [e1, e3] at h1
  rw [e1, e2, e4] at h2
  rw [e2, e3, e4, e5, e6]
  clear e1 e2 e3 e4 e5 e6
  go_enter Try.func23, Try.ntmps23
  go_wp2_with fail
  go_ret
  exact ⟨rfl, rfl⟩

/-- 1 for a leaf. -/
def lf (x : Nd) : Nat := if Rw.ar x.k = 0 then 1 else 0
set_option maxHeartbeats 1000000 in
theorem leafP_any (x : Nd) (w : World) : Calls Try.prog 28 #[.agg #[.int .i64 x.k, .string x.n, .int .i64 x.s]] w fun e w' => e = .returned (.int .i64 (lf x : Nat)) ∧ Below w.heap.size w w' := by
  have HB := Lib.hid (below1 w (nb x))
  obtain ⟨a, ha⟩ : ∃ a, ar x.k = a := ⟨_, rfl⟩
  unfold lf
  rw [ha]
  have HAR := Lib.hid ha
  clear ha
  by_cases h0 : a = 0
  · subst h0
    rw [if_pos rfl]
    go_enter Try.func28, Try.ntmps28
    go_wp2_with fail
    refine (Rx.arP_eq x.k _).mono ?_
    rw [HAR.out]
    rintro e w' ⟨rfl, rfl⟩
    go_wp2_with fail
    go_ret
    exact ⟨rfl, HB.out⟩
  · have g0 : (a == 0) = false := by rw [beq_eq_false_iff_ne]; exact h0
    rw [if_neg h0]
    clear h0
    go_enter Try.func28, Try.ntmps28
    go_wp2_with fail
    refine (Rx.arP_eq x.k _).mono ?_
    rw [HAR.out]
    rintro e w' ⟨rfl, rfl⟩
    go_wp2_with fail
    go_ret
    exact ⟨rfl, HB.out⟩
set_option maxHeartbeats 1000000 in
theorem isTreeP_any (v : Value) (l : List Nd) (w : World) (h : Nds w v l) (hl : l.length ≤ 4398046511104) :
    Calls Try.prog 30 #[v] w fun e w' => e = .returned (.bool (one l)) ∧ Below w.heap.size w w' := by
  have HN := Lib.hid h
  obtain ⟨_, a, cap, rfl, -⟩ := h
  by_cases h0 : 0 < l.length
  · have HO : Hid (one l = decide (Rw.size l = l.length)) := by
      show _ = _
      unfold one
      rw [decide_eq_true h0, Bool.true_and]
    rw [HO.out]
    obtain ⟨z, hz⟩ : ∃ z, Rw.size l = z := ⟨_, rfl⟩
    have HZ := Lib.hid hz
    rw [hz]
    clear hz
    go_enter Try.func30, Try.ntmps30
    go_wp2_with fail
    refine (Rx.sizeP_big _ l _ HN.out hl).mono ?_
    rw [HZ.out]
    rintro e w' ⟨rfl, hb⟩
    have HB := Lib.hid hb
    clear hb
    go_wp2_with fail
    go_ret
    refine ⟨ret_bool ?_, HB.out⟩
    rw [Bool.eq_iff_iff]
    simp
    try omega
  · have HO : Hid (one l = false) := by
      show _ = _
      unfold one
      rw [decide_eq_false h0, Bool.false_and]
    rw [HO.out]
    go_enter Try.func30, Try.ntmps30
    go_wp2_with fail
    go_ret
    exact ⟨rfl, Below.refl _ _⟩
end Go.Proofs.Ytlipkhmidgogdaa.Pl

namespace Go.Proofs.Ytlipkhmidgogdaa.Rf
open Go Go.RowKit Go.Proofs.Ytlipkhmidgogdaa.Rw
set_option maxRecDepth 20000

/-- What a row without its first nodes is. -/
theorem drop_nds {w : World} {b off cap : Nat} {l : List Nd} (h : At w b off l) (hc : l.length ≤ cap) (d : Nat) (hd : d ≤ l.length) : Nds w (.slice (some ⟨b, off + d * 3, none⟩) (l.length - d) (cap - d)) (l.drop d) := by
  have := part_nds h d (l.length - d) (cap - d) (by omega) (by omega)
  rwa [List.take_of_length_le (by rw [List.length_drop]; exact Nat.le_refl _)] at this
/-- What each operation of the last region yields. -/
def RS (b off L cap p : Nat) (x : Nd) (r r' : List Nd) (k : Nat) (v : Value) (w' : World) : Prop := match k with
  | 0 => v = .slice (some ⟨b, off, none⟩) L cap
  | 1 => v = .pointer (some ⟨b, p, none⟩)
  | 2 => v = .agg #[.int .i64 x.k, .string x.n, .int .i64 x.s]
  | 3 => ∃ g, v = .slice (some ⟨g, 0, none⟩) 1 1 ∧ Nds w' v [x]
  | 4 => v = .slice (some ⟨b, off, none⟩) L cap
  | 5 => Nds w' v r
  | 6 => Nds w' v r'
  | 7 => Nds w' v (x :: r')
  | 8 => Nds w' v (x :: r')
  | _ => True
theorem RS.below {b off L cap p : Nat} {x : Nd} {r r' : List Nd} {k : Nat} {v : Value} {w w' : World} (h : RS b off L cap p x r r' k v w) (hb : Below w.heap.size w w') : RS b off L cap p x r r' k v w' := by
  unfold RS at h ⊢
  split at h
  case h_4 =>
    obtain ⟨g, h1, h2⟩ := h
    exact ⟨g, h1, h2.below hb⟩
  case h_6 => exact Nds.below h hb
  case h_7 => exact Nds.below h hb
  case h_8 => exact Nds.below h hb
  case h_9 => exact Nds.below h hb
  all_goals exact h
end Go.Proofs.Ytlipkhmidgogdaa.Rf

namespace Go.Proofs.Ytlipkhmidgogdaa.Pl
open Go Go.RowKit Go.Proofs.Ytlipkhmidgogdaa.Rw Go.Proofs.Ytlipkhmidgogdaa.So Go.Proofs.Ytlipkhmidgogdaa.Ro
set_option maxRecDepth 20000

/-- A row of numbers of the call's own. -/
def Ow (w : World) (v : Value) (L : List Nat) : Prop := w.ownsRow 0 3 1 v L.length (Rx.ic L)
theorem Ow.slice {w : World} {v : Value} {L : List Nat} (h : Ow w v L) : ∃ a c, v = .slice a L.length c := by
  obtain ⟨_, ⟨rfl, h0⟩ | ⟨g, cap, cur, rfl, _⟩⟩ := h
  · exact ⟨none, 0, by rw [h0]⟩
  · exact ⟨_, _, rfl⟩
theorem Ow.lt {w : World} {v : Value} {L : List Nat} (h : Ow w v L) : ∀ g, v.ownBlock = some g → g < w.heap.size := Ap.own_lt h
theorem Ow.turn {M : Nat → Prop} {w w' : World} {v : Value} {L : List Nat} (h : Ow w v L) (ht : Turn M w w') (hn : ∀ g, v.ownBlock = some g → ¬ M g) : Ow w' v L := by
  obtain ⟨hl, h | ⟨g, cap, cur, rfl, hg, hh, h1, h2, h3, h4⟩⟩ := h
  · exact ⟨hl, .inl h⟩
  · refine ⟨hl, .inr ⟨g, cap, cur, rfl, hg, ?_, h1, h2, h3, h4⟩⟩
    rw [ht.block g (Nat.lt_of_not_le fun hle => by rw [Array.getElem?_eq_none hle] at hh; cases hh) (hn g rfl)]
    exact hh
theorem Ow.keep {M : Nat → Prop} {w w' : World} {v : Value} {L : List Nat} (h : Ow w v L) (ht : Keep M w w') (hn : ∀ g, v.ownBlock = some g → M g) : Ow w' v L := by
  obtain ⟨hl, h | ⟨g, cap, cur, rfl, hg, hh, h1, h2, h3, h4⟩⟩ := h
  · exact ⟨hl, .inl h⟩
  · refine ⟨hl, .inr ⟨g, cap, cur, rfl, hg, ?_, h1, h2, h3, h4⟩⟩
    rw [ht.block g (hn g rfl)]
    exact hh
theorem Ow.plc {w : World} {v : Value} {L : List Nat} (h : Ow w v L) : Rf.Plc w v L := Ap.Rd.owned h
theorem Ow.push {w : World} {v x : Value} {L : List Nat} {k : Nat} (h : Ow w v L) (hx : Ap.Rd w 1 x 1 [.int .i64 (k : Int)]) (hl : L.length ≤ 8796093022208) :
    ∃ v' w', (Builtin.append_ #[37, 37] 37 #[v, x]).run Try.prog w = .ok v' w' ∧ Ow w' v' (L ++ [k]) ∧ w.grownBy w' v.ownBlock ∧ Ap.Fresh w v v' := by
  obtain ⟨i0, hi, hz, hs1, hb8⟩ := info_parts Rx.infoI
  obtain ⟨v', w', h1, h2, h3, _, h5⟩ := Ap.run_append_rd (P := Try.prog) (ty := 37) Try.underlying37 hi hz hs1 hb8 (by rfl) (by omega) h (Nat.zero_le _) hx
    (by intro u hu; simp at hu; subst hu; rfl) (by unfold maxLen; omega) (by omega)
  refine ⟨v', w', h1, ?_, h3, h5⟩
  unfold Ow
  have e : Rx.ic (L ++ [k]) = Rx.ic L ++ [.int .i64 (k : Int)] := by simp [Rx.ic]
  rw [e, show (L ++ [k]).length = L.length + 1 by simp]
  exact h2
theorem stk_cut {w : World} {g cap : Nat} {st : List Nat} (h : Rx.Stk 0 w g cap st) (m : Nat) (hm : m ≤ st.length) : Rx.Stk 0 w g cap (st.take m) := by
  obtain ⟨cur, hg, hb, hmx, hs, hn, ht⟩ := h.parts
  refine Rx.Stk.of hg hb hmx hs (by rw [List.length_take]; omega) ?_
  have e : (st.take m).length = m := by rw [List.length_take]; omega
  rw [e]
  have := congrArg (List.take m) ht
  rw [List.take_take, Nat.min_eq_left hm] at this
  rw [this]
  simp [Rx.ic, List.map_take]
theorem Ow.some {w : World} {v : Value} {L : List Nat} (h : Ow w v L) (h0 : 0 < L.length) : ∃ g c, v = .slice (some ⟨g, 0, none⟩) L.length c ∧ Rx.Stk 0 w g c L := by
  have h' := h
  obtain ⟨_, ⟨_, hz⟩ | ⟨g, cap, cur, rfl, _⟩⟩ := h
  · omega
  · exact ⟨g, cap, rfl, h'⟩
/-- What a round is told: the place, and those above. -/
def Told (l : List Nd) (k : Nat) (args : Array Value) (w : World) : Prop := ∃ v, args = #[.int .i64 (k : Int), v] ∧ Rf.Plc w v (ov l k)
/-- How many rounds there are. -/
def rounds (l : List Nd) : Nat := if one l = true then l.length else 0
/-- The two rows. -/
structure Two (T : Nat → Prop) (w : World) (va vo : Value) (ab st : List Nat) : Prop where
  a : Ow w va ab
  o : Ow w vo st
  ta : ∀ g, va.ownBlock = some g → T g
  to : ∀ g, vo.ownBlock = some g → T g
  ne : ∀ g, va.ownBlock = some g → vo.ownBlock ≠ some g

set_option maxHeartbeats 1000000 in
theorem nodes1_no (B l0 : Nat) (v : Value) (l : List Nd) (w : World) (hc : w.cell? ⟨B, 0, none⟩ = some v) (hv : Nds w v l) (hl : l.length ≤ 4398046511104) (h0 : one l = false) :
    Calls Try.prog 38 #[.func (.yield l0) #[] #[], .pointer (some ⟨B, 0, none⟩)] w fun e w' => (∃ y, e = .returned y) ∧ Below w.heap.size w w' := by
  have HN := Lib.hid hv
  obtain ⟨_, a, cap, rfl, -⟩ := hv
  have H0 := Lib.hid h0
  clear h0
  go_enter Try.func38, Try.ntmps38
  go_wp2_with fail
  refine (isTreeP_any _ l _ HN.out hl).mono ?_
  rw [H0.out]
  rintro e w' ⟨rfl, hb⟩
  have HB := Lib.hid hb
  clear hb
  go_wp2_with fail
  refine bodyPost_ret (results_none rfl _ _ _) rfl ?_
  exact ⟨⟨_, rfl⟩, HB.out⟩
end Go.Proofs.Ytlipkhmidgogdaa.Pl

namespace Go.Proofs.Ytlipkhmidgogdaa.Pl
open Go Go.RowKit Go.Proofs.Ytlipkhmidgogdaa.Rw Go.Proofs.Ytlipkhmidgogdaa.So Go.Proofs.Ytlipkhmidgogdaa.Ro
set_option maxRecDepth 20000

/-- Which block an operation may turn. -/
def Mn (va vo : Value) (i t : Nat) : Prop := (i = 3 ∧ va.ownBlock = some t) ∨ (i = 9 ∧ vo.ownBlock = some t)
def Bs (w3 : World) (va vo : Value) (bn : Nat) (xk : Int) (w : World) : Prop := w.cell? ⟨bn, 0, none⟩ = some (.int .i64 xk) ∧ Turn (fun t => va.ownBlock = some t ∨ vo.ownBlock = some t) w3 w
/-- A row grown out of another one. -/
def Gr (w3 : World) (v0 v : Value) (L : List Nat) (w : World) : Prop := Ow w v L ∧ ∀ g, v.ownBlock = some g → v0.ownBlock = some g ∨ w3.heap.size ≤ g
/-- One number in a new block. -/
def On1 (w3 : World) (v : Value) (n : Int) (w : World) : Prop := ∃ g, v = .slice (some ⟨g, 0, none⟩) 1 1 ∧ w3.heap.size ≤ g ∧ w.cell? ⟨g, 0, none⟩ = some (.int .i64 n)
def Rn (w3 : World) (va vo : Value) (bn : Nat) (xk : Int) (k r : Nat) (ab st : List Nat) (i : Nat) (v : Value) (w : World) : Prop := match i with
  | 0 => v = va
  | 1 => v = .int .i64 (k : Int)
  | 2 => On1 w3 v k w
  | 3 => Gr w3 va v (ab ++ [k]) w
  | 4 => v = vo
  | 5 => v = .pointer (some ⟨bn, 0, none⟩)
  | 6 => v = .int .i64 xk
  | 7 => v = .int .i64 (r : Int)
  | 8 => On1 w3 v r w
  | 9 => Gr w3 vo v (st ++ [r]) w
  | 10 => Gr w3 va v (ab ++ [k]) w
  | 11 => Gr w3 vo v (st ++ [r]) w
  | _ => True
def Nn (va vo : Value) (ab st : List Nat) (i : Nat) (w : World) : Prop := match i with
  | 3 => Ow w va ab
  | 9 => Ow w vo st
  | _ => True
def Pn (i : Nat) (v : Value) (k : Nat) (u : Value) : Prop := ((i = 3 ∨ i = 10) ∧ (k = 9 ∨ k = 11) ∨ (i = 9 ∨ i = 11) ∧ (k = 3 ∨ k = 10)) → ∀ g, v.ownBlock = some g → u.ownBlock ≠ some g
def tabN : List (List Nat) := [[], [], [1], [0, 1, 2], [], [], [5], [3, 5, 6], [5, 6, 7], [3, 4, 5, 6, 7, 8], [0, 1, 2, 3, 9], [3, 4, 5, 6, 7, 8, 9, 10]]
structure Sep (w3 : World) (va vo : Value) (bn : Nat) : Prop where
  a : ∀ g, va.ownBlock = some g → g < w3.heap.size
  o : ∀ g, vo.ownBlock = some g → g < w3.heap.size
  ne : ∀ g, va.ownBlock = some g → vo.ownBlock ≠ some g
  b : bn < w3.heap.size
  ba : va.ownBlock ≠ some bn
  bo : vo.ownBlock ≠ some bn

section
variable {w3 : World} {va vo : Value} {bn : Nat} {xk : Int} {k r : Nat} {ab st : List Nat}
theorem Bs.turn (hs : Sep w3 va vo bn) (i : Nat) (w w' : World) (h : Bs w3 va vo bn xk w) (ht : Turn (Mn va vo i) w w') : Bs w3 va vo bn xk w' :=
  ⟨ht.cell h.1 (by rintro (⟨_, h⟩ | ⟨_, h⟩); exact hs.ba h; exact hs.bo h), h.2.trans (ht.imp (by rintro t (⟨_, h⟩ | ⟨_, h⟩); exact .inl h; exact .inr h))⟩
theorem On1.turn (hs : Sep w3 va vo bn) {i : Nat} {v : Value} {n : Int} {w w' : World} (h : On1 w3 v n w) (ht : Turn (Mn va vo i) w w') : On1 w3 v n w' := by
  obtain ⟨g, rfl, hg, hc⟩ := h
  exact ⟨g, rfl, hg, ht.cell hc (by rintro (⟨_, h⟩ | ⟨_, h⟩); have := hs.a g h; omega; have := hs.o g h; omega)⟩
theorem Gr.turn {M : Nat → Prop} {v0 v : Value} {L : List Nat} {w w' : World} (h : Gr w3 v0 v L w) (ht : Turn M w w') (hn : ∀ g, v.ownBlock = some g → ¬ M g) : Gr w3 v0 v L w' := ⟨h.1.turn ht hn, h.2⟩
theorem Rn.turn (hs : Sep w3 va vo bn) (i j : Nat) (v : Value) (w w' : World) (hij : i ≠ j) (hlt : i < 12) (hp : Rq.tab tabN j i = false) (h : Rn w3 va vo bn xk k r ab st j v w) (ht : Turn (Mn va vo i) w w') : Rn w3 va vo bn xk k r ab st j v w' := by
  have ga : ∀ g, (va.ownBlock = some g ∨ w3.heap.size ≤ g) → i ≠ 3 → ¬ Mn va vo i g := fun g hg hi hm => by
    rcases hm with ⟨h3, _⟩ | ⟨_, h9⟩
    · exact hi h3
    · rcases hg with hg | hg
      · exact hs.ne g hg h9
      · have := hs.o g h9; omega
  have go : ∀ g, (vo.ownBlock = some g ∨ w3.heap.size ≤ g) → i ≠ 9 → ¬ Mn va vo i g := fun g hg hi hm => by
    rcases hm with ⟨_, h3⟩ | ⟨h9, _⟩
    · rcases hg with hg | hg
      · exact hs.ne g h3 hg
      · have := hs.a g h3; omega
    · exact hi h9
  unfold Rn at h ⊢
  split at h
  case h_3 => exact h.turn hs ht
  case h_4 => exact h.turn ht fun g hg => ga g (h.2 g hg) hij
  case h_9 => exact h.turn hs ht
  case h_10 => exact h.turn ht fun g hg => go g (h.2 g hg) hij
  case h_11 => exact h.turn ht fun g hg => ga g (h.2 g hg) fun e => by subst e; revert hp; decide
  case h_12 => exact h.turn ht fun g hg => go g (h.2 g hg) fun e => by subst e; revert hp; decide
  all_goals exact h
theorem Nn.turn (hs : Sep w3 va vo bn) (i j : Nat) (w w' : World) (hij : i ≠ j) (hp : Rq.tab tabN i j = false) (h : Nn va vo ab st j w) (ht : Turn (Mn va vo i) w w') : Nn va vo ab st j w' := by
  unfold Nn at h ⊢
  split at h
  case h_1 => exact h.turn ht fun g hg hm => by
                rcases hm with ⟨h3, _⟩ | ⟨_, h9⟩
                · exact hij h3
                · exact hs.ne g hg h9
  case h_2 => exact h.turn ht fun g hg hm => by
                rcases hm with ⟨_, h3⟩ | ⟨h9, _⟩
                · exact hs.ne g h3 hg
                · exact hij h9
  all_goals exact h
theorem Pn.no {i j : Nat} {v u : Value} (h : i ≠ 3 ∧ i ≠ 9 ∧ i ≠ 10 ∧ i ≠ 11) : Pn i v j u ∧ Pn j u i v := by
  constructor <;> intro hh <;> exfalso <;> omega
/-- A row that was grown now lies apart from the other one. -/
theorem Pn.new {v0 v0' v u : Value} {L : List Nat} {w : World} (h0 : ∀ g, v0.ownBlock = some g → g < w3.heap.size) (hne : ∀ g, v0.ownBlock = some g → v0'.ownBlock ≠ some g) (hv : Ap.Fresh w v0 v) (hu : Gr w3 v0' u L w) :
    ∀ g, v.ownBlock = some g → u.ownBlock ≠ some g := by
  intro g hg hu'
  have hlt := hu.1.lt g hu'
  rcases hv with hv | ⟨g', hv, hle⟩
  · rw [hv] at hg
    rcases hu.2 g hu' with h | h
    · exact hne g hg h
    · have := h0 g hg; omega
  · rw [hv] at hg
    cases hg
    omega
theorem Pn.three (hs : Sep w3 va vo bn) {v u : Value} {w : World} {j : Nat} (hv : Ap.Fresh w va v) (hu : Rn w3 va vo bn xk k r ab st j u w) (hj : j ≠ 3) : Pn 3 v j u ∧ Pn j u 3 v := by
  by_cases h : j = 9 ∨ j = 11
  · have hg : Gr w3 vo u (st ++ [r]) w := by rcases h with rfl | rfl <;> exact hu
    have := Pn.new hs.a hs.ne hv hg
    exact ⟨fun _ => this, fun _ g h1 h2 => this g h2 h1⟩
  · constructor <;> intro hh <;> exfalso <;> omega
theorem Pn.nine (hs : Sep w3 va vo bn) {v u : Value} {w : World} {j : Nat} (hv : Ap.Fresh w vo v) (hu : Rn w3 va vo bn xk k r ab st j u w) (hj : j ≠ 9) : Pn 9 v j u ∧ Pn j u 9 v := by
  by_cases h : j = 3 ∨ j = 10
  · have hg : Gr w3 va u (ab ++ [k]) w := by rcases h with rfl | rfl <;> exact hu
    have := Pn.new hs.o (fun g h1 h2 => hs.ne g h2 h1) hv hg
    exact ⟨fun _ => this, fun _ g h1 h2 => this g h2 h1⟩
  · constructor <;> intro hh <;> exfalso <;> omega
theorem Pn.ten {v u : Value} {j : Nat} (h : j ≠ 3 → Pn 3 v j u ∧ Pn j u 3 v) : Pn 10 v j u ∧ Pn j u 10 v := by
  constructor
  · intro hh g h1 h2
    exact (h (by omega)).1 (by omega) g h1 h2
  · intro hh g h1 h2
    exact (h (by omega)).2 (by omega) g h1 h2
theorem Pn.eleven {v u : Value} {j : Nat} (h : j ≠ 9 → Pn 9 v j u ∧ Pn j u 9 v) : Pn 11 v j u ∧ Pn j u 11 v := by
  constructor
  · intro hh g h1 h2
    exact (h (by omega)).1 (by omega) g h1 h2
  · intro hh g h1 h2
    exact (h (by omega)).2 (by omega) g h1 h2
theorem Gr.grow {v0 v' : Value} {L : List Nat} {n : Nat} {w w' : World} (h1 : Ow w' v' (L ++ [n])) (hf : Ap.Fresh w v0 v') (hw : w3.heap.size ≤ w.heap.size) : Gr w3 v0 v' (L ++ [n]) w' :=
  ⟨h1, fun g hg => by
    rcases hf with hf | ⟨g', hf, hle⟩
    · rw [hf] at hg; exact .inl hg
    · rw [hf] at hg; cases hg; exact .inr (by omega)⟩
theorem On1.rd {v : Value} {n : Int} {w : World} (h : On1 w3 v n w) : Ap.Rd w 1 v 1 [.int .i64 n] := by
  obtain ⟨g, rfl, _, hc⟩ := h
  refine ⟨rfl, _, 1, rfl, Nat.le_refl _, fun h => (by cases h), fun _ => ⟨g, 0, rfl, fun j u hu => ?_⟩⟩
  match j with
  | 0 => simp at hu; subst hu; exact hc
  | j + 1 => simp at hu
theorem On1.new (n : Int) {w : World} (hw : w3.heap.size ≤ w.heap.size) : On1 w3 (.slice (some ⟨w.heap.size, 0, none⟩) 1 1) n (w.alloc (.cells #[.int .i64 n] 3)) := ⟨_, rfl, hw, by simp⟩
end
end Go.Proofs.Ytlipkhmidgogdaa.Pl
