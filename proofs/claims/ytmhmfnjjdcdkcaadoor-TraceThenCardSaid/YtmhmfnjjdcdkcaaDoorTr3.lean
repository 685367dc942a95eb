/- The document's mixed at any two rows: the walk of the step. -/
import Derived.Test.YtmhmfnjjdcdkcaaDoorTr2
namespace Go.Proofs.YtmhmfnjjdcdkcaaDoor.Tr
open Go Go.RowKit
set_option maxRecDepth 20000

theorem rws_of {ok : Nat → Prop} {w : World} {base : Nat} {e : TypeId} {v : Value} {cs : List Value} {rs : List (List ByteArray)} (ho : w.ownsRow base e 1 v rs.length cs) (hr : RwO ok w cs rs) : Rws w v rs :=
  ⟨cs, Ap.Rd.owned ho, hr.map fun _ _ h => Ap.RdO.imp h fun _ _ _ => trivial⟩
theorem keep2 {w w' : World} {b1 o1 b2 o2 : Nat} {x y : Value} (h : Below w.heap.size w w') (e1 : w.cell? ⟨b1, o1, none⟩ = some x) (e2 : w.cell? ⟨b2, o2, none⟩ = some y) : w'.cell? ⟨b1, o1, none⟩ = some x ∧ w'.cell? ⟨b2, o2, none⟩ = some y := by
  refine ⟨?_, ?_⟩
  · rw [h.cell (Ap.cell_lt e1)]; exact e1
  · rw [h.cell (Ap.cell_lt e2)]; exact e2

set_option maxHeartbeats 4000000 in
theorem mixed_step (n : Nat) (hn : n ≤ 19) (ih : ∀ (x y : Value) (l m : List ByteArray) (w : World), l.length + m.length ≤ n → Strs w x l → Strs w y m → Calls Tryd.prog 52 #[x, y] w (Mxd w n l m))
    (b1 o1 c1 b2 o2 c2 p1 p2 : Nat) (x0 y0 : ByteArray) (l m : List ByteArray) (w : World) (hlen : l.length + m.length + 1 ≤ n)
    (hx : Strs w (.slice (some ⟨b1, o1, none⟩) (l.length + 1) c1) (x0 :: l)) (hy : Strs w (.slice (some ⟨b2, o2, none⟩) (m.length + 1) c2) (y0 :: m))
    (hp1 : p1 = o1 + 1 ∨ c1 = 1) (hp2 : p2 = o2 + 1 ∨ c2 = 1)
    (r1 : ∀ w : World, (Instr.slice 22 (.slice (some ⟨b1, o1, none⟩) (l.length + 1) c1) (some (.int .i64 1)) none none).run Tryd.prog w = .ok (.slice (some ⟨b1, p1, none⟩) l.length (c1 - 1)) w)
    (r2 : ∀ w : World, (Instr.slice 22 (.slice (some ⟨b2, o2, none⟩) (m.length + 1) c2) (some (.int .i64 1)) none none).run Tryd.prog w = .ok (.slice (some ⟨b2, p2, none⟩) m.length (c2 - 1)) w) :
    Calls Tryd.prog 52 #[.slice (some ⟨b1, o1, none⟩) (l.length + 1) c1, .slice (some ⟨b2, o2, none⟩) (m.length + 1) c2] w (Mxd w (n + 1) (x0 :: l) (y0 :: m)) := by
  have IH := Lib.hid ih
  have HX := Lib.hid hx
  have HY := Lib.hid hy
  have T1 := Lib.hid (hx.tail p1 hp1)
  have T2 := Lib.hid (hy.tail p2 hp2)
  have e1 : w.cell? ⟨b1, o1, none⟩ = some (.string x0) := by
    rcases hx.form with ⟨h, _⟩ | ⟨b, o, c, hv, hc⟩
    · cases h
    · cases hv
      exact hc 0 (by simp)
  have e2 : w.cell? ⟨b2, o2, none⟩ = some (.string y0) := by
    rcases hy.form with ⟨h, _⟩ | ⟨b, o, c, hv, hc⟩
    · cases h
    · cases hv
      exact hc 0 (by simp)
  have hne1 : (((l.length + 1 : Nat) : Int) == 0) = false := by rw [beq_eq_false_iff_ne]; omega
  have hne2 : (((m.length + 1 : Nat) : Int) == 0) = false := by rw [beq_eq_false_iff_ne]; omega
  clear ih hx hy hp1 hp2
  go_enter Tryd.func52, Tryd.ntmps52
  go_wp2_with fail
  go_region_held3 (fun w' => w'.cell? ⟨b1, o1, none⟩ = some (.string x0) ∧ w'.cell? ⟨b2, o2, none⟩ = some (.string y0)) (first | exact ⟨e1, e2⟩ | exact keep2 B1.out e1 e2 | exact keep2 B2.out e1 e2 | exact keep2 B3.out e1 e2 | exact keep2 B4.out e1 e2 | exact keep2 B5.out e1 e2 | fail) (first
    | (go_at_call 52
       (with_reducible refine (IH.out (.slice (some ⟨b1, p1, none⟩) l.length (c1 - 1)) (.slice (some ⟨b2, o2, none⟩) (m.length + 1) c2) l (y0 :: m) _ (by simp; omega) (T1.out.below (Below.refl _ _).drew) (HY.out.below (Below.refl _ _).drew)).mono ?_)
       rintro e w1 ⟨v1, cs1, rfl, ho1, hr1, hb1⟩
       have K1 := Lib.hid (rws_of ho1 hr1)
       have B1 : Hid (Below w.heap.size w w1) := (Below.refl _ _).drew.trans hb1
       clear ho1 hr1 hb1)
    | (go_at_call 70
       (with_reducible refine (ahead_any x0 v1 (mx n l (y0 :: m)) _ K1.out ?_ ?_).mono ?_)
       · exact Nat.le_trans (mx_len _ _ _) (Nat.le_trans (pow20 (by omega)) (by omega))
       · intro r hr
         have := mx_row _ _ _ _ hr
         simp at this
         omega
       rintro e w2 ⟨v2, cs2, rfl, ho2, hr2, hb2⟩
       have O2 := Lib.hid ho2
       have R2 := Lib.hid hr2
       have B2 : Hid (Below w.heap.size w w2) := B1.out.trans (hb2.mono B1.out.size)
       clear ho2 hr2 hb2)
    | (go_at_call 52
       (with_reducible refine (IH.out (.slice (some ⟨b1, o1, none⟩) (l.length + 1) c1) (.slice (some ⟨b2, p2, none⟩) m.length (c2 - 1)) (x0 :: l) m _ (by simp; omega) (HX.out.below B2.out) (T2.out.below B2.out)).mono ?_)
       rintro e w3 ⟨v3, cs3, rfl, ho3, hr3, hb3⟩
       have K3 := Lib.hid (rws_of ho3 hr3)
       have C3 : Hid (Below w2.heap.size w2 w3) := hb3
       have B3 : Hid (Below w.heap.size w w3) := B2.out.trans (hb3.mono B2.out.size)
       clear ho3 hr3 hb3)
    | (go_at_call 70
       (with_reducible refine (ahead_any y0 v3 (mx n (x0 :: l) m) _ K3.out ?_ ?_).mono ?_)
       · exact Nat.le_trans (mx_len _ _ _) (Nat.le_trans (pow20 (by omega)) (by omega))
       · intro r hr
         have := mx_row _ _ _ _ hr
         simp at this
         omega
       rintro e w4 ⟨v4, cs4, rfl, ho4, hr4, hb4⟩
       have O4 := Lib.hid ho4
       have R4 := Lib.hid hr4
       have C4 : Hid (Below w2.heap.size w2 w4) := C3.out.trans (hb4.mono C3.out.size)
       have B4 : Hid (Below w.heap.size w w4) := B3.out.trans (hb4.mono B3.out.size)
       have L4 : Hid (w2.heap.size ≤ w3.heap.size) := C3.out.size
       obtain ⟨v5, w5, hrun, ho5, hg5, hb5, hf5⟩ := run_append_rows (Ap.own_below (Ap.own_base O2.out B1.out.size) C4.out) B4.out.size (Ap.Rd.owned O4.out) R4.out.one (by
         have h1 := mx_len n l (y0 :: m)
         have h2 := mx_len n (x0 :: l) m
         have h3 := pow20 (n := n) (by omega)
         omega)
       have RUN := Lib.hid hrun
       have O5 := Lib.hid ho5
       have G5 := Lib.hid hg5
       have F5 := Lib.hid hf5
       have B5 := Lib.hid (B4.out.trans hb5)
       clear ho4 hr4 hb4 hrun ho5 hg5 hb5 hf5)
    | (refine Ap.step_append_run (by rfl) _ _ _ _ rfl _ _ rfl rfl v5 w5 RUN.out ?_)
    | fail)
  go_wp2_with fail
  go_ret
  refine ⟨_, cs2 ++ cs4, rfl, ?_, ?_, B5.out⟩
  · have := O5.out
    simpa [mx] using this
  · rw [mx]
    refine RwO.append ?_ ?_
    · refine R4.out.map fun v r h => Ap.RdO.imp (Ap.RdO.grow (v := v2) (v' := v5) (ok := fun _ => True) (Ap.RdO.imp h fun b _ hb => ⟨trivial, ?_⟩) G5.out F5.out) fun _ _ h => h.2
      intro hbo
      have h1 := Ap.own_lt O2.out b hbo.symm
      have h2 := L4.out
      omega
    · exact R2.out.map fun v r h => Ap.RdO.imp (Ap.RdO.grow (v := v2) (v' := v5) (ok := fun _ => True) (Ap.RdO.below (Ap.RdO.imp h fun b _ hb => ⟨trivial, hb.2⟩) C4.out) G5.out F5.out) fun _ _ h => h.2
end Go.Proofs.YtmhmfnjjdcdkcaaDoor.Tr
