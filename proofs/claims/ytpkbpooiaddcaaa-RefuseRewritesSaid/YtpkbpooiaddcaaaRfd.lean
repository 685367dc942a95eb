/- The document's Mark and Places of layer 8. -/
import Derived.Test.YtpkbpooiaddcaaaRfc
namespace Go.Proofs.Ytpkbpooiaddcaaa.Rf
open Go Go.RowKit Go.Proofs.Ytpkbpooiaddcaaa.Rw
set_option maxRecDepth 20000

theorem mrk_yes {at_ : Int} {l : List Nd} {k : Nat} (h : k < l.length) (h1 : (k : Int) = at_) (h2 : l[k].k = 1) : mrk at_ l (k + 1) = mrk at_ l k ++ [alt, l[k], thr] := by
  rw [mrk_succ h, if_pos ⟨h1, h2⟩]
theorem mrk_no {at_ : Int} {l : List Nd} {k : Nat} (h : k < l.length) (h1 : ¬ ((k : Int) = at_ ∧ l[k].k = 1)) : mrk at_ l (k + 1) = mrk at_ l k ++ [l[k]] := by
  rw [mrk_succ h, if_neg h1]
set_option maxHeartbeats 1000000 in
theorem markR_empty (a : Option Addr) (cap : Nat) (at_ : Int) (w : World) :
    Calls Try.prog 16 #[.slice a 0 cap, .int .i64 at_] w fun e w' => ∃ y, e = .returned y ∧ Nds w' y [] ∧ Below w.heap.size w w' := by
  go_enter Try.func16, Try.ntmps16
  go_wp2_with fail
  refine Go.wp_loop_rounds 1 ?_
  rw [rounds_succ]
  go_wp2_with fail
  go_ret
  exact ⟨_, rfl, (Got.start w).nds, Below.refl _ _⟩
set_option maxHeartbeats 8000000 in
theorem markR_cells (b off cap : Nat) (l : List Nd) (at_ : Int) (w : World) (hl : l.length ≤ 300000) (hat : At w b off l) :
    Calls Try.prog 16 #[.slice (some ⟨b, off, none⟩) l.length cap, .int .i64 at_] w fun e w' => ∃ y, e = .returned y ∧ Nds w' y (mark at_ l) ∧ Below w.heap.size w w' := by
  have HA := Lib.hid hat
  clear hat
  go_enter Try.func16, Try.ntmps16
  go_wp2_with fail
  go_loopw [5, 6] (fun o i wr => ∃ (k : Nat) (a : Option Addr) (n c : Nat), k ≤ l.length ∧ n ≤ 3 * k ∧ i = .int .i64 k ∧ o = .slice a n c ∧ Hid ((mrk at_ l k).length = n) ∧ Hid (Got w wr (.slice a n c) (mrk at_ l k))) (fun _ i _ => l.length - (intOf i).toNat)
  case atStart => exact ⟨0, none, 0, 0, Nat.zero_le _, Nat.le_refl _, rfl, rfl, Lib.hid rfl, Lib.hid (Got.start w)⟩
  case round =>
    obtain ⟨k, a, n, c, hk, hn, rfl, rfl, HL, HG⟩ := hrel
    by_cases hlt : k < l.length
    · obtain ⟨e1, e2, e3⟩ := HA.out k hlt
      have c1 : wr.cell? ⟨b, off + k * 3, none⟩ = some (.int .i64 l[k].k) := by rw [HG.out.2.cell (Ap.cell_lt e1)]; exact e1
      have c2 : wr.cell? ⟨b, off + k * 3 + 1, none⟩ = some (.string l[k].n) := by rw [HG.out.2.cell (Ap.cell_lt e2)]; exact e2
      have c3 : wr.cell? ⟨b, off + k * 3 + 2, none⟩ = some (.int .i64 l[k].s) := by rw [HG.out.2.cell (Ap.cell_lt e3)]; exact e3
      have HY := Lib.hid (fun h h' => mrk_yes (at_ := at_) hlt h h')
      have HO := Lib.hid (fun h => mrk_no (at_ := at_) hlt h)
      obtain ⟨q, hq⟩ : ∃ q, mrk at_ l k = q := ⟨_, rfl⟩
      obtain ⟨x, hx⟩ : ∃ x, l[k] = x := ⟨_, rfl⟩
      rw [hx] at c1 c2 c3 HY HO
      rw [hq] at HL HG HY HO
      clear hx e1 e2 e3 hq
      by_cases h0 : (k : Int) = at_
      · have g0 : ((k : Int) == at_) = true := by rw [beq_iff_eq]; exact h0
        by_cases h1 : x.k = 1
        · have HX := Lib.hid (HY.out h0 h1)
          obtain ⟨xk, xn, xs⟩ := x
          obtain rfl : xk = 1 := h1
          clear h0
          go_wp2_with fail
          refine (may_any ⟨1, xn, xs⟩ _).mono ?_
          rintro e w2 ⟨y, rfl, hy, hb2⟩
          replace HG := Lib.hid (HG.out.below hb2)
          obtain ⟨v', w3, hrun, hgot⟩ := HG.out.row hy (by rw [HL.out]; simp; omega)
          rw [← HX.out] at hgot
          obtain ⟨ya, yc, rfl⟩ : ∃ ya yc, y = .slice ya 3 yc := by
            obtain ⟨_, ya, yc, e, -⟩ := hy
            exact ⟨ya, yc, e⟩
          obtain ⟨a', c', rfl⟩ := hgot.slice
          have HL' : Hid ((mrk at_ l (k + 1)).length = n + 3) := by
            show _ = _
            rw [HX.out, List.length_append, HL.out]
            rfl
          rw [HL'.out] at hrun hgot
          have R := Lib.hid hrun
          have HG' := Lib.hid hgot
          clear hrun hgot hy hb2 c1 c2 c3
          go_wp2_with (at_builtin; refine Ap.wpList_append_run (by rfl) (.tmp 24) (.tmp 29) _ _ rfl _ _ rfl rfl _ w3 R.out ?_)
          go_roundw
          case rel => exact ⟨k + 1, a', n + 3, c', by omega, by omega, by go_num, rfl, HL', HG'⟩
          case measure => simp [intOf]; omega
        · have g1 : (x.k == 1) = false := by rw [beq_eq_false_iff_ne]; exact h1
          have HX := Lib.hid (HO.out (fun h => h1 h.2))
          clear h1 h0
          obtain ⟨v', w3, hrun, hgot⟩ := HG.out.one x (by rw [HL.out]; omega)
          rw [← HX.out] at hgot
          obtain ⟨a', c', rfl⟩ := hgot.slice
          have HL' : Hid ((mrk at_ l (k + 1)).length = n + 1) := by
            show _ = _
            rw [HX.out, List.length_append, HL.out]
            rfl
          rw [HL'.out] at hrun hgot
          have R := Lib.hid hrun
          have HG' := Lib.hid hgot
          clear hrun hgot
          go_wp2_with (at_builtin; refine Ap.wpList_append_run (by rfl) (.tmp 31) (.tmp 36) _ _ rfl _ _ rfl rfl _ w3 R.out ?_)
          go_roundw
          case rel => exact ⟨k + 1, a', n + 1, c', by omega, by omega, by go_num, rfl, HL', HG'⟩
          case measure => simp [intOf]; omega
      · have g0 : ((k : Int) == at_) = false := by rw [beq_eq_false_iff_ne]; exact h0
        have HX := Lib.hid (HO.out (fun h => h0 h.1))
        clear h0
        obtain ⟨v', w3, hrun, hgot⟩ := HG.out.one x (by rw [HL.out]; omega)
        rw [← HX.out] at hgot
        obtain ⟨a', c', rfl⟩ := hgot.slice
        have HL' : Hid ((mrk at_ l (k + 1)).length = n + 1) := by
          show _ = _
          rw [HX.out, List.length_append, HL.out]
          rfl
        rw [HL'.out] at hrun hgot
        have R := Lib.hid hrun
        have HG' := Lib.hid hgot
        clear hrun hgot
        go_wp2_with (at_builtin; refine Ap.wpList_append_run (by rfl) (.tmp 31) (.tmp 36) _ _ rfl _ _ rfl rfl _ w3 R.out ?_)
        go_roundw
        case rel => exact ⟨k + 1, a', n + 1, c', by omega, by omega, by go_num, rfl, HL', HG'⟩
        case measure => simp [intOf]; omega
    · have HZ : Hid (mark at_ l = mrk at_ l k) := by
        show _ = _
        unfold mark
        rw [show k = l.length by omega]
      go_wp2_with fail
      go_ret
      exact ⟨_, rfl, by rw [HZ.out]; exact HG.out.nds, HG.out.2⟩
theorem markR_any (v : Value) (l : List Nd) (at_ : Int) (w : World) (hv : Nds w v l) (hl : l.length ≤ 300000) :
    Calls Try.prog 16 #[v, .int .i64 at_] w fun e w' => ∃ y, e = .returned y ∧ Nds w' y (mark at_ l) ∧ Below w.heap.size w w' := by
  rcases hv.form with ⟨rfl, a, cap, rfl⟩ | ⟨b, off, cap, rfl, _, hat⟩
  · exact markR_empty a cap at_ w
  · exact markR_cells b off cap l at_ w hl hat

/-- Places in a row of its own. -/
theorem infoIn : (Try.prog.info? 3).map (fun i => (i.zero, i.size, i.bytes)) = some (some (.int .i64 0), 1, 8) := by kernel_rfl
def GotI (w wr : World) (v : Value) (P : List Nat) : Prop := wr.ownsRow w.heap.size 3 1 v P.length (P.map fun (i : Nat) => .int .i64 (i : Int)) ∧ Below w.heap.size w wr
/-- A slice of places that reads as these. -/
def Plc (w : World) (v : Value) (P : List Nat) : Prop := Ap.Rd w 1 v P.length (P.map fun (i : Nat) => .int .i64 (i : Int))
theorem Plc.below {w w' : World} {v : Value} {P : List Nat} (h : Plc w v P) (hb : Below w.heap.size w w') : Plc w' v P := Ap.Rd.below h hb
def AtP (w : World) (b off : Nat) (P : List Nat) : Prop := ∀ k, (h : k < P.length) → w.cell? ⟨b, off + k, none⟩ = some (.int .i64 (P[k] : Int))
theorem AtP.below {w w' : World} {b off : Nat} {l : List Nat} (h : AtP w b off l) (hb : Below w.heap.size w w') : AtP w' b off l := fun k hk => by
  rw [hb.cell (Ap.cell_lt (h k hk))]
  exact h k hk
theorem Plc.form {w : World} {v : Value} {P : List Nat} (h : Plc w v P) : (P = [] ∧ ∃ a cap, v = .slice a 0 cap) ∨ ∃ b off cap, v = .slice (some ⟨b, off, none⟩) P.length cap ∧ AtP w b off P := by
  obtain ⟨_, a, cap, rfl, hle, _, hcell⟩ := h
  by_cases h0 : 0 < P.length
  · obtain ⟨b, off, rfl, hj⟩ := hcell h0
    exact Or.inr ⟨b, off, cap, rfl, fun k hk => hj _ _ (by rw [List.getElem?_map, List.getElem?_eq_getElem hk]; rfl)⟩
  · have : P = [] := List.eq_nil_of_length_eq_zero (by omega)
    subst this
    exact Or.inl ⟨rfl, a, cap, rfl⟩
theorem GotI.plc {w wr : World} {v : Value} {P : List Nat} (h : GotI w wr v P) : Plc wr v P := Ap.Rd.owned h.1
theorem GotI.start (w : World) : GotI w w (.slice none 0 0) [] := ⟨⟨rfl, .inl ⟨rfl, rfl⟩⟩, Below.refl _ _⟩
theorem GotI.below {w wr w' : World} {v : Value} {P : List Nat} (h : GotI w wr v P) (hb : Below wr.heap.size wr w') : GotI w w' v P := ⟨Ap.own_below h.1 hb, h.2.trans (hb.mono h.2.size)⟩
theorem GotI.slice {w wr : World} {v : Value} {P : List Nat} (h : GotI w wr v P) : ∃ a c, v = .slice a P.length c := by
  obtain ⟨_, a, c, e, -⟩ := h.plc
  exact ⟨a, c, e⟩
theorem GotI.one {w wr : World} {v : Value} {P : List Nat} (k : Nat) (h : GotI w wr v P) (hl : P.length ≤ 2000000) :
    ∃ v' w', (Builtin.append_ #[27, 27] 27 #[v, .slice (some ⟨wr.heap.size, 0, none⟩) 1 1]).run Try.prog (wr.alloc (.cells #[.int .i64 (k : Int)] 3)) = .ok v' w' ∧ GotI w w' v' (P ++ [k]) := by
  obtain ⟨i0, hi, hz, hs1, hb8⟩ := info_parts infoIn
  obtain ⟨v', w', h1, h2, _, h4, _⟩ := Ap.run_append_one (P := Try.prog) (ty := 27) Try.underlying27 hi hz hs1 hb8 (by rfl) (by omega) h.1 h.2.size #[.int .i64 (k : Int)] rfl
    (by intro u hu; simp at hu; subst hu; rfl) (by unfold maxLen; omega) (by omega)
  exact ⟨v', w', h1, by simpa using h2, h.2.trans h4⟩

set_option maxHeartbeats 1000000 in
theorem placesR_empty (a : Option Addr) (cap : Nat) (s : ByteArray) (w : World) :
    Calls Try.prog 14 #[.slice a 0 cap, .string s] w fun e w' => ∃ y, e = .returned y ∧ Plc w' y [] ∧ Below w.heap.size w w' := by
  go_enter Try.func14, Try.ntmps14
  go_wp2_with fail
  refine Go.wp_loop_rounds 1 ?_
  rw [rounds_succ]
  go_wp2_with fail
  go_ret
  exact ⟨_, rfl, (GotI.start w).plc, Below.refl _ _⟩
set_option maxHeartbeats 8000000 in
theorem placesR_cells (b off cap : Nat) (l : List Nd) (s : ByteArray) (w : World) (hl : l.length ≤ 300000) (hat : At w b off l) :
    Calls Try.prog 14 #[.slice (some ⟨b, off, none⟩) l.length cap, .string s] w fun e w' => ∃ y, e = .returned y ∧ Plc w' y (plc (isN s) l) ∧ Below w.heap.size w w' := by
  have HA := Lib.hid hat
  clear hat
  go_enter Try.func14, Try.ntmps14
  go_wp2_with fail
  go_loopw [5, 6] (fun o i wr => ∃ (k : Nat) (a : Option Addr) (n c : Nat), k ≤ l.length ∧ n ≤ k ∧ i = .int .i64 k ∧ o = .slice a n c ∧ Hid ((plk (isN s) l k).length = n) ∧ Hid (GotI w wr (.slice a n c) (plk (isN s) l k))) (fun _ i _ => l.length - (intOf i).toNat)
  case atStart => exact ⟨0, none, 0, 0, Nat.zero_le _, Nat.le_refl _, rfl, rfl, Lib.hid rfl, Lib.hid (GotI.start w)⟩
  case round =>
    obtain ⟨k, a, n, c, hk, hn, rfl, rfl, HL, HG⟩ := hrel
    by_cases hlt : k < l.length
    · obtain ⟨e1, e2, e3⟩ := HA.out k hlt
      have c1 : wr.cell? ⟨b, off + k * 3, none⟩ = some (.int .i64 l[k].k) := by rw [HG.out.2.cell (Ap.cell_lt e1)]; exact e1
      have c2 : wr.cell? ⟨b, off + k * 3 + 1, none⟩ = some (.string l[k].n) := by rw [HG.out.2.cell (Ap.cell_lt e2)]; exact e2
      have c3 : wr.cell? ⟨b, off + k * 3 + 2, none⟩ = some (.int .i64 l[k].s) := by rw [HG.out.2.cell (Ap.cell_lt e3)]; exact e3
      have HY := Lib.hid (fun h => plk_yes (f := isN s) hlt h)
      have HO := Lib.hid (fun h => plk_no (f := isN s) hlt h)
      obtain ⟨q, hq⟩ : ∃ q, plk (isN s) l k = q := ⟨_, rfl⟩
      obtain ⟨x, hx⟩ : ∃ x, l[k] = x := ⟨_, rfl⟩
      rw [hx] at c1 c2 c3 HY HO
      rw [hq] at HL HG HY HO
      clear hx e1 e2 e3 hq
      by_cases h1 : x.k = 1
      · obtain ⟨xk, xn, xs⟩ := x
        obtain rfl : xk = 1 := h1
        by_cases h2 : xn = s
        · have HX := Lib.hid (HY.out (hit_yes rfl (by unfold isN; exact decide_eq_true h2)))
          have hq := bytes_eq h2
          clear h2
          obtain ⟨v', w3, hrun, hgot⟩ := HG.out.one k (by rw [HL.out]; omega)
          rw [← HX.out] at hgot
          obtain ⟨a', c', rfl⟩ := hgot.slice
          have HL' : Hid ((plk (isN s) l (k + 1)).length = n + 1) := by
            show _ = _
            rw [HX.out, List.length_append, HL.out]
            rfl
          rw [HL'.out] at hrun hgot
          have R := Lib.hid hrun
          have HG' := Lib.hid hgot
          clear hrun hgot
          go_wp2_with (at_builtin; refine Ap.wpList_append_run (by rfl) (.tmp 28) (.tmp 30) _ _ rfl _ _ rfl rfl _ w3 R.out ?_)
          go_roundw
          case rel => exact ⟨k + 1, a', n + 1, c', by omega, by omega, by go_num, rfl, HL', HG'⟩
          case measure => simp [intOf]; omega
        · have HX := Lib.hid (HO.out (hit_not (by unfold isN; exact decide_eq_false h2)))
          have hq := bytes_ne h2
          clear h2
          rw [← HX.out] at HL HG
          go_wp2_with fail
          go_roundw
          case rel => exact ⟨k + 1, a, n, c, by omega, by omega, by go_num, rfl, HL, HG⟩
          case measure => simp [intOf]; omega
      · have g1 : (x.k == 1) = false := by rw [beq_eq_false_iff_ne]; exact h1
        have HX := Lib.hid (HO.out (hit_no h1))
        clear h1
        rw [← HX.out] at HL HG
        go_wp2_with fail
        go_roundw
        case rel => exact ⟨k + 1, a, n, c, by omega, by omega, by go_num, rfl, HL, HG⟩
        case measure => simp [intOf]; omega
    · have HZ : Hid (plc (isN s) l = plk (isN s) l k) := by
        show _ = _
        unfold plc
        rw [show k = l.length by omega]
      go_wp2_with fail
      go_ret
      exact ⟨_, rfl, by rw [HZ.out]; exact HG.out.plc, HG.out.2⟩
theorem placesR_any (v : Value) (l : List Nd) (s : ByteArray) (w : World) (hv : Nds w v l) (hl : l.length ≤ 300000) :
    Calls Try.prog 14 #[v, .string s] w fun e w' => ∃ y, e = .returned y ∧ Plc w' y (plc (isN s) l) ∧ Below w.heap.size w w' := by
  rcases hv.form with ⟨rfl, a, cap, rfl⟩ | ⟨b, off, cap, rfl, _, hat⟩
  · exact placesR_empty a cap s w
  · exact placesR_cells b off cap l s w hl hat
end Go.Proofs.Ytpkbpooiaddcaaa.Rf
