/- The program's Acts: a map of the names that were told. -/
import Derived.Test.YtcgbbhnhpkkomaaSox
import Derived.Maps.Views
import Derived.Maps.OwnOps
import Derived.Deep.DeepCutAuto
namespace Go.Proofs.Ytcgbbhnhpkkomaa.Sx
open Go Go.RowKit Go.Maps Go.WideMaps Go.Proofs.Ytcgbbhnhpkkomaa.Rw Go.Proofs.Ytcgbbhnhpkkomaa.So
set_option maxRecDepth 20000

/-- A map's datum that says of each text whether it is one of these. -/
def TD (os : List ByteArray) (D : DataW Unit) : Prop := IsMap D ∧ ∀ s : ByteArray, D.atKey (.string s.data.toList) (.lit (.bool false)) = .lit (.bool (os.any fun o => decide (o = s)))
theorem TD.none : TD [] (.map []) := ⟨isMap_empty, fun _ => rfl⟩
theorem TD.put {os : List ByteArray} {D : DataW Unit} (h : TD os D) (x : ByteArray) : TD (os ++ [x]) (D.put (.string x.data.toList) (.lit (.bool true))) := by
  refine ⟨h.1.put _ _, fun s => ?_⟩
  by_cases hs : s = x
  · subst hs
    rw [atKey_put_same h.1 (by simp [WideAt.IsKeyLit])]
    simp
  · have hne : Lit.string s.data.toList ≠ Lit.string x.data.toList := by
      intro e
      injection e with e
      apply hs
      cases s; cases x
      simp at e
      rw [e]
    rw [atKey_put_other hne, h.2 s]
    have hs' : ¬ x = s := fun e => hs e.symm
    simp [hs']
theorem lawS : Keyed Try.prog 9 := string_keyed Try.underlying9
theorem bool_inv {v : Value} {z : DataW Unit × List MemPlace} {q : Bool} (h : plainElem Try.prog 4 v = some z) (hz : z.1 = .lit (.bool q)) : v = .bool q := by
  unfold plainElem at h
  rw [Try.underlying4] at h
  cases v <;> simp at h
  subst h
  simp at hz
  rw [hz]
theorem zeroB (w : World) : (zeroValue 4).run Try.prog w = .ok (.bool false) w := by kernel_rfl
theorem look {w : World} {b n : Nat} {os : List ByteArray} {D : DataW Unit} (h : w.ownsMap Try.prog 9 (plainElem Try.prog 4) b n D) (hd : TD os D) (s : ByteArray) (hs : s.size ≤ maxLen) :
    (Instr.lookup 42 (.map (some b)) (.string s) false).run Try.prog w = .ok (.bool (os.any fun o => decide (o = s))) w := by
  obtain ⟨v, ps, hrun, hv⟩ := h.lookup lawS Try.underlying42 (zeroB w) (plainElem_bool Try.underlying4 false) (keyOf_string_mk Try.underlying9 hs)
  rw [hd.2 s] at hv
  rw [hrun, bool_inv hv rfl]
set_option maxHeartbeats 1000000 in
theorem actsP_empty (a : Option Addr) (cap : Nat) (w : World) :
    Calls Try.prog 19 #[.slice a 0 cap] w fun e w' => ∃ y, e = .returned y ∧ Strs w' y [] ∧ Below w.heap.size w w' := by
  have hmm := @run_makeMap Try.prog
  go_enter Try.func19, Try.ntmps19
  go_wp2_with fail
  refine Go.wp_loop_rounds 1 ?_
  rw [rounds_succ]
  go_wp2_with fail
  go_ret
  exact ⟨_, rfl, ⟨rfl, none, 0, rfl, Nat.le_refl _, fun _ => ⟨rfl, rfl⟩, fun h => absurd h (Nat.lt_irrefl 0)⟩, (Below.refl _ _).alloc (Nat.le_refl _) _⟩
/-- What the loop has made: the names, and the map that tells them. -/
def Gm (w wr : World) (v : Value) (os : List ByteArray) : Prop :=
  (∃ D, wr.ownsMap Try.prog 9 (plainElem Try.prog 4) w.heap.size os.length D ∧ TD os D) ∧ wr.ownsRow (w.heap.size + 1) 9 1 v os.length (os.map .string) ∧ Below w.heap.size w wr ∧ w.heap.size + 1 ≤ wr.heap.size
theorem own_sliceS {w : World} {base size n : Nat} {e : TypeId} {v : Value} {xs : List Value} (h : w.ownsRow base e size v n xs) : ∃ a c, v = .slice a n c := by
  obtain ⟨_, ⟨rfl, rfl⟩ | ⟨g, cap, cur, rfl, _⟩⟩ := h
  · exact ⟨none, 0, rfl⟩
  · exact ⟨_, _, rfl⟩
theorem Gm.start (w : World) : Gm w (w.alloc (.map #[] 0)) (.slice none 0 0) [] :=
  ⟨⟨_, World.ownsMap_made _ _ _ _, TD.none⟩, ⟨rfl, .inl ⟨rfl, rfl⟩⟩, (Below.refl _ _).alloc (Nat.le_refl _) _, by simp⟩
theorem Gm.alloc {w wr : World} {v : Value} {os : List ByteArray} (h : Gm w wr v os) (o : Obj) : Gm w (wr.alloc o) v os := by
  obtain ⟨⟨D, h1, h2⟩, h3, h4, h5⟩ := h
  exact ⟨⟨D, h1.alloc _, h2⟩, h3.alloc _, h4.alloc h4.size _, by simp; omega⟩
theorem own_turn {w w' : World} {B size n : Nat} {e : TypeId} {v : Value} {xs : List Value} (h : w.ownsRow (B + 1) e size v n xs) (hg : w.grownBy w' (some B)) : w'.ownsRow (B + 1) e size v n xs := by
  obtain ⟨hl, h | ⟨g, cap, cur, rfl, hb, hh, h1, h2, h3, h4⟩⟩ := h
  · exact ⟨hl, .inl h⟩
  · refine ⟨hl, .inr ⟨g, cap, cur, rfl, hb, ?_, h1, h2, h3, h4⟩⟩
    rw [hg.block g (Nat.lt_of_not_le fun hle => by rw [Array.getElem?_eq_none hle] at hh; cases hh) (fun e => by injection e with e; omega)]
    exact hh
theorem Gm.add {w wr w1 : World} {v : Value} {os : List ByteArray} {D : DataW Unit} (h : Gm w wr v os) (hown : w1.ownsMap Try.prog 9 (plainElem Try.prog 4) w.heap.size (os.length + 1) D) (hg : wr.grownBy w1 (some w.heap.size)) (s : ByteArray) (hd : TD (os ++ [s]) D) (hl : os.length ≤ 1000000) :
    ∃ v' w', (Builtin.append_ #[28, 28] 28 #[v, .slice (some ⟨w1.heap.size, 0, none⟩) 1 1]).run Try.prog (w1.alloc (.cells #[.string s] 9)) = .ok v' w' ∧ Gm w w' v' (os ++ [s]) := by
  obtain ⟨_, h3, h4, h5⟩ := h
  have hs := hg.size
  have B1 : Below w.heap.size w w1 := h4.grown hg h4.size (fun k hk => by injection hk with hk; omega)
  obtain ⟨i0, hi, hz, hs1, hb8⟩ := info_parts infoS
  obtain ⟨v', w', r1, r2, _, r4, _⟩ := Ap.run_append_one (P := Try.prog) (ty := 28) Try.underlying28 hi hz hs1 hb8 (by rfl) (by omega) (own_turn h3 hg) (by omega) #[.string s] rfl
    (by intro u hu; simp at hu; subst hu; rfl) (by unfold maxLen; omega) (by omega)
  obtain ⟨es, clock, m1, m2, m3, m4⟩ := hown
  refine ⟨v', w', r1, ⟨D, ⟨es, clock, by rw [r4.block _ (Nat.lt_succ_self _)]; exact m1, m2, ?_, m4⟩, hd⟩, ?_, B1.trans (r4.mono (Nat.le_succ _)), by have := r4.size; omega⟩
  · simpa using m3
  · simpa using r2
set_option maxHeartbeats 8000000 in
theorem actsP_cells (b off cap : Nat) (l : List Nd) (w : World) (hl : l.length ≤ 1000) (hat : At w b off l) (hm : Nms l) :
    Calls Try.prog 19 #[.slice (some ⟨b, off, none⟩) l.length cap] w fun e w' => ∃ y, e = .returned y ∧ Strs w' y (acts l) ∧ Below w.heap.size w w' := by
  have hmm := @run_makeMap Try.prog
  have HA := Lib.hid hat
  have HM := Lib.hid hm
  clear hat hm
  go_enter Try.func19, Try.ntmps19
  go_wp2_with fail
  go_loopw [3, 10] (fun o i wr => ∃ (k : Nat) (a : Option Addr) (n c : Nat) (os : List ByteArray), k ≤ l.length ∧ n ≤ k ∧ i = .int .i64 k ∧ o = .slice a n c ∧ Hid (os.length = n) ∧ Hid (acts (l.take k) = os) ∧ Hid (Gm w wr (.slice a n c) os)) (fun _ i _ => l.length - (intOf i).toNat)
  case atStart => exact ⟨0, none, 0, 0, [], Nat.zero_le _, Nat.le_refl _, rfl, rfl, Lib.hid rfl, Lib.hid rfl, Lib.hid (Gm.start w)⟩
  case round =>
    obtain ⟨k, a, n, c, os, hk, hn, rfl, rfl, HL, HO, HG⟩ := hrel
    by_cases hlt : k < l.length
    · obtain ⟨e1, e2, e3⟩ := HA.out k hlt
      have HT := Lib.hid (acts_take l k hlt)
      have c1 : wr.cell? ⟨b, off + k * 3, none⟩ = some (.int .i64 l[k].k) := by rw [HG.out.2.2.1.cell (Ap.cell_lt e1)]; exact e1
      have c2 : wr.cell? ⟨b, off + k * 3 + 1, none⟩ = some (.string l[k].n) := by rw [HG.out.2.2.1.cell (Ap.cell_lt e2)]; exact e2
      have c3 : wr.cell? ⟨b, off + k * 3 + 2, none⟩ = some (.int .i64 l[k].s) := by rw [HG.out.2.2.1.cell (Ap.cell_lt e3)]; exact e3
      have hxm : l[k].n.size ≤ maxLen := by
        have := HM.out _ (List.getElem_mem hlt)
        unfold maxLen
        omega
      obtain ⟨x, hx⟩ : ∃ x, l[k] = x := ⟨_, rfl⟩
      rw [hx] at c1 c2 c3 HT hxm
      have HXM := Lib.hid hxm
      clear hx e1 e2 e3 hxm
      have HG1 := Lib.hid (HG.out.alloc (nb x))
      by_cases h1 : x.k = 1
      · obtain ⟨xk, xn, xs⟩ := x
        obtain rfl : xk = 1 := h1
        replace HXM : Hid (xn.size ≤ maxLen) := HXM
        obtain ⟨q, hq⟩ : ∃ q, (os.any fun o => decide (o = xn)) = q := ⟨_, rfl⟩
        have hlook : (Instr.lookup 42 (.map (some w.heap.size)) (.string xn) false).run Try.prog (wr.alloc (.cells #[.int .i64 1, .string xn, .int .i64 xs] 34)) = .ok (.bool q) (wr.alloc (.cells #[.int .i64 1, .string xn, .int .i64 xs] 34)) := by
          obtain ⟨⟨D, m1, m2⟩, _⟩ := HG1.out
          rw [look m1 m2 xn HXM.out, hq]
        have HQ : Hid (met ⟨1, xn, xs⟩ os = q) := by
          show _ = _
          unfold met
          rw [hq]
          rfl
        clear hq
        cases q with
        | true =>
          have HX : Hid (acts (l.take (k + 1)) = os) := by
            show _ = _
            rw [HT.out, HO.out, add_met HQ.out]
          go_wp2_with fail
          go_roundw
          case rel => exact ⟨k + 1, a, n, c, os, by omega, by omega, by go_num, rfl, HL, HX, HG1⟩
          case measure => simp [intOf]; omega
        | false =>
          have HX : Hid (acts (l.take (k + 1)) = os ++ [xn]) := by
            show _ = _
            rw [HT.out, HO.out, add_new HQ.out]
          obtain ⟨⟨D, m1, m2⟩, m3⟩ := HG1.out
          have HD := Lib.hid m2
          have HMM := Lib.hid m1
          clear m1 m2 m3
          go_upto_region 8 with (at_mapUpdate; refine wpList_mapUpdate_own _ rfl _ _ _ 42 rfl 9 4 lawS Try.underlying42 (plainElem (H := Unit) Try.prog 4) w.heap.size os.length D rfl HMM.out (by rw [HL.out]; unfold maxLen; omega) _ _ _ rfl rfl (keyOf_string_mk Try.underlying9 HXM.out) _ [] (plainElem_bool Try.underlying4 true) ?_; intro w1 hown1 hgrow1)
          have c4 : w1.cell? ⟨wr.heap.size, 1, none⟩ = some (.string xn) := hgrow1.cell (by simp) (by intro e; injection e with e; have h5 : w.heap.size + 1 ≤ wr.heap.size := HG.out.2.2.2; exact absurd (show w.heap.size = wr.heap.size from e.symm) (by omega))
          obtain ⟨v', w', hrun, hgot⟩ := HG1.out.add hown1 hgrow1 xn (HD.out.put xn) (by rw [HL.out]; omega)
          obtain ⟨a', c', rfl⟩ : ∃ a' c', v' = .slice a' (os.length + 1) c' := by
            have := own_sliceS hgot.2.1
            simpa using this
          have HL' : Hid ((os ++ [xn]).length = n + 1) := by
            show _ = _
            rw [List.length_append, HL.out]
            rfl
          rw [HL.out] at hrun hgot
          have R := Lib.hid hrun
          have HG' := Lib.hid hgot
          clear hrun hgot hown1 hgrow1
          go_wp2_with (at_builtin; refine Ap.wpList_append_run (by rfl) (.tmp 27) (.tmp 30) _ _ rfl _ _ rfl rfl _ w' R.out ?_)
          go_roundw
          case rel => exact ⟨k + 1, a', n + 1, c', os ++ [xn], by omega, by omega, by go_num, rfl, HL', HX, HG'⟩
          case measure => simp [intOf]; omega
      · have g1 : (x.k == 1) = false := by rw [beq_eq_false_iff_ne]; exact h1
        have HX : Hid (acts (l.take (k + 1)) = os) := by
          show _ = _
          rw [HT.out, HO.out, add_met (by unfold met; rw [show (x.k != 1) = true by rw [bne_iff_ne]; exact h1]; rfl)]
        clear h1
        go_wp2_with fail
        go_roundw
        case rel => exact ⟨k + 1, a, n, c, os, by omega, by omega, by go_num, rfl, HL, HX, HG1⟩
        case measure => simp [intOf]; omega
    · have HZ : Hid (acts l = os) := by
        have := HO.out
        rwa [List.take_of_length_le (by omega)] at this
      go_wp2_with fail
      go_ret
      exact ⟨_, rfl, by rw [HZ.out]; exact Ap.Rd.owned HG.out.2.1, HG.out.2.2.1⟩
/-- The program's Acts. -/
theorem actsP_any (v : Value) (l : List Nd) (w : World) (hv : Nds w v l) (hl : l.length ≤ 1000) (hm : Nms l) :
    Calls Try.prog 19 #[v] w fun e w' => ∃ y, e = .returned y ∧ Strs w' y (acts l) ∧ Below w.heap.size w w' := by
  rcases hv.form with ⟨rfl, a, cap, rfl⟩ | ⟨b, off, cap, rfl, _, hat⟩
  · exact actsP_empty a cap w
  · exact actsP_cells b off cap l w hl hat hm
end Go.Proofs.Ytcgbbhnhpkkomaa.Sx
