/- The program's Beside and Free: the walks. What the laws of doom ask of the program; few; DoomActive: the walks. What the laws of costs ask of the program; few; the statements' own first look. Plain: what was played to its end, and its trace. The program's Put at any place; what stands in a tree's place, as function values; after. Moves that are compared; the document's Is: the walk. The program's Beside and Free, of any row; what the laws ask of package doom. The program's costs: what a node costs, how costs are put together, how many choices a row has. The statements' own first look at package cost. -/
import Derived.Test.YtpingbiibbmcaaaGreatQ26
import Derived.Test.YtpingbiibbmcaaaGreatQ05
import Derived.Test.YtpingbiibbmcaaaGreatQ23
import Derived.Test.YtpingbiibbmcaaaGreatQ22
import Derived.Test.YtpingbiibbmcaaaGreatQ02
import Derived.Test.YtpingbiibbmcaaaGreatQ11
import Derived.Test.YtpingbiibbmcaaaGreatQ06
import Derived.Shelf.Abstract
import Derived.Laws.StructEq
import Derived.Test.YtpingbiibbmcaaaGreatQ25

namespace Go.Proofs.YtpingbiibbmcaaaGreat.Do
open Go Go.RowKit Go.Proofs.YtpingbiibbmcaaaGreat.Rw Go.Proofs.YtpingbiibbmcaaaGreat.So Go.Proofs.YtpingbiibbmcaaaGreat.Se
set_option maxRecDepth 20000

/-- At each place within a tree stands a tree. -/
theorem sub_at : ∀ (t : Tm) (l : List Nd) (i : Nat), AtT l i t → ∀ u, i ≤ u → u < i + sz t → ∃ s, AtT l u s := by
  have leaf : ∀ {t : Tm}, sz t = 1 → ∀ (l : List Nd) (i : Nat), AtT l i t → ∀ u, i ≤ u → u < i + sz t → ∃ s, AtT l u s := by
    intro t hs l i h u h1 h2
    obtain rfl : u = i := by omega
    exact ⟨t, h⟩
  have one : ∀ {t a : Tm} {x : Nd}, (∀ (l : List Nd) (i : Nat), AtT l i a → ∀ u, i ≤ u → u < i + sz a → ∃ s, AtT l u s) → flat t = x :: flat a → sz t = 1 + sz a → ∀ (l : List Nd) (i : Nat), AtT l i t → ∀ u, i ≤ u → u < i + sz t → ∃ s, AtT l u s := by
    intro t a x ia e hs l i h u h1 h2
    obtain ⟨_, ha⟩ := at_one h e
    by_cases hu : u = i
    · subst hu
      exact ⟨t, h⟩
    · exact ia l (i + 1) ha u (by omega) (by omega)
  have two : ∀ {t a b : Tm} {x : Nd}, (∀ (l : List Nd) (i : Nat), AtT l i a → ∀ u, i ≤ u → u < i + sz a → ∃ s, AtT l u s) → (∀ (l : List Nd) (i : Nat), AtT l i b → ∀ u, i ≤ u → u < i + sz b → ∃ s, AtT l u s) → flat t = x :: (flat a ++ flat b) → sz t = 1 + sz a + sz b →
      ∀ (l : List Nd) (i : Nat), AtT l i t → ∀ u, i ≤ u → u < i + sz t → ∃ s, AtT l u s := by
    intro t a b x ia ib e hs l i h u h1 h2
    obtain ⟨_, ha, hb⟩ := at_two h e
    by_cases hu : u = i
    · subst hu
      exact ⟨t, h⟩
    · by_cases hua : u < i + 1 + sz a
      · exact ia l (i + 1) ha u (by omega) (by omega)
      · exact ib l (i + 1 + sz a) hb u (by omega) (by omega)
  intro t
  induction t with
  | fin s c ic => exact one (x := nEnd s) ic rfl (by simp only [sz]; omega)
  | block a ia => exact one (x := nOf 9) ia rfl (by simp only [sz]; omega)
  | seq a b ia ib => exact two (x := nOf 5) ia ib rfl (by simp only [sz]; omega)
  | hand a b ia ib => exact two (x := nOf 8) ia ib rfl (by simp only [sz]; omega)
  | going a b ia ib => exact two (x := nOf 12) ia ib rfl (by simp only [sz]; omega)
  | stack a b ia ib => exact two (x := nOf 13) ia ib rfl (by simp only [sz]; omega)
  | alt a b ia ib => exact two (x := nOf 6) ia ib rfl (by simp only [sz]; omega)
  | pair a b ia ib => exact two (x := nOf 10) ia ib rfl (by simp only [sz]; omega)
  | par a b ia ib => exact two (x := nOf 7) ia ib rfl (by simp only [sz]; omega)
  | _ => exact leaf rfl
theorem par_kids {l : List Nd} {u : Nat} {s : Tm} (h : AtT l u s) (h7 : kiA l u = 7) : ∃ A B, kids (l.drop u) = [A, B] ∧ u + 1 < l.length := by
  cases s with
  | par a b =>
    obtain ⟨q, e⟩ := h.drop
    obtain ⟨_, ha, _⟩ := at_two (x := nOf 7) h rfl
    have h1 := ha.lt
    have h2 := sz_pos a
    refine ⟨flat a, flat b, ?_, by omega⟩
    rw [e, show flat (.par a b) ++ q = nOf 7 :: (flat a ++ (flat b ++ q)) by simp [flat]]
    exact kidsA_two a b q rfl
  | act s => rw [kiA_at (at_none (x := nAct s) h rfl)] at h7; simp at h7
  | skip => rw [kiA_at (at_none (x := nOf 2) h rfl)] at h7; simp [nOf] at h7
  | throw => rw [kiA_at (at_none (x := nOf 3) h rfl)] at h7; simp [nOf] at h7
  | yield => rw [kiA_at (at_none (x := nOf 4) h rfl)] at h7; simp [nOf] at h7
  | over s => rw [kiA_at (at_none (x := ⟨11, ⟨#[]⟩, s⟩) h rfl)] at h7; simp at h7
  | fin s c => rw [kiA_at (at_one (x := nEnd s) h rfl).1] at h7; simp at h7
  | block a => rw [kiA_at (at_one (x := nOf 9) h rfl).1] at h7; simp [nOf] at h7
  | seq a b => rw [kiA_at (at_two (x := nOf 5) h rfl).1] at h7; simp [nOf] at h7
  | hand a b => rw [kiA_at (at_two (x := nOf 8) h rfl).1] at h7; simp [nOf] at h7
  | going a b => rw [kiA_at (at_two (x := nOf 12) h rfl).1] at h7; simp [nOf] at h7
  | stack a b => rw [kiA_at (at_two (x := nOf 13) h rfl).1] at h7; simp [nOf] at h7
  | alt a b => rw [kiA_at (at_two (x := nOf 6) h rfl).1] at h7; simp [nOf] at h7
  | pair a b => rw [kiA_at (at_two (x := nOf 10) h rfl).1] at h7; simp [nOf] at h7
theorem wth_mem (l : List Nd) : ∀ (R : List Nat) (u : Nat), u ∈ (wth l R).1 → u ∈ R
  | [], u, h => by simp [wth] at h
  | x :: r, u, h => by
    rw [wth] at h
    split at h
    · cases h
    · rcases List.mem_cons.1 h with h | h
      · exact h ▸ List.mem_cons_self ..
      · exact List.mem_cons_of_mem _ (wth_mem l r u h)
theorem wth_few (l : List Nd) : ∀ R : List Nat, (wth l R).1.length ≤ R.length
  | [] => Nat.le_refl _
  | x :: r => by
    rw [wth]
    split
    · exact Nat.zero_le _
    · have := wth_few l r
      simp
      exact this
/-- A row of rows of a call's own, each in a row of the call's own, none in the row's own block. -/
def GotK (base : Nat) (w : World) (v : Value) (ls : List (List Nd)) : Prop := ∃ cs, w.ownsRow base 22 1 v ls.length cs ∧ Rx.OwnK base v.ownBlock w cs ls ∧ base ≤ w.heap.size
theorem GotK.start {base : Nat} {w : World} (hb : base ≤ w.heap.size) : GotK base w (.slice none 0 0) [] := ⟨[], ⟨rfl, .inl ⟨rfl, rfl⟩⟩, trivial, hb⟩
theorem GotK.below {base : Nat} {w w' : World} {v : Value} {ls : List (List Nd)} (h : GotK base w v ls) (hb : Below w.heap.size w w') : GotK base w' v ls := by
  obtain ⟨cs, h1, h2, h3⟩ := h
  exact ⟨cs, Ap.own_below h1 hb, h2.below hb, Nat.le_trans h3 hb.size⟩
theorem GotK.slice {base : Nat} {w : World} {v : Value} {ls : List (List Nd)} (h : GotK base w v ls) : ∃ a c, v = .slice a ls.length c := by
  obtain ⟨cs, h1, _⟩ := h
  exact Rx.own_sliceK h1
theorem GotK.rws {base : Nat} {w : World} {v : Value} {ls : List (List Nd)} (h : GotK base w v ls) : Rws w v ls := by
  obtain ⟨cs, h1, h2, _⟩ := h
  exact ⟨cs, Ap.Rd.owned h1, OwnC.rwc (Rx.OwnK.ownC h2)⟩
theorem GotK.next {base : Nat} {wr w1 : World} {v a : Value} {ls : List (List Nd)} {r : List Nd} (h : GotK base wr v ls) (ha : w1.ownsRow wr.heap.size 39 3 a r.length (cls r)) (hb1 : Below wr.heap.size wr w1) (hl : ls.length ≤ 100000) :
    ∃ v' w', (Builtin.append_ #[56, 56] 56 #[v, .slice (some ⟨w1.heap.size, 0, none⟩) 1 1]).run Tryz.prog (w1.alloc (.cells #[a] 22)) = .ok v' w' ∧ GotK base w' v' (ls ++ [r]) ∧ Below base w1 w' := by
  obtain ⟨cs, hown, hrw, hb⟩ := h.below hb1
  obtain ⟨cs0, hown0, _, hb0⟩ := h
  obtain ⟨i0, hi, hz, hs1, hb8⟩ := info_parts infoRw
  obtain ⟨a1, k1, hsl⟩ := Rx.own_sliceK ha
  obtain ⟨v', w', h1, h2, h3, h4, h5⟩ := Ap.run_append_one (P := Tryz.prog) (ty := 56) Tryz.underlying56 hi hz hs1 hb8 (by rfl) (by omega) hown hb #[a] rfl
    (by intro u hu; simp at hu; subst hu; rw [hsl]; rfl) (by unfold maxLen; omega) (by omega)
  have hne : ∀ g, a.ownBlock = some g → some g ≠ v.ownBlock := by
    intro g hg e
    have h1 := Ap.own_lt hown0 g e.symm
    obtain ⟨_, ⟨rfl, _⟩ | ⟨g', _, _, rfl, hg', _⟩⟩ := ha
    · cases hg
    · have : g' = g := Option.some.inj hg
      omega
  refine ⟨v', w', h1, ⟨cs ++ [a], by rw [List.length_append]; exact h2, (hrw.snoc (Ap.own_base ha hb0) hne).grow h3 h5, Nat.le_trans hb h4.size⟩, h4⟩
theorem bsd_next {l : List Nd} {p : Nat} {R : List Nat} {k : Nat} (hk : k < R.length) : bsd l p (R.take (k + 1)) = bsd l p (R.take k) ++ (if kiA l R[k] = 7 then [oth l p R[k]] else []) := by
  unfold bsd
  rw [List.take_succ_eq_append_getElem hk, List.filterMap_append]
  congr 1
  by_cases h : kiA l R[k] = 7
  · simp [h]
  · simp [h]
set_option maxHeartbeats 4000000 in
theorem besideP_go (b off c : Nat) (t : Tm) (p : Nat) (w : World) (hat : At w b off (flat t)) (hc : sz t ≤ c) (hl : sz t ≤ 400) (hp : p < sz t)
    (hA : Calls Tryz.prog 105 #[.slice (some ⟨b, off, none⟩) (sz t) c, .int .i64 (p : Int)] w fun e w' => e = .returned (.bool true) ∧ Below w.heap.size w w') :
    Calls Tryz.prog 108 #[.slice (some ⟨b, off, none⟩) (sz t) c, .int .i64 (p : Int)] w fun e w' => ∃ y, e = .returned y ∧ Rws w' y ((pth t 0 p).1.map flat) ∧ Below w.heap.size w w' := by
  have HA := Lib.hid hA
  have HWI := Lib.hid (fun w1 (hb : Below w.heap.size w w1) => within_any b off c t p w1 (at_below hat hb rfl) hc hl hp)
  have hup := (up_all t (flat t) 0 p (AtT.self t) (Nat.zero_le _) (by omega)).1
  have hfl := Se.flat_len t
  have HIN : Hid (∀ u ∈ (wth (flat t) (abv t 0 p).reverse).1, u < sz t) := Lib.hid fun u hu => Nat.lt_trans (abv_in hp u (List.mem_reverse.1 (wth_mem _ _ _ hu))) hp
  have hRl : (wth (flat t) (abv t 0 p).reverse).1.length ≤ 1000 := by
    refine Nat.le_trans (wth_few _ _) ?_
    rw [List.length_reverse, ← ov_abv t hp]
    unfold Pl.ov
    exact Nat.le_trans (List.length_filter_le _ _) (by simp; omega)
  have HOT := Lib.hid (fun w1 (hb : Below w.heap.size w w1) u (hu : u < sz t) (h7 : kiA (flat t) u = 7) => by
    obtain ⟨s, hs⟩ := sub_at t (flat t) 0 (AtT.self t) u (Nat.zero_le _) (by omega)
    obtain ⟨A, B, hk, hlt⟩ := par_kids hs h7
    have := other_any b off c (flat t) u p A B w1 (at_below hat hb rfl) (by omega) (by omega) hlt hk
    rw [hfl] at this
    exact this)
  rw [← hup]
  have HAT := Lib.hid hat
  obtain ⟨n, hn⟩ : ∃ n, sz t = n := ⟨_, rfl⟩
  obtain ⟨d, hd⟩ : ∃ d, (wth (flat t) (abv t 0 p).reverse).2 = d := ⟨_, rfl⟩
  obtain ⟨R, hR⟩ : ∃ R, (wth (flat t) (abv t 0 p).reverse).1 = R := ⟨_, rfl⟩
  obtain ⟨l, hlt⟩ : ∃ l, flat t = l := ⟨_, rfl⟩
  rw [hd, hR] at HWI
  rw [hR] at HIN hRl ⊢
  rw [hn] at HA HWI HIN HOT hfl hc hl ⊢
  rw [hlt] at HAT HOT hfl ⊢
  clear hA hat hup hd hR hlt hp hn
  go_enter Tryz.func108, Tryz.ntmps108
  go_wp2_with fail
  refine HA.out.mono ?_
  rintro e w1 ⟨rfl, hb1⟩
  have D1 := Lib.hid hb1
  clear hb1
  go_wp2_with fail
  refine (HWI.out _ D1.out).mono ?_
  rintro e w2 ⟨y, rfl, hpl, hb2⟩
  have D2 := Lib.hid (D1.out.trans (hb2.mono D1.out.size))
  rcases hpl.form with ⟨rfl, a, cap, rfl⟩ | ⟨bb, oo, cap, rfl, hap⟩
  · clear hpl hb2 HIN HOT hRl
    go_wp2_with fail
    refine Go.wp_loop_rounds 1 ?_
    rw [rounds_succ]
    go_wp2_with fail
    go_ret
    exact ⟨_, rfl, Rws.below (GotK.start (Nat.le_refl _)).rws (Below.refl _ _), D2.out⟩
  · have AP := Lib.hid hap
    clear hpl hb2 hap
    go_wp2_with fail
    go_loopw [5, 22] (fun v i wr => ∃ k : Nat, k ≤ R.length ∧ i = .int .i64 k ∧ Hid (GotK w2.heap.size wr v (bsd l p (R.take k))) ∧ Hid (Below w2.heap.size w2 wr ∧ Below w.heap.size w wr)) (fun _ i _ => R.length - (intOf i).toNat)
    case atStart => exact ⟨0, Nat.zero_le _, rfl, Lib.hid (GotK.start (Nat.le_refl _)), Lib.hid ⟨Below.refl _ _, D2.out⟩⟩
    case round =>
      obtain ⟨k, hk, rfl, HG, HB⟩ := hrel
      obtain ⟨va, vc, hv⟩ := HG.out.slice
      obtain ⟨m, hm⟩ : ∃ m, (bsd l p (R.take k)).length = m := ⟨_, rfl⟩
      have HM : Hid ((bsd l p (R.take k)).length ≤ 100000) := Lib.hid (by
        unfold bsd
        refine Nat.le_trans (List.length_filterMap_le _ _) ?_
        rw [List.length_take]
        omega)
      rw [hm] at hv
      subst hv
      clear hm
      by_cases hlt : k < R.length
      · have e1 := AP.out k hlt
        have c1 : wr.cell? ⟨bb, oo + k, none⟩ = some (.int .i64 (R[k] : Int)) := by rw [HB.out.1.cell (Ap.cell_lt e1)]; exact e1
        have hu := HIN.out _ (List.getElem_mem hlt)
        have e2 := (HAT.out R[k] (by omega)).1
        have c2 : wr.cell? ⟨b, off + R[k] * 3, none⟩ = some (.int .i64 (l[R[k]]'(by omega)).k) := by rw [HB.out.2.cell (Ap.cell_lt e2)]; exact e2
        rw [← kiA_get (l := l) (u := R[k]) (by omega)] at c2
        have HX := Lib.hid (bsd_next (l := l) (p := p) hlt)
        have HO := Lib.hid (fun (h7 : kiA l (R[k]'hlt) = 7) => HOT.out wr HB.out.2 (R[k]'hlt) hu h7)
        obtain ⟨u, hu2⟩ : ∃ u, R[k] = u := ⟨_, rfl⟩
        rw [hu2] at c1 c2 HX HO hu
        obtain ⟨q, hq⟩ : ∃ q, kiA l u = q := ⟨_, rfl⟩
        rw [hq] at c2 HX HO
        have hui : (u : Int) < n := by omega
        clear e1 e2 hu2 hq
        by_cases h7 : q = 7
        · subst h7
          have HO2 := Lib.hid (HO.out rfl)
          have HX2 : Hid (bsd l p (R.take (k + 1)) = bsd l p (R.take k) ++ [oth l p u]) := Lib.hid (by rw [HX.out, if_pos rfl])
          clear HO HX
          generalize oth l p u = O at HO2 HX2
          go_wp2_with fail
          refine HO2.out.mono ?_
          rintro e w4 ⟨y4, rfl, hown, hb4⟩
          obtain ⟨v', w', hrun, hg', hb'⟩ := HG.out.next hown hb4 HM.out
          obtain ⟨a4, k4, rfl⟩ := Rx.own_sliceK hown
          have RUN := Lib.hid hrun
          have G' := Lib.hid hg'
          have hb5 : Below w2.heap.size w2 w' := (HB.out.1.trans (hb4.mono HB.out.1.size)).trans hb'
          have B' : Hid (Below w2.heap.size w2 w' ∧ Below w.heap.size w w') := Lib.hid ⟨hb5, D2.out.trans (hb5.mono D2.out.size)⟩
          clear hrun hg' hb' hown hb4 hb5
          go_wp2_with (at_builtin; refine Ap.wpList_append_run (by rfl) _ _ _ _ rfl _ _ rfl rfl v' w' RUN.out ?_)
          go_roundw
          case rel => exact ⟨k + 1, by omega, by go_num, by rw [HX2.out]; exact G', B'⟩
          case measure => simp [intOf]; omega
        · have g7 : (q == 7) = false := beq_eq_false_iff_ne.2 h7
          have HX2 : Hid (bsd l p (R.take (k + 1)) = bsd l p (R.take k)) := Lib.hid (by rw [HX.out, if_neg h7, List.append_nil])
          clear HO HX h7
          go_wp2_with fail
          go_roundw
          case rel => exact ⟨k + 1, by omega, by go_num, by rw [HX2.out]; exact HG, HB⟩
          case measure => simp [intOf]; omega
      · have hkl : k = R.length := by omega
        subst hkl
        rw [List.take_length] at HG
        go_wp2_with fail
        go_ret
        exact ⟨_, rfl, HG.out.rws, HB.out.2⟩
end Go.Proofs.YtpingbiibbmcaaaGreat.Do

namespace Go.Proofs.YtpingbiibbmcaaaGreat.Do
open Go Go.RowKit Go.Proofs.YtpingbiibbmcaaaGreat.Rw Go.Proofs.YtpingbiibbmcaaaGreat.So Go.Proofs.YtpingbiibbmcaaaGreat.Se
set_option maxRecDepth 20000

/-- The contracts of package doom, and the statements' own first look at it. -/
structure Con : Prop where
  act : ∀ (v : Value) (l : List Nd) (w : World), Nds w v l → l.length ≤ 1000 → Nms l → Calls Tryz.prog 56 #[v] w fun e w' => ∃ y, e = .returned y ∧ Ints w' y (av l) ∧ Below w.heap.size w w'
  doom : ∀ (v : Value) (l : List Nd) (w : World), Nds w v l → l.length ≤ 1000 → Nms l → Calls Tryz.prog 109 #[v] w fun e w' => e = .returned (.bool (dm l)) ∧ Below w.heap.size w w'
  bes : ∀ (v : Value) (l : List Nd) (z : Int) (w : World), Nds w v l → l.length ≤ 1000 → Nms l → Calls Tryz.prog 108 #[v, .int .i64 z] w fun e w' => ∃ y, e = .returned y ∧ Rws w' y (bs l z) ∧ Below w.heap.size w w'
  free : ∀ (v : Value) (l : List Nd) (z : Int) (w : World), Nds w v l → l.length ≤ 1000 → Nms l → Calls Tryz.prog 89 #[v, .int .i64 z] w fun e w' => e = .returned (.bool (fr l z)) ∧ Below w.heap.size w w'
end Go.Proofs.YtpingbiibbmcaaaGreat.Do

namespace Go.Proofs.YtpingbiibbmcaaaGreat.Co
open Go Go.RowKit Go.Proofs.YtpingbiibbmcaaaGreat.Rw Go.Proofs.YtpingbiibbmcaaaGreat.So Go.Proofs.YtpingbiibbmcaaaGreat.Se Go.Proofs.YtpingbiibbmcaaaGreat.Do Go.Proofs.YtpingbiibbmcaaaGreat.Sp
set_option maxRecDepth 20000

/-- A call that hands back a number. -/
def NumP (n : Int) (w : World) (e : Ending) (w' : World) : Prop := e = .returned (.int .i64 n) ∧ Below w.heap.size w w'
structure Con : Prop where
  of : ∀ (v : Value) (l : List Nd) (w : World), Nds w v l → l.length ≤ 1000 → Calls Tryz.prog 15 #[v] w (NumP (chR l) w)
  mo : ∀ (v : Value) (l : List Nd) (w : World), Nds w v l → l.length ≤ 1000 → Nms l → Calls Tryz.prog 10 #[v] w (NumP (cr false l) w)
  le : ∀ (v : Value) (l : List Nd) (w : World), Nds w v l → l.length ≤ 1000 → Nms l → Calls Tryz.prog 11 #[v] w (NumP (cr true l) w)
  ch : ∀ (v : Value) (l : List Nd) (n : Int) (w : World), Nds w v l → l.length ≤ 1000 → Calls Tryz.prog 16 #[v, .int .i64 n] w (NumP (crash l n) w)
def Alive : Prop := ∀ w : World, Calls Tryz.prog 6 #[] w fun e w' => e = .returned (.bool true) ∧ Below w.heap.size w w'
def fewC (l : List Nd) : Bool := decide (l.length ≤ 100) && decide (depth l ≤ 12)
theorem fewC_len {l : List Nd} (h : fewC l = true) : l.length ≤ 100 := by
  unfold fewC at h
  rw [Bool.and_eq_true, decide_eq_true_eq] at h
  exact h.1
set_option maxHeartbeats 1000000 in
theorem fewC_any (v : Value) (l : List Nd) (w : World) (h : Nds w v l) :
    Calls Tryz.prog 5 #[v] w fun e w' => e = .returned (.bool (fewC l)) ∧ w = w' := by
  have hr : fewC l = (decide (l.length ≤ 100) && decide (depth l ≤ 12)) := rfl
  rw [hr]
  by_cases h1 : l.length ≤ 100
  · have HD := Lib.hid (depthR_any v l w h (by omega))
    obtain ⟨d, hd⟩ : ∃ d, depth l = d := ⟨_, rfl⟩
    rw [hd] at HD ⊢
    rw [decide_eq_true h1, Bool.true_and]
    obtain ⟨_, a, cap, rfl, -⟩ := h
    clear hr hd
    go_enter Tryz.func5, Tryz.ntmps5
    go_wp2_with fail
    refine HD.out.mono ?_
    rintro e w' ⟨rfl, rfl⟩
    go_wp2_with fail
    go_ret
    exact ⟨Rw.ret_bool (decide_eq_decide.2 (by omega)), rfl⟩
  · rw [decide_eq_false h1, Bool.false_and]
    obtain ⟨_, a, cap, rfl, -⟩ := h
    have h2 : ¬ (l.length : Int) ≤ 100 := by omega
    clear hr
    go_enter Tryz.func5, Tryz.ntmps5
    go_wp2_with fail
    go_ret
    exact ⟨rfl, rfl⟩
theorem newA (w : World) : Nds (w.alloc (.cells #[.int .i64 6, .string ⟨#[]⟩, .int .i64 0, .int .i64 1, .string ⟨#[97]⟩, .int .i64 0, .int .i64 5, .string ⟨#[]⟩, .int .i64 0, .int .i64 1, .string ⟨#[97]⟩, .int .i64 0, .int .i64 1, .string ⟨#[97]⟩, .int .i64 0] 39)) (.slice (some ⟨w.heap.size, 0, none⟩) 5 5) (flat tA) := Se.nds_new w (flat tA) _
theorem newB (w : World) : Nds (w.alloc (.cells #[.int .i64 10, .string ⟨#[]⟩, .int .i64 0, .int .i64 1, .string ⟨#[97]⟩, .int .i64 0, .int .i64 1, .string ⟨#[97]⟩, .int .i64 0] 39)) (.slice (some ⟨w.heap.size, 0, none⟩) 3 3) (flat tB) := Se.nds_new w (flat tB) _
theorem cut3 {w : World} {b : Nat} (h : Nds w (.slice (some ⟨b, 0, none⟩) 5 5) (flat tA)) : Nds w (.slice (some ⟨b, 0, none⟩) 3 5) ((flat tA).take 3) := by
  rcases h.form with ⟨h0, _⟩ | ⟨b', off, c, hv, _, hat⟩
  · cases h0
  · injection hv with h1 h2 h3
    injection h1 with h1
    injection h1 with h4 h5 h6
    subst h4
    subst h5
    have := part_nds hat 0 3 5 (by decide) (by decide)
    rwa [Nat.zero_mul, Nat.zero_add, List.drop_zero] at this
end Go.Proofs.YtpingbiibbmcaaaGreat.Co

namespace Go.Proofs.YtpingbiibbmcaaaGreat.Ru
open Go Go.RowKit Go.Proofs.YtpingbiibbmcaaaGreat.Rw Go.Proofs.YtpingbiibbmcaaaGreat.So Go.Proofs.YtpingbiibbmcaaaGreat.Se Go.Proofs.YtpingbiibbmcaaaGreat.Tr Go.Proofs.YtpingbiibbmcaaaGreat.Do Go.Proofs.YtpingbiibbmcaaaGreat.Sp Go.Proofs.YtpingbiibbmcaaaGreat.Me Go.Proofs.YtpingbiibbmcaaaGreat.St
set_option maxRecDepth 20000

/-- Has a row ended? -/
def endB (l : List Nd) : Bool := decide (l.length = 1) && (kn l 0 == 11)
def sgn (l : List Nd) : Int := match l with | [] => 0 | x :: _ => x.s
/-- The trace of what was played. -/
def trR (r : Rn) : Tr := if endB r.l then ⟨r.a, sgn r.l⟩ else ⟨[], 0⟩
/-- What ends, and is settled and small, is over. -/
theorem end_iff {t : Tm} : endB (flat t) = true ↔ ∃ s, t = .over s := by
  constructor
  · intro h
    unfold endB at h
    rw [Bool.and_eq_true, decide_eq_true_eq, beq_iff_eq] at h
    cases t with
    | over s => exact ⟨s, rfl⟩
    | act s => exact absurd h.2 (by show ¬ ((1 : Int) = 11); decide)
    | skip => exact absurd h.2 (by show ¬ ((2 : Int) = 11); decide)
    | throw => exact absurd h.2 (by show ¬ ((3 : Int) = 11); decide)
    | yield => exact absurd h.2 (by show ¬ ((4 : Int) = 11); decide)
    | seq a b => exact absurd h.2 (by show ¬ ((5 : Int) = 11); decide)
    | alt a b => exact absurd h.2 (by show ¬ ((6 : Int) = 11); decide)
    | par a b => exact absurd h.2 (by show ¬ ((7 : Int) = 11); decide)
    | hand a b => exact absurd h.2 (by show ¬ ((8 : Int) = 11); decide)
    | block a => exact absurd h.2 (by show ¬ ((9 : Int) = 11); decide)
    | pair a b => exact absurd h.2 (by show ¬ ((10 : Int) = 11); decide)
    | going a b => exact absurd h.2 (by show ¬ ((12 : Int) = 11); decide)
    | stack a b => exact absurd h.2 (by show ¬ ((13 : Int) = 11); decide)
    | fin s c => exact absurd h.2 (by show ¬ ((14 : Int) = 11); decide)
  · rintro ⟨s, rfl⟩
    rfl
end Go.Proofs.YtpingbiibbmcaaaGreat.Ru

namespace Go.Proofs.YtpingbiibbmcaaaGreat.St
open Go Go.RowKit Go.Proofs.YtpingbiibbmcaaaGreat.Rw Go.Proofs.YtpingbiibbmcaaaGreat.So Go.Proofs.YtpingbiibbmcaaaGreat.Se Go.Proofs.YtpingbiibbmcaaaGreat.Do Go.Proofs.YtpingbiibbmcaaaGreat.Sp Go.Proofs.YtpingbiibbmcaaaGreat.Me
set_option maxRecDepth 20000

theorem putP_any (v vx : Value) (l x : List Nd) (z : Int) (w : World) (hv : Nds w v l) (hx : Nds w vx x) (hl : l.length ≤ 1000) (hxl : x.length ≤ 1000) :
    Calls Tryz.prog 75 #[v, .int .i64 z, vx] w fun e w' => ∃ y, e = .returned y ∧ w'.ownsRow w.heap.size 39 3 y (putR l z x).length (cls (putR l z x)) ∧ Below w.heap.size w w' := by
  by_cases h0 : szA l z = 0
  · have e : putR l z x = l := by
      unfold putR
      unfold szA at h0
      split
      · rfl
      · rename_i h
        rw [if_neg h] at h0
        exact if_pos h0
    rw [e]
    exact putP_none v vx l x z w hv hx hl h0
  · have hb : ¬ (z < 0 ∨ z ≥ l.length) := fun h => h0 (if_pos h)
    obtain ⟨q, rfl⟩ : ∃ q : Nat, z = (q : Int) := ⟨z.toNat, by omega⟩
    have e0 : szA l (q : Int) = size (l.drop q) := if_neg hb
    have e : putR l (q : Int) x = l.take q ++ x ++ l.drop (q + size (l.drop q)) := by
      unfold putR
      rw [if_neg hb]
      show putN l q x = _
      exact if_neg (by rw [← e0]; exact h0)
    rw [e]
    have hS := sizeAt_any v l (q : Int) w hv hl
    rw [e0] at hS h0
    have hsz := size_le (l.drop q)
    rw [List.length_drop] at hsz
    rcases hv.form with ⟨h1, _⟩ | ⟨b, o, c, rfl, hc, hat⟩
    · rw [h1] at hb; simp at hb
    · exact putP_some b o c l.length x.length (q + x.length + (l.length - (q + size (l.drop q)))) q (size (l.drop q)) (q + size (l.drop q)) vx (l.take q) x (l.drop (q + size (l.drop q))) w _ rfl
        (fun w1 hb1 => (take_nds rfl hat q (by omega) hc).below hb1) (fun w1 hb1 => hx.below hb1) (fun _ w1 hb1 => (drop_nds rfl hat _ (by omega) hc).below hb1)
        (by rw [List.length_take]; omega) rfl (by rw [List.length_drop]) (by omega) (by omega) rfl (by omega) hc rfl hl hxl hS
/-- A function value that tells this row of these kids, in every later world. -/
def FnV (w : World) (f : Value) (ls : List (List Nd)) (X : List Nd) : Prop :=
  ∃ fn caps, f = .func (.func fn) #[] caps ∧ (∀ args w, (callFunc fn args).run Tryz.prog w = .ok (.enter fn args) w) ∧
    ∀ w1 y, Below w.heap.size w w1 → Rws w1 y ls → Calls Tryz.prog fn (#[y] ++ caps) w1 fun e w' => ∃ y', e = .returned y' ∧ Nds w' y' X ∧ Below w1.heap.size w1 w'
theorem FnV.below {w w' : World} {f : Value} {ls : List (List Nd)} {X : List Nd} (h : FnV w f ls X) (hb : Below w.heap.size w w') : FnV w' f ls X := by
  obtain ⟨fn, caps, e, eg, H⟩ := h
  exact ⟨fn, caps, e, eg, fun w1 y hb1 hy => H w1 y (hb.trans (hb1.mono hb.size)) hy⟩
def OutF (w : World) (ls : List (List Nd)) (X : List Nd) (e : Ending) (w' : World) : Prop := ∃ f, e = .returned f ∧ FnV w' f ls X ∧ Below w.heap.size w w'
theorem rws_get {w : World} {y : Value} {ls : List (List Nd)} (h : Rws w y ls) (k : Nat) (hk : k < ls.length) : ∃ b o c a, y = .slice (some ⟨b, o, none⟩) ls.length c ∧ w.cell? ⟨b, o + k, none⟩ = some a ∧ Nds w a (ls.getD k []) := by
  rcases Rx.rws_form h with ⟨rfl, _⟩ | ⟨b, o, c, rfl, hat⟩
  · simp at hk
  · obtain ⟨a, h1, h2⟩ := hat k hk
    refine ⟨b, o, c, a, rfl, h1, ?_⟩
    rwa [List.getD_eq_getElem?_getD, List.getElem?_eq_getElem hk, Option.getD_some]
theorem kid1_any (k B : Nat) (y : Value) (ls : List (List Nd)) (w : World) (hB : w.cell? ⟨B, 0, none⟩ = some (.int .i64 (k : Int))) (hy : Rws w y ls) (hk : k < ls.length) :
    Calls Tryz.prog 94 #[y, .pointer (some ⟨B, 0, none⟩)] w fun e w' => ∃ y', e = .returned y' ∧ Nds w' y' (ls.getD k []) ∧ Below w.heap.size w w' := by
  obtain ⟨b, o, c, a, rfl, h1, h2⟩ := rws_get hy k hk
  obtain ⟨_, aa, cc, rfl, -⟩ := id h2
  have H2 := Lib.hid h2
  clear hy h2
  generalize (ls.getD k []).length = m at *
  go_enter Tryz.func94, Tryz.ntmps94
  go_wp2_with fail
  go_ret
  exact ⟨_, rfl, H2.out, Below.refl _ _⟩
theorem kid_any (k : Nat) (ls : List (List Nd)) (w : World) (hk : k < ls.length) :
    Calls Tryz.prog 76 #[.int .i64 (k : Int)] w (OutF w ls (ls.getD k [])) := by
  have eg : ∀ args w, (callFunc 94 args).run Tryz.prog w = .ok (.enter 94 args) w := enters_of Tryz.func94 (by kernel_rfl) rfl
  have hb := below1 w (.cells #[.int .i64 (k : Int)] 3)
  have hc : (w.alloc (.cells #[.int .i64 (k : Int)] 3)).cell? ⟨w.heap.size, 0, none⟩ = some (.int .i64 (k : Int)) := by rw [World.cell?_alloc_new]; rfl
  have F : Hid (FnV (w.alloc (.cells #[.int .i64 (k : Int)] 3)) (.func (.func 94) #[] #[.pointer (some ⟨w.heap.size, 0, none⟩)]) ls (ls.getD k [])) := Lib.hid ⟨_, _, rfl, eg, fun w1 y hb1 hy => kid1_any k _ y ls w1 (by rw [hb1.cell (Ap.cell_lt hc)]; exact hc) hy hk⟩
  have D := Lib.hid hb
  have hmf : ∀ fn first cap w, (Instr.makeFunc fn first cap).run Tryz.prog w = .ok (.func fn first cap) w := fun _ _ _ _ => rfl
  clear eg hb hc
  unfold OutF
  go_enter Tryz.func76, Tryz.ntmps76
  go_wp2_with fail
  go_ret
  exact ⟨_, rfl, F.out, D.out⟩
theorem always1_any (B : Nat) (y s : Value) (X : List Nd) (w : World) (hB : w.cell? ⟨B, 0, none⟩ = some s) (hs : Nds w s X) (hy : ∃ a n c, y = .slice a n c) :
    Calls Tryz.prog 96 #[y, .pointer (some ⟨B, 0, none⟩)] w fun e w' => ∃ y', e = .returned y' ∧ Nds w' y' X ∧ Below w.heap.size w w' := by
  obtain ⟨a, n, c, rfl⟩ := hy
  obtain ⟨_, aa, cc, rfl, -⟩ := id hs
  have H := Lib.hid hs
  clear hs
  generalize X.length = m at *
  go_enter Tryz.func96, Tryz.ntmps96
  go_wp2_with fail
  go_ret
  exact ⟨_, rfl, H.out, Below.refl _ _⟩
theorem rws_slice {w : World} {y : Value} {ls : List (List Nd)} (h : Rws w y ls) : ∃ a n c, y = .slice a n c := by
  obtain ⟨cs, ⟨_, a, c, rfl, -⟩, -⟩ := h
  exact ⟨_, _, _, rfl⟩
theorem always_any (s : Value) (X : List Nd) (ls : List (List Nd)) (w : World) (hs : Nds w s X) :
    Calls Tryz.prog 78 #[s] w (OutF w ls X) := by
  have eg : ∀ args w, (callFunc 96 args).run Tryz.prog w = .ok (.enter 96 args) w := enters_of Tryz.func96 (by kernel_rfl) rfl
  obtain ⟨_, aa, cc, rfl, -⟩ := id hs
  obtain ⟨m, hm⟩ : ∃ m, X.length = m := ⟨_, rfl⟩
  rw [hm] at hs ⊢
  have hb := below1 w (.cells #[.slice aa m cc] 22)
  have hc : (w.alloc (.cells #[.slice aa m cc] 22)).cell? ⟨w.heap.size, 0, none⟩ = some (.slice aa m cc) := by rw [World.cell?_alloc_new]; rfl
  have F : Hid (FnV (w.alloc (.cells #[.slice aa m cc] 22)) (.func (.func 96) #[] #[.pointer (some ⟨w.heap.size, 0, none⟩)]) ls X) := Lib.hid ⟨_, _, rfl, eg, fun w1 y hb1 hy => always1_any _ y _ X w1 (by rw [hb1.cell (Ap.cell_lt hc)]; exact hc) ((hs.below hb).below hb1) (rws_slice hy)⟩
  have D := Lib.hid hb
  have hmf : ∀ fn first cap w, (Instr.makeFunc fn first cap).run Tryz.prog w = .ok (.func fn first cap) w := fun _ _ _ _ => rfl
  clear eg hb hc hs hm
  unfold OutF
  go_enter Tryz.func78, Tryz.ntmps78
  go_wp2_with fail
  go_ret
  exact ⟨_, rfl, F.out, D.out⟩
theorem begun_any (y : Value) (ls : List (List Nd)) (w : World) (hy : Rws w y ls) (hl : ls.length ≤ 1000) (hf : ls.flatten.length ≤ 1000000) :
    Calls Tryz.prog 77 #[y] w fun e w' => ∃ y', e = .returned y' ∧ Nds w' y' (nOf 12 :: ls.flatten) ∧ Below w.heap.size w w' := by
  have HM := Lib.hid (Rx.makeP_any (nOf 12) y ls w hy hl hf)
  obtain ⟨L, hL⟩ : ∃ L, nOf 12 :: ls.flatten = L := ⟨_, rfl⟩
  rw [hL] at HM ⊢
  obtain ⟨a, n, c, rfl⟩ := rws_slice hy
  clear hy hL hf
  go_enter Tryz.func77, Tryz.ntmps77
  go_wp2_with fail
  refine HM.out.mono ?_
  rintro e w1 ⟨y1, rfl, hn, hb⟩
  have N1 : Hid (Nds w1 y1 L) := Lib.hid hn.rd
  have D := Lib.hid hb
  obtain ⟨_, a1, c1, rfl, -⟩ := id N1.out
  clear hn hb
  go_wp2_with fail
  go_ret
  exact ⟨_, rfl, N1.out, D.out⟩
end Go.Proofs.YtpingbiibbmcaaaGreat.St

namespace Go.Proofs.YtpingbiibbmcaaaGreat.Me
open Go Go.RowKit Go.Proofs.YtpingbiibbmcaaaGreat.Rw Go.Proofs.YtpingbiibbmcaaaGreat.So Go.Proofs.YtpingbiibbmcaaaGreat.Se Go.Proofs.YtpingbiibbmcaaaGreat.Do
set_option maxRecDepth 20000

theorem mv_ext {x y : Mv} : x = y ↔ x.p = y.p ∧ x.h = y.h := by
  cases x; cases y; simp
theorem eql_mv (d : Nat) (x y : Mv) (w : World) : (Op.equalIn (d + 2) 42 (.agg #[.int .i64 x.p, .int .i64 x.h]) (.agg #[.int .i64 y.p, .int .i64 y.h])).run Tryz.prog w = .ok (decide (x = y)) w := by
  rw [run_equalIn_struct w (d + 1) _ _ _ (by kernel_rfl) (by kernel_rfl)]
  simp only [Program.fieldsOf, Tryz.underlying42]
  by_cases h1 : x.p = y.p
  · by_cases h2 : x.h = y.h
    · rw [decide_eq_true (mv_ext.2 ⟨h1, h2⟩), h1, h2]
      simp [go_sem, Op.eqFields]
    · rw [decide_eq_false (fun e => h2 (mv_ext.1 e).2), h1]
      simp [go_sem, Op.eqFields, h2]
  · rw [decide_eq_false (fun e => h1 (mv_ext.1 e).1)]
    simp [go_sem, Op.eqFields, h1]
theorem eq_mv (x y : Mv) (w : World) : (binOp .eql 42 (.agg #[.int .i64 x.p, .int .i64 x.h]) (.agg #[.int .i64 y.p, .int .i64 y.h])).run Tryz.prog w = .ok (.bool (decide (x = y))) w := by
  rw [run_eql_struct, show (10000 : Nat) = 9998 + 2 from rfl, eql_mv]
  rfl
end Go.Proofs.YtpingbiibbmcaaaGreat.Me

namespace Go.Proofs.YtpingbiibbmcaaaGreat.Do
open Go Go.RowKit Go.Proofs.YtpingbiibbmcaaaGreat.Rw Go.Proofs.YtpingbiibbmcaaaGreat.So Go.Proofs.YtpingbiibbmcaaaGreat.Se
set_option maxRecDepth 20000

theorem besideP_no (v : Value) (l : List Nd) (z : Int) (w : World) (hv : Nds w v l) (hA : Calls Tryz.prog 105 #[v, .int .i64 z] w fun e w' => e = .returned (.bool false) ∧ Below w.heap.size w w') :
    Calls Tryz.prog 108 #[v, .int .i64 z] w fun e w' => ∃ y, e = .returned y ∧ Rws w' y [] ∧ Below w.heap.size w w' := by
  have HA := Lib.hid hA
  obtain ⟨_, a, c, rfl, -⟩ := hv
  clear hA
  go_enter Tryz.func108, Tryz.ntmps108
  go_wp2_with fail
  refine HA.out.mono ?_
  rintro e w1 ⟨rfl, hb1⟩
  have D1 := Lib.hid hb1
  clear hb1
  go_wp2_with fail
  go_ret
  exact ⟨_, rfl, Rws.below (GotK.start (Nat.le_refl _)).rws (Below.refl _ _), D1.out⟩
theorem besP_any (v : Value) (l : List Nd) (z : Int) (w : World) (hv : Nds w v l) (hl : l.length ≤ 1000) (hm : Nms l) :
    Calls Tryz.prog 108 #[v, .int .i64 z] w fun e w' => ∃ y, e = .returned y ∧ Rws w' y (bs l z) ∧ Below w.heap.size w w' := by
  have hA := isActive_any v l z w hv hl hm
  by_cases hz : z ∈ av l
  · rw [decide_eq_true hz] at hA
    have hs : setB l = true := by
      cases hs : setB l with
      | true => rfl
      | false => rw [av_no hs] at hz; cases hz
    obtain ⟨t, rfl, hg, hn⟩ := set_iff.1 hs
    obtain ⟨k, hk, rfl⟩ := (mem_av hg hn).1 hz
    rw [bs_go hg hn hk]
    obtain ⟨b, off, c, rfl, hc, hat⟩ := go_form hv
    exact besideP_go b off c t k w hat hc (by have := hg.2.1; omega) (by have := wt_in t 0 k hk; omega) hA
  · rw [decide_eq_false hz] at hA
    rw [bs_no hz]
    exact besideP_no v l z w hv hA
theorem any_bang {t : Tm} {k : Nat} (hg : Goes t) (hn : Nf t) (hk : k ∈ wt t 0) : ((pth t 0 k).1.map flat).any dm = (pth t 0 k).1.any bangT := by
  have h := pth_goes t 0 k hk hg hn
  generalize (pth t 0 k).1 = L at h ⊢
  induction L with
  | nil => rfl
  | cons u L ih =>
    rw [List.map_cons, List.any_cons, List.any_cons, ih fun x hx => h x (List.mem_cons_of_mem _ hx)]
    obtain ⟨h1, h2⟩ := h u (List.mem_cons_self ..)
    rw [dm_go h1 h2]
set_option maxHeartbeats 1000000 in
theorem freP_any (v : Value) (l : List Nd) (z : Int) (w : World) (hv : Nds w v l) (hl : l.length ≤ 1000) (hm : Nms l) :
    Calls Tryz.prog 89 #[v, .int .i64 z] w fun e w' => e = .returned (.bool (fr l z)) ∧ Below w.heap.size w w' := by
  have HA := Lib.hid (isActive_any v l z w hv hl hm)
  by_cases hz : z ∈ av l
  · rw [decide_eq_true hz] at HA
    have HB := Lib.hid (fun w1 (hb : Below w.heap.size w w1) => besP_any v l z w1 (hv.below hb) hl hm)
    have hs : setB l = true := by
      cases hs : setB l with
      | true => rfl
      | false => rw [av_no hs] at hz; cases hz
    obtain ⟨t, rfl, hg, hn⟩ := set_iff.1 hs
    obtain ⟨k, hk, rfl⟩ := (mem_av hg hn).1 hz
    rw [bs_go hg hn hk] at HB
    rw [fr_go hg hn hk, ← any_bang hg hn hk]
    obtain ⟨b, off, c, rfl, hc, hat⟩ := go_form hv
    have hkt : k < sz t := by have := wt_in t 0 k hk; omega
    have HWI := Lib.hid (fun w1 (hb : Below w.heap.size w w1) => within_any b off c t k w1 (at_below hat hb rfl) hc (by have := hg.2.1; omega) hkt)
    rw [(up_all t (flat t) 0 k (AtT.self t) (Nat.zero_le _) (by omega)).2] at HWI
    have eg : ∀ args w, (callFunc 109 args).run Tryz.prog w = .ok (.enter 109 args) w := enters_of Tryz.func109 (by kernel_rfl) rfl
    have HC := Lib.hid (fun y w1 (hr : Rws w1 y ((pth t 0 k).1.map flat)) => containsR_any 109 eg dm y _ w1 hr (by rw [List.length_map]; have := pth_len t 0 k; have := hg.2.1; omega) fun r hr wr a hn' => by
      obtain ⟨u, hu, rfl⟩ := List.mem_map.1 hr
      obtain ⟨h1, h2⟩ := pth_goes t 0 k hk hg hn u hu
      exact doomP_any a (flat u) wr hn' (by rw [Se.flat_len]; have := h1.2.1; omega) (nms_goes h1.1))
    generalize ((pth t 0 k).1.map flat) = L at HB HC ⊢
    generalize (pth t 0 k).2 = d at HWI ⊢
    generalize (wth (flat t) (abv t 0 k).reverse).1 = R at HWI
    generalize L.any dm = x at HC ⊢
    generalize sz t = n at HA HB HWI
    clear hv hat hs hz hg hn hk hl hm eg hkt
    cases d with
    | false =>
      go_enter Tryz.func89, Tryz.ntmps89
      go_wp2_with fail
      refine HA.out.mono ?_
      rintro e w1 ⟨rfl, hb1⟩
      have D1 := Lib.hid hb1
      clear hb1
      go_wp2_with fail
      refine (HWI.out _ D1.out).mono ?_
      rintro e w2 ⟨y, rfl, hpl, hb2⟩
      have D2 := Lib.hid (D1.out.trans (hb2.mono D1.out.size))
      clear hpl hb2
      go_wp2_with fail
      go_ret
      exact ⟨rfl, D2.out⟩
    | true =>
      go_enter Tryz.func89, Tryz.ntmps89
      go_wp2_with fail
      refine HA.out.mono ?_
      rintro e w1 ⟨rfl, hb1⟩
      have D1 := Lib.hid hb1
      clear hb1
      go_wp2_with fail
      refine (HWI.out _ D1.out).mono ?_
      rintro e w2 ⟨y, rfl, hpl, hb2⟩
      have D2 := Lib.hid (D1.out.trans (hb2.mono D1.out.size))
      clear hpl hb2
      go_wp2_with fail
      refine (HB.out _ D2.out).mono ?_
      rintro e w3 ⟨y3, rfl, hr3, hb3⟩
      have D3 := Lib.hid (D2.out.trans (hb3.mono D2.out.size))
      have R3 := Lib.hid hr3
      obtain ⟨_, ⟨_, a3, c3, rfl, -⟩, -⟩ := id hr3
      clear hr3 hb3
      go_wp2_with fail
      refine (HC.out _ _ R3.out).mono ?_
      rintro e w4 ⟨rfl, hb4⟩
      have D4 := Lib.hid (D3.out.trans (hb4.mono D3.out.size))
      clear hb4
      go_wp2_with fail
      go_ret
      exact ⟨rfl, D4.out⟩
  · rw [decide_eq_false hz] at HA
    rw [fr_no hz]
    obtain ⟨_, a, c, rfl, -⟩ := hv
    clear hm hz
    go_enter Tryz.func89, Tryz.ntmps89
    go_wp2_with fail
    refine HA.out.mono ?_
    rintro e w1 ⟨rfl, hb1⟩
    have D1 := Lib.hid hb1
    clear hb1
    go_wp2_with fail
    go_ret
    exact ⟨rfl, D1.out⟩
/-- Package doom's contracts. -/
theorem con : Con where
  act := actP_any
  doom := doomP_any
  bes := besP_any
  free := freP_any
end Go.Proofs.YtpingbiibbmcaaaGreat.Do

namespace Go.Proofs.YtpingbiibbmcaaaGreat.Co
open Go Go.RowKit Go.Proofs.YtpingbiibbmcaaaGreat.Rw Go.Proofs.YtpingbiibbmcaaaGreat.So Go.Proofs.YtpingbiibbmcaaaGreat.Se Go.Proofs.YtpingbiibbmcaaaGreat.Do Go.Proofs.YtpingbiibbmcaaaGreat.Sp
set_option maxRecDepth 20000

abbrev fnV (f : Nat) : Value := .func (.func f) #[] #[]
/-- What a node costs itself; how the costs behind it are put together. -/
def ow (k : Int) : Nat := if k = 1 ∨ k = 4 ∨ k = 6 ∨ k = 10 then 1 else 0
def tg (k : Int) (f : Nat) : Nat := if k = 6 then f else 35
set_option maxHeartbeats 1000000 in
theorem priced_any (k : Int) (f : Nat) (w : World) : Calls Tryz.prog 37 #[.int .i64 k, fnV f] w fun e w' => e = .returned (.tuple #[.int .i64 (ow k : Nat), fnV (tg k f)]) ∧ w = w' := by
  rcases cases15 k with rfl | rfl | rfl | rfl | rfl | rfl | rfl | rfl | rfl | rfl | rfl | rfl | rfl | rfl | h
  case inr.inr.inr.inr.inr.inr.inr.inr.inr.inr.inr.inr.inr.inr =>
    obtain ⟨h1, h2, h3, h4, h5, h6, h7, h8, h9, h10, h11, h12, h13, h14⟩ := h
    have g1 : (k == 1) = false := beq_eq_false_iff_ne.2 h1
    have g6 : (k == 6) = false := beq_eq_false_iff_ne.2 h6
    have g4 : (k == 4) = false := beq_eq_false_iff_ne.2 h4
    have g10 : (k == 10) = false := beq_eq_false_iff_ne.2 h10
    have e1 : ow k = 0 := if_neg (by omega)
    have e2 : tg k f = 35 := if_neg h6
    rw [e1, e2]
    clear h1 h2 h3 h4 h5 h6 h7 h8 h9 h10 h11 h12 h13 h14 e1 e2
    go_enter Tryz.func37, Tryz.ntmps37
    go_wp2_with fail
    go_ret2
    exact ⟨rfl, rfl⟩
  all_goals
    go_enter Tryz.func37, Tryz.ntmps37
    go_wp2_with fail
    go_ret2
    exact ⟨rfl, rfl⟩
/-- How two costs are put together. -/
def pt (f : Nat) (a b : Nat) : Nat := if f = 35 then a + b else if f = 24 then max a b else min a b
abbrev Pf (f : Nat) : Prop := f = 35 ∨ f = 24 ∨ f = 25
set_option maxHeartbeats 1000000 in
theorem put_any (f : Nat) (hf : Pf f) (a b : Nat) (w : World) (ha : a ≤ 2000) (hb : b ≤ 2000) : Calls Tryz.prog f #[.int .i64 (a : Int), .int .i64 (b : Int)] w fun e w' => e = .returned (.int .i64 (pt f a b : Nat)) ∧ w = w' := by
  rcases hf with rfl | rfl | rfl
  · obtain ⟨c, hc⟩ : ∃ c, pt 35 a b = c := ⟨_, rfl⟩
    have hc2 : (c : Int) = (a : Int) + b := by rw [← hc]; show ((a + b : Nat) : Int) = _; omega
    rw [hc]
    clear hc
    go_enter Tryz.func35, Tryz.ntmps35
    go_wp2_with fail
    go_ret
    exact ⟨ret_int (by omega), rfl⟩
  · obtain ⟨c, hc⟩ : ∃ c, pt 24 a b = c := ⟨_, rfl⟩
    have hc2 : c = max a b := by rw [← hc]; rfl
    rw [hc]
    clear hc
    by_cases h : a < b
    · have h' : (a : Int) < b := by omega
      go_enter Tryz.func24, Tryz.ntmps24
      go_wp2_with fail
      go_ret
      exact ⟨ret_int (by omega), rfl⟩
    · have h' : ¬ (a : Int) < b := by omega
      go_enter Tryz.func24, Tryz.ntmps24
      go_wp2_with fail
      go_ret
      exact ⟨ret_int (by omega), rfl⟩
  · obtain ⟨c, hc⟩ : ∃ c, pt 25 a b = c := ⟨_, rfl⟩
    have hc2 : c = min a b := by rw [← hc]; rfl
    rw [hc]
    clear hc
    by_cases h : b < a
    · have h' : (b : Int) < a := by omega
      go_enter Tryz.func25, Tryz.ntmps25
      go_wp2_with fail
      go_ret
      exact ⟨ret_int (by omega), rfl⟩
    · have h' : ¬ (b : Int) < a := by omega
      go_enter Tryz.func25, Tryz.ntmps25
      go_wp2_with fail
      go_ret
      exact ⟨ret_int (by omega), rfl⟩
set_option maxHeartbeats 1000000 in
theorem own_any (k s : Int) (n : ByteArray) (w : World) : Calls Tryz.prog 36 #[.agg #[.int .i64 k, .string n, .int .i64 s]] w (NumP (ow k : Nat) w) := by
  have HP := Lib.hid (fun w1 => priced_any k 35 w1)
  have HB := Lib.hid (fun x => below1 w x)
  generalize tg k 35 = g at HP
  generalize ow k = z at HP ⊢
  go_enter Tryz.func36, Tryz.ntmps36
  go_wp2_with fail
  refine (HP.out _).mono ?_
  rintro e w1 ⟨rfl, rfl⟩
  go_wp2_with fail
  go_ret
  exact ⟨rfl, HB.out _⟩
end Go.Proofs.YtpingbiibbmcaaaGreat.Co

namespace Go.Proofs.YtpingbiibbmcaaaGreat.Co
open Go Go.RowKit Go.Proofs.YtpingbiibbmcaaaGreat.Rw Go.Proofs.YtpingbiibbmcaaaGreat.So Go.Proofs.YtpingbiibbmcaaaGreat.Se Go.Proofs.YtpingbiibbmcaaaGreat.Do Go.Proofs.YtpingbiibbmcaaaGreat.Sp
set_option maxRecDepth 20000

set_option maxHeartbeats 4000000 in
theorem alive_of (C : Con) : Alive := by
  intro w
  have oA := Lib.hid (fun v w1 (h : Nds w1 v (flat tA)) => C.of v (flat tA) w1 h (by decide))
  unfold NumP at oA
  rw [chA] at oA
  have mA := Lib.hid (fun v w1 (h : Nds w1 v (flat tA)) => C.mo v (flat tA) w1 h (by decide) (nms_goes gA.1))
  unfold NumP at mA
  rw [moA] at mA
  have lA := Lib.hid (fun v w1 (h : Nds w1 v (flat tA)) => C.le v (flat tA) w1 h (by decide) (nms_goes gA.1))
  unfold NumP at lA
  rw [leA] at lA
  have c2 := Lib.hid (fun v w1 (h : Nds w1 v (flat tA)) => C.ch v (flat tA) 2 w1 h (by decide))
  unfold NumP at c2
  rw [crA.1] at c2
  have c0 := Lib.hid (fun v w1 (h : Nds w1 v (flat tA)) => C.ch v (flat tA) (-1) w1 h (by decide))
  unfold NumP at c0
  rw [crA.2] at c0
  have m3 := Lib.hid (fun v w1 (h : Nds w1 v ((flat tA).take 3)) => C.mo v ((flat tA).take 3) w1 h (by decide) (fun x hx => nms_goes gA.1 x (List.mem_of_mem_take hx)))
  unfold NumP at m3
  rw [moC] at m3
  have mB := Lib.hid (fun v w1 (h : Nds w1 v (flat tB)) => C.mo v (flat tB) w1 h (by decide) (nms_goes gB.1))
  unfold NumP at mB
  rw [moB] at mB
  have D0 := Rw.below1 w (.cells #[.int .i64 1, .string ⟨#[97]⟩, .int .i64 0] 39)
  have z0 : w.heap.size < (w.alloc (.cells #[.int .i64 1, .string ⟨#[97]⟩, .int .i64 0] 39)).heap.size := by simp
  have y0 : (w.alloc (.cells #[.int .i64 1, .string ⟨#[97]⟩, .int .i64 0] 39)).cell? ⟨w.heap.size, 0, none⟩ = some (.int .i64 1) := by simp [go_sem]
  have y1 : (w.alloc (.cells #[.int .i64 1, .string ⟨#[97]⟩, .int .i64 0] 39)).cell? ⟨w.heap.size, 1, none⟩ = some (.string ⟨#[97]⟩) := by simp [go_sem]
  have y2 : (w.alloc (.cells #[.int .i64 1, .string ⟨#[97]⟩, .int .i64 0] 39)).cell? ⟨w.heap.size, 2, none⟩ = some (.int .i64 0) := by simp [go_sem]
  have Y := Lib.hid (fun w1 (hb : Below (w.alloc (.cells #[.int .i64 1, .string ⟨#[97]⟩, .int .i64 0] 39)).heap.size (w.alloc (.cells #[.int .i64 1, .string ⟨#[97]⟩, .int .i64 0] 39)) w1) => (⟨by rw [hb.cell z0]; exact y0, by rw [hb.cell z0]; exact y1, by rw [hb.cell z0]; exact y2⟩ : w1.cell? ⟨w.heap.size, 0, none⟩ = some (.int .i64 1) ∧ w1.cell? ⟨w.heap.size, 1, none⟩ = some (.string ⟨#[97]⟩) ∧ w1.cell? ⟨w.heap.size, 2, none⟩ = some (.int .i64 0)))
  have TW := Lib.hid D0
  have N1 := newA (w.alloc (.cells #[.int .i64 1, .string ⟨#[97]⟩, .int .i64 0] 39))
  rw [show (w.alloc (.cells #[.int .i64 1, .string ⟨#[97]⟩, .int .i64 0] 39)).heap.size = w.heap.size + 1 by simp] at N1
  have D1 := Rw.below1 (w.alloc (.cells #[.int .i64 1, .string ⟨#[97]⟩, .int .i64 0] 39)) (.cells #[.int .i64 6, .string ⟨#[]⟩, .int .i64 0, .int .i64 1, .string ⟨#[97]⟩, .int .i64 0, .int .i64 5, .string ⟨#[]⟩, .int .i64 0, .int .i64 1, .string ⟨#[97]⟩, .int .i64 0, .int .i64 1, .string ⟨#[97]⟩, .int .i64 0] 39)
  have N := Lib.hid N1
  have T := Lib.hid D1
  clear N1 D1 C D0 z0
  go_enter Tryz.func6, Tryz.ntmps6
  go_wp2_with fail
  refine (oA.out _ _ N.out).mono ?_
  rintro e w1 ⟨rfl, hb⟩
  replace T := Lib.hid (T.out.trans (hb.mono T.out.size))
  replace N := Lib.hid (N.out.below hb)
  clear hb
  go_wp2_with fail
  refine (mA.out _ _ N.out).mono ?_
  rintro e w2 ⟨rfl, hb⟩
  replace T := Lib.hid (T.out.trans (hb.mono T.out.size))
  replace N := Lib.hid (N.out.below hb)
  clear hb
  go_wp2_with fail
  refine (lA.out _ _ N.out).mono ?_
  rintro e w3 ⟨rfl, hb⟩
  replace T := Lib.hid (T.out.trans (hb.mono T.out.size))
  replace N := Lib.hid (N.out.below hb)
  clear hb
  go_wp2_with fail
  refine (c2.out _ _ N.out).mono ?_
  rintro e w4 ⟨rfl, hb⟩
  replace T := Lib.hid (T.out.trans (hb.mono T.out.size))
  replace N := Lib.hid (N.out.below hb)
  clear hb
  go_wp2_with fail
  refine (c0.out _ _ N.out).mono ?_
  rintro e w5 ⟨rfl, hb⟩
  replace T := Lib.hid (T.out.trans (hb.mono T.out.size))
  replace N := Lib.hid (N.out.below hb)
  clear hb
  go_wp2_with fail
  refine (m3.out _ _ (cut3 N.out)).mono ?_
  rintro e w6 ⟨rfl, hb⟩
  replace T := Lib.hid (T.out.trans (hb.mono T.out.size))
  replace N := Lib.hid (N.out.below hb)
  clear hb
  obtain ⟨x0, x1, x2⟩ := Y.out _ T.out
  have hx := Rw.below1 w6 (.cells #[.int .i64 10, .string ⟨#[]⟩, .int .i64 0, .int .i64 1, .string ⟨#[97]⟩, .int .i64 0, .int .i64 1, .string ⟨#[97]⟩, .int .i64 0] 39)
  replace T := Lib.hid (T.out.trans (hx.mono T.out.size))
  clear hx
  go_wp2_with fail
  refine (mB.out _ _ (newB _)).mono ?_
  rintro e w7 ⟨rfl, hb⟩
  replace T := Lib.hid (T.out.trans (hb.mono T.out.size))
  clear hb N
  go_wp2_with fail
  go_ret
  exact ⟨rfl, TW.out.trans (T.out.mono TW.out.size)⟩
end Go.Proofs.YtpingbiibbmcaaaGreat.Co
