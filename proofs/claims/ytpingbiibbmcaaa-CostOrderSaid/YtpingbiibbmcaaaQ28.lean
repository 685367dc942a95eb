/- The program's ways: the map that it makes; always. What the laws of move ask of the program; few; MoveEnabled: the walks. The document's Next, Refuse, of any row and move. CostParts: the walk (gen_cor.py). The program's tree on any tree; Most, Least, Crashed; the contracts of package cost. -/
import Derived.Test.YtpingbiibbmcaaaQ27
import Derived.Test.YtpingbiibbmcaaaQ26
import Derived.Lib.LaidTab
import Derived.Test.YtpingbiibbmcaaaQ25
import Derived.Test.YtpingbiibbmcaaaQ11
import Derived.Test.YtpingbiibbmcaaaQ13

namespace Go.Proofs.Ytpingbiibbmcaaa.Me
open Go Go.RowKit Go.Maps Go.WideMaps Go.Proofs.Ytpingbiibbmcaaa.Rw Go.Proofs.Ytpingbiibbmcaaa.So Go.Proofs.Ytpingbiibbmcaaa.Se Go.Proofs.Ytpingbiibbmcaaa.Do
set_option maxRecDepth 20000

/-- The ways of a kind: how, and the function that tells when. -/
abbrev Wy := Int × Nat
def wcls : List Wy → List Value
  | [] => []
  | p :: l => .int .i64 p.1 :: .func (.func p.2) #[] #[] :: wcls l
theorem wcls_len : ∀ l : List Wy, (wcls l).length = l.length * 2
  | [] => rfl
  | p :: l => by simp [wcls, wcls_len l]; omega
theorem wcls_at : ∀ (l : List Wy) (k : Nat) (h : k < l.length), (wcls l)[k * 2]? = some (.int .i64 l[k].1) ∧ (wcls l)[k * 2 + 1]? = some (.func (.func l[k].2) #[] #[])
  | [], k, h => by simp at h
  | x :: l, 0, _ => ⟨rfl, rfl⟩
  | x :: l, k + 1, h => by
    have := wcls_at l k (by simpa using h)
    simpa [wcls, show (k + 1) * 2 = k * 2 + 1 + 1 by omega] using this
/-- A slice of ways that reads as these. -/
def Wys (w : World) (v : Value) (l : List Wy) : Prop := Ap.Rd w 2 v l.length (wcls l)
theorem Wys.below {w w' : World} {v : Value} {l : List Wy} (h : Wys w v l) (hb : Below w.heap.size w w') : Wys w' v l := Ap.Rd.below h hb
theorem wys_new (w : World) (l : List Wy) (ty : TypeId) : Wys (w.alloc (.cells (wcls l).toArray ty)) (.slice (some ⟨w.heap.size, 0, none⟩) l.length l.length) l := by
  refine ⟨wcls_len l, some ⟨w.heap.size, 0, none⟩, l.length, rfl, Nat.le_refl _, fun h => (by cases h), fun _ => ⟨w.heap.size, 0, rfl, fun j u hu => ?_⟩⟩
  rw [Nat.zero_add, World.cell?_alloc_new]
  simpa using hu
/-- What stands in the rows of a world stands while one other block, made since, is turned. -/
theorem Wys.grown {w w' : World} {b : Nat} {v : Value} {l : List Wy} (h : Wys w v l) (hg : w.grownBy w' (some b)) (hb : ∀ p c, v = .slice (some p) l.length c → p.block ≠ b) : Wys w' v l := by
  obtain ⟨hn, a, cap, rfl, hle, h0, hcell⟩ := h
  refine ⟨hn, a, cap, rfl, hle, h0, fun hp => ?_⟩
  obtain ⟨c, off, rfl, hj⟩ := hcell hp
  refine ⟨c, off, rfl, fun j u hu => ?_⟩
  have hc := hj j u hu
  exact hg.cell hc (fun e => hb _ _ rfl (Option.some.inj e))
/-- The ways of a kind, as the program tells them. -/
def wyF (v1 v6 v4 : Value) (k : Int) : Value := if k = 1 then v1 else if k = 6 then v6 else if k = 4 ∨ k = 10 then v4 else .slice none 0 0
theorem wd_all (v1 v6 v4 : Value) : WD (wyF v1 v6 v4) (((((DataW.map []).put (.int .i64 1) (.held v1)).put (.int .i64 6) (.held v6)).put (.int .i64 4) (.held v4)).put (.int .i64 10) (.held v4)) := by
  intro k
  have m0 : IsMap (DataW.map [] : DataW Value) := isMap_empty
  have m1 := m0.put (.int .i64 1) (.held v1)
  have m2 := m1.put (.int .i64 6) (.held v6)
  have m3 := m2.put (.int .i64 4) (.held v4)
  have ne : ∀ {a b : Int}, a ≠ b → (Lit.int .i64 a) ≠ .int .i64 b := fun h e => h (by injection e)
  unfold wyF
  by_cases h10 : k = 10
  · subst h10
    rw [atKey_put_same m3 (by simp [WideAt.IsKeyLit])]
    rfl
  · rw [atKey_put_other (ne h10)]
    by_cases h4 : k = 4
    · subst h4
      rw [atKey_put_same m2 (by simp [WideAt.IsKeyLit])]
      rfl
    · rw [atKey_put_other (ne h4)]
      by_cases h6 : k = 6
      · subst h6
        rw [atKey_put_same m1 (by simp [WideAt.IsKeyLit])]
        rfl
      · rw [atKey_put_other (ne h6)]
        by_cases h1 : k = 1
        · subst h1
          rw [atKey_put_same m0 (by simp [WideAt.IsKeyLit])]
          rfl
        · rw [atKey_put_other (ne h1), if_neg h1, if_neg h6, if_neg (by omega)]
          rfl
set_option maxHeartbeats 400000 in
theorem always_any (v : Value) (z : Int) (w : World) (n c : Nat) (a : Option Addr) (hv : v = .slice a n c) : Calls Try.prog 75 #[v, .int .i64 z] w fun e w' => e = .returned (.bool true) ∧ Below w.heap.size w w' := by
  subst hv
  go_enter Try.func75, Try.ntmps75
  go_wp2_with fail
  go_ret
  exact ⟨rfl, Below.refl _ _⟩
/-- While the map is made: the map, and rows of ways in other blocks. -/
def Gmw (w wr : World) (n : Nat) (D : DataW Value) (rows : List (Value × List Wy)) : Prop :=
  wr.ownsMap Try.prog 3 hE (w.heap.size + 1) n D ∧ Below w.heap.size w wr ∧ w.heap.size + 2 ≤ wr.heap.size ∧ ∀ r ∈ rows, Wys wr r.1 r.2 ∧ ∃ b c, r.1 = .slice (some ⟨b, 0, none⟩) r.2.length c ∧ b ≠ w.heap.size + 1
theorem Gmw.start (w : World) (L : List Wy) (ty : TypeId) : Gmw w ((w.alloc (.cells (wcls L).toArray ty)).alloc (.map #[] 0)) 0 (.map []) [(.slice (some ⟨w.heap.size, 0, none⟩) L.length L.length, L)] := by
  have h1 := below1 w (.cells (wcls L).toArray ty)
  have hs : (w.alloc (.cells (wcls L).toArray ty)).heap.size = w.heap.size + 1 := by simp
  refine ⟨?_, h1.alloc h1.size _, by simp, fun r hr => ?_⟩
  · rw [← hs]
    exact World.ownsMap_made _ _ _ _
  · obtain rfl := List.mem_singleton.1 hr
    exact ⟨(wys_new w L ty).below (below1 _ _), _, _, rfl, by omega⟩
theorem Gmw.add {w wr : World} {n : Nat} {D : DataW Value} {rows : List (Value × List Wy)} (h : Gmw w wr n D rows) (L : List Wy) (ty : TypeId) :
    Gmw w (wr.alloc (.cells (wcls L).toArray ty)) n D ((.slice (some ⟨wr.heap.size, 0, none⟩) L.length L.length, L) :: rows) := by
  obtain ⟨h1, h2, h3, h4⟩ := h
  refine ⟨h1.alloc _, h2.alloc h2.size _, by simp; omega, fun r hr => ?_⟩
  rcases List.mem_cons.1 hr with rfl | hr
  · exact ⟨wys_new wr L ty, _, _, rfl, by omega⟩
  · obtain ⟨k1, k2⟩ := h4 r hr
    exact ⟨k1.below (below1 _ _), k2⟩
theorem Gmw.set {w wr w1 : World} {n m : Nat} {D D' : DataW Value} {rows : List (Value × List Wy)} (h : Gmw w wr n D rows) (ho : w1.ownsMap Try.prog 3 hE (w.heap.size + 1) m D') (hg : wr.grownBy w1 (some (w.heap.size + 1))) : Gmw w w1 m D' rows := by
  obtain ⟨h1, h2, h3, h4⟩ := h
  refine ⟨ho, h2.grown hg h2.size (fun k hk => by injection hk with hk; omega), Nat.le_trans h3 hg.size, fun r hr => ?_⟩
  obtain ⟨k1, b, c, k2, k3⟩ := h4 r hr
  refine ⟨k1.grown hg (fun p c' e => ?_), b, c, k2, k3⟩
  rw [k2] at e
  injection e with e1 _ _
  injection e1 with e1
  rw [← e1]
  exact k3
theorem Gmw.ins {w wr : World} {n : Nat} {D : DataW Value} {rows : List (Value × List Wy)} (h : Gmw w wr n D rows) (hn : n < maxLen) (k : Int) (hk : (Lit.int .i64 k).wf = true) (v : Value) :
    ∃ w1, (Instr.mapUpdate 67 (.map (some (w.heap.size + 1))) (.int .i64 k) v).run Try.prog wr = .ok () w1 ∧ Gmw w w1 (n + 1) (D.put (.int .i64 k) (.held v)) rows := by
  obtain ⟨w1, h1, h2, h3⟩ := h.1.update lawI Try.underlying67 hn (keyI k hk) (ps := []) (show hE v = some (.held v, []) from rfl)
  exact ⟨w1, h1, h.set h2 h3⟩
set_option maxHeartbeats 2000000 in
theorem ways_any (w : World) :
    Calls Try.prog 48 #[] w fun e w' => ∃ b v1 v6 v4, e = .returned (.map (some b)) ∧ (∃ D, w'.ownsMap Try.prog 3 hE b 4 D ∧ WD (wyF v1 v6 v4) D) ∧
      Wys w' v1 [(1, 75)] ∧ Wys w' v6 [(2, 75), (3, 75)] ∧ Wys w' v4 [(4, 75), (5, 76)] ∧ Below w.heap.size w w' := by
  have hmm := @run_makeMap Try.prog
  have G0 := (Gmw.start w [(4, 75), (5, 76)] 70).add [(1, 75)] 70
  rw [show ((w.alloc (.cells (wcls [(4, 75), (5, 76)]).toArray 70)).alloc (.map #[] 0)).heap.size = w.heap.size + 1 + 1 by simp] at G0
  obtain ⟨w1, r1, G1⟩ := G0.ins (by decide) 1 (by decide) (.slice (some ⟨w.heap.size + 1 + 1, 0, none⟩) 1 1)
  obtain ⟨w2, r2, G2⟩ := (G1.add [(2, 75), (3, 75)] 70).ins (by decide) 6 (by decide) (.slice (some ⟨w1.heap.size, 0, none⟩) 2 2)
  obtain ⟨w3, r3, G3⟩ := G2.ins (by decide) 4 (by decide) (.slice (some ⟨w.heap.size, 0, none⟩) 2 2)
  obtain ⟨w4, r4, G4⟩ := G3.ins (by decide) 10 (by decide) (.slice (some ⟨w.heap.size, 0, none⟩) 2 2)
  change (Instr.mapUpdate 67 (.map (some (w.heap.size + 1))) (.int .i64 1) (.slice (some ⟨w.heap.size + 1 + 1, 0, none⟩) 1 1)).run Try.prog
    (((w.alloc (.cells #[.int .i64 4, .func (.func 75) #[] #[], .int .i64 5, .func (.func 76) #[] #[]] 70)).alloc (.map #[] 0)).alloc (.cells #[.int .i64 1, .func (.func 75) #[] #[]] 70)) = _ at r1
  change (Instr.mapUpdate 67 (.map (some (w.heap.size + 1))) (.int .i64 6) (.slice (some ⟨w1.heap.size, 0, none⟩) 2 2)).run Try.prog
    (w1.alloc (.cells #[.int .i64 2, .func (.func 75) #[] #[], .int .i64 3, .func (.func 75) #[] #[]] 70)) = _ at r2
  have HG := Lib.hid G4
  clear G0 G1 G2 G3 G4
  go_enter Try.func48, Try.ntmps48
  go_wp2_with fail
  go_ret
  obtain ⟨h1, h2, -, h4⟩ := HG.out
  refine ⟨_, .slice (some ⟨w.heap.size + 1 + 1, 0, none⟩) 1 1, .slice (some ⟨w1.heap.size, 0, none⟩) 2 2, .slice (some ⟨w.heap.size, 0, none⟩) 2 2, rfl, ⟨_, h1, wd_all _ _ _⟩, ?_, ?_, ?_, h2⟩
  · exact (h4 _ (List.mem_cons_of_mem _ (List.mem_cons_self ..))).1
  · exact (h4 _ (List.mem_cons_self ..)).1
  · exact (h4 _ (List.mem_cons_of_mem _ (List.mem_cons_of_mem _ (List.mem_cons_self ..)))).1
end Go.Proofs.Ytpingbiibbmcaaa.Me

namespace Go.Proofs.Ytpingbiibbmcaaa.Me
open Go Go.RowKit Go.Proofs.Ytpingbiibbmcaaa.Rw Go.Proofs.Ytpingbiibbmcaaa.So Go.Proofs.Ytpingbiibbmcaaa.Se Go.Proofs.Ytpingbiibbmcaaa.Do
set_option maxRecDepth 20000

end Go.Proofs.Ytpingbiibbmcaaa.Me

namespace Go.Proofs.Ytpingbiibbmcaaa.St
open Go Go.RowKit Go.Proofs.Ytpingbiibbmcaaa.Rw Go.Proofs.Ytpingbiibbmcaaa.So Go.Proofs.Ytpingbiibbmcaaa.Se Go.Proofs.Ytpingbiibbmcaaa.Do Go.Proofs.Ytpingbiibbmcaaa.Sp Go.Proofs.Ytpingbiibbmcaaa.Me
set_option maxRecDepth 20000

theorem nds_nil (w : World) : Nds w (.slice none 0 0) [] := ⟨rfl, none, 0, rfl, Nat.le_refl _, fun _ => ⟨rfl, rfl⟩, fun h => absurd h (Nat.lt_irrefl 0)⟩
end Go.Proofs.Ytpingbiibbmcaaa.St

namespace Go.Proofs.Ytpingbiibbmcaaa.Co
open Go Go.RowKit Go.Proofs.Ytpingbiibbmcaaa.Rw Go.Proofs.Ytpingbiibbmcaaa.So Go.Proofs.Ytpingbiibbmcaaa.Se Go.Proofs.Ytpingbiibbmcaaa.Do Go.Proofs.Ytpingbiibbmcaaa.Sp
set_option maxRecDepth 20000

theorem goes_two {ta tb : Tm} (ha : Goes ta) (hb : Goes tb) (h1 : is ta 1 = true) (h2 : is tb 1 = true) (hs : sz ta + sz tb + 1 ≤ 200) : Goes (.par ta tb) ∧ Goes (.seq ta tb) ∧ Goes (.alt ta tb) := by
  have i1 := (is13 ta).1 h1
  have i2 := (is13 tb).1 h2
  refine ⟨⟨by rw [rg_par, ha.1, hb.1]; rfl, by simp only [sz]; omega, .inl (by simp [is, i1, i2])⟩, ⟨by rw [rg_seq, ha.1, hb.1]; rfl, by simp only [sz]; omega, .inl (by simp [is, i1, h2])⟩, ⟨by rw [rg_alt, ha.1, hb.1]; rfl, by simp only [sz]; omega, .inl (by simp [is, h1, h2])⟩⟩
theorem one_is {t : Tm} (hg : Goes t) (h : of (flat t) = 1) : is t 1 = true := by
  rw [of_flat hg.1 hg.2.1] at h
  cases h1 : is t 1 with
  | true => rfl
  | false =>
    rw [h1] at h
    simp only [Bool.false_eq_true, if_false] at h
    split at h
    · omega
    · split at h
      · omega
      · split at h <;> omega
theorem nms_two {ta tb t : Tm} {k : Int} (e : flat t = ⟨k, ⟨#[]⟩, 0⟩ :: (flat ta ++ flat tb)) (ha : Nms (flat ta)) (hb : Nms (flat tb)) : Nms (flat t) := fun x hx => by
  rw [e] at hx
  rcases List.mem_cons.1 hx with rfl | hx
  · show (0 : Nat) ≤ _
    exact Nat.zero_le _
  · exact (List.mem_append.1 hx).elim (ha x) (hb x)
set_option maxHeartbeats 16000000 in
theorem parts_law (C : Con) (v u : Value) (a b : List Nd) (w : World) (hv : Nds w v a) (hu : Nds w u b) (hma : Nms a) (hmb : Nms b) : Calls Try.prog 6 #[v, u] w (Law w) := by
  have HF := Lib.hid (fewC_any v a w hv)
  have HG := Lib.hid (fewC_any u b w hu)
  have HA := Lib.hid (alive_of C)
  unfold Alive at HA
  have HV := Lib.hid (fun w1 (hb : Below w.heap.size w w1) => hv.below hb)
  have HU := Lib.hid (fun w1 (hb : Below w.heap.size w w1) => hu.below hb)
  obtain ⟨_, va, vc, rfl, -⟩ := hv
  obtain ⟨_, ua, uc, rfl, -⟩ := hu
  unfold Law
  cases hfa : fewC a with
  | false =>
    rw [hfa] at HF
    clear C hfa HV HU HG hma hmb
    go_enter Try.func6, Try.ntmps6
    go_wp2_with fail
    refine HF.out.mono ?_
    rintro e w1 ⟨rfl, rfl⟩
    go_wp2_with fail
    refine (HA.out _).mono ?_
    rintro e w9 ⟨rfl, hb9⟩
    have T9 := Lib.hid (hb9)
    clear hb9
    go_wp2_with fail
    go_ret
    exact ⟨rfl, T9.out⟩
  | true =>
  rw [hfa] at HF
  have hla := fewC_len hfa
  cases hfb : fewC b with
  | false =>
    rw [hfb] at HG
    clear C hfa hfb HV HU hma hmb hla
    go_enter Try.func6, Try.ntmps6
    go_wp2_with fail
    refine HF.out.mono ?_
    rintro e w1 ⟨rfl, rfl⟩
    go_wp2_with fail
    refine HG.out.mono ?_
    rintro e w1 ⟨rfl, rfl⟩
    go_wp2_with fail
    refine (HA.out _).mono ?_
    rintro e w9 ⟨rfl, hb9⟩
    have T9 := Lib.hid (hb9)
    clear hb9
    go_wp2_with fail
    go_ret
    exact ⟨rfl, T9.out⟩
  | true =>
  rw [hfb] at HG
  have hlb := fewC_len hfb
  have HOA := Lib.hid (Sx.ofP_any a _ w (HV.out w (Below.refl _ _)) (by omega) hma)
  have HOB := Lib.hid (fun w1 (hb : Below w.heap.size w w1) => Sx.ofP_any b _ w1 (HU.out w1 hb) (by omega) hmb)
  by_cases ha1 : of a = 1
  case neg =>
    obtain ⟨z, hz⟩ : ∃ z, of a = z := ⟨_, rfl⟩
    rw [hz] at HOA ha1
    have gz : ((z : Int) != 1) = true := bne_iff_ne.2 (by omega)
    clear C hfa hfb HV HU hma hmb hla hlb hz HOB
    go_enter Try.func6, Try.ntmps6
    go_wp2_with fail
    refine HF.out.mono ?_
    rintro e w1 ⟨rfl, rfl⟩
    go_wp2_with fail
    refine HG.out.mono ?_
    rintro e w1 ⟨rfl, rfl⟩
    go_wp2_with fail
    refine HOA.out.mono ?_
    rintro e w2 ⟨rfl, hb2⟩
    have T2 := Lib.hid hb2
    clear hb2
    go_wp2_with fail
    refine (HA.out _).mono ?_
    rintro e w9 ⟨rfl, hb9⟩
    have T9 := Lib.hid (T2.out.trans (hb9.mono T2.out.size))
    clear hb9
    go_wp2_with fail
    go_ret
    exact ⟨rfl, T9.out⟩
  rw [ha1] at HOA
  by_cases hb1 : of b = 1
  case neg =>
    obtain ⟨z, hz⟩ : ∃ z, of b = z := ⟨_, rfl⟩
    rw [hz] at HOB hb1
    have gz : ((z : Int) != 1) = true := bne_iff_ne.2 (by omega)
    clear C hfa hfb HV HU hma hmb hla hlb hz ha1
    go_enter Try.func6, Try.ntmps6
    go_wp2_with fail
    refine HF.out.mono ?_
    rintro e w1 ⟨rfl, rfl⟩
    go_wp2_with fail
    refine HG.out.mono ?_
    rintro e w1 ⟨rfl, rfl⟩
    go_wp2_with fail
    refine HOA.out.mono ?_
    rintro e w2 ⟨rfl, hb2⟩
    have T2 := Lib.hid hb2
    clear hb2
    go_wp2_with fail
    refine (HOB.out _ T2.out).mono ?_
    rintro e w3 ⟨rfl, hb3⟩
    have T3 := Lib.hid (T2.out.trans (hb3.mono T2.out.size))
    clear hb3
    go_wp2_with fail
    refine (HA.out _).mono ?_
    rintro e w9 ⟨rfl, hb9⟩
    have T9 := Lib.hid (T3.out.trans (hb9.mono T3.out.size))
    clear hb9
    go_wp2_with fail
    go_ret
    exact ⟨rfl, T9.out⟩
  rw [hb1] at HOB
  obtain ⟨ta, rfl, ga⟩ := goes_of (l := a) (by omega)
  obtain ⟨tb, rfl, gb⟩ := goes_of (l := b) (by omega)
  have i1 := one_is ga ha1
  have i2 := one_is gb hb1
  have z1 := ga.2.1
  have z2 := gb.2.1
  have la : (flat ta).length = sz ta := Se.flat_len ta
  have lb : (flat tb).length = sz tb := Se.flat_len tb
  rw [la] at hla
  rw [lb] at hlb
  have MP := Lib.hid (fun w1 (hb : Below w.heap.size w w1) => mkP2 w1.heap.size 7 0 (.par ta tb) ta tb rfl _ _ w1 22 (HV.out w1 hb) (HU.out w1 hb) (by simp only [sz]; omega) (Nat.le_refl _))
  have MS := Lib.hid (fun w1 (hb : Below w.heap.size w w1) => mkP2 w1.heap.size 5 0 (.seq ta tb) ta tb rfl _ _ w1 22 (HV.out w1 hb) (HU.out w1 hb) (by simp only [sz]; omega) (Nat.le_refl _))
  have MC := Lib.hid (fun w1 (hb : Below w.heap.size w w1) => mkP2 w1.heap.size 6 0 (.alt ta tb) ta tb rfl _ _ w1 22 (HV.out w1 hb) (HU.out w1 hb) (by simp only [sz]; omega) (Nat.le_refl _))
  unfold OutB at MP MS MC
  have lp : (flat (.par ta tb)).length = sz ta + sz tb + 1 := by rw [Se.flat_len]; rfl
  have ls : (flat (.seq ta tb)).length = sz ta + sz tb + 1 := by rw [Se.flat_len]; rfl
  have lc : (flat (.alt ta tb)).length = sz ta + sz tb + 1 := by rw [Se.flat_len]; rfl
  have NP := nms_two (t := .par ta tb) (k := 7) rfl hma hmb
  have NS := nms_two (t := .seq ta tb) (k := 5) rfl hma hmb
  have NC := nms_two (t := .alt ta tb) (k := 6) rfl hma hmb
  by_cases hlen : 200 < sz ta + sz tb + 1
  · have HM := Lib.hid (fun y w1 (h : Nds w1 y (flat (.par ta tb))) => C.mo y (flat (.par ta tb)) w1 h (by omega) NP)
    rw [show cr false (flat (.par ta tb)) = 0 from cr_no _ (by
      by_cases h : of (flat (.par ta tb)) = 0
      · exact h
      · obtain ⟨q, e, hq⟩ := goes_of h
        have := hq.2.1
        rw [← Se.flat_len, e, lp] at this
        omega)] at HM
    unfold NumP at HM
    have hgt : (200 : Int) < ((flat (.par ta tb)).length : Int) := by omega
    clear NP NS NC ga gb i1 i2 z1 z2 hma hmb hfa hfb ha1 hb1 hlen C HV HU lp ls lc la lb hla hlb
    go_enter Try.func6, Try.ntmps6
    go_wp2_with fail
    refine HF.out.mono ?_
    rintro e w1 ⟨rfl, rfl⟩
    go_wp2_with fail
    refine HG.out.mono ?_
    rintro e w1 ⟨rfl, rfl⟩
    go_wp2_with fail
    refine HOA.out.mono ?_
    rintro e w2 ⟨rfl, hb2⟩
    have T2 := Lib.hid hb2
    clear hb2
    go_wp2_with fail
    refine (HOB.out _ T2.out).mono ?_
    rintro e w3 ⟨rfl, hb3⟩
    have T3 := Lib.hid (T2.out.trans (hb3.mono T2.out.size))
    clear hb3
    go_wp2_with fail
    refine (MP.out _ T3.out).mono ?_
    rintro e w4 ⟨y4, rfl, hn4, hb4⟩
    have T4 := Lib.hid (T3.out.trans (hb4.mono T3.out.size))
    have P4 := hn4.nds
    obtain ⟨_, pa, pc, rfl, -⟩ := id P4
    have PP := Lib.hid (fun w1 (h : Below w4.heap.size w4 w1) => P4.below h)
    clear hb4 hn4 P4
    go_wp2_with fail
    refine (MS.out _ T4.out).mono ?_
    rintro e w5 ⟨y5, rfl, hn5, hb5⟩
    have T5 := Lib.hid (T4.out.trans (hb5.mono T4.out.size))
    have V5 := Lib.hid hb5
    have P5 := hn5.nds
    obtain ⟨_, sa, sc, rfl, -⟩ := id P5
    have PS := Lib.hid (fun w1 (h : Below w5.heap.size w5 w1) => P5.below h)
    clear hb5 hn5 P5
    go_wp2_with fail
    refine (MC.out _ T5.out).mono ?_
    rintro e w6 ⟨y6, rfl, hn6, hb6⟩
    have T6 := Lib.hid (T5.out.trans (hb6.mono T5.out.size))
    have V6 := Lib.hid hb6
    have P6 := hn6.nds
    obtain ⟨_, ca, cc, rfl, -⟩ := id P6
    have PC := Lib.hid (fun w1 (h : Below w6.heap.size w6 w1) => P6.below h)
    have U6 := Lib.hid (V5.out.trans (V6.out.mono V5.out.size))
    clear hb6 hn6 P6
    go_wp2_with fail
    refine (HA.out _).mono ?_
    rintro e w7 ⟨rfl, hb7⟩
    have X := Lib.hid hb7
    clear hb7
    go_wp2_with fail
    refine (HM.out _ _ (PP.out _ (U6.out.trans (X.out.mono U6.out.size)))).mono ?_
    rintro e w8 ⟨rfl, hb8⟩
    have T8 := Lib.hid ((T6.out.trans (X.out.mono T6.out.size)).trans (hb8.mono (Nat.le_trans T6.out.size X.out.size)))
    clear hb8
    go_wp2_with fail
    go_ret
    exact ⟨rfl, T8.out⟩
  · obtain ⟨gp, gs, gc⟩ := goes_two ga gb i1 i2 (by omega)
    have hle := fun f (t : Tm) => cst_sz f t
    have MA := Lib.hid (fun w1 (hb : Below w.heap.size w w1) => C.mo _ (flat ta) w1 (HV.out w1 hb) (by omega) hma)
    have MB := Lib.hid (fun w1 (hb : Below w.heap.size w w1) => C.mo _ (flat tb) w1 (HU.out w1 hb) (by omega) hmb)
    have LA := Lib.hid (fun w1 (hb : Below w.heap.size w w1) => C.le _ (flat ta) w1 (HV.out w1 hb) (by omega) hma)
    have LB := Lib.hid (fun w1 (hb : Below w.heap.size w w1) => C.le _ (flat tb) w1 (HU.out w1 hb) (by omega) hmb)
    have OA := Lib.hid (fun w1 (hb : Below w.heap.size w w1) => C.of _ (flat ta) w1 (HV.out w1 hb) (by omega))
    have OB := Lib.hid (fun w1 (hb : Below w.heap.size w w1) => C.of _ (flat tb) w1 (HU.out w1 hb) (by omega))
    have MP_ := Lib.hid (fun y w1 (h : Nds w1 y (flat (.par ta tb))) => C.mo y _ w1 h (by omega) NP)
    have MS_ := Lib.hid (fun y w1 (h : Nds w1 y (flat (.seq ta tb))) => C.mo y _ w1 h (by omega) NS)
    have MC_ := Lib.hid (fun y w1 (h : Nds w1 y (flat (.alt ta tb))) => C.mo y _ w1 h (by omega) NC)
    have LS := Lib.hid (fun y w1 (h : Nds w1 y (flat (.seq ta tb))) => C.le y _ w1 h (by omega) NS)
    have LC := Lib.hid (fun y w1 (h : Nds w1 y (flat (.alt ta tb))) => C.le y _ w1 h (by omega) NC)
    have OC := Lib.hid (fun y w1 (h : Nds w1 y (flat (.alt ta tb))) => C.of y _ w1 h (by omega))
    have a1 := hle false ta
    have a2 := hle false tb
    have a3 := hle true ta
    have a4 := hle true tb
    have a5 := chR_len (flat ta)
    have a6 := chR_len (flat tb)
    rw [cr_go _ ga] at MA LA
    rw [cr_go _ gb] at MB LB
    rw [cr_go _ gp] at MP_
    rw [cr_go _ gs] at MS_ LS
    rw [cr_go _ gc] at MC_ LC
    rw [show chR (flat (.alt ta tb)) = chR (flat ta) + chR (flat tb) + 1 by rw [chR_flat, chR_flat, chR_flat]; exact ch_alt ta tb] at OC
    rw [show cst false (.par ta tb) = cst false ta + cst false tb from rfl] at MP_
    rw [show cst false (.seq ta tb) = cst false ta + cst false tb from rfl] at MS_
    rw [show cst true (.seq ta tb) = cst true ta + cst true tb from rfl] at LS
    rw [show cst false (.alt ta tb) = 1 + max (cst false ta) (cst false tb) from rfl] at MC_
    rw [show cst true (.alt ta tb) = 1 + min (cst true ta) (cst true tb) from rfl] at LC
    unfold NumP at *
    have hgt : ¬ (200 : Int) < ((flat (.par ta tb)).length : Int) := by omega
    generalize cst false ta = x1 at *
    generalize cst false tb = y1 at *
    generalize cst true ta = x0 at *
    generalize cst true tb = y0 at *
    rw [la] at a5
    rw [lb] at a6
    generalize chR (flat ta) = ca0 at *
    generalize chR (flat tb) = cb0 at *
    have b1 : x1 ≤ 200 := by omega
    have b2 : y1 ≤ 200 := by omega
    have b3 : x0 ≤ 200 := by omega
    have b4 : y0 ≤ 200 := by omega
    have b5 : ca0 ≤ 200 := by omega
    have b6 : cb0 ≤ 200 := by omega
    obtain ⟨mx, hmx⟩ : ∃ m, max x1 y1 = m := ⟨_, rfl⟩
    obtain ⟨mn, hmn⟩ : ∃ m, min x0 y0 = m := ⟨_, rfl⟩
    rw [hmx] at MC_
    rw [hmn] at LC
    have c1 : (if (x1 : Int) < y1 then (y1 : Int) else x1) = mx := by split <;> omega
    have c2 : (if (y0 : Int) < x0 then (y0 : Int) else x0) = mn := by split <;> omega
    have b7 : mx ≤ 200 := by omega
    have b8 : mn ≤ 200 := by omega
    clear NP NS NC ga gb i1 i2 z1 z2 hma hmb hfa hfb ha1 hb1 hlen C a1 a2 a3 a4 a5 a6 hle gp gs gc hmx hmn HV HU lp ls lc la lb hla hlb
    go_enter Try.func6, Try.ntmps6
    go_wp2_with fail
    refine HF.out.mono ?_
    rintro e w1 ⟨rfl, rfl⟩
    go_wp2_with fail
    refine HG.out.mono ?_
    rintro e w1 ⟨rfl, rfl⟩
    go_wp2_with fail
    refine HOA.out.mono ?_
    rintro e w2 ⟨rfl, hb2⟩
    have T2 := Lib.hid hb2
    clear hb2
    go_wp2_with fail
    refine (HOB.out _ T2.out).mono ?_
    rintro e w3 ⟨rfl, hb3⟩
    have T3 := Lib.hid (T2.out.trans (hb3.mono T2.out.size))
    clear hb3
    go_wp2_with fail
    refine (MP.out _ T3.out).mono ?_
    rintro e w4 ⟨y4, rfl, hn4, hb4⟩
    have T4 := Lib.hid (T3.out.trans (hb4.mono T3.out.size))
    have P4 := hn4.nds
    obtain ⟨_, pa, pc, rfl, -⟩ := id P4
    have PP := Lib.hid (fun w1 (h : Below w4.heap.size w4 w1) => P4.below h)
    clear hb4 hn4 P4
    go_wp2_with fail
    refine (MS.out _ T4.out).mono ?_
    rintro e w5 ⟨y5, rfl, hn5, hb5⟩
    have T5 := Lib.hid (T4.out.trans (hb5.mono T4.out.size))
    have V5 := Lib.hid hb5
    have P5 := hn5.nds
    obtain ⟨_, sa, sc, rfl, -⟩ := id P5
    have PS := Lib.hid (fun w1 (h : Below w5.heap.size w5 w1) => P5.below h)
    clear hb5 hn5 P5
    go_wp2_with fail
    refine (MC.out _ T5.out).mono ?_
    rintro e w6 ⟨y6, rfl, hn6, hb6⟩
    have T6 := Lib.hid (T5.out.trans (hb6.mono T5.out.size))
    have V6 := Lib.hid hb6
    have P6 := hn6.nds
    obtain ⟨_, ca, cc, rfl, -⟩ := id P6
    have PC := Lib.hid (fun w1 (h : Below w6.heap.size w6 w1) => P6.below h)
    have U6 := Lib.hid (V5.out.trans (V6.out.mono V5.out.size))
    clear hb6 hn6 P6
    go_wp2_with fail
    refine (HA.out _).mono ?_
    rintro e w7 ⟨rfl, hb7⟩
    have X := Lib.hid hb7
    clear hb7
    have Z := Lib.hid (T6.out.trans (X.out.mono T6.out.size))
    have ZP := Lib.hid (U6.out.trans (X.out.mono U6.out.size))
    have ZS := Lib.hid (V6.out.trans (X.out.mono V6.out.size))
    clear T2 T3 T4 T5 T6 V5 V6 U6
    go_wp2_with fail
    refine (MP_.out _ _ (PP.out _ ZP.out)).mono ?_
    rintro e w8 ⟨rfl, hb8⟩
    replace Z := Lib.hid (Z.out.trans (hb8.mono Z.out.size))
    replace ZP := Lib.hid (ZP.out.trans (hb8.mono ZP.out.size))
    replace ZS := Lib.hid (ZS.out.trans (hb8.mono ZS.out.size))
    replace X := Lib.hid (X.out.trans (hb8.mono X.out.size))
    clear hb8
    go_wp2_with fail
    refine (MA.out _ Z.out).mono ?_
    rintro e w8 ⟨rfl, hb8⟩
    replace Z := Lib.hid (Z.out.trans (hb8.mono Z.out.size))
    replace ZP := Lib.hid (ZP.out.trans (hb8.mono ZP.out.size))
    replace ZS := Lib.hid (ZS.out.trans (hb8.mono ZS.out.size))
    replace X := Lib.hid (X.out.trans (hb8.mono X.out.size))
    clear hb8
    go_wp2_with fail
    refine (MB.out _ Z.out).mono ?_
    rintro e w8 ⟨rfl, hb8⟩
    replace Z := Lib.hid (Z.out.trans (hb8.mono Z.out.size))
    replace ZP := Lib.hid (ZP.out.trans (hb8.mono ZP.out.size))
    replace ZS := Lib.hid (ZS.out.trans (hb8.mono ZS.out.size))
    replace X := Lib.hid (X.out.trans (hb8.mono X.out.size))
    clear hb8
    go_wp2_with fail
    refine (MS_.out _ _ (PS.out _ ZS.out)).mono ?_
    rintro e w8 ⟨rfl, hb8⟩
    replace Z := Lib.hid (Z.out.trans (hb8.mono Z.out.size))
    replace ZP := Lib.hid (ZP.out.trans (hb8.mono ZP.out.size))
    replace ZS := Lib.hid (ZS.out.trans (hb8.mono ZS.out.size))
    replace X := Lib.hid (X.out.trans (hb8.mono X.out.size))
    clear hb8
    go_wp2_with fail
    refine (MP_.out _ _ (PP.out _ ZP.out)).mono ?_
    rintro e w8 ⟨rfl, hb8⟩
    replace Z := Lib.hid (Z.out.trans (hb8.mono Z.out.size))
    replace ZP := Lib.hid (ZP.out.trans (hb8.mono ZP.out.size))
    replace ZS := Lib.hid (ZS.out.trans (hb8.mono ZS.out.size))
    replace X := Lib.hid (X.out.trans (hb8.mono X.out.size))
    clear hb8
    go_wp2_with fail
    refine (LS.out _ _ (PS.out _ ZS.out)).mono ?_
    rintro e w8 ⟨rfl, hb8⟩
    replace Z := Lib.hid (Z.out.trans (hb8.mono Z.out.size))
    replace ZP := Lib.hid (ZP.out.trans (hb8.mono ZP.out.size))
    replace ZS := Lib.hid (ZS.out.trans (hb8.mono ZS.out.size))
    replace X := Lib.hid (X.out.trans (hb8.mono X.out.size))
    clear hb8
    go_wp2_with fail
    refine (LA.out _ Z.out).mono ?_
    rintro e w8 ⟨rfl, hb8⟩
    replace Z := Lib.hid (Z.out.trans (hb8.mono Z.out.size))
    replace ZP := Lib.hid (ZP.out.trans (hb8.mono ZP.out.size))
    replace ZS := Lib.hid (ZS.out.trans (hb8.mono ZS.out.size))
    replace X := Lib.hid (X.out.trans (hb8.mono X.out.size))
    clear hb8
    go_wp2_with fail
    refine (LB.out _ Z.out).mono ?_
    rintro e w8 ⟨rfl, hb8⟩
    replace Z := Lib.hid (Z.out.trans (hb8.mono Z.out.size))
    replace ZP := Lib.hid (ZP.out.trans (hb8.mono ZP.out.size))
    replace ZS := Lib.hid (ZS.out.trans (hb8.mono ZS.out.size))
    replace X := Lib.hid (X.out.trans (hb8.mono X.out.size))
    clear hb8
    go_wp2_with fail
    refine (MC_.out _ _ (PC.out _ X.out)).mono ?_
    rintro e w8 ⟨rfl, hb8⟩
    replace Z := Lib.hid (Z.out.trans (hb8.mono Z.out.size))
    replace ZP := Lib.hid (ZP.out.trans (hb8.mono ZP.out.size))
    replace ZS := Lib.hid (ZS.out.trans (hb8.mono ZS.out.size))
    replace X := Lib.hid (X.out.trans (hb8.mono X.out.size))
    clear hb8
    all_goals go_wp2_with fail
    all_goals refine (MA.out _ Z.out).mono ?_
    all_goals rintro e w8 ⟨rfl, hb8⟩
    all_goals replace Z := Lib.hid (Z.out.trans (hb8.mono Z.out.size))
    all_goals replace ZP := Lib.hid (ZP.out.trans (hb8.mono ZP.out.size))
    all_goals replace ZS := Lib.hid (ZS.out.trans (hb8.mono ZS.out.size))
    all_goals replace X := Lib.hid (X.out.trans (hb8.mono X.out.size))
    all_goals clear hb8
    all_goals go_wp2_with fail
    all_goals refine (MB.out _ Z.out).mono ?_
    all_goals rintro e w8 ⟨rfl, hb8⟩
    all_goals replace Z := Lib.hid (Z.out.trans (hb8.mono Z.out.size))
    all_goals replace ZP := Lib.hid (ZP.out.trans (hb8.mono ZP.out.size))
    all_goals replace ZS := Lib.hid (ZS.out.trans (hb8.mono ZS.out.size))
    all_goals replace X := Lib.hid (X.out.trans (hb8.mono X.out.size))
    all_goals clear hb8
    all_goals go_wp2_with fail
    all_goals refine (LC.out _ _ (PC.out _ X.out)).mono ?_
    all_goals rintro e w8 ⟨rfl, hb8⟩
    all_goals replace Z := Lib.hid (Z.out.trans (hb8.mono Z.out.size))
    all_goals replace ZP := Lib.hid (ZP.out.trans (hb8.mono ZP.out.size))
    all_goals replace ZS := Lib.hid (ZS.out.trans (hb8.mono ZS.out.size))
    all_goals replace X := Lib.hid (X.out.trans (hb8.mono X.out.size))
    all_goals clear hb8
    all_goals go_wp2_with fail
    all_goals refine (LA.out _ Z.out).mono ?_
    all_goals rintro e w8 ⟨rfl, hb8⟩
    all_goals replace Z := Lib.hid (Z.out.trans (hb8.mono Z.out.size))
    all_goals replace ZP := Lib.hid (ZP.out.trans (hb8.mono ZP.out.size))
    all_goals replace ZS := Lib.hid (ZS.out.trans (hb8.mono ZS.out.size))
    all_goals replace X := Lib.hid (X.out.trans (hb8.mono X.out.size))
    all_goals clear hb8
    all_goals go_wp2_with fail
    all_goals refine (LB.out _ Z.out).mono ?_
    all_goals rintro e w8 ⟨rfl, hb8⟩
    all_goals replace Z := Lib.hid (Z.out.trans (hb8.mono Z.out.size))
    all_goals replace ZP := Lib.hid (ZP.out.trans (hb8.mono ZP.out.size))
    all_goals replace ZS := Lib.hid (ZS.out.trans (hb8.mono ZS.out.size))
    all_goals replace X := Lib.hid (X.out.trans (hb8.mono X.out.size))
    all_goals clear hb8
    all_goals go_wp2_with fail
    all_goals refine (OC.out _ _ (PC.out _ X.out)).mono ?_
    all_goals rintro e w8 ⟨rfl, hb8⟩
    all_goals replace Z := Lib.hid (Z.out.trans (hb8.mono Z.out.size))
    all_goals replace ZP := Lib.hid (ZP.out.trans (hb8.mono ZP.out.size))
    all_goals replace ZS := Lib.hid (ZS.out.trans (hb8.mono ZS.out.size))
    all_goals replace X := Lib.hid (X.out.trans (hb8.mono X.out.size))
    all_goals clear hb8
    all_goals go_wp2_with fail
    all_goals refine (OA.out _ Z.out).mono ?_
    all_goals rintro e w8 ⟨rfl, hb8⟩
    all_goals replace Z := Lib.hid (Z.out.trans (hb8.mono Z.out.size))
    all_goals replace ZP := Lib.hid (ZP.out.trans (hb8.mono ZP.out.size))
    all_goals replace ZS := Lib.hid (ZS.out.trans (hb8.mono ZS.out.size))
    all_goals replace X := Lib.hid (X.out.trans (hb8.mono X.out.size))
    all_goals clear hb8
    all_goals go_wp2_with fail
    all_goals refine (OB.out _ Z.out).mono ?_
    all_goals rintro e w8 ⟨rfl, hb8⟩
    all_goals replace Z := Lib.hid (Z.out.trans (hb8.mono Z.out.size))
    all_goals replace ZP := Lib.hid (ZP.out.trans (hb8.mono ZP.out.size))
    all_goals replace ZS := Lib.hid (ZS.out.trans (hb8.mono ZS.out.size))
    all_goals replace X := Lib.hid (X.out.trans (hb8.mono X.out.size))
    all_goals clear hb8
    all_goals go_wp2_with fail
    all_goals go_ret
    all_goals exact ⟨Rw.ret_bool (beq_iff_eq.2 (by omega)), Z.out⟩
end Go.Proofs.Ytpingbiibbmcaaa.Co

namespace Go.Proofs.Ytpingbiibbmcaaa.Co
open Go Go.RowKit Go.Proofs.Ytpingbiibbmcaaa.Rw Go.Proofs.Ytpingbiibbmcaaa.So Go.Proofs.Ytpingbiibbmcaaa.Se Go.Proofs.Ytpingbiibbmcaaa.Do Go.Proofs.Ytpingbiibbmcaaa.Sp
set_option maxRecDepth 20000

theorem tells (t : Tm) (IH : Wpt t) (b : Bool) (B : Nat) (w0 : World) (hB : w0.cell? ⟨B, 0, none⟩ = some (fnV (fb b))) : Tells #[.pointer (some ⟨B, 0, none⟩)] w0 (flat t) (cst b t) := fun y w1 hb hn =>
  clos_any t IH b B y w1 hn (by rw [hb.cell (Ap.cell_lt hB)]; exact hB)
theorem tree0 (t : Tm) (hk : kids (flat t) = []) (hc : ∀ b, cst b t = ow (kd t)) (hs : sz t ≤ 400) : Wpt t := fun v w b hv => by
  rw [hc b]
  exact tree_core t [] 0 b v w hv hs hk (by omega) fun B y w1 hr _ => joinT0 _ _ y w1 hr
theorem tree1 (t a : Tm) (IH : Wpt a) (hk : kids (flat t) = [flat a]) (hc : ∀ b, cst b t = ow (kd t) + cst b a) (hs : sz t ≤ 400) (ha : sz a ≤ 400) : Wpt t := fun v w b hv => by
  rw [hc b]
  exact tree_core t [flat a] (cst b a) b v w hv hs hk (by have := cst_sz b a; omega) fun B y w1 hr hB => joinT1 _ _ y w1 (flat a) _ hr (tells a IH b B w1 hB)
theorem tg_pf (k : Int) (b : Bool) : Pf (tg k (fb b)) := by
  unfold tg
  split
  · exact fb_pf b
  · exact .inl rfl
theorem pt_le (f x z : Nat) : pt f x z ≤ x + z := by
  unfold pt
  split
  · omega
  · split <;> omega
theorem tree2 (t a d : Tm) (IA : Wpt a) (ID : Wpt d) (hk : kids (flat t) = [flat a, flat d]) (hc : ∀ b, cst b t = ow (kd t) + pt (tg (kd t) (fb b)) (cst b a) (cst b d)) (hs : sz t ≤ 400) (ha : sz a ≤ 400) (hd : sz d ≤ 400) : Wpt t := fun v w b hv => by
  rw [hc b]
  have h1 := cst_sz b a
  have h2 := cst_sz b d
  have h3 := pt_le (tg (kd t) (fb b)) (cst b a) (cst b d)
  exact tree_core t [flat a, flat d] _ b v w hv hs hk (by omega) fun B y w1 hr hB => joinT2 _ (tg_pf _ _) _ y w1 (flat a) (flat d) _ _ (by omega) (by omega) hr (tells a IA b B w1 hB) (tells d ID b B w1 hB)
theorem treeP_any : ∀ t : Tm, sz t ≤ 400 → Wpt t := by
  intro t
  induction t with
  | act s => intro h; exact tree0 _ rfl (fun b => by cases b <;> rfl) h
  | skip => intro h; exact tree0 _ rfl (fun b => by cases b <;> rfl) h
  | throw => intro h; exact tree0 _ rfl (fun b => by cases b <;> rfl) h
  | yield => intro h; exact tree0 _ rfl (fun b => by cases b <;> rfl) h
  | over s => intro h; exact tree0 _ rfl (fun b => by cases b <;> rfl) h
  | fin s c ic => intro h; simp only [sz] at h; exact tree1 _ c (ic (by omega)) (kids_fin s c) (fun b => by cases b <;> (show _ = 0 + _; rw [Nat.zero_add]; rfl)) (by simp only [sz]; omega) (by omega)
  | block a ia => intro h; simp only [sz] at h; exact tree1 _ a (ia (by omega)) (kids_block a) (fun b => by cases b <;> (show _ = 0 + _; rw [Nat.zero_add]; rfl)) (by simp only [sz]; omega) (by omega)
  | seq a d ia id' => intro h; simp only [sz] at h; exact tree2 _ a d (ia (by omega)) (id' (by omega)) (kids_seq a d) (fun b => by cases b <;> (show _ = 0 + _; rw [Nat.zero_add]; rfl)) (by simp only [sz]; omega) (by omega) (by omega)
  | par a d ia id' => intro h; simp only [sz] at h; exact tree2 _ a d (ia (by omega)) (id' (by omega)) (kids_par a d) (fun b => by cases b <;> (show _ = 0 + _; rw [Nat.zero_add]; rfl)) (by simp only [sz]; omega) (by omega) (by omega)
  | hand a d ia id' => intro h; simp only [sz] at h; exact tree2 _ a d (ia (by omega)) (id' (by omega)) (kids_hand a d) (fun b => by cases b <;> (show _ = 0 + _; rw [Nat.zero_add]; rfl)) (by simp only [sz]; omega) (by omega) (by omega)
  | going a d ia id' => intro h; simp only [sz] at h; exact tree2 _ a d (ia (by omega)) (id' (by omega)) (kids_going a d) (fun b => by cases b <;> (show _ = 0 + _; rw [Nat.zero_add]; rfl)) (by simp only [sz]; omega) (by omega) (by omega)
  | stack a d ia id' => intro h; simp only [sz] at h; exact tree2 _ a d (ia (by omega)) (id' (by omega)) (kids_stack a d) (fun b => by cases b <;> (show _ = 0 + _; rw [Nat.zero_add]; rfl)) (by simp only [sz]; omega) (by omega) (by omega)
  | alt a d ia id' => intro h; simp only [sz] at h; exact tree2 _ a d (ia (by omega)) (id' (by omega)) (kids_alt a d) (fun b => by cases b <;> rfl) (by simp only [sz]; omega) (by omega) (by omega)
  | pair a d ia id' => intro h; simp only [sz] at h; exact tree2 _ a d (ia (by omega)) (id' (by omega)) (kids_pair a d) (fun b => by cases b <;> (show _ = 1 + (_ + _); rw [Nat.add_comm]; rfl)) (by simp only [sz]; omega) (by omega) (by omega)
set_option maxHeartbeats 1000000 in
theorem onP_any (b : Bool) (v : Value) (l : List Nd) (w : World) (hv : Nds w v l) (hl : l.length ≤ 1000) (hm : Nms l) : Calls Try.prog 27 #[v, fnV (fb b)] w (NumP (cr b l : Nat) w) := by
  have HO := Lib.hid (Sx.ofP_any l v w hv hl hm)
  unfold NumP
  by_cases h0 : of l = 0
  · rw [h0] at HO
    rw [cr_no b h0]
    generalize fb b = ff
    obtain ⟨_, a, c, rfl, -⟩ := hv
    clear h0 hm
    go_enter Try.func27, Try.ntmps27
    go_wp2_with fail
    refine HO.out.mono ?_
    rintro e w1 ⟨rfl, hb⟩
    have B := Lib.hid hb
    clear hb
    go_wp2_with fail
    go_ret
    exact ⟨rfl, B.out⟩
  · obtain ⟨t, rfl, hg⟩ := goes_of h0
    rw [cr_go b hg]
    have HT := Lib.hid (fun w1 (hb : Below w.heap.size w w1) => treeP_any t (by have := hg.2.1; omega) v w1 b (hv.below hb))
    unfold NumP at HT
    have g0 : ((of (flat t) : Int) == 0) = false := beq_eq_false_iff_ne.2 (by omega)
    generalize cst b t = z at HT ⊢
    generalize of (flat t) = oo at HO g0
    generalize fb b = ff at *
    obtain ⟨_, a, c, rfl, -⟩ := hv
    clear h0 hm hg
    go_enter Try.func27, Try.ntmps27
    go_wp2_with fail
    refine HO.out.mono ?_
    rintro e w1 ⟨rfl, hb⟩
    have B := Lib.hid hb
    clear hb
    go_wp2_with fail
    refine (HT.out _ B.out).mono ?_
    rintro e w2 ⟨rfl, hb⟩
    have B2 := Lib.hid (B.out.trans (hb.mono B.out.size))
    clear hb
    go_wp2_with fail
    go_ret
    exact ⟨rfl, B2.out⟩
set_option maxHeartbeats 1000000 in
theorem mostP_any (v : Value) (l : List Nd) (w : World) (hv : Nds w v l) (hl : l.length ≤ 1000) (hm : Nms l) : Calls Try.prog 11 #[v] w (NumP (cr false l : Nat) w) := by
  have HJ := Lib.hid (onP_any false v l w hv hl hm)
  rw [show fb false = 28 from rfl] at HJ
  unfold NumP at *
  generalize cr false l = z at HJ ⊢
  obtain ⟨_, a, c, rfl, -⟩ := hv
  go_enter Try.func11, Try.ntmps11
  go_wp2_with fail
  refine HJ.out.mono ?_
  rintro e w1 ⟨rfl, hb⟩
  have B := Lib.hid hb
  clear hb
  go_wp2_with fail
  go_ret
  exact ⟨rfl, B.out⟩
set_option maxHeartbeats 1000000 in
theorem leastP_any (v : Value) (l : List Nd) (w : World) (hv : Nds w v l) (hl : l.length ≤ 1000) (hm : Nms l) : Calls Try.prog 13 #[v] w (NumP (cr true l : Nat) w) := by
  have HJ := Lib.hid (onP_any true v l w hv hl hm)
  rw [show fb true = 31 from rfl] at HJ
  unfold NumP at *
  generalize cr true l = z at HJ ⊢
  obtain ⟨_, a, c, rfl, -⟩ := hv
  go_enter Try.func13, Try.ntmps13
  go_wp2_with fail
  refine HJ.out.mono ?_
  rintro e w1 ⟨rfl, hb⟩
  have B := Lib.hid hb
  clear hb
  go_wp2_with fail
  go_ret
  exact ⟨rfl, B.out⟩
set_option maxHeartbeats 1000000 in
theorem crashP_any (v : Value) (l : List Nd) (n : Int) (w : World) (hv : Nds w v l) (hl : l.length ≤ 1000) :
    Calls Try.prog 15 #[v, .int .i64 n] w (NumP (crash l n) w) := by
  have HO := Lib.hid (ofP_cost v l w hv hl)
  unfold NumP at *
  have hc := chR_len l
  obtain ⟨_, a, c, rfl, -⟩ := id hv
  have HX : Hid (crash l n = if n < 0 ∨ n > 1048576 ∨ l.length > 200 then 0 else ((chR l : Int) + 1) * (n + 1)) := Lib.hid rfl
  generalize chR l = z at HO HX hc
  by_cases h1 : n < 0
  · have HR : Hid (crash l n = 0) := Lib.hid (by rw [HX.out, if_pos (.inl h1)])
    have d1 : decide (n < 0) = true := decide_eq_true h1
    clear hv hc
    go_enter Try.func15, Try.ntmps15
    go_wp2_with fail
    go_ret
    exact ⟨ret_int HR.out.symm, Below.refl _ _⟩
  by_cases h2 : n > 1048576
  · have HR : Hid (crash l n = 0) := Lib.hid (by rw [HX.out, if_pos (.inr (.inl h2))])
    clear hv hc
    go_enter Try.func15, Try.ntmps15
    go_wp2_with fail
    go_ret
    exact ⟨ret_int HR.out.symm, Below.refl _ _⟩
  by_cases h3 : l.length > 200
  · have HR : Hid (crash l n = 0) := Lib.hid (by rw [HX.out, if_pos (.inr (.inr h3))])
    have h3' : (200 : Int) < (l.length : Int) := by omega
    clear hv hc
    go_enter Try.func15, Try.ntmps15
    go_wp2_with fail
    go_ret
    exact ⟨ret_int HR.out.symm, Below.refl _ _⟩
  · have HR : Hid (crash l n = ((z : Int) + 1) * (n + 1)) := Lib.hid (by rw [HX.out, if_neg (by omega)])
    have h3' : ¬ (200 : Int) < (l.length : Int) := by omega
    obtain ⟨m1, m2⟩ := mul_bound (a := (z : Int) + 1) (b := n + 1) (by omega) (by omega) (by omega) (by omega)
    have hz : z ≤ 1000 := by omega
    obtain ⟨p, hp⟩ : ∃ p, ((z : Int) + 1) * (n + 1) = p := ⟨_, rfl⟩
    rw [hp] at m1 m2 HR
    clear hv hc
    go_enter Try.func15, Try.ntmps15
    go_wp2_with fail
    refine HO.out.mono ?_
    rintro e w1 ⟨rfl, hb⟩
    have D := Lib.hid hb
    clear hb
    go_wp2_with fail
    go_ret
    exact ⟨ret_int HR.out.symm, D.out⟩
/-- The contracts of package cost. -/
theorem con : Con := ⟨ofP_cost, mostP_any, leastP_any, crashP_any⟩
end Go.Proofs.Ytpingbiibbmcaaa.Co
