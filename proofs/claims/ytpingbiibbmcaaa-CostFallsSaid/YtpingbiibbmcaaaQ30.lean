/- The program's Next and Refuse: the walks. What the laws ask of package move. The contracts of package step, met. CostFalls: the walk. -/
import Derived.Test.YtpingbiibbmcaaaQ27
import Derived.Test.YtpingbiibbmcaaaQ29
import Derived.Test.YtpingbiibbmcaaaQ03
import Derived.Test.YtpingbiibbmcaaaQ28

namespace Go.Proofs.Ytpingbiibbmcaaa.St
open Go Go.RowKit Go.Proofs.Ytpingbiibbmcaaa.Rw Go.Proofs.Ytpingbiibbmcaaa.So Go.Proofs.Ytpingbiibbmcaaa.Se Go.Proofs.Ytpingbiibbmcaaa.Do Go.Proofs.Ytpingbiibbmcaaa.Sp Go.Proofs.Ytpingbiibbmcaaa.Me
set_option maxRecDepth 20000

abbrev LL := List (List Nd)
/-- The cells of a row in each later world. -/
theorem at_keep {w : World} {b o : Nat} {l : List Nd} (h : At w b o l) (q : Nat) (hq : q < l.length) : ∀ w', Below w.heap.size w w' → w'.cell? ⟨b, o + q * 3, none⟩ = some (.int .i64 l[q].k) ∧ w'.cell? ⟨b, o + q * 3 + 1, none⟩ = some (.string l[q].n) := fun w' hb =>
  ⟨by rw [hb.cell (Ap.cell_lt (h q hq).1)]; exact (h q hq).1, by rw [hb.cell (Ap.cell_lt (h q hq).2.1)]; exact (h q hq).2.1⟩
/-- What each operation of the region yields. -/
def RPx (b o c n q bM : Nat) (kk hw : Int) (nm : ByteArray) (ls : LL) (X R : List Nd) (k : Nat) (v : Value) (w' : World) : Prop := match k with
  | 0 => v = .slice (some ⟨b, o, none⟩) n c
  | 1 => v = .pointer (some ⟨bM, 0, none⟩)
  | 2 => v = .int .i64 (q : Int)
  | 3 => v = .slice (some ⟨b, o, none⟩) n c
  | 4 => v = .pointer (some ⟨bM, 0, none⟩)
  | 5 => v = .int .i64 (q : Int)
  | 6 => v = .pointer (some ⟨b, o + q * 3, none⟩)
  | 7 => v = .pointer (some ⟨b, o + q * 3, none⟩)
  | 8 => v = .int .i64 kk
  | 9 => v = .pointer (some ⟨bM, 1, none⟩)
  | 10 => v = .int .i64 hw
  | 11 => FnV w' v ls X
  | 12 => Nds w' v R
  | 13 => v = .slice (some ⟨b, o, none⟩) n c
  | 14 => v = .pointer (some ⟨bM, 0, none⟩)
  | 15 => v = .int .i64 (q : Int)
  | 16 => v = .pointer (some ⟨b, o + q * 3, none⟩)
  | 17 => v = .pointer (some ⟨b, o + q * 3 + 1, none⟩)
  | 18 => v = .string nm
  | 19 => Nds w' v R
  | 20 => v = .string nm
  | 21 => v = .int .i64 0
  | _ => True
theorem RPx.below {b o c n q bM : Nat} {kk hw : Int} {nm : ByteArray} {ls : LL} {X R : List Nd} {k : Nat} {v : Value} {w w' : World} (h : RPx b o c n q bM kk hw nm ls X R k v w) (hb : Below w.heap.size w w') : RPx b o c n q bM kk hw nm ls X R k v w' := by
  unfold RPx at h ⊢
  split at h
  case h_12 => exact FnV.below h hb
  case h_13 => exact Nds.below h hb
  case h_20 => exact Nds.below h hb
  all_goals exact h
set_option maxHeartbeats 8000000 in
theorem next_core (b o c n q : Nat) (kk hw : Int) (nm : ByteArray) (ls : List (List Nd)) (X R : List Nd) (w : World) (hq : q < n)
    (hA : ∀ w', Below w.heap.size w w' → w'.cell? ⟨b, o + q * 3, none⟩ = some (.int .i64 kk) ∧ w'.cell? ⟨b, o + q * 3 + 1, none⟩ = some (.string nm))
    (hI : ∀ w1, Below w.heap.size w w1 → Calls Try.prog 34 #[.slice (some ⟨b, o, none⟩) n c, .agg #[.int .i64 (q : Int), .int .i64 hw]] w1 fun e w' => e = .returned (.bool true) ∧ Below w1.heap.size w1 w')
    (hD : ∀ w1, Calls Try.prog 36 #[.int .i64 kk, .int .i64 hw] w1 (OutF w1 ls X))
    (hF : ∀ w1 f, Below w.heap.size w w1 → FnV w1 f ls X → Calls Try.prog 35 #[.slice (some ⟨b, o, none⟩) n c, .int .i64 (q : Int), f] w1 (OutL R w1)) :
    Calls Try.prog 18 #[.slice (some ⟨b, o, none⟩) n c, .agg #[.int .i64 (q : Int), .int .i64 hw]] w fun e w' => ∃ y, e = .returned (.tuple #[y, .string nm, .int .i64 0]) ∧ Nds w' y R ∧ Below w.heap.size w w' := by
  unfold OutF at hD
  unfold OutL at hF
  have HI := Lib.hid hI
  have HD := Lib.hid hD
  have HF := Lib.hid hF
  have D0 := Lib.hid (below1 w (.cells #[.int .i64 (q : Int), .int .i64 hw] 31))
  have CM0 := Lib.hid (bm_keep3 (Bm.new w ⟨(q : Int), hw⟩))
  obtain ⟨bM, hbM⟩ : ∃ bM, w.heap.size = bM := ⟨_, rfl⟩
  obtain ⟨w0, hw0⟩ : ∃ w0, w.alloc (.cells #[.int .i64 (q : Int), .int .i64 hw] 31) = w0 := ⟨_, rfl⟩
  change Hid (∀ w', Below (w.alloc (.cells #[.int .i64 (q : Int), .int .i64 hw] 31)).heap.size (w.alloc (.cells #[.int .i64 (q : Int), .int .i64 hw] 31)) w' → w'.cell? ⟨w.heap.size, 0, none⟩ = some (.int .i64 (q : Int)) ∧ w'.cell? ⟨w.heap.size, 1, none⟩ = some (.int .i64 hw)) at CM0
  rw [hw0] at D0
  have CA0 := Lib.hid (fun (w' : World) (hb : Below w0.heap.size w0 w') => hA w' (D0.out.trans (hb.mono D0.out.size)))
  rw [hbM, hw0] at CM0
  obtain ⟨c0, c1⟩ := CM0.out w0 (Below.refl _ _)
  have hq2 : (q : Int) < (n : Int) := by omega
  clear hI hD hF hA
  go_enter Try.func18, Try.ntmps18
  go_wp2_with fail
  refine (HI.out _ D0.out).mono ?_
  rintro e w4 ⟨rfl, hb4⟩
  have D4 := Lib.hid (D0.out.trans (hb4.mono D0.out.size))
  have CM := Lib.hid (fun (w' : World) (hb : Below w4.heap.size w4 w') => CM0.out w' (hb4.trans (Below.mono hb hb4.size)))
  have CA := Lib.hid (fun (w' : World) (hb : Below w4.heap.size w4 w') => CA0.out w' (hb4.trans (Below.mono hb hb4.size)))
  clear hb4 CM0 CA0 c0 c1 hbM hw0 HI
  go_wp2_with fail
  refine Rg.wp_region_owes (by kernel_rfl) [(0, some 11), (1, some 12), (2, some 13), (3, some 14), (4, some 15), (5, some 16), (6, some 17), (7, some 18), (8, some 19), (9, some 20), (10, some 21), (11, some 22), (12, some 23), (13, some 24), (14, some 25), (15, some 26), (16, some 27), (17, some 28), (18, some 29), (19, some 4), (20, some 5), (21, some 6)] (by rfl) (by kernel_rfl) (by kernel_rfl) (fun w' => Below w4.heap.size w4 w') (RPx b o c n q bM kk hw nm ls X R) (Below.refl _ _).drew ?_ (fun _ _ h hb => h.trans (hb.mono h.size)) (fun _ _ _ _ h hb => RPx.below h hb) ⟨⟨⟨⟨⟨⟨⟨⟨⟨⟨⟨⟨⟨⟨⟨⟨⟨⟨⟨⟨⟨⟨True.intro, ?_⟩, ?_⟩, ?_⟩, ?_⟩, ?_⟩, ?_⟩, ?_⟩, ?_⟩, ?_⟩, ?_⟩, ?_⟩, ?_⟩, ?_⟩, ?_⟩, ?_⟩, ?_⟩, ?_⟩, ?_⟩, ?_⟩, ?_⟩, ?_⟩, ?_⟩ ?_
  · intro k v w' hk
    unfold RPx
    split
    case h_23 => trivial
    all_goals exact absurd hk (by decide)
  · intro o ho us wl al ha hB D K hK
    obtain rfl := Option.some.inj ho
    have e0 : al.tmps[0]?.getD undef = .slice (some ⟨b, o, none⟩) n c := (Rg.e_out ha (by rfl)).trans rfl
    have HB := Lib.hid hB
    refine Rg.wpOp_of rfl rfl ?_
    clear ha D hB
    go_simp
    exact hK _ _ rfl (Below.refl _ _)
  · intro o ho us wl al ha hB D K hK
    obtain rfl := Option.some.inj ho
    have e3 : al.tmps[3]?.getD undef = .pointer (some ⟨bM, 0, none⟩) := (Rg.e_out ha (by rfl)).trans rfl
    have HB := Lib.hid hB
    refine Rg.wpOp_of rfl rfl ?_
    clear ha D hB
    go_simp
    exact hK _ _ rfl (Below.refl _ _)
  · intro o ho us wl al ha hB D K hK
    obtain rfl := Option.some.inj ho
    have e12 := Rg.e_in (i := 1) (d := 12) ha (by rfl) (by simp) (by simp)
    have f1 : us 1 = .pointer (some ⟨bM, 0, none⟩) := D ⟨1, .data⟩ (by simp) rfl
    obtain ⟨c0, c1⟩ := CM.out _ hB
    have HB := Lib.hid hB
    refine Rg.wpOp_of rfl rfl ?_
    clear ha D hB
    go_simp
    exact hK _ _ rfl (Below.refl _ _)
  · intro o ho us wl al ha hB D K hK
    obtain rfl := Option.some.inj ho
    have e0 : al.tmps[0]?.getD undef = .slice (some ⟨b, o, none⟩) n c := (Rg.e_out ha (by rfl)).trans rfl
    have HB := Lib.hid hB
    refine Rg.wpOp_of rfl rfl ?_
    clear ha D hB
    go_simp
    exact hK _ _ rfl (Below.refl _ _)
  · intro o ho us wl al ha hB D K hK
    obtain rfl := Option.some.inj ho
    have e3 : al.tmps[3]?.getD undef = .pointer (some ⟨bM, 0, none⟩) := (Rg.e_out ha (by rfl)).trans rfl
    have HB := Lib.hid hB
    refine Rg.wpOp_of rfl rfl ?_
    clear ha D hB
    go_simp
    exact hK _ _ rfl (Below.refl _ _)
  · intro o ho us wl al ha hB D K hK
    obtain rfl := Option.some.inj ho
    have e15 := Rg.e_in (i := 4) (d := 15) ha (by rfl) (by simp) (by simp)
    have f4 : us 4 = .pointer (some ⟨bM, 0, none⟩) := D ⟨4, .data⟩ (by simp) rfl
    obtain ⟨c0, c1⟩ := CM.out _ hB
    have HB := Lib.hid hB
    refine Rg.wpOp_of rfl rfl ?_
    clear ha D hB
    go_simp
    exact hK _ _ rfl (Below.refl _ _)
  · intro o ho us wl al ha hB D K hK
    obtain rfl := Option.some.inj ho
    have e14 := Rg.e_in (i := 3) (d := 14) ha (by rfl) (by simp) (by simp)
    have f3 : us 3 = .slice (some ⟨b, o, none⟩) n c := D ⟨3, .data⟩ (by simp) rfl
    have e16 := Rg.e_in (i := 5) (d := 16) ha (by rfl) (by simp) (by simp)
    have f5 : us 5 = .int .i64 (q : Int) := D ⟨5, .data⟩ (by simp) rfl
    have HB := Lib.hid hB
    refine Rg.wpOp_of rfl rfl ?_
    clear ha D hB
    go_simp
    exact hK _ _ rfl (Below.refl _ _)
  · intro o ho us wl al ha hB D K hK
    obtain rfl := Option.some.inj ho
    have e17 := Rg.e_in (i := 6) (d := 17) ha (by rfl) (by simp) (by simp)
    have f6 : us 6 = .pointer (some ⟨b, o + q * 3, none⟩) := D ⟨6, .data⟩ (by simp) rfl
    have HB := Lib.hid hB
    refine Rg.wpOp_of rfl rfl ?_
    clear ha D hB
    go_simp
    exact hK _ _ rfl (Below.refl _ _)
  · intro o ho us wl al ha hB D K hK
    obtain rfl := Option.some.inj ho
    have e18 := Rg.e_in (i := 7) (d := 18) ha (by rfl) (by simp) (by simp)
    have f7 : us 7 = .pointer (some ⟨b, o + q * 3, none⟩) := D ⟨7, .data⟩ (by simp) rfl
    obtain ⟨g0, g1⟩ := CA.out _ hB
    have HB := Lib.hid hB
    refine Rg.wpOp_of rfl rfl ?_
    clear ha D hB
    go_simp
    exact hK _ _ rfl (Below.refl _ _)
  · intro o ho us wl al ha hB D K hK
    obtain rfl := Option.some.inj ho
    have e3 : al.tmps[3]?.getD undef = .pointer (some ⟨bM, 0, none⟩) := (Rg.e_out ha (by rfl)).trans rfl
    have HB := Lib.hid hB
    refine Rg.wpOp_of rfl rfl ?_
    clear ha D hB
    go_simp
    exact hK _ _ rfl (Below.refl _ _)
  · intro o ho us wl al ha hB D K hK
    obtain rfl := Option.some.inj ho
    have e20 := Rg.e_in (i := 9) (d := 20) ha (by rfl) (by simp) (by simp)
    have f9 : us 9 = .pointer (some ⟨bM, 1, none⟩) := D ⟨9, .data⟩ (by simp) rfl
    obtain ⟨c0, c1⟩ := CM.out _ hB
    have HB := Lib.hid hB
    refine Rg.wpOp_of rfl rfl ?_
    clear ha D hB
    go_simp
    exact hK _ _ rfl (Below.refl _ _)
  · intro o ho us wl al ha hB D K hK
    obtain rfl := Option.some.inj ho
    have e19 := Rg.e_in (i := 8) (d := 19) ha (by rfl) (by simp) (by simp)
    have f8 : us 8 = .int .i64 kk := D ⟨8, .data⟩ (by simp) rfl
    have e21 := Rg.e_in (i := 10) (d := 21) ha (by rfl) (by simp) (by simp)
    have f10 : us 10 = .int .i64 hw := D ⟨10, .data⟩ (by simp) rfl
    have HB := Lib.hid hB
    refine Rg.wpOp_of rfl rfl ?_
    clear ha D hB
    go_simp
    refine (HD.out _).mono ?_
    rintro e wn ⟨f, rfl, hf, hb⟩
    exact hK _ _ hf hb
  · intro o ho us wl al ha hB D K hK
    obtain rfl := Option.some.inj ho
    have e11 := Rg.e_in (i := 0) (d := 11) ha (by rfl) (by simp) (by simp)
    have f0 : us 0 = .slice (some ⟨b, o, none⟩) n c := D ⟨0, .data⟩ (by simp) rfl
    have e13 := Rg.e_in (i := 2) (d := 13) ha (by rfl) (by simp) (by simp)
    have f2 : us 2 = .int .i64 (q : Int) := D ⟨2, .data⟩ (by simp) rfl
    have e22 := Rg.e_in (i := 11) (d := 22) ha (by rfl) (by simp) (by simp)
    have D11 : Hid (FnV wl (us 11) ls X) := D ⟨11, .data⟩ (by simp) rfl
    have HB := Lib.hid hB
    refine Rg.wpOp_of rfl rfl ?_
    clear ha D hB
    go_simp
    refine (HF.out _ _ (D4.out.trans (HB.out.mono D4.out.size)) D11.out).mono ?_
    rintro e wn ⟨y, rfl, hy, hb⟩
    exact hK _ _ hy hb
  · intro o ho us wl al ha hB D K hK
    obtain rfl := Option.some.inj ho
    have e0 : al.tmps[0]?.getD undef = .slice (some ⟨b, o, none⟩) n c := (Rg.e_out ha (by rfl)).trans rfl
    have HB := Lib.hid hB
    refine Rg.wpOp_of rfl rfl ?_
    clear ha D hB
    go_simp
    exact hK _ _ rfl (Below.refl _ _)
  · intro o ho us wl al ha hB D K hK
    obtain rfl := Option.some.inj ho
    have e3 : al.tmps[3]?.getD undef = .pointer (some ⟨bM, 0, none⟩) := (Rg.e_out ha (by rfl)).trans rfl
    have HB := Lib.hid hB
    refine Rg.wpOp_of rfl rfl ?_
    clear ha D hB
    go_simp
    exact hK _ _ rfl (Below.refl _ _)
  · intro o ho us wl al ha hB D K hK
    obtain rfl := Option.some.inj ho
    have e25 := Rg.e_in (i := 14) (d := 25) ha (by rfl) (by simp) (by simp)
    have f14 : us 14 = .pointer (some ⟨bM, 0, none⟩) := D ⟨14, .data⟩ (by simp) rfl
    obtain ⟨c0, c1⟩ := CM.out _ hB
    have HB := Lib.hid hB
    refine Rg.wpOp_of rfl rfl ?_
    clear ha D hB
    go_simp
    exact hK _ _ rfl (Below.refl _ _)
  · intro o ho us wl al ha hB D K hK
    obtain rfl := Option.some.inj ho
    have e24 := Rg.e_in (i := 13) (d := 24) ha (by rfl) (by simp) (by simp)
    have f13 : us 13 = .slice (some ⟨b, o, none⟩) n c := D ⟨13, .data⟩ (by simp) rfl
    have e26 := Rg.e_in (i := 15) (d := 26) ha (by rfl) (by simp) (by simp)
    have f15 : us 15 = .int .i64 (q : Int) := D ⟨15, .data⟩ (by simp) rfl
    have HB := Lib.hid hB
    refine Rg.wpOp_of rfl rfl ?_
    clear ha D hB
    go_simp
    exact hK _ _ rfl (Below.refl _ _)
  · intro o ho us wl al ha hB D K hK
    obtain rfl := Option.some.inj ho
    have e27 := Rg.e_in (i := 16) (d := 27) ha (by rfl) (by simp) (by simp)
    have f16 : us 16 = .pointer (some ⟨b, o + q * 3, none⟩) := D ⟨16, .data⟩ (by simp) rfl
    have HB := Lib.hid hB
    refine Rg.wpOp_of rfl rfl ?_
    clear ha D hB
    go_simp
    exact hK _ _ rfl (Below.refl _ _)
  · intro o ho us wl al ha hB D K hK
    obtain rfl := Option.some.inj ho
    have e28 := Rg.e_in (i := 17) (d := 28) ha (by rfl) (by simp) (by simp)
    have f17 : us 17 = .pointer (some ⟨b, o + q * 3 + 1, none⟩) := D ⟨17, .data⟩ (by simp) rfl
    obtain ⟨g0, g1⟩ := CA.out _ hB
    have HB := Lib.hid hB
    refine Rg.wpOp_of rfl rfl ?_
    clear ha D hB
    go_simp
    exact hK _ _ rfl (Below.refl _ _)
  · intro o ho us wl al ha hB D K hK
    obtain rfl := Option.some.inj ho
    have e23 := Rg.e_in (i := 12) (d := 23) ha (by rfl) (by simp) (by simp)
    have D12 : Hid (Nds wl (us 12) R) := D ⟨12, .data⟩ (by simp) rfl
    have HB := Lib.hid hB
    refine Rg.wpOp_of rfl rfl ?_
    clear ha D hB
    go_simp
    exact hK _ _ D12.out (Below.refl _ _)
  · intro o ho us wl al ha hB D K hK
    obtain rfl := Option.some.inj ho
    have e29 := Rg.e_in (i := 18) (d := 29) ha (by rfl) (by simp) (by simp)
    have f18 : us 18 = .string nm := D ⟨18, .data⟩ (by simp) rfl
    have HB := Lib.hid hB
    refine Rg.wpOp_of rfl rfl ?_
    clear ha D hB
    go_simp
    exact hK _ _ rfl (Below.refl _ _)
  · intro o ho us wl al ha hB D K hK
    obtain rfl := Option.some.inj ho
    have HB := Lib.hid hB
    refine Rg.wpOp_of rfl rfl ?_
    clear ha D hB
    go_simp
    exact hK _ _ rfl (Below.refl _ _)
  · intro us wz hB hR
    have hr : Nds wz (us 19) R := hR 19
    have f1 : us 20 = .string nm := hR 20
    have f2 : us 21 = .int .i64 0 := hR 21
    have DZ := Lib.hid (D4.out.trans (hB.mono D4.out.size))
    have NZ := Lib.hid hr
    simp only [Rg.puts, Act.put, List.setIfInBounds_toArray, List.set_cons_zero, List.set_cons_succ, f1, f2]
    clear hB hR
    generalize us 19 = y at *
    obtain ⟨_, ay, cy, rfl, -⟩ := id hr
    clear hr
    go_wp2_with fail
    go_ret3
    exact ⟨_, rfl, NZ.out, DZ.out⟩
end Go.Proofs.Ytpingbiibbmcaaa.St

namespace Go.Proofs.Ytpingbiibbmcaaa.Me
open Go Go.RowKit Go.Proofs.Ytpingbiibbmcaaa.Rw Go.Proofs.Ytpingbiibbmcaaa.So Go.Proofs.Ytpingbiibbmcaaa.Se Go.Proofs.Ytpingbiibbmcaaa.Do
set_option maxRecDepth 20000

end Go.Proofs.Ytpingbiibbmcaaa.Me

namespace Go.Proofs.Ytpingbiibbmcaaa.St
open Go Go.RowKit Go.Proofs.Ytpingbiibbmcaaa.Rw Go.Proofs.Ytpingbiibbmcaaa.So Go.Proofs.Ytpingbiibbmcaaa.Se Go.Proofs.Ytpingbiibbmcaaa.Do Go.Proofs.Ytpingbiibbmcaaa.Sp Go.Proofs.Ytpingbiibbmcaaa.Me
set_option maxRecDepth 20000

theorem way_of {s u : Tm} {h : Int} {o : Option ByteArray} (k : Made s h o u) (q : List Nd) : Way (kn (flat s ++ q) 0) h ∧ (kn (flat s ++ q) 0 ≠ 1 → kn (flat s ++ q) 0 ≠ 4 → (kids (flat s ++ q)).length = 2) ∧ nmAt (flat s ++ q) 0 = o.getD ⟨#[]⟩ := by
  have two : ∀ (n : Nd) (a b : Tm), ar n.k = 2 → kids ((n :: (flat a ++ flat b)) ++ q) = [flat a, flat b] := fun n a b hk => by
    have := kidsA_two (n := n) a b q hk
    rw [List.cons_append, List.append_assoc]
    exact this
  cases k with
  | act s => exact ⟨.inl ⟨rfl, rfl⟩, fun h => absurd rfl h, rfl⟩
  | altl _ b => exact ⟨.inr (.inr (.inr (.inl ⟨rfl, rfl⟩))), fun _ _ => by rw [show flat (.alt u b) = nOf 6 :: (flat u ++ flat b) from rfl, two _ _ _ rfl]; rfl, rfl⟩
  | altr a _ => exact ⟨.inr (.inr (.inr (.inr (.inl ⟨rfl, rfl⟩)))), fun _ _ => by rw [show flat (.alt a u) = nOf 6 :: (flat a ++ flat u) from rfl, two _ _ _ rfl]; rfl, rfl⟩
  | yieldg => exact ⟨.inr (.inl ⟨rfl, rfl⟩), fun _ h => absurd rfl h, rfl⟩
  | yields => exact ⟨.inr (.inr (.inl ⟨rfl, rfl⟩)), fun _ h => absurd rfl h, rfl⟩
  | pairg a b => exact ⟨.inr (.inr (.inr (.inr (.inr (.inl ⟨rfl, rfl⟩))))), fun _ _ => by rw [show flat (.pair a b) = nOf 10 :: (flat a ++ flat b) from rfl, two _ _ _ rfl]; rfl, rfl⟩
  | pairs a b => exact ⟨.inr (.inr (.inr (.inr (.inr (.inr ⟨rfl, rfl⟩))))), fun _ _ => by rw [show flat (.pair a b) = nOf 10 :: (flat a ++ flat b) from rfl, two _ _ _ rfl]; rfl, rfl⟩
theorem kids_sum (l : List Nd) : (kids l).flatten.length ≤ l.length := by
  by_cases h : size l = 0
  · rw [show kids l = [] from if_pos h]; simp
  · cases l with
    | nil => exact absurd rfl h
    | cons n r =>
      have := congrArg List.length (kids_flat h)
      rw [List.length_cons, List.length_take] at this
      omega
theorem put_at (l : List Nd) (q : Nat) (x : List Nd) (hq : q < l.length) : putR l (q : Int) x = putN l q x := if_neg (by omega)
set_option maxHeartbeats 1000000 in
theorem nextP_no (v : Value) (l : List Nd) (m : Mv) (w : World) (hv : Nds w v l) (hl : l.length ≤ 1000) (hm : Nms l) (h0 : m ∉ enR l) :
    Calls Try.prog 18 #[v, mvV m] w fun e w' => ∃ y, e = .returned (.tuple #[y, .string (nxS l m), .int .i64 (nxE l m)]) ∧ Nds w' y (nxL l m) ∧ Below w.heap.size w w' := by
  rw [show nxL l m = [] from if_neg h0, show nxS l m = ⟨#[]⟩ from if_neg fun h => h0 h.1, show nxE l m = 120 from if_neg h0]
  have HI := Lib.hid (fun w1 (hb : Below w.heap.size w w1) => isP_any v l m w1 (hv.below hb) hl hm)
  rw [decide_eq_false h0] at HI
  have D0 := Lib.hid (below1 w (.cells #[.int .i64 m.p, .int .i64 m.h] 31))
  obtain ⟨mp, mh⟩ := m
  obtain ⟨_, a, c, rfl, -⟩ := id hv
  clear hv hm h0
  go_enter Try.func18, Try.ntmps18
  go_wp2_with fail
  refine (HI.out _ D0.out).mono ?_
  rintro e w1 ⟨rfl, hb⟩
  have D := Lib.hid (D0.out.trans (hb.mono D0.out.size))
  clear hb
  go_wp2_with fail
  go_ret3
  exact ⟨_, rfl, nds_nil _, D.out⟩
theorem nextP_any (v : Value) (l : List Nd) (m : Mv) (w : World) (hv : Nds w v l) (hl : l.length ≤ 1000) (hm : Nms l) :
    Calls Try.prog 18 #[v, mvV m] w fun e w' => ∃ y, e = .returned (.tuple #[y, .string (nxS l m), .int .i64 (nxE l m)]) ∧ Nds w' y (nxL l m) ∧ Below w.heap.size w w' := by
  by_cases h0 : m ∈ enR l
  · obtain ⟨t, rfl, hg, hn⟩ := en_set h0
    obtain ⟨mo, h1, rfl⟩ := en_mo hg hn h0
    obtain ⟨n1, n2, n3⟩ := nx_of hg hn h1
    have hI := fun w1 (hb : Below w.heap.size w w1) => isP_any v (flat t) (mvOf mo) w1 (hv.below hb) hl hm
    rw [decide_eq_true h0] at hI
    obtain ⟨pre, s, post, u, e1, e2, e3, hmd⟩ := mv_put t true 0 mo h1
    obtain ⟨p1, p2⟩ := put_row pre (flat s) post (flat u) (tre_flat s)
    have hr := mo_goes hg h1
    have ht := hg.2.1
    have hr2 := hr.2.1
    have l1 := congrArg List.length e1
    have l3 := congrArg List.length e3
    rw [Se.flat_len] at l1 l3
    simp only [List.length_append, Se.flat_len] at l1 l3
    have hq : pre.length < (flat t).length := by rw [Se.flat_len, l1]; have := sz_pos s; omega
    have e2' : mo.p = pre.length := by omega
    have ev : mvV (mvOf mo) = .agg #[.int .i64 (pre.length : Int), .int .i64 mo.h] := by
      show Value.agg #[.int .i64 (mo.p : Int), .int .i64 mo.h] = _
      rw [e2']
    rw [n1, n2, n3, ev]
    rw [ev] at hI
    obtain ⟨w1, w2, w3⟩ := way_of hmd post
    have d1 : (flat t).drop pre.length = flat s ++ post := by rw [e1]; exact p2
    have pR : putR (flat t) (pre.length : Int) (flat u) = flat mo.r := by rw [put_at _ _ _ hq, e1, p1, ← e3]
    have hX : mdK (kids ((flat t).drop pre.length)) (kn (flat s ++ post) 0) mo.h = flat u := by
      rw [d1, ← mdR_K]
      exact md_made hmd post
    have hget : (flat t)[pre.length]? = (flat s ++ post)[0]? := by
      rw [e1, List.getElem?_append_right (Nat.le_refl _), Nat.sub_self]
    have hk : (flat t)[pre.length].k = kn (flat s ++ post) 0 ∧ (flat t)[pre.length].n = nmAt (flat s ++ post) 0 := by
      rw [List.getElem?_eq_getElem hq] at hget
      constructor
      · unfold kn
        rw [show ((0 : Int)).toNat = 0 from rfl, ← hget]
      · unfold nmAt
        rw [← hget]
    rcases hv.form with ⟨hz, _⟩ | ⟨b, o, c, rfl, hc, hat⟩
    · rw [hz] at hq; simp at hq
    have hA := at_keep hat pre.length hq
    rw [hk.1, hk.2, w3] at hA
    refine next_core b o c (flat t).length pre.length (kn (flat s ++ post) 0) mo.h (mo.l.getD ⟨#[]⟩) (kids ((flat t).drop pre.length)) (flat u) _ w hq hA hI ?_ ?_
    · intro wx
      have := done_any (kn (flat s ++ post) 0) mo.h w1 (kids ((flat t).drop pre.length)) wx (by rw [d1]; exact w2) (by
        have := kids_sum ((flat t).drop pre.length)
        rw [List.length_drop] at this
        omega)
      rwa [hX] at this
    · intro wx f hb hf
      have := after_any _ f (flat t) (flat u) pre.length wx (hv.below hb) (by rw [Se.flat_len]; omega) (by rw [Se.flat_len]; omega) hq hf (by rw [pR]; exact nms_goes hr.1) (by rw [pR, Se.flat_len]; omega)
      rwa [pR, st_go hr] at this
  · exact nextP_no v l m w hv hl hm h0
end Go.Proofs.Ytpingbiibbmcaaa.St

namespace Go.Proofs.Ytpingbiibbmcaaa.Co
open Go Go.RowKit Go.Proofs.Ytpingbiibbmcaaa.Rw Go.Proofs.Ytpingbiibbmcaaa.So Go.Proofs.Ytpingbiibbmcaaa.Se Go.Proofs.Ytpingbiibbmcaaa.Do Go.Proofs.Ytpingbiibbmcaaa.Sp Go.Proofs.Ytpingbiibbmcaaa.Me Go.Proofs.Ytpingbiibbmcaaa.St
set_option maxRecDepth 20000

set_option maxHeartbeats 8000000 in
theorem falls_law (C : Co.Con) (v : Value) (l : List Nd) (w0 : World) (hv : Nds w0 v l) (hm : Nms l) : Calls Try.prog 5 #[v] w0 (Co.Law w0) := by
  have HF := Lib.hid (fewC_any v l w0 hv)
  have HA := Lib.hid (Co.alive_of C)
  unfold Co.Alive at HA
  unfold Co.Law
  cases hf : fewC l with
  | false =>
    rw [hf] at HF
    obtain ⟨_, a, c, rfl, -⟩ := id hv
    clear hv hm hf C
    go_enter Try.func5, Try.ntmps5
    go_wp2_with fail
    refine HF.out.mono ?_
    rintro e w1 ⟨rfl, rfl⟩
    go_wp2_with fail
    refine (HA.out _).mono ?_
    rintro e w2 ⟨rfl, hb2⟩
    have D2 := Lib.hid hb2
    clear hb2
    go_wp2_with fail
    go_ret
    exact ⟨rfl, D2.out⟩
  | true =>
    rw [hf] at HF
    have hl := fewC_len hf
    have HE := Lib.hid (enabledP_any v l w0 hv (by omega) hm)
    have HN := Lib.hid (fun m w1 (hb : Below w0.heap.size w0 w1) => nextP_any v l m w1 (hv.below hb) (by omega) hm)
    have HM := Lib.hid (fun w1 (hb : Below w0.heap.size w0 w1) => C.mo v l w1 (hv.below hb) (by omega) hm)
    have HLS := Lib.hid (fun m (h : m ∈ enR l) => cr_fall h)
    have HKD := Lib.hid (fun m (h : m ∈ enR l) => en_kind h)
    have hvl : (enR l).length ≤ 200 := Nat.le_trans (enR_len l) (by omega)
    have HC := Lib.hid C
    unfold NumP at HM
    obtain ⟨_, a, c, rfl, -⟩ := id hv
    generalize enR l = V at HE hvl HKD HLS
    generalize cr false l = ql at HM HLS
    clear hv hm hf C
    go_enter Try.func5, Try.ntmps5
    go_wp2_with fail
    refine HF.out.mono ?_
    rintro e w1 ⟨rfl, rfl⟩
    go_wp2_with fail
    refine HE.out.mono ?_
    rintro e w3 ⟨y, rfl, hi, hb3⟩
    have D3 := Lib.hid hb3
    have FM := Lib.hid hi.form
    obtain ⟨_, ay, cy, rfl, -⟩ := id hi
    clear hb3 hi HF HE
    go_wp2_with fail
    go_loopw [15] (fun i wr => ∃ k : Nat, k ≤ V.length ∧ i = .int .i64 k ∧ Hid (Below w3.heap.size w3 wr)) (fun i _ => V.length - (intOf i).toNat)
    case atStart => exact ⟨0, Nat.zero_le _, rfl, Lib.hid (Below.refl _ _)⟩
    case round =>
      obtain ⟨k, hk, rfl, HB⟩ := hrel
      have DR := Lib.hid (D3.out.trans (HB.out.mono D3.out.size))
      by_cases hlt : k < V.length
      · rcases FM.out with ⟨h0, _⟩ | ⟨b4, o4, c4, e4, _, hat4⟩
        · rw [h0] at hlt; simp at hlt
        injection e4 with e41 e42 e43
        subst e41; subst e43
        obtain ⟨q4, q5⟩ := hat4 k hlt
        have d4 : wr.cell? ⟨b4, o4 + k * 2, none⟩ = some (.int .i64 V[k].p) := by rw [HB.out.cell (Ap.cell_lt q4)]; exact q4
        have d5 : wr.cell? ⟨b4, o4 + k * 2 + 1, none⟩ = some (.int .i64 V[k].h) := by rw [HB.out.cell (Ap.cell_lt q5)]; exact q5
        obtain ⟨k1, -, -, k4, k5⟩ := HKD.out _ (List.getElem_mem hlt)
        have l1 := HLS.out _ (List.getElem_mem hlt)
        obtain ⟨x, hx⟩ : ∃ x, V[k] = x := ⟨_, rfl⟩
        rw [hx] at d4 d5 k1 k4 l1 k5
        have HN1 := Lib.hid (HN.out x)
        rw [k1] at HN1
        have HZ := Lib.hid (fun y w1 (h : Nds w1 y (nxL l x)) => HC.out.mo y (nxL l x) w1 h (by omega) k5)
        unfold NumP at HZ
        generalize cr false (nxL l x) = qz at HZ l1
        generalize nxL l x = Z at HN1 HZ k4 k5
        generalize nxS l x = s at HN1
        have g0 : ¬ (ql : Int) ≤ (qz : Int) := by omega
        obtain ⟨xp, xh⟩ := x
        simp only at d4 d5
        obtain ⟨D5, M5⟩ := Me.step0 xp xh DR.out
        have HBa := HB.out.trans ((below1 wr (.cells #[.int .i64 xp, .int .i64 xh] 31)).mono HB.out.size)
        clear hat4 q4 q5 k1 k4 k5 hx HN HKD HLS FM l1 M5
        go_wp2_with fail
        refine (HN1.out _ D5).mono ?_
        rintro e w5 ⟨y5, rfl, hn5, hb5⟩
        have D6 := Lib.hid (D5.trans (hb5.mono D5.size))
        have HB6 := Lib.hid (HBa.trans (hb5.mono HBa.size))
        have N5 := Lib.hid hn5
        obtain ⟨_, a5, c5, rfl, -⟩ := id hn5
        clear D5 HBa hb5 hn5 d4 d5
        go_wp2_with fail
        refine (HZ.out _ _ N5.out).mono ?_
        rintro e w6 ⟨rfl, hb6⟩
        have D7 := Lib.hid (D6.out.trans (hb6.mono D6.out.size))
        have HB7 := Lib.hid (HB6.out.trans (hb6.mono HB6.out.size))
        clear hb6
        go_wp2_with fail
        refine (HM.out _ D7.out).mono ?_
        rintro e w7 ⟨rfl, hb7⟩
        have HB8 := Lib.hid (HB7.out.trans (hb7.mono HB7.out.size))
        clear hb7
        go_wp2_with fail
        go_roundw
        case rel => exact ⟨k + 1, by omega, by go_num, HB8⟩
        case measure => simp [intOf]; omega
      · go_wp2_with fail
        refine (HA.out _).mono ?_
        rintro e w9 ⟨rfl, hb9⟩
        have D9 := Lib.hid (DR.out.trans (hb9.mono DR.out.size))
        clear hb9
        go_wp2_with fail
        go_ret
        exact ⟨rfl, D9.out⟩
end Go.Proofs.Ytpingbiibbmcaaa.Co
