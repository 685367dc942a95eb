/- The program's Next and Refuse: the walks. What the laws ask of package move. The contracts of package step, met. What comes of a row by a move, and what was done: the program's walk. -/
import Derived.Test.YtpingbiibbmcaaaGreatQ28
import Derived.Test.YtpingbiibbmcaaaGreatQ30
import Derived.Test.YtpingbiibbmcaaaGreatQ03
import Derived.Test.YtpingbiibbmcaaaGreatQ29
import Derived.BigQuiet
import Derived.Test.YtpingbiibbmcaaaGreatQ11

namespace Go.Proofs.YtpingbiibbmcaaaGreat.St
open Go Go.RowKit Go.Proofs.YtpingbiibbmcaaaGreat.Rw Go.Proofs.YtpingbiibbmcaaaGreat.So Go.Proofs.YtpingbiibbmcaaaGreat.Se Go.Proofs.YtpingbiibbmcaaaGreat.Do Go.Proofs.YtpingbiibbmcaaaGreat.Sp Go.Proofs.YtpingbiibbmcaaaGreat.Me
set_option maxRecDepth 20000

abbrev LL := List (List Nd)
/-- The cells of a row in each later world. -/
theorem at_keep {w : World} {b o : Nat} {l : List Nd} (h : At w b o l) (q : Nat) (hq : q < l.length) : ∀ w', Below w.heap.size w w' → w'.cell? ⟨b, o + q * 3, none⟩ = some (.int .i64 l[q].k) ∧ w'.cell? ⟨b, o + q * 3 + 1, none⟩ = some (.string l[q].n) := fun w' hb =>
  ⟨by rw [hb.cell (Ap.cell_lt (h q hq).1)]; exact (h q hq).1, by rw [hb.cell (Ap.cell_lt (h q hq).2.1)]; exact (h q hq).2.1⟩
/-- What each operation of the region yields. -/
def RPx (b o c n q bM : Nat) (kk hw : Int) (nm : ByteArray) (ls : LL) (X R : List Nd) (k : Nat) (v : Value) (w' : World) : Prop := match k with
  | 0 => v = .slice (some ⟨b, o, none⟩) n c
  | 1 => v = .pointer (some ⟨bM, 0, none⟩)
  | 2 => v = .int .i64 (q : Int)
  | 3 => v = .slice (some ⟨b, o, none⟩) n c
  | 4 => v = .pointer (some ⟨bM, 0, none⟩)
  | 5 => v = .int .i64 (q : Int)
  | 6 => v = .pointer (some ⟨b, o + q * 3, none⟩)
  | 7 => v = .pointer (some ⟨b, o + q * 3, none⟩)
  | 8 => v = .int .i64 kk
  | 9 => v = .pointer (some ⟨bM, 1, none⟩)
  | 10 => v = .int .i64 hw
  | 11 => FnV w' v ls X
  | 12 => Nds w' v R
  | 13 => v = .slice (some ⟨b, o, none⟩) n c
  | 14 => v = .pointer (some ⟨bM, 0, none⟩)
  | 15 => v = .int .i64 (q : Int)
  | 16 => v = .pointer (some ⟨b, o + q * 3, none⟩)
  | 17 => v = .pointer (some ⟨b, o + q * 3 + 1, none⟩)
  | 18 => v = .string nm
  | 19 => Nds w' v R
  | 20 => v = .string nm
  | 21 => v = .int .i64 0
  | _ => True
theorem RPx.below {b o c n q bM : Nat} {kk hw : Int} {nm : ByteArray} {ls : LL} {X R : List Nd} {k : Nat} {v : Value} {w w' : World} (h : RPx b o c n q bM kk hw nm ls X R k v w) (hb : Below w.heap.size w w') : RPx b o c n q bM kk hw nm ls X R k v w' := by
  unfold RPx at h ⊢
  split at h
  case h_12 => exact FnV.below h hb
  case h_13 => exact Nds.below h hb
  case h_20 => exact Nds.below h hb
  all_goals exact h
set_option maxHeartbeats 8000000 in
theorem next_core (b o c n q : Nat) (kk hw : Int) (nm : ByteArray) (ls : List (List Nd)) (X R : List Nd) (w : World) (hq : q < n)
    (hA : ∀ w', Below w.heap.size w w' → w'.cell? ⟨b, o + q * 3, none⟩ = some (.int .i64 kk) ∧ w'.cell? ⟨b, o + q * 3 + 1, none⟩ = some (.string nm))
    (hI : ∀ w1, Below w.heap.size w w1 → Calls Tryz.prog 58 #[.slice (some ⟨b, o, none⟩) n c, .agg #[.int .i64 (q : Int), .int .i64 hw]] w1 fun e w' => e = .returned (.bool true) ∧ Below w1.heap.size w1 w')
    (hD : ∀ w1, Calls Tryz.prog 60 #[.int .i64 kk, .int .i64 hw] w1 (OutF w1 ls X))
    (hF : ∀ w1 f, Below w.heap.size w w1 → FnV w1 f ls X → Calls Tryz.prog 59 #[.slice (some ⟨b, o, none⟩) n c, .int .i64 (q : Int), f] w1 (OutL R w1)) :
    Calls Tryz.prog 40 #[.slice (some ⟨b, o, none⟩) n c, .agg #[.int .i64 (q : Int), .int .i64 hw]] w fun e w' => ∃ y, e = .returned (.tuple #[y, .string nm, .int .i64 0]) ∧ Nds w' y R ∧ Below w.heap.size w w' := by
  unfold OutF at hD
  unfold OutL at hF
  have HI := Lib.hid hI
  have HD := Lib.hid hD
  have HF := Lib.hid hF
  have D0 := Lib.hid (below1 w (.cells #[.int .i64 (q : Int), .int .i64 hw] 42))
  have CM0 := Lib.hid (bm_keep3 (Bm.new w ⟨(q : Int), hw⟩))
  obtain ⟨bM, hbM⟩ : ∃ bM, w.heap.size = bM := ⟨_, rfl⟩
  obtain ⟨w0, hw0⟩ : ∃ w0, w.alloc (.cells #[.int .i64 (q : Int), .int .i64 hw] 42) = w0 := ⟨_, rfl⟩
  change Hid (∀ w', Below (w.alloc (.cells #[.int .i64 (q : Int), .int .i64 hw] 42)).heap.size (w.alloc (.cells #[.int .i64 (q : Int), .int .i64 hw] 42)) w' → w'.cell? ⟨w.heap.size, 0, none⟩ = some (.int .i64 (q : Int)) ∧ w'.cell? ⟨w.heap.size, 1, none⟩ = some (.int .i64 hw)) at CM0
  rw [hw0] at D0
  have CA0 := Lib.hid (fun (w' : World) (hb : Below w0.heap.size w0 w') => hA w' (D0.out.trans (hb.mono D0.out.size)))
  rw [hbM, hw0] at CM0
  obtain ⟨c0, c1⟩ := CM0.out w0 (Below.refl _ _)
  have hq2 : (q : Int) < (n : Int) := by omega
  clear hI hD hF hA
  go_enter Tryz.func40, Tryz.ntmps40
  go_wp2_with fail
  refine (HI.out _ D0.out).mono ?_
  rintro e w4 ⟨rfl, hb4⟩
  have D4 := Lib.hid (D0.out.trans (hb4.mono D0.out.size))
  have CM := Lib.hid (fun (w' : World) (hb : Below w4.heap.size w4 w') => CM0.out w' (hb4.trans (Below.mono hb hb4.size)))
  have CA := Lib.hid (fun (w' : World) (hb : Below w4.heap.size w4 w') => CA0.out w' (hb4.trans (Below.mono hb hb4.size)))
  clear hb4 CM0 CA0 c0 c1 hbM hw0 HI
  go_wp2_with fail
  refine Rg.wp_region_owes (by kernel_rfl) [(0, some 11), (1, some 12), (2, some 13), (3, some 14), (4, some 15), (5, some 16), (6, some 17), (7, some 18), (8, some 19), (9, some 20), (10, some 21), (11, some 22), (12, some 23), (13, some 24), (14, some 25), (15, some 26), (16, some 27), (17, some 28), (18, some 29), (19, some 4), (20, some 5), (21, some 6)] (by rfl) (by kernel_rfl) (by kernel_rfl) (fun w' => Below w4.heap.size w4 w') (RPx b o c n q bM kk hw nm ls X R) (Below.refl _ _).drew ?_ (fun _ _ h hb => h.trans (hb.mono h.size)) (fun _ _ _ _ h hb => RPx.below h hb) ⟨⟨⟨⟨⟨⟨⟨⟨⟨⟨⟨⟨⟨⟨⟨⟨⟨⟨⟨⟨⟨⟨True.intro, ?_⟩, ?_⟩, ?_⟩, ?_⟩, ?_⟩, ?_⟩, ?_⟩, ?_⟩, ?_⟩, ?_⟩, ?_⟩, ?_⟩, ?_⟩, ?_⟩, ?_⟩, ?_⟩, ?_⟩, ?_⟩, ?_⟩, ?_⟩, ?_⟩, ?_⟩ ?_
  · intro k v w' hk
    unfold RPx
    split
    case h_23 => trivial
    all_goals exact absurd hk (by decide)
  · intro o ho us wl al ha hB D K hK
    obtain rfl := Option.some.inj ho
    have e0 : al.tmps[0]?.getD undef = .slice (some ⟨b, o, none⟩) n c := (Rg.e_out ha (by rfl)).trans rfl
    have HB := Lib.hid hB
    refine Rg.wpOp_of rfl rfl ?_
    clear ha D hB
    go_simp
    exact hK _ _ rfl (Below.refl _ _)
  · intro o ho us wl al ha hB D K hK
    obtain rfl := Option.some.inj ho
    have e3 : al.tmps[3]?.getD undef = .pointer (some ⟨bM, 0, none⟩) := (Rg.e_out ha (by rfl)).trans rfl
    have HB := Lib.hid hB
    refine Rg.wpOp_of rfl rfl ?_
    clear ha D hB
    go_simp
    exact hK _ _ rfl (Below.refl _ _)
  · intro o ho us wl al ha hB D K hK
    obtain rfl := Option.some.inj ho
    have e12 := Rg.e_in (i := 1) (d := 12) ha (by rfl) (by simp) (by simp)
    have f1 : us 1 = .pointer (some ⟨bM, 0, none⟩) := D ⟨1, .data⟩ (by simp) rfl
    obtain ⟨c0, c1⟩ := CM.out _ hB
    have HB := Lib.hid hB
    refine Rg.wpOp_of rfl rfl ?_
    clear ha D hB
    go_simp
    exact hK _ _ rfl (Below.refl _ _)
  · intro o ho us wl al ha hB D K hK
    obtain rfl := Option.some.inj ho
    have e0 : al.tmps[0]?.getD undef = .slice (some ⟨b, o, none⟩) n c := (Rg.e_out ha (by rfl)).trans rfl
    have HB := Lib.hid hB
    refine Rg.wpOp_of rfl rfl ?_
    clear ha D hB
    go_simp
    exact hK _ _ rfl (Below.refl _ _)
  · intro o ho us wl al ha hB D K hK
    obtain rfl := Option.some.inj ho
    have e3 : al.tmps[3]?.getD undef = .pointer (some ⟨bM, 0, none⟩) := (Rg.e_out ha (by rfl)).trans rfl
    have HB := Lib.hid hB
    refine Rg.wpOp_of rfl rfl ?_
    clear ha D hB
    go_simp
    exact hK _ _ rfl (Below.refl _ _)
  · intro o ho us wl al ha hB D K hK
    obtain rfl := Option.some.inj ho
    have e15 := Rg.e_in (i := 4) (d := 15) ha (by rfl) (by simp) (by simp)
    have f4 : us 4 = .pointer (some ⟨bM, 0, none⟩) := D ⟨4, .data⟩ (by simp) rfl
    obtain ⟨c0, c1⟩ := CM.out _ hB
    have HB := Lib.hid hB
    refine Rg.wpOp_of rfl rfl ?_
    clear ha D hB
    go_simp
    exact hK _ _ rfl (Below.refl _ _)
  · intro o ho us wl al ha hB D K hK
    obtain rfl := Option.some.inj ho
    have e14 := Rg.e_in (i := 3) (d := 14) ha (by rfl) (by simp) (by simp)
    have f3 : us 3 = .slice (some ⟨b, o, none⟩) n c := D ⟨3, .data⟩ (by simp) rfl
    have e16 := Rg.e_in (i := 5) (d := 16) ha (by rfl) (by simp) (by simp)
    have f5 : us 5 = .int .i64 (q : Int) := D ⟨5, .data⟩ (by simp) rfl
    have HB := Lib.hid hB
    refine Rg.wpOp_of rfl rfl ?_
    clear ha D hB
    go_simp
    exact hK _ _ rfl (Below.refl _ _)
  · intro o ho us wl al ha hB D K hK
    obtain rfl := Option.some.inj ho
    have e17 := Rg.e_in (i := 6) (d := 17) ha (by rfl) (by simp) (by simp)
    have f6 : us 6 = .pointer (some ⟨b, o + q * 3, none⟩) := D ⟨6, .data⟩ (by simp) rfl
    have HB := Lib.hid hB
    refine Rg.wpOp_of rfl rfl ?_
    clear ha D hB
    go_simp
    exact hK _ _ rfl (Below.refl _ _)
  · intro o ho us wl al ha hB D K hK
    obtain rfl := Option.some.inj ho
    have e18 := Rg.e_in (i := 7) (d := 18) ha (by rfl) (by simp) (by simp)
    have f7 : us 7 = .pointer (some ⟨b, o + q * 3, none⟩) := D ⟨7, .data⟩ (by simp) rfl
    obtain ⟨g0, g1⟩ := CA.out _ hB
    have HB := Lib.hid hB
    refine Rg.wpOp_of rfl rfl ?_
    clear ha D hB
    go_simp
    exact hK _ _ rfl (Below.refl _ _)
  · intro o ho us wl al ha hB D K hK
    obtain rfl := Option.some.inj ho
    have e3 : al.tmps[3]?.getD undef = .pointer (some ⟨bM, 0, none⟩) := (Rg.e_out ha (by rfl)).trans rfl
    have HB := Lib.hid hB
    refine Rg.wpOp_of rfl rfl ?_
    clear ha D hB
    go_simp
    exact hK _ _ rfl (Below.refl _ _)
  · intro o ho us wl al ha hB D K hK
    obtain rfl := Option.some.inj ho
    have e20 := Rg.e_in (i := 9) (d := 20) ha (by rfl) (by simp) (by simp)
    have f9 : us 9 = .pointer (some ⟨bM, 1, none⟩) := D ⟨9, .data⟩ (by simp) rfl
    obtain ⟨c0, c1⟩ := CM.out _ hB
    have HB := Lib.hid hB
    refine Rg.wpOp_of rfl rfl ?_
    clear ha D hB
    go_simp
    exact hK _ _ rfl (Below.refl _ _)
  · intro o ho us wl al ha hB D K hK
    obtain rfl := Option.some.inj ho
    have e19 := Rg.e_in (i := 8) (d := 19) ha (by rfl) (by simp) (by simp)
    have f8 : us 8 = .int .i64 kk := D ⟨8, .data⟩ (by simp) rfl
    have e21 := Rg.e_in (i := 10) (d := 21) ha (by rfl) (by simp) (by simp)
    have f10 : us 10 = .int .i64 hw := D ⟨10, .data⟩ (by simp) rfl
    have HB := Lib.hid hB
    refine Rg.wpOp_of rfl rfl ?_
    clear ha D hB
    go_simp
    refine (HD.out _).mono ?_
    rintro e wn ⟨f, rfl, hf, hb⟩
    exact hK _ _ hf hb
  · intro o ho us wl al ha hB D K hK
    obtain rfl := Option.some.inj ho
    have e11 := Rg.e_in (i := 0) (d := 11) ha (by rfl) (by simp) (by simp)
    have f0 : us 0 = .slice (some ⟨b, o, none⟩) n c := D ⟨0, .data⟩ (by simp) rfl
    have e13 := Rg.e_in (i := 2) (d := 13) ha (by rfl) (by simp) (by simp)
    have f2 : us 2 = .int .i64 (q : Int) := D ⟨2, .data⟩ (by simp) rfl
    have e22 := Rg.e_in (i := 11) (d := 22) ha (by rfl) (by simp) (by simp)
    have D11 : Hid (FnV wl (us 11) ls X) := D ⟨11, .data⟩ (by simp) rfl
    have HB := Lib.hid hB
    refine Rg.wpOp_of rfl rfl ?_
    clear ha D hB
    go_simp
    refine (HF.out _ _ (D4.out.trans (HB.out.mono D4.out.size)) D11.out).mono ?_
    rintro e wn ⟨y, rfl, hy, hb⟩
    exact hK _ _ hy hb
  · intro o ho us wl al ha hB D K hK
    obtain rfl := Option.some.inj ho
    have e0 : al.tmps[0]?.getD undef = .slice (some ⟨b, o, none⟩) n c := (Rg.e_out ha (by rfl)).trans rfl
    have HB := Lib.hid hB
    refine Rg.wpOp_of rfl rfl ?_
    clear ha D hB
    go_simp
    exact hK _ _ rfl (Below.refl _ _)
  · intro o ho us wl al ha hB D K hK
    obtain rfl := Option.some.inj ho
    have e3 : al.tmps[3]?.getD undef = .pointer (some ⟨bM, 0, none⟩) := (Rg.e_out ha (by rfl)).trans rfl
    have HB := Lib.hid hB
    refine Rg.wpOp_of rfl rfl ?_
    clear ha D hB
    go_simp
    exact hK _ _ rfl (Below.refl _ _)
  · intro o ho us wl al ha hB D K hK
    obtain rfl := Option.some.inj ho
    have e25 := Rg.e_in (i := 14) (d := 25) ha (by rfl) (by simp) (by simp)
    have f14 : us 14 = .pointer (some ⟨bM, 0, none⟩) := D ⟨14, .data⟩ (by simp) rfl
    obtain ⟨c0, c1⟩ := CM.out _ hB
    have HB := Lib.hid hB
    refine Rg.wpOp_of rfl rfl ?_
    clear ha D hB
    go_simp
    exact hK _ _ rfl (Below.refl _ _)
  · intro o ho us wl al ha hB D K hK
    obtain rfl := Option.some.inj ho
    have e24 := Rg.e_in (i := 13) (d := 24) ha (by rfl) (by simp) (by simp)
    have f13 : us 13 = .slice (some ⟨b, o, none⟩) n c := D ⟨13, .data⟩ (by simp) rfl
    have e26 := Rg.e_in (i := 15) (d := 26) ha (by rfl) (by simp) (by simp)
    have f15 : us 15 = .int .i64 (q : Int) := D ⟨15, .data⟩ (by simp) rfl
    have HB := Lib.hid hB
    refine Rg.wpOp_of rfl rfl ?_
    clear ha D hB
    go_simp
    exact hK _ _ rfl (Below.refl _ _)
  · intro o ho us wl al ha hB D K hK
    obtain rfl := Option.some.inj ho
    have e27 := Rg.e_in (i := 16) (d := 27) ha (by rfl) (by simp) (by simp)
    have f16 : us 16 = .pointer (some ⟨b, o + q * 3, none⟩) := D ⟨16, .data⟩ (by simp) rfl
    have HB := Lib.hid hB
    refine Rg.wpOp_of rfl rfl ?_
    clear ha D hB
    go_simp
    exact hK _ _ rfl (Below.refl _ _)
  · intro o ho us wl al ha hB D K hK
    obtain rfl := Option.some.inj ho
    have e28 := Rg.e_in (i := 17) (d := 28) ha (by rfl) (by simp) (by simp)
    have f17 : us 17 = .pointer (some ⟨b, o + q * 3 + 1, none⟩) := D ⟨17, .data⟩ (by simp) rfl
    obtain ⟨g0, g1⟩ := CA.out _ hB
    have HB := Lib.hid hB
    refine Rg.wpOp_of rfl rfl ?_
    clear ha D hB
    go_simp
    exact hK _ _ rfl (Below.refl _ _)
  · intro o ho us wl al ha hB D K hK
    obtain rfl := Option.some.inj ho
    have e23 := Rg.e_in (i := 12) (d := 23) ha (by rfl) (by simp) (by simp)
    have D12 : Hid (Nds wl (us 12) R) := D ⟨12, .data⟩ (by simp) rfl
    have HB := Lib.hid hB
    refine Rg.wpOp_of rfl rfl ?_
    clear ha D hB
    go_simp
    exact hK _ _ D12.out (Below.refl _ _)
  · intro o ho us wl al ha hB D K hK
    obtain rfl := Option.some.inj ho
    have e29 := Rg.e_in (i := 18) (d := 29) ha (by rfl) (by simp) (by simp)
    have f18 : us 18 = .string nm := D ⟨18, .data⟩ (by simp) rfl
    have HB := Lib.hid hB
    refine Rg.wpOp_of rfl rfl ?_
    clear ha D hB
    go_simp
    exact hK _ _ rfl (Below.refl _ _)
  · intro o ho us wl al ha hB D K hK
    obtain rfl := Option.some.inj ho
    have HB := Lib.hid hB
    refine Rg.wpOp_of rfl rfl ?_
    clear ha D hB
    go_simp
    exact hK _ _ rfl (Below.refl _ _)
  · intro us wz hB hR
    have hr : Nds wz (us 19) R := hR 19
    have f1 : us 20 = .string nm := hR 20
    have f2 : us 21 = .int .i64 0 := hR 21
    have DZ := Lib.hid (D4.out.trans (hB.mono D4.out.size))
    have NZ := Lib.hid hr
    simp only [Rg.puts, Act.put, List.setIfInBounds_toArray, List.set_cons_zero, List.set_cons_succ, f1, f2]
    clear hB hR
    generalize us 19 = y at *
    obtain ⟨_, ay, cy, rfl, -⟩ := id hr
    clear hr
    go_wp2_with fail
    go_ret3
    exact ⟨_, rfl, NZ.out, DZ.out⟩
end Go.Proofs.YtpingbiibbmcaaaGreat.St

namespace Go.Proofs.YtpingbiibbmcaaaGreat.Me
open Go Go.RowKit Go.Proofs.YtpingbiibbmcaaaGreat.Rw Go.Proofs.YtpingbiibbmcaaaGreat.So Go.Proofs.YtpingbiibbmcaaaGreat.Se Go.Proofs.YtpingbiibbmcaaaGreat.Do
set_option maxRecDepth 20000

/-- Package move's contracts. -/
theorem con : Con where
  en := enabledP_any
  is := isP_any
  pk := pickP_any
end Go.Proofs.YtpingbiibbmcaaaGreat.Me

namespace Go.Proofs.YtpingbiibbmcaaaGreat.St
open Go Go.RowKit Go.Proofs.YtpingbiibbmcaaaGreat.Rw Go.Proofs.YtpingbiibbmcaaaGreat.So Go.Proofs.YtpingbiibbmcaaaGreat.Se Go.Proofs.YtpingbiibbmcaaaGreat.Do Go.Proofs.YtpingbiibbmcaaaGreat.Sp Go.Proofs.YtpingbiibbmcaaaGreat.Me
set_option maxRecDepth 20000

theorem way_of {s u : Tm} {h : Int} {o : Option ByteArray} (k : Made s h o u) (q : List Nd) : Way (kn (flat s ++ q) 0) h ∧ (kn (flat s ++ q) 0 ≠ 1 → kn (flat s ++ q) 0 ≠ 4 → (kids (flat s ++ q)).length = 2) ∧ nmAt (flat s ++ q) 0 = o.getD ⟨#[]⟩ := by
  have two : ∀ (n : Nd) (a b : Tm), ar n.k = 2 → kids ((n :: (flat a ++ flat b)) ++ q) = [flat a, flat b] := fun n a b hk => by
    have := kidsA_two (n := n) a b q hk
    rw [List.cons_append, List.append_assoc]
    exact this
  cases k with
  | act s => exact ⟨.inl ⟨rfl, rfl⟩, fun h => absurd rfl h, rfl⟩
  | altl _ b => exact ⟨.inr (.inr (.inr (.inl ⟨rfl, rfl⟩))), fun _ _ => by rw [show flat (.alt u b) = nOf 6 :: (flat u ++ flat b) from rfl, two _ _ _ rfl]; rfl, rfl⟩
  | altr a _ => exact ⟨.inr (.inr (.inr (.inr (.inl ⟨rfl, rfl⟩)))), fun _ _ => by rw [show flat (.alt a u) = nOf 6 :: (flat a ++ flat u) from rfl, two _ _ _ rfl]; rfl, rfl⟩
  | yieldg => exact ⟨.inr (.inl ⟨rfl, rfl⟩), fun _ h => absurd rfl h, rfl⟩
  | yields => exact ⟨.inr (.inr (.inl ⟨rfl, rfl⟩)), fun _ h => absurd rfl h, rfl⟩
  | pairg a b => exact ⟨.inr (.inr (.inr (.inr (.inr (.inl ⟨rfl, rfl⟩))))), fun _ _ => by rw [show flat (.pair a b) = nOf 10 :: (flat a ++ flat b) from rfl, two _ _ _ rfl]; rfl, rfl⟩
  | pairs a b => exact ⟨.inr (.inr (.inr (.inr (.inr (.inr ⟨rfl, rfl⟩))))), fun _ _ => by rw [show flat (.pair a b) = nOf 10 :: (flat a ++ flat b) from rfl, two _ _ _ rfl]; rfl, rfl⟩
theorem kids_sum (l : List Nd) : (kids l).flatten.length ≤ l.length := by
  by_cases h : size l = 0
  · rw [show kids l = [] from if_pos h]; simp
  · cases l with
    | nil => exact absurd rfl h
    | cons n r =>
      have := congrArg List.length (kids_flat h)
      rw [List.length_cons, List.length_take] at this
      omega
theorem put_at (l : List Nd) (q : Nat) (x : List Nd) (hq : q < l.length) : putR l (q : Int) x = putN l q x := if_neg (by omega)
set_option maxHeartbeats 1000000 in
theorem nextP_no (v : Value) (l : List Nd) (m : Mv) (w : World) (hv : Nds w v l) (hl : l.length ≤ 1000) (hm : Nms l) (h0 : m ∉ enR l) :
    Calls Tryz.prog 40 #[v, mvV m] w fun e w' => ∃ y, e = .returned (.tuple #[y, .string (nxS l m), .int .i64 (nxE l m)]) ∧ Nds w' y (nxL l m) ∧ Below w.heap.size w w' := by
  rw [show nxL l m = [] from if_neg h0, show nxS l m = ⟨#[]⟩ from if_neg fun h => h0 h.1, show nxE l m = 120 from if_neg h0]
  have HI := Lib.hid (fun w1 (hb : Below w.heap.size w w1) => isP_any v l m w1 (hv.below hb) hl hm)
  rw [decide_eq_false h0] at HI
  have D0 := Lib.hid (below1 w (.cells #[.int .i64 m.p, .int .i64 m.h] 42))
  obtain ⟨mp, mh⟩ := m
  obtain ⟨_, a, c, rfl, -⟩ := id hv
  clear hv hm h0
  go_enter Tryz.func40, Tryz.ntmps40
  go_wp2_with fail
  refine (HI.out _ D0.out).mono ?_
  rintro e w1 ⟨rfl, hb⟩
  have D := Lib.hid (D0.out.trans (hb.mono D0.out.size))
  clear hb
  go_wp2_with fail
  go_ret3
  exact ⟨_, rfl, nds_nil _, D.out⟩
theorem nextP_any (v : Value) (l : List Nd) (m : Mv) (w : World) (hv : Nds w v l) (hl : l.length ≤ 1000) (hm : Nms l) :
    Calls Tryz.prog 40 #[v, mvV m] w fun e w' => ∃ y, e = .returned (.tuple #[y, .string (nxS l m), .int .i64 (nxE l m)]) ∧ Nds w' y (nxL l m) ∧ Below w.heap.size w w' := by
  by_cases h0 : m ∈ enR l
  · obtain ⟨t, rfl, hg, hn⟩ := en_set h0
    obtain ⟨mo, h1, rfl⟩ := en_mo hg hn h0
    obtain ⟨n1, n2, n3⟩ := nx_of hg hn h1
    have hI := fun w1 (hb : Below w.heap.size w w1) => isP_any v (flat t) (mvOf mo) w1 (hv.below hb) hl hm
    rw [decide_eq_true h0] at hI
    obtain ⟨pre, s, post, u, e1, e2, e3, hmd⟩ := mv_put t true 0 mo h1
    obtain ⟨p1, p2⟩ := put_row pre (flat s) post (flat u) (tre_flat s)
    have hr := mo_goes hg h1
    have ht := hg.2.1
    have hr2 := hr.2.1
    have l1 := congrArg List.length e1
    have l3 := congrArg List.length e3
    rw [Se.flat_len] at l1 l3
    simp only [List.length_append, Se.flat_len] at l1 l3
    have hq : pre.length < (flat t).length := by rw [Se.flat_len, l1]; have := sz_pos s; omega
    have e2' : mo.p = pre.length := by omega
    have ev : mvV (mvOf mo) = .agg #[.int .i64 (pre.length : Int), .int .i64 mo.h] := by
      show Value.agg #[.int .i64 (mo.p : Int), .int .i64 mo.h] = _
      rw [e2']
    rw [n1, n2, n3, ev]
    rw [ev] at hI
    obtain ⟨w1, w2, w3⟩ := way_of hmd post
    have d1 : (flat t).drop pre.length = flat s ++ post := by rw [e1]; exact p2
    have pR : putR (flat t) (pre.length : Int) (flat u) = flat mo.r := by rw [put_at _ _ _ hq, e1, p1, ← e3]
    have hX : mdK (kids ((flat t).drop pre.length)) (kn (flat s ++ post) 0) mo.h = flat u := by
      rw [d1, ← mdR_K]
      exact md_made hmd post
    have hget : (flat t)[pre.length]? = (flat s ++ post)[0]? := by
      rw [e1, List.getElem?_append_right (Nat.le_refl _), Nat.sub_self]
    have hk : (flat t)[pre.length].k = kn (flat s ++ post) 0 ∧ (flat t)[pre.length].n = nmAt (flat s ++ post) 0 := by
      rw [List.getElem?_eq_getElem hq] at hget
      constructor
      · unfold kn
        rw [show ((0 : Int)).toNat = 0 from rfl, ← hget]
      · unfold nmAt
        rw [← hget]
    rcases hv.form with ⟨hz, _⟩ | ⟨b, o, c, rfl, hc, hat⟩
    · rw [hz] at hq; simp at hq
    have hA := at_keep hat pre.length hq
    rw [hk.1, hk.2, w3] at hA
    refine next_core b o c (flat t).length pre.length (kn (flat s ++ post) 0) mo.h (mo.l.getD ⟨#[]⟩) (kids ((flat t).drop pre.length)) (flat u) _ w hq hA hI ?_ ?_
    · intro wx
      have := done_any (kn (flat s ++ post) 0) mo.h w1 (kids ((flat t).drop pre.length)) wx (by rw [d1]; exact w2) (by
        have := kids_sum ((flat t).drop pre.length)
        rw [List.length_drop] at this
        omega)
      rwa [hX] at this
    · intro wx f hb hf
      have := after_any _ f (flat t) (flat u) pre.length wx (hv.below hb) (by rw [Se.flat_len]; omega) (by rw [Se.flat_len]; omega) hq hf (by rw [pR]; exact nms_goes hr.1) (by rw [pR, Se.flat_len]; omega)
      rwa [pR, st_go hr] at this
  · exact nextP_no v l m w hv hl hm h0
end Go.Proofs.YtpingbiibbmcaaaGreat.St

namespace Go.Proofs.YtpingbiibbmcaaaGreat.Ru
open Go Go.RowKit Go.Proofs.YtpingbiibbmcaaaGreat.Rw Go.Proofs.YtpingbiibbmcaaaGreat.So Go.Proofs.YtpingbiibbmcaaaGreat.Se Go.Proofs.YtpingbiibbmcaaaGreat.Tr Go.Proofs.YtpingbiibbmcaaaGreat.Do Go.Proofs.YtpingbiibbmcaaaGreat.Sp Go.Proofs.YtpingbiibbmcaaaGreat.Me Go.Proofs.YtpingbiibbmcaaaGreat.St
set_option maxRecDepth 20000

theorem so_off {ok : Nat → Prop} {w w' : World} {g : Nat} {v : Value} {l : List ByteArray} {xs : Array Value} {T : TypeId} {fr : Nat × Nat} (h : StrsO ok w v l) (hg : w.heap[g]? = some (.cells xs T fr)) (hx : ∀ u ∈ xs.toList, ∀ s, u ≠ .string s) (hm : w.grownBy w' (some g)) : StrsO ok w' v l := by
  obtain ⟨_, a', c', hv', _, _, hcell'⟩ := strs_off (Ap.RdO.rd h) hg hx hm
  obtain ⟨hl, a, cap, hv, hc, hn, hcell⟩ := h
  rw [hv] at hv'
  injection hv' with e1 e2 e3
  refine ⟨hl, a, cap, hv, hc, hn, fun h0 => ?_⟩
  obtain ⟨b, off, ha, ho, hlt, _⟩ := hcell h0
  obtain ⟨b', off', ha', hj'⟩ := hcell' h0
  rw [← e1, ha] at ha'
  injection ha' with ha'
  injection ha' with h1 h2 h3
  exact ⟨b, off, ha, ho, Nat.lt_of_lt_of_le hlt hm.size, fun j u hu => by rw [h1, h2]; exact hj' j u hu⟩
/-- What comes of a move: the row, and what was done. -/
def ByP (l : List Nd) (m : Mv) (w : World) (e : Ending) (w' : World) : Prop := ∃ y d, e = .returned (.agg #[y, d]) ∧ Nds w' y (nxL l m) ∧ StrsO (fun b => w.heap.size ≤ b) w' d (didR l m) ∧ Below w.heap.size w w'
set_option maxHeartbeats 2000000 in
theorem by_any (v : Value) (l : List Nd) (m : Mv) (w : World) (hv : Nds w v l) (hl : l.length ≤ 1000) (hm : Nms l) : Calls Tryz.prog 19 #[v, mvV m] w (ByP l m w) := by
  have HB := Lib.hid (fun x y => ((Below.refl w.heap.size w).alloc (Nat.le_refl _) x).alloc (by simp) y)
  have HN := Lib.hid (fun w1 (hb : Below w.heap.size w w1) => nextP_any v l m w1 (hv.below hb) hl hm)
  have HD := Lib.hid (show didR l m = if m.h = 1 then [nxS l m] else [] from rfl)
  obtain ⟨mp, mh⟩ := m
  obtain ⟨_, a, c, rfl, -⟩ := hv
  unfold ByP
  generalize nxL l ⟨mp, mh⟩ = L at *
  go_enter Tryz.func19, Tryz.ntmps19
  go_wp2_with fail
  refine (HN.out _ (HB.out _ _)).mono ?_
  rintro e w1 ⟨y, rfl, hy, hb⟩
  have q0 := kc (p := ⟨w.heap.size, 1, none⟩) (u := .int .i64 mh) hb (by simp [go_sem])
  have q1 := kc (p := ⟨w.heap.size + 1, 0, none⟩) (u := .slice none 0 0) hb (by simp [go_sem])
  have q2 := kc (p := ⟨w.heap.size + 1, 1, none⟩) (u := .slice none 0 0) hb (by simp [go_sem])
  have q3 := kf (p := ⟨w.heap.size + 1, 0, none⟩) hb (by simp [go_sem]) (by simp)
  have q4 := kf (p := ⟨w.heap.size + 1, 1, none⟩) hb (by simp [go_sem]) (by simp)
  have G : Hid (w1.heap[w.heap.size + 1]? = some (.cells #[.slice none 0 0, .slice none 0 0] 47 (0, 0))) := Lib.hid ((hb.block _ (by simp)).trans (new2 _ _ _))
  have D1 := Lib.hid ((HB.out _ _).trans (hb.mono (HB.out _ _).size))
  have HY := Lib.hid hy
  obtain ⟨_, ya, yc, rfl, _⟩ := id hy
  clear hb hy
  by_cases h1 : mh = 1
  · subst h1
    obtain ⟨W, hW⟩ : ∃ W, w1.alloc (.cells #[.string (nxS l ⟨mp, 1⟩)] 9) = W := ⟨_, rfl⟩
    have B2 := Lib.hid (show Below w1.heap.size w1 W by rw [← hW]; exact Rw.below1 _ _)
    have p1 := kc B2.out q1
    have p2 := kc B2.out q2
    have p3 := kf (p := ⟨w.heap.size + 1, 0, none⟩) B2.out q3 (Ap.cell_lt q1)
    have p4 := kf (p := ⟨w.heap.size + 1, 1, none⟩) B2.out q4 (Ap.cell_lt q2)
    have G2 := Lib.hid ((B2.out.block _ (Ap.cell_lt q1)).trans G.out)
    have HS := Lib.hid (show StrsO (fun b => w.heap.size ≤ b) W (.slice (some ⟨w1.heap.size, 0, none⟩) 1 1) [nxS l ⟨mp, 1⟩] from ⟨rfl, _, 1, rfl, Nat.le_refl _, fun h => (by cases h), fun _ => ⟨w1.heap.size, 0, rfl, D1.out.size, by rw [← hW]; simp, fun j u hu => by
      rw [← hW, Nat.zero_add, World.cell?_alloc_new]
      simpa using hu⟩⟩)
    go_wp2_with fail
    have k0 : ((W.setCell ⟨w.heap.size + 1, 0, none⟩ (.slice ya L.length yc)).setCell ⟨w.heap.size + 1, 1, none⟩ (.slice (some ⟨w1.heap.size, 0, none⟩) 1 1)).cell? ⟨w.heap.size + 1, 0, none⟩ = some (.slice ya L.length yc) := by rw [Se.cell_set_o (by omega)]; exact Se.cell_set_eq p1
    have k1 : ((W.setCell ⟨w.heap.size + 1, 0, none⟩ (.slice ya L.length yc)).setCell ⟨w.heap.size + 1, 1, none⟩ (.slice (some ⟨w1.heap.size, 0, none⟩) 1 1)).cell? ⟨w.heap.size + 1, 1, none⟩ = some (.slice (some ⟨w1.heap.size, 0, none⟩) 1 1) := Se.cell_set_eq (by rw [Se.cell_set_o (by omega)]; exact p2)
    refine bodyPost_ret (v := .agg #[.slice ya L.length yc, .slice (some ⟨w1.heap.size, 0, none⟩) 1 1]) (by simp [results, Tryz.results19, go_sem, k0, k1]) rfl ⟨_, _, rfl, ?_, ?_, ?_⟩
    · exact nds_off (HY.out.below B2.out) G2.out (by simp) (two_set _ _ _ _)
    · rw [HD.out]
      exact so_off HS.out G2.out (by simp) (two_set _ _ _ _)
    · exact Rx.below_setCell (Rx.below_setCell (D1.out.trans (B2.out.mono D1.out.size)) _ _ _ (by omega)) _ _ _ (by omega)
  · have h2 : (mh == 1) = false := by simpa using h1
    go_wp2_with fail
    have k0 : ((w1.setCell ⟨w.heap.size + 1, 0, none⟩ (.slice ya L.length yc)).setCell ⟨w.heap.size + 1, 1, none⟩ (.slice none 0 0)).cell? ⟨w.heap.size + 1, 0, none⟩ = some (.slice ya L.length yc) := by rw [Se.cell_set_o (by omega)]; exact Se.cell_set_eq q1
    have k1 : ((w1.setCell ⟨w.heap.size + 1, 0, none⟩ (.slice ya L.length yc)).setCell ⟨w.heap.size + 1, 1, none⟩ (.slice none 0 0)).cell? ⟨w.heap.size + 1, 1, none⟩ = some (.slice none 0 0) := Se.cell_set_eq (by rw [Se.cell_set_o (by omega)]; exact q2)
    refine bodyPost_ret (v := .agg #[.slice ya L.length yc, .slice none 0 0]) (by simp [results, Tryz.results19, go_sem, k0, k1]) rfl ⟨_, _, rfl, ?_, ?_, ?_⟩
    · exact nds_off HY.out G.out (by simp) (two_set _ _ _ _)
    · rw [HD.out, if_neg h1]
      exact ⟨rfl, none, 0, rfl, Nat.le_refl _, fun _ => ⟨rfl, rfl⟩, fun h => absurd h (Nat.lt_irrefl _)⟩
    · exact Rx.below_setCell (Rx.below_setCell D1.out _ _ _ (by omega)) _ _ _ (by omega)
end Go.Proofs.YtpingbiibbmcaaaGreat.Ru
