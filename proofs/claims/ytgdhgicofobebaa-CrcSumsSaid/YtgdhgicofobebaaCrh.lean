/- The program's Frame: four copies into a block of its own. -/
import Derived.Test.YtgdhgicofobebaaCrg
import Derived.Deep.RegionHeld3
namespace Go.Proofs.Ytgdhgicofobebaa.Cr
open Go Go.RowKit
set_option maxRecDepth 20000

theorem splice_mid (P M Q X : List Value) (h : M.length = X.length) : splice (P ++ (M ++ Q)) P.length X = P ++ (X ++ Q) := by
  unfold splice
  rw [List.take_left' rfl, ← h, ← List.append_assoc P M Q, List.drop_left' (by rw [List.length_append])]
/-- One more part is filled. -/
theorem fill_step {w : World} (base g : Nat) (w0 : World) (D : Below base w0 w) (hg : base ≤ g) (P M Q : List Value) {t : TypeId} (h : w.heap[g]? = some (.cells (P ++ (M ++ Q)).toArray t (0, 0))) (X : By) {sv : Value} (hx : Bys w sv X) (hM : M.length = X.length) (off : Nat) (hoff : P.length = off) (ty : TypeId) :
    ∃ w', (∀ (dp : Option Addr) (N cap : Nat), X.length ≤ N → (0 < X.length → dp = some ⟨g, off, none⟩) → (Builtin.copy_ #[23, 23] ty #[.slice dp N cap, sv]).run Try.prog w = .ok (goInt X.length) w') ∧
      w'.heap[g]? = some (.cells (P ++ (bc X ++ Q)).toArray t (0, 0)) ∧ Below base w0 w' ∧ w'.heap.size = w.heap.size := by
  subst hoff
  obtain ⟨w', h1, h2, h3, h4, _⟩ := copy_bys g P.length X [] (by rw [List.append_nil]; exact hx) _ h (by rw [List.length_append, List.length_append, hM]; omega) base w0 D hg ty
  rw [splice_mid _ _ _ _ (by rw [bc_len]; exact hM)] at h2
  refine ⟨w', fun dp N cap hN hdp => h1 dp N cap (by rw [List.append_nil]; omega) hdp, h2, h3, h4⟩
theorem cut_parts {α : Type} (Z : List α) (m : Nat) (h : Z.length = 16 + m) : ∃ z1 z2 z3 z4, Z = z1 ++ (z2 ++ (z3 ++ z4)) ∧ z1.length = 8 ∧ z2.length = 4 ∧ z3.length = 4 ∧ z4.length = m := by
  refine ⟨Z.take 8, (Z.drop 8).take 4, (Z.drop 12).take 4, Z.drop 16, ?_, by simp; omega, by simp; omega, by simp; omega, by simp; omega⟩
  rw [show 16 = 12 + 4 from rfl, ← List.drop_drop, List.take_append_drop, show 12 = 8 + 4 from rfl, ← List.drop_drop, List.take_append_drop, List.take_append_drop]
set_option maxHeartbeats 1000000 in
theorem frameP_long (n : Nat) (v : Value) (data : By) (w : World) (hv : Bys w v data) (hl : data.length > 2048) :
    Calls Try.prog 19 #[.int .u64 (n : Int), v] w fun e w' => e = .returned (.tuple #[.slice none 0 0, .bool false]) ∧ w = w' := by
  obtain ⟨a, m, c, rfl, hm⟩ := hv.split
  rw [hm] at hl
  clear hv hm
  go_enter Try.func19, Try.ntmps19
  go_wp2_with fail
  go_ret2
  exact ⟨rfl, rfl⟩
set_option maxHeartbeats 4000000 in
theorem frameP_any (n : Nat) (v : Value) (data : By) (w : World) (hv : Bys w v data) (hl : data.length ≤ 2048) :
    Calls Try.prog 19 #[.int .u64 (n : Int), v] w fun e w' => ∃ y, e = .returned (.tuple #[y, .bool true]) ∧ OwB w' w.heap.size y (frame n data) ∧ Below w.heap.size w w' := by
  obtain ⟨i0, hi0, hz0, hs0, hb0⟩ := info_parts infoB
  obtain ⟨a, m, c, rfl, hm⟩ := hv.split
  have HV := Lib.hid hv
  have HM := Lib.hid hm
  have hcap := hv.cap
  rw [hm] at hl
  obtain ⟨N, hN⟩ : ∃ N, 16 + m = N := ⟨_, rfl⟩
  have eN : (16 : Int) + (m : Int) = (N : Int) := by omega
  have hN1 : 16 ≤ N := by omega
  have hN2 : N ≤ 2064 := by omega
  have HN := Lib.hid hN
  have HP8 := Lib.hid (fun w1 => putP_any n 8 w1)
  rw [show pm 8 = 8 from rfl] at HP8
  have HP4 := Lib.hid (fun w1 => putP_any m 4 w1)
  rw [show pm 4 = 4 from rfl] at HP4
  clear hv hm hN
  go_enter Try.func19, Try.ntmps19
  go_wp2_with (at_make; refine wpList_make_full _ rfl _ _ 23 rfl w.heap.size 5 i0 _ 1 Try.underlying23 hi0 hz0 hs0 .i64 .i64 _ _ N rfl rfl rfl rfl (by rw [hb0]; omega) (by unfold maxLen; omega) (Nat.le_refl _) ?_; intro w1 hown1 hgrow1)
  obtain ⟨Z, hZ, hcur⟩ := made_bytes hown1
  have hb1 := (Below.refl w.heap.size w).grown hgrow1 (Nat.le_refl _) (fun k hk => by cases hk)
  obtain ⟨z1, z2, z3, z4, rfl, l1, l2, l3, l4⟩ := cut_parts Z m (by rw [hZ]; exact HN.out.symm)
  have hgl : w.heap.size < w1.heap.size := (Array.getElem?_eq_some_iff.1 hcur).1
  obtain ⟨g, hg⟩ : ∃ g, w.heap.size = g := ⟨_, rfl⟩
  rw [hg] at hcur hgl
  have G1 := Lib.hid hcur
  have D1 := Lib.hid hb1
  have L := Lib.hid (⟨l1, l2, l3, l4⟩ : z1.length = 8 ∧ z2.length = 4 ∧ z3.length = 4 ∧ z4.length = m)
  have hwg : w.heap.size ≤ g := by omega
  rw [hg]
  clear hown1 hgrow1 hcur hb1 l1 l2 l3 l4 hZ
  go_wp2_with fail
  refine (HP8.out _).mono ?_
  rintro e w2 ⟨x2, rfl, ho2, hb2⟩
  have D2 := D1.out.trans (hb2.mono D1.out.size)
  have G2 : w2.heap[g]? = _ := (hb2.block g hgl).trans G1.out
  obtain ⟨ax, mx, cx, rfl, hmx⟩ := ho2.bys.split
  rw [pu_len] at hmx
  subst hmx
  obtain ⟨w3, r3, G3, D3, s3⟩ := fill_step w.heap.size g w D2 hwg [] z1 (z2 ++ (z3 ++ z4)) G2 (pu 8 n) ho2.bys (by rw [pu_len]; exact L.out.1) 0 rfl 3
  rw [pu_len] at r3
  have R3 := Lib.hid r3
  have G3 := Lib.hid G3
  have D3 := Lib.hid D3
  have S3 : Hid (g < w3.heap.size) := by have := hb2.size; show _ < _; omega
  clear r3 s3 ho2 hb2 D2 G2
  go_wp2_with fail
  rw [R3.out _ _ _ (by omega) (fun _ => rfl)]
  clear R3 hgl G1 D1
  go_wp2_with fail
  have i8 : (8 : Int) ≤ (N : Int) := by omega
  have i12 : (12 : Int) ≤ (N : Int) := by omega
  have i16 : (16 : Int) ≤ (N : Int) := by omega
  have n8 : ¬ N = 8 := by omega
  have n12 : ¬ N = 12 := by omega
  have hwm : IntKind.u64.wrap (m : Int) = (m : Int) := IntWalk.u64_in _ ⟨by omega, by omega⟩
  go_region_held3 (fun _ => True) (exact trivial) (first
    | (go_at_call 14
       (with_reducible refine (HP4.out _).mono ?_)
       rintro e w4 ⟨x4, rfl, ho4, hb4⟩
       obtain ⟨a4, m4, c4, rfl, hm4⟩ := ho4.bys.split
       rw [pu_len] at hm4
       subst hm4
       obtain ⟨w5, r5, G5, D5, s5⟩ := fill_step w.heap.size g w (D3.out.trans ((Below.refl _ _).drew.trans hb4 |>.mono D3.out.size)) hwg (bc (pu 8 n)) z2 (z3 ++ z4) ((hb4.block g S3.out).trans G3.out) (pu 4 m) ho4.bys (by rw [pu_len]; exact L.out.2.1) 8 (by rw [bc_len, pu_len]) 3
       rw [pu_len] at r5
       have R5 := Lib.hid (r5 (some ⟨g, 8, none⟩) (N - 8) (N - 8) (by omega) (fun _ => rfl))
       have G5 := Lib.hid G5
       have D5 := Lib.hid D5
       have S5 : Hid (g < w5.heap.size) := by have h1 := hb4.size; have h2 := S3.out; have h3 : w3.drew.heap.size = w3.heap.size := rfl; show _ < _; omega
       clear r5 s5 ho4 hb4)
    | (refine Cy.step_copy_run rfl _ _ _ _ rfl _ _ _ rfl rfl w5 R5.out ?_)
    | fail)
  have V5 := HV.out.below D5.out
  have g5 := G5.out
  rw [show bc (pu 8 n) ++ (bc (pu 4 m) ++ (z3 ++ z4)) = (bc (pu 8 n) ++ (bc (pu 4 m) ++ z3)) ++ (z4 ++ []) by simp only [List.append_assoc, List.append_nil]] at g5
  obtain ⟨w6, r6, g6, D6, s6⟩ := fill_step w.heap.size g w D5.out hwg _ z4 [] g5 data V5 (by rw [HM.out]; exact L.out.2.2.2) 16 (by rw [List.length_append, List.length_append, bc_len, bc_len, pu_len, pu_len, L.out.2.2.1]) 3
  rw [HM.out] at r6
  have R6 := Lib.hid r6
  rw [show (bc (pu 8 n) ++ (bc (pu 4 m) ++ z3)) ++ (bc data ++ []) = (bc (pu 8 n) ++ bc (pu 4 m)) ++ (z3 ++ bc data) by simp only [List.append_assoc, List.append_nil]] at g6
  have G6 := Lib.hid g6
  have S6 : Hid (g < w6.heap.size) := by have := S5.out; show _ < _; omega
  have HH : Hid (hd n data = pu 8 n ++ pu 4 m) := by show _ = _; unfold hd; rw [HM.out]
  have V12 : Bys w6 (.slice (some ⟨g, 0, none⟩) 12 N) (hd n data) := by
    have h := bys_cells (w := w6) (b := g) (off := 0) (cap := N) (l := hd n data) (by rw [hd_len]; omega) (fun k hk => by
      rw [blk_cell g6, Nat.zero_add, ← bc_append, ← HH.out, List.getElem?_append_left (by rw [bc_len]; exact hk)]
      simp [bc, hk])
    rw [hd_len] at h
    exact h
  have HS1 := Lib.hid (sumP_any _ _ w6 V12 (by rw [hd_len]; omega))
  have HS2 := Lib.hid (moreP_any (more 0 (hd n data)) _ data w6 (HV.out.below D6) (by rw [HM.out]; omega))
  rw [sm_two] at HS2
  have D6 := Lib.hid D6
  obtain ⟨q, hq⟩ : ∃ q, (more 0 (hd n data)).toNat = q := ⟨_, rfl⟩
  rw [hq] at HS1 HS2
  obtain ⟨t, ht⟩ : ∃ t, (sm n data).toNat = t := ⟨_, rfl⟩
  have ht32 : t < 4294967296 := by rw [← ht]; exact (sm n data).isLt
  rw [ht] at HS2
  have HT := Lib.hid ht
  have HPS := Lib.hid (fun w1 => putP_any t 4 w1)
  rw [show pm 4 = 4 from rfl] at HPS
  have hwt : IntKind.u64.wrap (t : Int) = (t : Int) := IntWalk.u64_in _ ⟨by omega, by omega⟩
  obtain ⟨dp, hdp⟩ : ∃ dp : Option Addr, (if N = 16 then some ⟨g, 0, none⟩ else some ⟨g, 16, none⟩) = dp := ⟨_, rfl⟩
  have R6' := Lib.hid (R6.out dp (N - 16) (N - 16) (by have := HN.out; omega) (fun h0 => by rw [← hdp, if_neg (by have := HN.out; omega)]))
  clear hq ht V5 g5 r6 g6 s6 V12 G5 R5 R6
  go_wp2_with fail
  rw [R6'.out]
  clear R6' hdp
  go_wp2_with fail
  refine HS1.out.mono ?_
  rintro e w' ⟨rfl, rfl⟩
  go_wp2_with fail
  refine HS2.out.mono ?_
  rintro e w' ⟨rfl, rfl⟩
  go_wp2_with fail
  go_region_held3 (fun _ => True) (exact trivial) (first
    | (go_at_call 14
       (with_reducible refine (HPS.out _).mono ?_)
       rintro e w7 ⟨x7, rfl, ho7, hb7⟩
       obtain ⟨a7, m7, c7, rfl, hm7⟩ := ho7.bys.split
       rw [pu_len] at hm7
       subst hm7
       obtain ⟨w8, r8, G8, D8, s8⟩ := fill_step w.heap.size g w (D6.out.trans ((Below.refl _ _).drew.trans hb7 |>.mono D6.out.size)) hwg (bc (pu 8 n) ++ bc (pu 4 m)) z3 (bc data) ((hb7.block g S6.out).trans G6.out) (pu 4 t) ho7.bys (by rw [pu_len]; exact L.out.2.2.1) 12 (by rw [List.length_append, bc_len, pu_len, bc_len, pu_len]) 3
       rw [pu_len] at r8
       have R8 := Lib.hid (r8 (some ⟨g, 12, none⟩) (N - 12) (N - 12) (by omega) (fun _ => rfl))
       have G8 := Lib.hid G8
       have D8 := Lib.hid D8
       clear r8 s8 ho7 hb7)
    | (refine Cy.step_copy_run rfl _ _ _ _ rfl _ _ _ rfl rfl w8 R8.out ?_)
    | fail)
  go_wp2_with fail
  go_ret2
  refine ⟨_, rfl, ?_, D8.out⟩
  have e8 : (bc (pu 8 n) ++ bc (pu 4 m)) ++ (bc (pu 4 t) ++ bc data) = bc (frame n data) := by
    rw [frame, HH.out, HT.out]
    simp only [bc_append]
  have g8 := G8.out
  rw [e8] at g8
  have hfl : (frame n data).length = N := by rw [frame_len, HM.out]; exact HN.out
  show w8.ownsRow w.heap.size 5 1 _ (frame n data).length _
  have hbl : (bc (frame n data)).length = N := by rw [bc_len, hfl]
  rw [hfl]
  exact ⟨by rw [hbl, Nat.mul_one], .inr ⟨g, N, _, rfl, hwg, g8, Nat.le_refl _, by unfold maxLen; omega, by rw [List.size_toArray, hbl, Nat.mul_one], List.take_of_length_le (by show (bc (frame n data)).length ≤ N * 1; omega)⟩⟩
end Go.Proofs.Ytgdhgicofobebaa.Cr
