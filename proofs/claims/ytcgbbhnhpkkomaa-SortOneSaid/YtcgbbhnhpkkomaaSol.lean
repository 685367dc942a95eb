/- The statements' own first look at package sort, from the contracts. -/
import Derived.Test.YtcgbbhnhpkkomaaSoc
namespace Go.Proofs.Ytcgbbhnhpkkomaa.So
open Go Go.RowKit Go.Proofs.Ytcgbbhnhpkkomaa.Rw
set_option maxRecDepth 20000

theorem Lv.start (w : World) : Lv w w.heap.size ((((w.alloc (.cells #[.int .i64 1, .string ⟨#[97]⟩, .int .i64 0] 34)).alloc (.cells #[.int .i64 1, .string ⟨#[98]⟩, .int .i64 0] 34)).alloc (.cells #[.int .i64 9, .string ⟨#[]⟩, .int .i64 0, .int .i64 10, .string ⟨#[]⟩, .int .i64 0, .int .i64 1, .string ⟨#[97]⟩, .int .i64 0, .int .i64 1, .string ⟨#[98]⟩, .int .i64 0] 34)).alloc (.cells #[.int .i64 5, .string ⟨#[]⟩, .int .i64 0, .int .i64 11, .string ⟨#[]⟩, .int .i64 1, .int .i64 1, .string ⟨#[97]⟩, .int .i64 0] 34)) := by
  have hA := at_new w [nA] 34 (by decide)
  obtain ⟨v1, e1⟩ : ∃ v1, w.alloc (.cells #[.int .i64 1, .string ⟨#[97]⟩, .int .i64 0] 34) = v1 := ⟨_, rfl⟩
  have hA' : At v1 w.heap.size 0 [nA] := by rw [← e1]; exact hA
  have z1 : v1.heap.size = w.heap.size + 1 := by rw [← e1]; simp
  have b1 : Below w.heap.size w v1 := by rw [← e1]; exact (Below.refl _ _).alloc (Nat.le_refl _) _
  rw [e1]
  have hB := at_new v1 [nB] 34 (by decide)
  rw [z1] at hB
  obtain ⟨v2, e2⟩ : ∃ v2, v1.alloc (.cells #[.int .i64 1, .string ⟨#[98]⟩, .int .i64 0] 34) = v2 := ⟨_, rfl⟩
  have hB' : At v2 (w.heap.size + 1) 0 [nB] := by rw [← e2]; exact hB
  have z2 : v2.heap.size = w.heap.size + 1 + 1 := by rw [← e2]; simp [z1]
  have b2 : Below v1.heap.size v1 v2 := by rw [← e2]; exact (Below.refl _ _).alloc (Nat.le_refl _) _
  rw [e2]
  have hL := at_new v2 So.l1 34 (by decide)
  rw [z2] at hL
  obtain ⟨v3, e3⟩ : ∃ v3, v2.alloc (.cells #[.int .i64 9, .string ⟨#[]⟩, .int .i64 0, .int .i64 10, .string ⟨#[]⟩, .int .i64 0, .int .i64 1, .string ⟨#[97]⟩, .int .i64 0, .int .i64 1, .string ⟨#[98]⟩, .int .i64 0] 34) = v3 := ⟨_, rfl⟩
  have hL' : At v3 (w.heap.size + 1 + 1) 0 So.l1 := by rw [← e3]; exact hL
  have z3 : v3.heap.size = w.heap.size + 1 + 1 + 1 := by rw [← e3]; simp [z2]
  have b3 : Below v2.heap.size v2 v3 := by rw [← e3]; exact (Below.refl _ _).alloc (Nat.le_refl _) _
  rw [e3]
  have hO := at_new v3 So.l3 34 (by decide)
  rw [z3] at hO
  have b4 : Below v3.heap.size v3 (v3.alloc (.cells #[.int .i64 5, .string ⟨#[]⟩, .int .i64 0, .int .i64 11, .string ⟨#[]⟩, .int .i64 1, .int .i64 1, .string ⟨#[97]⟩, .int .i64 0] 34)) := (Below.refl _ _).alloc (Nat.le_refl _) _
  exact ⟨((b1.trans (b2.mono (by omega))).trans (b3.mono (by omega))).trans (b4.mono (by omega)), by simp [z3], At.below (At.below (At.below hA' (by omega) b2) (by omega) b3) (by omega) b4, At.below (At.below hB' (by omega) b3) (by omega) b4, At.below hL' (by omega) b4, hO⟩

set_option maxHeartbeats 8000000 in
theorem alive_any (C : Con) (w : World) : Calls Try.prog 10 #[] w fun e w' => e = .returned (.bool true) ∧ Below w.heap.size w w' := by
  have J := Lib.hid (Lv.start w)
  go_enter Try.func10, Try.ntmps10
  go_wp2_with fail
  refine (C.cOf _ l1 _ J.out.l1 (by decide) m1).mono ?_
  rw [o1]
  rintro e wn ⟨rfl, hb⟩
  replace J := Lib.hid (J.out.below hb)
  clear hb
  go_wp2_with fail
  refine (C.cOf _ l2 _ J.out.l2 (by decide) m2).mono ?_
  rw [o2]
  rintro e wn ⟨rfl, hb⟩
  replace J := Lib.hid (J.out.below hb)
  clear hb
  go_wp2_with fail
  refine (C.cOf _ l3 _ J.out.l3 (by decide) m3).mono ?_
  rw [o3]
  rintro e wn ⟨rfl, hb⟩
  replace J := Lib.hid (J.out.below hb)
  clear hb
  have H4 := Lib.hid (fun v => nds_new v l4 34)
  have B4 := Lib.hid (fun v => (Below.refl v.heap.size v).alloc (Nat.le_refl _) (.cells (cls l4).toArray 34))
  obtain ⟨⟨q0, q1, q2⟩, q3, q4, q5⟩ := J.out.cells
  go_wp2_with fail
  refine (C.cOf _ l4 _ (H4.out _) (by decide) m4).mono ?_
  rw [o4]
  rintro e wn ⟨rfl, hb⟩
  replace J := Lib.hid ((J.out.below (B4.out _)).below hb)
  clear hb q0 q1 q2 q3 q4 q5
  have H5 := Lib.hid (fun v => nds_new v l5 34)
  have B5 := Lib.hid (fun v => (Below.refl v.heap.size v).alloc (Nat.le_refl _) (.cells (cls l5).toArray 34))
  obtain ⟨⟨q0, q1, q2⟩, q3, q4, q5⟩ := J.out.cells
  go_wp2_with fail
  refine (C.cOf _ l5 _ (H5.out _) (by decide) m5).mono ?_
  rw [o5]
  rintro e wn ⟨rfl, hb⟩
  replace J := Lib.hid ((J.out.below (B5.out _)).below hb)
  clear hb q0 q1 q2 q3 q4 q5
  go_wp2_with fail
  refine (C.cTerm _ l1 _ J.out.l1 (by decide) m1).mono ?_
  rw [o1, show ((1 : Nat) == 1) = true from rfl]
  rintro e wn ⟨rfl, hb⟩
  replace J := Lib.hid (J.out.below hb)
  clear hb
  go_wp2_with fail
  refine (C.cTerm _ l3 _ J.out.l3 (by decide) m3).mono ?_
  rw [o3, show ((3 : Nat) == 1) = false from rfl]
  rintro e wn ⟨rfl, hb⟩
  replace J := Lib.hid (J.out.below hb)
  clear hb
  go_wp2_with fail
  refine (C.cOn _ l3 false _ J.out.l3 (by decide) m3).mono ?_
  rw [on30]
  rintro e wn ⟨rfl, hb⟩
  replace J := Lib.hid (J.out.below hb)
  clear hb
  go_wp2_with fail
  refine (C.cOn _ l3 true _ J.out.l3 (by decide) m3).mono ?_
  rw [on31]
  rintro e wn ⟨rfl, hb⟩
  replace J := Lib.hid (J.out.below hb)
  clear hb
  go_wp2_with fail
  refine (C.cOn _ l2 true _ J.out.l2 (by decide) m2).mono ?_
  rw [on21]
  rintro e wn ⟨rfl, hb⟩
  replace J := Lib.hid (J.out.below hb)
  clear hb
  go_wp2_with fail
  refine (C.cRight _ l1 _ J.out.l1 (by decide) m1).mono ?_
  rw [r1]
  rintro e wn ⟨rfl, hb⟩
  replace J := Lib.hid (J.out.below hb)
  clear hb
  go_wp2_with fail
  refine (C.cRight (.slice none 0 0) [] _ ⟨rfl, none, 0, rfl, Nat.le_refl _, fun _ => ⟨rfl, rfl⟩, fun h => absurd h (Nat.lt_irrefl 0)⟩ (by decide) (fun x hx => by cases hx)).mono ?_
  rw [r0]
  rintro e wn ⟨rfl, hb⟩
  replace J := Lib.hid (J.out.below hb)
  clear hb
  obtain ⟨⟨q0, q1, q2⟩, q3, q4, q5⟩ := J.out.cells
  obtain ⟨v', w', hrun, hn, hb⟩ := app_run _ l1 nA J.out.l1 (by decide) ⟨_, rfl⟩
  have R := Lib.hid hrun
  have N := Lib.hid hn
  replace J := Lib.hid (J.out.below hb)
  clear hrun hn hb
  go_wp2_with (at_builtin; refine Ap.wpList_append_run (by rfl) (.tmp 79) (.tmp 81) _ _ rfl _ _ rfl rfl v' w' R.out ?_)
  refine (C.cActs _ (l1 ++ [nA]) _ N.out (by decide) (nms_all (by decide +kernel))).mono ?_
  rw [ac]
  rintro e wn ⟨y, rfl, hy, hb⟩
  replace J := Lib.hid (J.out.below hb)
  have HY := Lib.hid hy
  clear hb hy q0 q1 q2 q3 q4 q5
  have HS := Lib.hid (fun v => strs_new v [bA, bB] 9)
  have BS := Lib.hid (fun v => (Below.refl v.heap.size v).alloc (Nat.le_refl _) (.cells #[.string ⟨#[97]⟩, .string ⟨#[98]⟩] 9))
  go_wp2_with fail
  refine (textsR_any _ _ [bA, bB] [bA, bB] _ (HY.out.below (BS.out _)) (HS.out _) (by decide)).mono ?_
  rw [sameS_self]
  rintro e wz ⟨rfl, hb⟩
  replace J := Lib.hid ((J.out.below (BS.out _)).below hb)
  clear hb
  go_wp2_with fail
  go_ret
  exact ⟨rfl, J.out.bel⟩
end Go.Proofs.Ytcgbbhnhpkkomaa.So
