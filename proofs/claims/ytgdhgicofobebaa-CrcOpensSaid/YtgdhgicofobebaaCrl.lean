/- Layer 16's few and alive. -/
import Derived.Test.YtgdhgicofobebaaCrk
import Derived.Lib.SlBytesConst
namespace Go.Proofs.Ytgdhgicofobebaa.Cr
open Go Go.RowKit
set_option maxRecDepth 20000

theorem bys_new (w : World) (l : By) (ty : TypeId) : Bys (w.alloc (.cells (bc l).toArray ty)) (.slice (some ⟨w.heap.size, 0, none⟩) l.length l.length) l :=
  bys_cells (Nat.le_refl _) (fun k hk => by rw [Nat.zero_add, World.cell?_alloc_new]; simp [bc, hk])
theorem few_any (v : Value) (l : By) (w : World) (hv : Bys w v l) : Calls Try.prog 9 #[v] w fun e w' => e = .returned (.bool (decide (l.length ≤ 2100))) ∧ w = w' := by
  obtain ⟨a, m, c, rfl, hm⟩ := hv.split
  rw [hm]
  have e : decide (m ≤ 2100) = decide ((m : Int) ≤ 2100) := by
    by_cases h : m ≤ 2100
    · rw [decide_eq_true h, decide_eq_true (by omega)]
    · rw [decide_eq_false h, decide_eq_false (by omega)]
  rw [e]
  clear hv hm e
  go_enter Try.func9, Try.ntmps9
  go_wp2_with fail
  go_ret
  exact ⟨by first | rfl | simp, rfl⟩
theorem open_alive : openF (frame 7 [1#8, 2#8] ++ [9#8]) = some (7, [1#8, 2#8]) := open_frame _ (by decide) (by decide)
theorem below1 (w : World) (o : Obj) : Below w.heap.size w (w.alloc o) := (Below.refl _ _).alloc (Nat.le_refl _) _
def l9 : By := [0x31, 0x32, 0x33, 0x34, 0x35, 0x36, 0x37, 0x38, 0x39]
abbrev o9 : Obj := .cells #[.int .u8 49, .int .u8 50, .int .u8 51, .int .u8 52, .int .u8 53, .int .u8 54, .int .u8 55, .int .u8 56, .int .u8 57] 5 (9, 10)
theorem new9 (X : World) : Bys (X.alloc o9) (.slice (some ⟨X.heap.size, 0, none⟩) 9 9) l9 :=
  bys_cells (l := l9) (cap := 9) (by decide) (fun k hk => by
    rw [Nat.zero_add]
    have e : (X.alloc o9).heap[X.heap.size]? = some o9 := heap_new X _
    have e2 : o9 = .cells (bc l9).toArray 5 (9, 10) := rfl
    rw [e2] at e ⊢
    simp only [World.cell?, e]
    simp [bc, hk])
theorem conv9 (X : World) : (convert 23 23 (.slice (some ⟨X.heap.size, 0, none⟩) 9 9)).run Try.prog (X.alloc (.cells #[.int .u8 49, .int .u8 50, .int .u8 51, .int .u8 52, .int .u8 53, .int .u8 54, .int .u8 55, .int .u8 56, .int .u8 57] 5)) = .ok (.slice (some ⟨X.heap.size, 0, none⟩) 9 9) (X.alloc o9) :=
  Lib.run_convert_bytes_const X _ _ _ 9 9 Try.underlying23 Try.underlying5
theorem new3 (X : World) : Bys (X.alloc (.cells #[.int .u8 2, .int .u8 1, .int .u8 0] 5)) (.slice (some ⟨X.heap.size, 0, none⟩) 3 3) [2#8, 1#8, 0#8] := bys_new X [2#8, 1#8, 0#8] _
theorem new2 (X : World) : Bys (X.alloc (.cells #[.int .u8 2, .int .u8 1] 5)) (.slice (some ⟨X.heap.size, 0, none⟩) 2 2) [2#8, 1#8] := bys_new X [2#8, 1#8] _
theorem new12 (X : World) : Bys (X.alloc (.cells #[.int .u8 1, .int .u8 2] 5)) (.slice (some ⟨X.heap.size, 0, none⟩) 2 2) [1#8, 2#8] := bys_new X [1#8, 2#8] _
theorem sum9 : ((more 0 l9).toNat : Int) = 3421780262 := by rw [show more 0 l9 = 0xcbf43926#32 from known]; rfl
theorem put3 : pu (pm 3) 258 = [2#8, 1#8, 0#8] := by decide +kernel
theorem get2 : (ge (([2#8, 1#8] : By).take 8) : Int) = 258 := by decide +kernel
set_option maxHeartbeats 4000000 in
theorem alive_any (w : World) : Calls Try.prog 10 #[] w fun e w' => e = .returned (.bool true) ∧ Below w.heap.size w w' := by
  have B0 := Lib.hid (bys_new w [1#8, 2#8] 5)
  have D0 := Lib.hid (below1 w (.cells (bc [1#8, 2#8]).toArray 5))
  change Hid (Bys (w.alloc (.cells #[.int .u8 1, .int .u8 2] 5)) (.slice (some ⟨w.heap.size, 0, none⟩) 2 2) [1#8, 2#8]) at B0
  change Hid (Below w.heap.size w (w.alloc (.cells #[.int .u8 1, .int .u8 2] 5))) at D0
  have HF := Lib.hid (frameP_any 7 _ [1#8, 2#8] _ B0.out (by decide))
  go_enter Try.func10, Try.ntmps10
  go_wp2_with fail
  refine HF.out.mono ?_
  rintro e w1 ⟨y, rfl, hy, hb1⟩
  have D1 := Lib.hid (D0.out.trans (hb1.mono D0.out.size))
  obtain ⟨ay, my, cy, rfl, hmy⟩ := hy.bys.split
  obtain rfl : 18 = my := by rw [← hmy, frame_len]; rfl
  have hcy := hy.bys.cap
  obtain ⟨v2, w2, r2, o2, _, b2, _⟩ := hy.one (by have := hb1.size; exact this) 9#8 (by rw [frame_len]; decide)
  rw [show (((9#8).toNat : Nat) : Int) = 9 from rfl] at r2
  obtain ⟨a2, m2, c2, rfl, hm2⟩ := o2.bys.split
  have R2 := Lib.hid r2
  have D2 := Lib.hid (D1.out.trans ((b2.mono (by simp))))
  have HO := Lib.hid (openP_all _ _ w2 o2.bys (by rw [List.length_append, frame_len]; decide))
  have S1 : Hid (w1.heap.size ≤ w2.heap.size) := b2.size
  clear hy hb1 hmy r2 o2 b2 hm2
  go_wp2_with (at_builtin; refine Ap.wpList_append_run (by rfl) (.tmp 15) (.tmp 16) _ _ rfl _ _ rfl rfl _ w2 R2.out ?_)
  refine HO.out.mono ?_
  rintro e w3 ⟨⟨h, _⟩ | ⟨n, d, y, h, rfl, hy⟩, hb3⟩
  · rw [open_alive] at h; cases h
  rw [open_alive] at h
  cases h
  have D3 := Lib.hid (D2.out.trans (hb3.mono D2.out.size))
  have Y := Lib.hid hy.bys
  obtain ⟨ad, md, cd, rfl, hmd⟩ := hy.bys.split
  obtain rfl : 2 = md := by rw [← hmd]; rfl
  have hc9 : 9 ≤ cy := by omega
  clear hy hb3 hmd HO
  go_wp2_with fail
  refine (openP_len ay 9 cy w3 (by omega)).mono ?_
  rintro e w4 ⟨rfl, hb4⟩
  have D4 := Lib.hid (D3.out.trans (hb4.mono D3.out.size))
  have Y4 := Lib.hid (Y.out.below hb4)
  have kc := conv9 w4
  have HS := Lib.hid (sumP_any _ _ _ (new9 w4) (by decide))
  rw [sum9] at HS
  have D5 := Lib.hid (D4.out.trans ((below1 w4 o9).mono D4.out.size))
  have HP := Lib.hid (fun X => putP_any 258 3 X)
  rw [put3] at HP
  have B5 := Lib.hid (below1 w4 o9)
  clear hb4 Y D3 D2 S1 R2 hcy hc9
  go_wp2_with fail
  refine HS.out.mono ?_
  rintro e w' ⟨rfl, rfl⟩
  obtain ⟨W5, hW5⟩ : ∃ W5, w4.alloc o9 = W5 := ⟨_, rfl⟩
  rw [hW5] at D5 B5 ⊢
  clear hW5 HS kc
  go_wp2_with fail
  refine (HP.out _).mono ?_
  rintro e w6 ⟨y6, rfl, hy6, hb6⟩
  obtain ⟨a6, m6, c6, rfl, hm6⟩ := hy6.bys.split
  obtain rfl : 3 = m6 := by rw [← hm6]; rfl
  have D6 := Lib.hid (D5.out.trans (hb6.mono D5.out.size))
  have Y6 := Lib.hid (Y4.out.below (B5.out.trans (hb6.mono B5.out.size)))
  have HE := Lib.hid (sameR_any _ _ [2#8, 1#8, 0#8] [2#8, 1#8, 0#8] _ (hy6.bys.below (below1 w6 (.cells #[.int .u8 2, .int .u8 1, .int .u8 0] 5))) (new3 w6) (by decide) (by decide))
  rw [decide_eq_true rfl] at HE
  have B7 := Lib.hid (below1 w6 (.cells #[.int .u8 2, .int .u8 1, .int .u8 0] 5))
  clear hy6 hb6 hm6 D5 B5 Y4
  go_wp2_with fail
  refine HE.out.mono ?_
  rintro e w8 ⟨rfl, hb8⟩
  have U8 := B7.out.trans (hb8.mono B7.out.size)
  have D8 := Lib.hid (D6.out.trans (U8.mono D6.out.size))
  have Y8 := Lib.hid (Y6.out.below U8)
  have HG := Lib.hid (getP_any _ _ _ (new2 w8) (by decide))
  rw [get2] at HG
  have B9 := Lib.hid (below1 w8 (.cells #[.int .u8 2, .int .u8 1] 5))
  clear U8 hb8 D6 Y6 B7 HE
  go_wp2_with fail
  refine HG.out.mono ?_
  rintro e w' ⟨rfl, rfl⟩
  have D9 := Lib.hid (D8.out.trans (B9.out.mono D8.out.size))
  have Y9 := Lib.hid (Y8.out.below B9.out)
  obtain ⟨W9, hW9⟩ : ∃ W9, w8.alloc (.cells #[.int .u8 2, .int .u8 1] 5) = W9 := ⟨_, rfl⟩
  rw [hW9] at D9 Y9 ⊢
  have HE := Lib.hid (sameR_any _ _ [1#8, 2#8] [1#8, 2#8] _ (Y9.out.below (below1 W9 (.cells #[.int .u8 1, .int .u8 2] 5))) (new12 W9) (by decide) (by decide))
  rw [decide_eq_true rfl] at HE
  have B10 := Lib.hid (below1 W9 (.cells #[.int .u8 1, .int .u8 2] 5))
  clear hW9 HG B9 D8 Y8 Y9
  go_wp2_with fail
  refine HE.out.mono ?_
  rintro e w11 ⟨rfl, hb11⟩
  have U11 := Lib.hid (D9.out.trans ((B10.out.trans (hb11.mono B10.out.size)).mono D9.out.size))
  clear hb11
  go_wp2_with fail
  go_ret
  exact ⟨rfl, U11.out⟩
end Go.Proofs.Ytgdhgicofobebaa.Cr
