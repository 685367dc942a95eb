/- The program's Text: the walk. -/
import Derived.Test.YtdkaoiomndkbjaaDoorQ22
import Derived.Test.YtdkaoiomndkbjaaDoorQ02
import Derived.Test.YtdkaoiomndkbjaaDoorQ29

namespace Go.Proofs.YtdkaoiomndkbjaaDoor.Me
open Go Go.RowKit Rw So Se Do
set_option maxRecDepth 20000
theorem gTx : Tryd.prog.globalNamed "redress/move.texts" = some 0 := by kernel_rfl
theorem Tx.cells {w : World} (h : Tx w) (i : Nat) : w.cell? ⟨0, i, none⟩ = txC[i]? := World.var?_cell gTx h.1 i
theorem itoaP_any (n : Int) (w : World) (hn : In64 n) (hT : Tx w) :
    Calls Tryd.prog 16 #[.int .i64 n] w fun e w' => e = .returned (.string (tx (Lib.itoa n))) ∧ Below w.heap.size w w' := by
  refine (Any.strconv_Itoa Tryd.laysItoa n hn.1 hn.2 w hT.2).mono ?_
  rintro e w' ⟨rfl, k, os, rfl⟩
  exact ⟨rfl, rfl, rfl, rfl, by simp [Go.Sort.grow, World.drewN], fun k hk => by
    show (w.heap ++ os)[k]? = w.heap[k]?
    rw [Array.getElem?_append_left hk]⟩
theorem bm_keep2 {w : World} {b : Nat} {m : Mv} (h : Bm w b m) : ∀ w', Below w.heap.size w w' → w'.cell? ⟨b, 0, none⟩ = some (.int .i64 m.p) ∧ w'.cell? ⟨b, 1, none⟩ = some (.int .i64 m.h) := fun _ hb => ⟨(h.below hb h.lt).cells.1, (h.below hb h.lt).cells.2.1⟩
set_option maxHeartbeats 400000 in
theorem textP_no (mp mh : Int) (w : World) (h : mh < 1 ∨ 5 < mh) :
    Calls Tryd.prog 7 #[.agg #[.int .i64 mp, .int .i64 mh]] w fun e w' => e = .returned (.string ⟨#[]⟩) ∧ Below w.heap.size w w' := by
  by_cases h1 : mh < 1
  · go_enter Tryd.func7, Tryd.ntmps7
    go_wp2_with fail
    go_ret
    exact ⟨rfl, below1 _ _⟩
  · have h2 : 5 < mh := by omega
    clear h
    go_enter Tryd.func7, Tryd.ntmps7
    go_wp2_with fail
    go_ret
    exact ⟨rfl, below1 _ _⟩
def RT1 (bM : Nat) (mp : Int) (k : Nat) (v : Value) (_w' : World) : Prop := match k with
  | 0 => v = .pointer (some ⟨bM, 1, none⟩)
  | 1 => v = .int .i64 1
  | 2 => v = .pointer (some ⟨0, 1, none⟩)
  | 3 => v = .string (tx [100, 111])
  | 4 => v = .string (tx ([100, 111] ++ [32]))
  | 5 => v = .pointer (some ⟨bM, 0, none⟩)
  | 6 => v = .int .i64 mp
  | 7 => v = .string (tx (Lib.itoa mp))
  | 8 => v = .string (tx ([100, 111] ++ [32] ++ Lib.itoa mp))
  | 9 => v = .string (tx ([100, 111] ++ [32] ++ Lib.itoa mp))
  | _ => True
theorem RT1.below {bM : Nat} {mp : Int} {k : Nat} {v : Value} {w w' : World} (h : RT1 bM mp k v w) (_hb : Below w.heap.size w w') : RT1 bM mp k v w' := by
  unfold RT1 at h ⊢
  split at h
  all_goals exact h
theorem RT1.put {w4 : World} {bM : Nat} {mp : Int} {v : Value} {w w' : World} {f : Nat → Bool} {us : Nat → Value} {i : Nat} (g : Rg.Kept (fun w' => Below w4.heap.size w4 w') (RT1 bM mp) f us w) (hb : Below w.heap.size w w') (hv : RT1 bM mp i v w') :
    Rg.Kept (fun w' => Below w4.heap.size w4 w') (RT1 bM mp) (Rg.upd f i true) (Rg.upd us i v) w' :=
  Rg.Kept.put (Base := fun w' => Below w4.heap.size w4 w') (R := RT1 bM mp) (fun _ _ h hb => h.trans (hb.mono h.size)) (fun _ _ _ _ h hb => RT1.below h hb) g hb hv
set_option maxHeartbeats 2000000 in
theorem textP_1 (mp : Int) (w : World) (hn : In64 mp) (hT : Tx w) :
    Calls Tryd.prog 7 #[.agg #[.int .i64 mp, .int .i64 1]] w fun e w' => e = .returned (.string (tx ([100, 111] ++ [32] ++ Lib.itoa mp))) ∧ Below w.heap.size w w' := by
  have D4 := Lib.hid (below1 w (.cells #[.int .i64 mp, .int .i64 1] 23))
  have CM := Lib.hid (bm_keep2 (Bm.new w ⟨mp, 1⟩))
  have T4 := hT.below D4.out
  obtain ⟨bM, hbM⟩ : ∃ bM, w.heap.size = bM := ⟨_, rfl⟩
  obtain ⟨w4, hw4⟩ : ∃ w4, w.alloc (.cells #[.int .i64 mp, .int .i64 1] 23) = w4 := ⟨_, rfl⟩
  change Hid (∀ w', Below (w.alloc (.cells #[.int .i64 mp, .int .i64 1] 23)).heap.size (w.alloc (.cells #[.int .i64 mp, .int .i64 1] 23)) w' → w'.cell? ⟨w.heap.size, 0, none⟩ = some (.int .i64 mp) ∧ w'.cell? ⟨w.heap.size, 1, none⟩ = some (.int .i64 1)) at CM
  rw [hbM, hw4] at CM
  rw [hw4] at D4 T4
  have CT : Hid (∀ w', Below w4.heap.size w4 w' → w'.cell? ⟨0, 1, none⟩ = some (.string (tx [100, 111]))) := Lib.hid fun w' hb => (T4.below hb).cells 1
  have HI := Lib.hid (fun w' (hb : Below w4.heap.size w4 w') => itoaP_any mp w' hn (T4.below hb))
  have HL := Lib.hid (Lib.itoa_length_le mp hn.1 hn.2)
  obtain ⟨c0, c1⟩ := CM.out w4 (Below.refl _ _)
  obtain ⟨s, hs⟩ : ∃ s, tx ([100, 111] ++ [32] ++ Lib.itoa mp) = s := ⟨_, rfl⟩
  rw [hs]
  have HS := Lib.hid hs
  clear hn hT T4 hs
  go_enter Tryd.func7, Tryd.ntmps7
  go_wp2_with fail
  clear hbM hw4 c0 c1
  refine Rg.wp_region_kept (by kernel_rfl) [(0, some 11), (1, some 12), (2, some 13), (3, some 14), (4, some 15), (5, some 16), (6, some 17), (7, some 18), (8, some 19), (9, some 2)] (by rfl) (by kernel_rfl) (by kernel_rfl) (fun w' => Below w4.heap.size w4 w') (RT1 bM mp) (Below.refl _ _).drew ?_ ⟨⟨⟨⟨⟨⟨⟨⟨⟨⟨True.intro, ?_⟩, ?_⟩, ?_⟩, ?_⟩, ?_⟩, ?_⟩, ?_⟩, ?_⟩, ?_⟩, ?_⟩ ?_
  · intro k v w' hk
    unfold RT1
    split
    case h_11 => trivial
    all_goals exact absurd hk (by decide)
  · intro o ho f us wl al ha g hf hdep K hKf
    obtain rfl := Option.some.inj ho
    have hB := g.1
    have hK : ∀ v w', RT1 bM mp 0 v w' → Below wl.heap.size wl w' → K (al.put (some 11) v) w' := fun v w' hv hb => hKf v w' (RT1.put g hb hv)
    have e1 : al.tmps[1]?.getD undef = .pointer (some ⟨bM, 0, none⟩) := by rw [← Rg.eval_getD, ha]; exact (Rg.puts_eval_ne _ _ _ (by rfl)).trans rfl
    have HB := Lib.hid hB
    clear ha hdep g hf hKf hB
    refine Rg.wpOp_of rfl rfl ?_
    go_simp
    exact hK _ _ rfl (Below.refl _ _)
  · intro o ho f us wl al ha g hf hdep K hKf
    obtain rfl := Option.some.inj ho
    have hB := g.1
    have hK : ∀ v w', RT1 bM mp 1 v w' → Below wl.heap.size wl w' → K (al.put (some 12) v) w' := fun v w' hv hb => hKf v w' (RT1.put g hb hv)
    have d0 : RT1 bM mp 0 (us 0) wl := g.2 0 (hdep ⟨0, .data⟩ (by simp) rfl)
    have e11 : al.tmps[11]?.getD undef = us 0 := by rw [← Rg.eval_getD, ha]; exact Rg.puts_eval _ _ _ (by rfl) (by simp) (by simp)
    have f0 : us 0 = .pointer (some ⟨bM, 1, none⟩) := d0
    obtain ⟨c0, c1⟩ := CM.out _ hB
    have HB := Lib.hid hB
    clear ha hdep g hf hKf d0 hB
    refine Rg.wpOp_of rfl rfl ?_
    go_simp
    exact hK _ _ rfl (Below.refl _ _)
  · intro o ho f us wl al ha g hf hdep K hKf
    obtain rfl := Option.some.inj ho
    have hB := g.1
    have hK : ∀ v w', RT1 bM mp 2 v w' → Below wl.heap.size wl w' → K (al.put (some 13) v) w' := fun v w' hv hb => hKf v w' (RT1.put g hb hv)
    have d1 : RT1 bM mp 1 (us 1) wl := g.2 1 (hdep ⟨1, .data⟩ (by simp) rfl)
    have e12 : al.tmps[12]?.getD undef = us 1 := by rw [← Rg.eval_getD, ha]; exact Rg.puts_eval _ _ _ (by rfl) (by simp) (by simp)
    have f1 : us 1 = .int .i64 1 := d1
    have HB := Lib.hid hB
    clear ha hdep g hf hKf d1 hB
    refine Rg.wpOp_of rfl rfl ?_
    go_simp
    exact hK _ _ rfl (Below.refl _ _)
  · intro o ho f us wl al ha g hf hdep K hKf
    obtain rfl := Option.some.inj ho
    have hB := g.1
    have hK : ∀ v w', RT1 bM mp 3 v w' → Below wl.heap.size wl w' → K (al.put (some 14) v) w' := fun v w' hv hb => hKf v w' (RT1.put g hb hv)
    have d2 : RT1 bM mp 2 (us 2) wl := g.2 2 (hdep ⟨2, .data⟩ (by simp) rfl)
    have e13 : al.tmps[13]?.getD undef = us 2 := by rw [← Rg.eval_getD, ha]; exact Rg.puts_eval _ _ _ (by rfl) (by simp) (by simp)
    have f2 : us 2 = .pointer (some ⟨0, 1, none⟩) := d2
    have c2 := CT.out _ hB
    have HB := Lib.hid hB
    clear ha hdep g hf hKf d2 hB
    refine Rg.wpOp_of rfl rfl ?_
    go_simp
    exact hK _ _ rfl (Below.refl _ _)
  · intro o ho f us wl al ha g hf hdep K hKf
    obtain rfl := Option.some.inj ho
    have hB := g.1
    have hK : ∀ v w', RT1 bM mp 4 v w' → Below wl.heap.size wl w' → K (al.put (some 15) v) w' := fun v w' hv hb => hKf v w' (RT1.put g hb hv)
    have d3 : RT1 bM mp 3 (us 3) wl := g.2 3 (hdep ⟨3, .data⟩ (by simp) rfl)
    have e14 : al.tmps[14]?.getD undef = us 3 := by rw [← Rg.eval_getD, ha]; exact Rg.puts_eval _ _ _ (by rfl) (by simp) (by simp)
    have f3 : us 3 = .string (tx [100, 111]) := d3
    have ea : tx [100, 111] ++ (⟨#[32]⟩ : ByteArray) = tx ([100, 111] ++ [32]) := tx_add _ _
    have HB := Lib.hid hB
    clear ha hdep g hf hKf d3 hB
    refine Rg.wpOp_of rfl rfl ?_
    go_simp
    exact hK _ _ rfl (Below.refl _ _)
  · intro o ho f us wl al ha g hf hdep K hKf
    obtain rfl := Option.some.inj ho
    have hB := g.1
    have hK : ∀ v w', RT1 bM mp 5 v w' → Below wl.heap.size wl w' → K (al.put (some 16) v) w' := fun v w' hv hb => hKf v w' (RT1.put g hb hv)
    have e1 : al.tmps[1]?.getD undef = .pointer (some ⟨bM, 0, none⟩) := by rw [← Rg.eval_getD, ha]; exact (Rg.puts_eval_ne _ _ _ (by rfl)).trans rfl
    have HB := Lib.hid hB
    clear ha hdep g hf hKf hB
    refine Rg.wpOp_of rfl rfl ?_
    go_simp
    exact hK _ _ rfl (Below.refl _ _)
  · intro o ho f us wl al ha g hf hdep K hKf
    obtain rfl := Option.some.inj ho
    have hB := g.1
    have hK : ∀ v w', RT1 bM mp 6 v w' → Below wl.heap.size wl w' → K (al.put (some 17) v) w' := fun v w' hv hb => hKf v w' (RT1.put g hb hv)
    have d5 : RT1 bM mp 5 (us 5) wl := g.2 5 (hdep ⟨5, .data⟩ (by simp) rfl)
    have e16 : al.tmps[16]?.getD undef = us 5 := by rw [← Rg.eval_getD, ha]; exact Rg.puts_eval _ _ _ (by rfl) (by simp) (by simp)
    have f5 : us 5 = .pointer (some ⟨bM, 0, none⟩) := d5
    obtain ⟨c0, c1⟩ := CM.out _ hB
    have HB := Lib.hid hB
    clear ha hdep g hf hKf d5 hB
    refine Rg.wpOp_of rfl rfl ?_
    go_simp
    exact hK _ _ rfl (Below.refl _ _)
  · intro o ho f us wl al ha g hf hdep K hKf
    obtain rfl := Option.some.inj ho
    have hB := g.1
    have hK : ∀ v w', RT1 bM mp 7 v w' → Below wl.heap.size wl w' → K (al.put (some 18) v) w' := fun v w' hv hb => hKf v w' (RT1.put g hb hv)
    have d6 : RT1 bM mp 6 (us 6) wl := g.2 6 (hdep ⟨6, .data⟩ (by simp) rfl)
    have e17 : al.tmps[17]?.getD undef = us 6 := by rw [← Rg.eval_getD, ha]; exact Rg.puts_eval _ _ _ (by rfl) (by simp) (by simp)
    have f6 : us 6 = .int .i64 mp := d6
    have HB := Lib.hid hB
    clear ha hdep g hf hKf d6 hB
    refine Rg.wpOp_of rfl rfl ?_
    go_simp
    refine (HI.out _ HB.out).mono ?_
    rintro e wn ⟨rfl, hb⟩
    exact hK _ _ rfl hb
  · intro o ho f us wl al ha g hf hdep K hKf
    obtain rfl := Option.some.inj ho
    have hB := g.1
    have hK : ∀ v w', RT1 bM mp 8 v w' → Below wl.heap.size wl w' → K (al.put (some 19) v) w' := fun v w' hv hb => hKf v w' (RT1.put g hb hv)
    have d4 : RT1 bM mp 4 (us 4) wl := g.2 4 (hdep ⟨4, .data⟩ (by simp) rfl)
    have e15 : al.tmps[15]?.getD undef = us 4 := by rw [← Rg.eval_getD, ha]; exact Rg.puts_eval _ _ _ (by rfl) (by simp) (by simp)
    have d7 : RT1 bM mp 7 (us 7) wl := g.2 7 (hdep ⟨7, .data⟩ (by simp) rfl)
    have e18 : al.tmps[18]?.getD undef = us 7 := by rw [← Rg.eval_getD, ha]; exact Rg.puts_eval _ _ _ (by rfl) (by simp) (by simp)
    have f4 : us 4 = .string (tx ([100, 111] ++ [32])) := d4
    have f7 : us 7 = .string (tx (Lib.itoa mp)) := d7
    have el := HL.out
    have HB := Lib.hid hB
    clear ha hdep g hf hKf d4 d7 hB
    refine Rg.wpOp_of rfl rfl ?_
    go_simp
    rw [if_neg (by omega)]
    refine hK _ _ ?_ (Below.refl _ _)
    exact congrArg Value.string (tx_add ([100, 111] ++ [32]) (Lib.itoa mp))
  · intro o ho f us wl al ha g hf hdep K hKf
    obtain rfl := Option.some.inj ho
    have hB := g.1
    have hK : ∀ v w', RT1 bM mp 9 v w' → Below wl.heap.size wl w' → K (al.put (some 2) v) w' := fun v w' hv hb => hKf v w' (RT1.put g hb hv)
    have d8 : RT1 bM mp 8 (us 8) wl := g.2 8 (hdep ⟨8, .data⟩ (by simp) rfl)
    have e19 : al.tmps[19]?.getD undef = us 8 := by rw [← Rg.eval_getD, ha]; exact Rg.puts_eval _ _ _ (by rfl) (by simp) (by simp)
    have f8 : us 8 = .string (tx ([100, 111] ++ [32] ++ Lib.itoa mp)) := d8
    have HB := Lib.hid hB
    clear ha hdep g hf hKf d8 hB
    refine Rg.wpOp_of rfl rfl ?_
    go_simp
    exact hK _ _ rfl (Below.refl _ _)
  · intro us wz hB hR
    have fz : us 9 = .string s := (hR 9).trans (congrArg Value.string HS.out)
    have DZ := Lib.hid (D4.out.trans (hB.mono D4.out.size))
    clear hB hR
    simp only [Rg.puts, Act.put, List.setIfInBounds_toArray, List.set_cons_zero, List.set_cons_succ, fz]
    go_wp2_with fail
    go_ret
    exact ⟨rfl, DZ.out⟩
def RT2 (bM : Nat) (mp : Int) (k : Nat) (v : Value) (_w' : World) : Prop := match k with
  | 0 => v = .pointer (some ⟨bM, 1, none⟩)
  | 1 => v = .int .i64 2
  | 2 => v = .pointer (some ⟨0, 2, none⟩)
  | 3 => v = .string (tx [108, 101, 102, 116])
  | 4 => v = .string (tx ([108, 101, 102, 116] ++ [32]))
  | 5 => v = .pointer (some ⟨bM, 0, none⟩)
  | 6 => v = .int .i64 mp
  | 7 => v = .string (tx (Lib.itoa mp))
  | 8 => v = .string (tx ([108, 101, 102, 116] ++ [32] ++ Lib.itoa mp))
  | 9 => v = .string (tx ([108, 101, 102, 116] ++ [32] ++ Lib.itoa mp))
  | _ => True
theorem RT2.below {bM : Nat} {mp : Int} {k : Nat} {v : Value} {w w' : World} (h : RT2 bM mp k v w) (_hb : Below w.heap.size w w') : RT2 bM mp k v w' := by
  unfold RT2 at h ⊢
  split at h
  all_goals exact h
theorem RT2.put {w4 : World} {bM : Nat} {mp : Int} {v : Value} {w w' : World} {f : Nat → Bool} {us : Nat → Value} {i : Nat} (g : Rg.Kept (fun w' => Below w4.heap.size w4 w') (RT2 bM mp) f us w) (hb : Below w.heap.size w w') (hv : RT2 bM mp i v w') :
    Rg.Kept (fun w' => Below w4.heap.size w4 w') (RT2 bM mp) (Rg.upd f i true) (Rg.upd us i v) w' :=
  Rg.Kept.put (Base := fun w' => Below w4.heap.size w4 w') (R := RT2 bM mp) (fun _ _ h hb => h.trans (hb.mono h.size)) (fun _ _ _ _ h hb => RT2.below h hb) g hb hv
set_option maxHeartbeats 2000000 in
theorem textP_2 (mp : Int) (w : World) (hn : In64 mp) (hT : Tx w) :
    Calls Tryd.prog 7 #[.agg #[.int .i64 mp, .int .i64 2]] w fun e w' => e = .returned (.string (tx ([108, 101, 102, 116] ++ [32] ++ Lib.itoa mp))) ∧ Below w.heap.size w w' := by
  have D4 := Lib.hid (below1 w (.cells #[.int .i64 mp, .int .i64 2] 23))
  have CM := Lib.hid (bm_keep2 (Bm.new w ⟨mp, 2⟩))
  have T4 := hT.below D4.out
  obtain ⟨bM, hbM⟩ : ∃ bM, w.heap.size = bM := ⟨_, rfl⟩
  obtain ⟨w4, hw4⟩ : ∃ w4, w.alloc (.cells #[.int .i64 mp, .int .i64 2] 23) = w4 := ⟨_, rfl⟩
  change Hid (∀ w', Below (w.alloc (.cells #[.int .i64 mp, .int .i64 2] 23)).heap.size (w.alloc (.cells #[.int .i64 mp, .int .i64 2] 23)) w' → w'.cell? ⟨w.heap.size, 0, none⟩ = some (.int .i64 mp) ∧ w'.cell? ⟨w.heap.size, 1, none⟩ = some (.int .i64 2)) at CM
  rw [hbM, hw4] at CM
  rw [hw4] at D4 T4
  have CT : Hid (∀ w', Below w4.heap.size w4 w' → w'.cell? ⟨0, 2, none⟩ = some (.string (tx [108, 101, 102, 116]))) := Lib.hid fun w' hb => (T4.below hb).cells 2
  have HI := Lib.hid (fun w' (hb : Below w4.heap.size w4 w') => itoaP_any mp w' hn (T4.below hb))
  have HL := Lib.hid (Lib.itoa_length_le mp hn.1 hn.2)
  obtain ⟨c0, c1⟩ := CM.out w4 (Below.refl _ _)
  obtain ⟨s, hs⟩ : ∃ s, tx ([108, 101, 102, 116] ++ [32] ++ Lib.itoa mp) = s := ⟨_, rfl⟩
  rw [hs]
  have HS := Lib.hid hs
  clear hn hT T4 hs
  go_enter Tryd.func7, Tryd.ntmps7
  go_wp2_with fail
  clear hbM hw4 c0 c1
  refine Rg.wp_region_kept (by kernel_rfl) [(0, some 11), (1, some 12), (2, some 13), (3, some 14), (4, some 15), (5, some 16), (6, some 17), (7, some 18), (8, some 19), (9, some 2)] (by rfl) (by kernel_rfl) (by kernel_rfl) (fun w' => Below w4.heap.size w4 w') (RT2 bM mp) (Below.refl _ _).drew ?_ ⟨⟨⟨⟨⟨⟨⟨⟨⟨⟨True.intro, ?_⟩, ?_⟩, ?_⟩, ?_⟩, ?_⟩, ?_⟩, ?_⟩, ?_⟩, ?_⟩, ?_⟩ ?_
  · intro k v w' hk
    unfold RT2
    split
    case h_11 => trivial
    all_goals exact absurd hk (by decide)
  · intro o ho f us wl al ha g hf hdep K hKf
    obtain rfl := Option.some.inj ho
    have hB := g.1
    have hK : ∀ v w', RT2 bM mp 0 v w' → Below wl.heap.size wl w' → K (al.put (some 11) v) w' := fun v w' hv hb => hKf v w' (RT2.put g hb hv)
    have e1 : al.tmps[1]?.getD undef = .pointer (some ⟨bM, 0, none⟩) := by rw [← Rg.eval_getD, ha]; exact (Rg.puts_eval_ne _ _ _ (by rfl)).trans rfl
    have HB := Lib.hid hB
    clear ha hdep g hf hKf hB
    refine Rg.wpOp_of rfl rfl ?_
    go_simp
    exact hK _ _ rfl (Below.refl _ _)
  · intro o ho f us wl al ha g hf hdep K hKf
    obtain rfl := Option.some.inj ho
    have hB := g.1
    have hK : ∀ v w', RT2 bM mp 1 v w' → Below wl.heap.size wl w' → K (al.put (some 12) v) w' := fun v w' hv hb => hKf v w' (RT2.put g hb hv)
    have d0 : RT2 bM mp 0 (us 0) wl := g.2 0 (hdep ⟨0, .data⟩ (by simp) rfl)
    have e11 : al.tmps[11]?.getD undef = us 0 := by rw [← Rg.eval_getD, ha]; exact Rg.puts_eval _ _ _ (by rfl) (by simp) (by simp)
    have f0 : us 0 = .pointer (some ⟨bM, 1, none⟩) := d0
    obtain ⟨c0, c1⟩ := CM.out _ hB
    have HB := Lib.hid hB
    clear ha hdep g hf hKf d0 hB
    refine Rg.wpOp_of rfl rfl ?_
    go_simp
    exact hK _ _ rfl (Below.refl _ _)
  · intro o ho f us wl al ha g hf hdep K hKf
    obtain rfl := Option.some.inj ho
    have hB := g.1
    have hK : ∀ v w', RT2 bM mp 2 v w' → Below wl.heap.size wl w' → K (al.put (some 13) v) w' := fun v w' hv hb => hKf v w' (RT2.put g hb hv)
    have d1 : RT2 bM mp 1 (us 1) wl := g.2 1 (hdep ⟨1, .data⟩ (by simp) rfl)
    have e12 : al.tmps[12]?.getD undef = us 1 := by rw [← Rg.eval_getD, ha]; exact Rg.puts_eval _ _ _ (by rfl) (by simp) (by simp)
    have f1 : us 1 = .int .i64 2 := d1
    have HB := Lib.hid hB
    clear ha hdep g hf hKf d1 hB
    refine Rg.wpOp_of rfl rfl ?_
    go_simp
    exact hK _ _ rfl (Below.refl _ _)
  · intro o ho f us wl al ha g hf hdep K hKf
    obtain rfl := Option.some.inj ho
    have hB := g.1
    have hK : ∀ v w', RT2 bM mp 3 v w' → Below wl.heap.size wl w' → K (al.put (some 14) v) w' := fun v w' hv hb => hKf v w' (RT2.put g hb hv)
    have d2 : RT2 bM mp 2 (us 2) wl := g.2 2 (hdep ⟨2, .data⟩ (by simp) rfl)
    have e13 : al.tmps[13]?.getD undef = us 2 := by rw [← Rg.eval_getD, ha]; exact Rg.puts_eval _ _ _ (by rfl) (by simp) (by simp)
    have f2 : us 2 = .pointer (some ⟨0, 2, none⟩) := d2
    have c2 := CT.out _ hB
    have HB := Lib.hid hB
    clear ha hdep g hf hKf d2 hB
    refine Rg.wpOp_of rfl rfl ?_
    go_simp
    exact hK _ _ rfl (Below.refl _ _)
  · intro o ho f us wl al ha g hf hdep K hKf
    obtain rfl := Option.some.inj ho
    have hB := g.1
    have hK : ∀ v w', RT2 bM mp 4 v w' → Below wl.heap.size wl w' → K (al.put (some 15) v) w' := fun v w' hv hb => hKf v w' (RT2.put g hb hv)
    have d3 : RT2 bM mp 3 (us 3) wl := g.2 3 (hdep ⟨3, .data⟩ (by simp) rfl)
    have e14 : al.tmps[14]?.getD undef = us 3 := by rw [← Rg.eval_getD, ha]; exact Rg.puts_eval _ _ _ (by rfl) (by simp) (by simp)
    have f3 : us 3 = .string (tx [108, 101, 102, 116]) := d3
    have ea : tx [108, 101, 102, 116] ++ (⟨#[32]⟩ : ByteArray) = tx ([108, 101, 102, 116] ++ [32]) := tx_add _ _
    have HB := Lib.hid hB
    clear ha hdep g hf hKf d3 hB
    refine Rg.wpOp_of rfl rfl ?_
    go_simp
    exact hK _ _ rfl (Below.refl _ _)
  · intro o ho f us wl al ha g hf hdep K hKf
    obtain rfl := Option.some.inj ho
    have hB := g.1
    have hK : ∀ v w', RT2 bM mp 5 v w' → Below wl.heap.size wl w' → K (al.put (some 16) v) w' := fun v w' hv hb => hKf v w' (RT2.put g hb hv)
    have e1 : al.tmps[1]?.getD undef = .pointer (some ⟨bM, 0, none⟩) := by rw [← Rg.eval_getD, ha]; exact (Rg.puts_eval_ne _ _ _ (by rfl)).trans rfl
    have HB := Lib.hid hB
    clear ha hdep g hf hKf hB
    refine Rg.wpOp_of rfl rfl ?_
    go_simp
    exact hK _ _ rfl (Below.refl _ _)
  · intro o ho f us wl al ha g hf hdep K hKf
    obtain rfl := Option.some.inj ho
    have hB := g.1
    have hK : ∀ v w', RT2 bM mp 6 v w' → Below wl.heap.size wl w' → K (al.put (some 17) v) w' := fun v w' hv hb => hKf v w' (RT2.put g hb hv)
    have d5 : RT2 bM mp 5 (us 5) wl := g.2 5 (hdep ⟨5, .data⟩ (by simp) rfl)
    have e16 : al.tmps[16]?.getD undef = us 5 := by rw [← Rg.eval_getD, ha]; exact Rg.puts_eval _ _ _ (by rfl) (by simp) (by simp)
    have f5 : us 5 = .pointer (some ⟨bM, 0, none⟩) := d5
    obtain ⟨c0, c1⟩ := CM.out _ hB
    have HB := Lib.hid hB
    clear ha hdep g hf hKf d5 hB
    refine Rg.wpOp_of rfl rfl ?_
    go_simp
    exact hK _ _ rfl (Below.refl _ _)
  · intro o ho f us wl al ha g hf hdep K hKf
    obtain rfl := Option.some.inj ho
    have hB := g.1
    have hK : ∀ v w', RT2 bM mp 7 v w' → Below wl.heap.size wl w' → K (al.put (some 18) v) w' := fun v w' hv hb => hKf v w' (RT2.put g hb hv)
    have d6 : RT2 bM mp 6 (us 6) wl := g.2 6 (hdep ⟨6, .data⟩ (by simp) rfl)
    have e17 : al.tmps[17]?.getD undef = us 6 := by rw [← Rg.eval_getD, ha]; exact Rg.puts_eval _ _ _ (by rfl) (by simp) (by simp)
    have f6 : us 6 = .int .i64 mp := d6
    have HB := Lib.hid hB
    clear ha hdep g hf hKf d6 hB
    refine Rg.wpOp_of rfl rfl ?_
    go_simp
    refine (HI.out _ HB.out).mono ?_
    rintro e wn ⟨rfl, hb⟩
    exact hK _ _ rfl hb
  · intro o ho f us wl al ha g hf hdep K hKf
    obtain rfl := Option.some.inj ho
    have hB := g.1
    have hK : ∀ v w', RT2 bM mp 8 v w' → Below wl.heap.size wl w' → K (al.put (some 19) v) w' := fun v w' hv hb => hKf v w' (RT2.put g hb hv)
    have d4 : RT2 bM mp 4 (us 4) wl := g.2 4 (hdep ⟨4, .data⟩ (by simp) rfl)
    have e15 : al.tmps[15]?.getD undef = us 4 := by rw [← Rg.eval_getD, ha]; exact Rg.puts_eval _ _ _ (by rfl) (by simp) (by simp)
    have d7 : RT2 bM mp 7 (us 7) wl := g.2 7 (hdep ⟨7, .data⟩ (by simp) rfl)
    have e18 : al.tmps[18]?.getD undef = us 7 := by rw [← Rg.eval_getD, ha]; exact Rg.puts_eval _ _ _ (by rfl) (by simp) (by simp)
    have f4 : us 4 = .string (tx ([108, 101, 102, 116] ++ [32])) := d4
    have f7 : us 7 = .string (tx (Lib.itoa mp)) := d7
    have el := HL.out
    have HB := Lib.hid hB
    clear ha hdep g hf hKf d4 d7 hB
    refine Rg.wpOp_of rfl rfl ?_
    go_simp
    rw [if_neg (by omega)]
    refine hK _ _ ?_ (Below.refl _ _)
    exact congrArg Value.string (tx_add ([108, 101, 102, 116] ++ [32]) (Lib.itoa mp))
  · intro o ho f us wl al ha g hf hdep K hKf
    obtain rfl := Option.some.inj ho
    have hB := g.1
    have hK : ∀ v w', RT2 bM mp 9 v w' → Below wl.heap.size wl w' → K (al.put (some 2) v) w' := fun v w' hv hb => hKf v w' (RT2.put g hb hv)
    have d8 : RT2 bM mp 8 (us 8) wl := g.2 8 (hdep ⟨8, .data⟩ (by simp) rfl)
    have e19 : al.tmps[19]?.getD undef = us 8 := by rw [← Rg.eval_getD, ha]; exact Rg.puts_eval _ _ _ (by rfl) (by simp) (by simp)
    have f8 : us 8 = .string (tx ([108, 101, 102, 116] ++ [32] ++ Lib.itoa mp)) := d8
    have HB := Lib.hid hB
    clear ha hdep g hf hKf d8 hB
    refine Rg.wpOp_of rfl rfl ?_
    go_simp
    exact hK _ _ rfl (Below.refl _ _)
  · intro us wz hB hR
    have fz : us 9 = .string s := (hR 9).trans (congrArg Value.string HS.out)
    have DZ := Lib.hid (D4.out.trans (hB.mono D4.out.size))
    clear hB hR
    simp only [Rg.puts, Act.put, List.setIfInBounds_toArray, List.set_cons_zero, List.set_cons_succ, fz]
    go_wp2_with fail
    go_ret
    exact ⟨rfl, DZ.out⟩
def RT3 (bM : Nat) (mp : Int) (k : Nat) (v : Value) (_w' : World) : Prop := match k with
  | 0 => v = .pointer (some ⟨bM, 1, none⟩)
  | 1 => v = .int .i64 3
  | 2 => v = .pointer (some ⟨0, 3, none⟩)
  | 3 => v = .string (tx [114, 105, 103, 104, 116])
  | 4 => v = .string (tx ([114, 105, 103, 104, 116] ++ [32]))
  | 5 => v = .pointer (some ⟨bM, 0, none⟩)
  | 6 => v = .int .i64 mp
  | 7 => v = .string (tx (Lib.itoa mp))
  | 8 => v = .string (tx ([114, 105, 103, 104, 116] ++ [32] ++ Lib.itoa mp))
  | 9 => v = .string (tx ([114, 105, 103, 104, 116] ++ [32] ++ Lib.itoa mp))
  | _ => True
theorem RT3.below {bM : Nat} {mp : Int} {k : Nat} {v : Value} {w w' : World} (h : RT3 bM mp k v w) (_hb : Below w.heap.size w w') : RT3 bM mp k v w' := by
  unfold RT3 at h ⊢
  split at h
  all_goals exact h
theorem RT3.put {w4 : World} {bM : Nat} {mp : Int} {v : Value} {w w' : World} {f : Nat → Bool} {us : Nat → Value} {i : Nat} (g : Rg.Kept (fun w' => Below w4.heap.size w4 w') (RT3 bM mp) f us w) (hb : Below w.heap.size w w') (hv : RT3 bM mp i v w') :
    Rg.Kept (fun w' => Below w4.heap.size w4 w') (RT3 bM mp) (Rg.upd f i true) (Rg.upd us i v) w' :=
  Rg.Kept.put (Base := fun w' => Below w4.heap.size w4 w') (R := RT3 bM mp) (fun _ _ h hb => h.trans (hb.mono h.size)) (fun _ _ _ _ h hb => RT3.below h hb) g hb hv
set_option maxHeartbeats 2000000 in
theorem textP_3 (mp : Int) (w : World) (hn : In64 mp) (hT : Tx w) :
    Calls Tryd.prog 7 #[.agg #[.int .i64 mp, .int .i64 3]] w fun e w' => e = .returned (.string (tx ([114, 105, 103, 104, 116] ++ [32] ++ Lib.itoa mp))) ∧ Below w.heap.size w w' := by
  have D4 := Lib.hid (below1 w (.cells #[.int .i64 mp, .int .i64 3] 23))
  have CM := Lib.hid (bm_keep2 (Bm.new w ⟨mp, 3⟩))
  have T4 := hT.below D4.out
  obtain ⟨bM, hbM⟩ : ∃ bM, w.heap.size = bM := ⟨_, rfl⟩
  obtain ⟨w4, hw4⟩ : ∃ w4, w.alloc (.cells #[.int .i64 mp, .int .i64 3] 23) = w4 := ⟨_, rfl⟩
  change Hid (∀ w', Below (w.alloc (.cells #[.int .i64 mp, .int .i64 3] 23)).heap.size (w.alloc (.cells #[.int .i64 mp, .int .i64 3] 23)) w' → w'.cell? ⟨w.heap.size, 0, none⟩ = some (.int .i64 mp) ∧ w'.cell? ⟨w.heap.size, 1, none⟩ = some (.int .i64 3)) at CM
  rw [hbM, hw4] at CM
  rw [hw4] at D4 T4
  have CT : Hid (∀ w', Below w4.heap.size w4 w' → w'.cell? ⟨0, 3, none⟩ = some (.string (tx [114, 105, 103, 104, 116]))) := Lib.hid fun w' hb => (T4.below hb).cells 3
  have HI := Lib.hid (fun w' (hb : Below w4.heap.size w4 w') => itoaP_any mp w' hn (T4.below hb))
  have HL := Lib.hid (Lib.itoa_length_le mp hn.1 hn.2)
  obtain ⟨c0, c1⟩ := CM.out w4 (Below.refl _ _)
  obtain ⟨s, hs⟩ : ∃ s, tx ([114, 105, 103, 104, 116] ++ [32] ++ Lib.itoa mp) = s := ⟨_, rfl⟩
  rw [hs]
  have HS := Lib.hid hs
  clear hn hT T4 hs
  go_enter Tryd.func7, Tryd.ntmps7
  go_wp2_with fail
  clear hbM hw4 c0 c1
  refine Rg.wp_region_kept (by kernel_rfl) [(0, some 11), (1, some 12), (2, some 13), (3, some 14), (4, some 15), (5, some 16), (6, some 17), (7, some 18), (8, some 19), (9, some 2)] (by rfl) (by kernel_rfl) (by kernel_rfl) (fun w' => Below w4.heap.size w4 w') (RT3 bM mp) (Below.refl _ _).drew ?_ ⟨⟨⟨⟨⟨⟨⟨⟨⟨⟨True.intro, ?_⟩, ?_⟩, ?_⟩, ?_⟩, ?_⟩, ?_⟩, ?_⟩, ?_⟩, ?_⟩, ?_⟩ ?_
  · intro k v w' hk
    unfold RT3
    split
    case h_11 => trivial
    all_goals exact absurd hk (by decide)
  · intro o ho f us wl al ha g hf hdep K hKf
    obtain rfl := Option.some.inj ho
    have hB := g.1
    have hK : ∀ v w', RT3 bM mp 0 v w' → Below wl.heap.size wl w' → K (al.put (some 11) v) w' := fun v w' hv hb => hKf v w' (RT3.put g hb hv)
    have e1 : al.tmps[1]?.getD undef = .pointer (some ⟨bM, 0, none⟩) := by rw [← Rg.eval_getD, ha]; exact (Rg.puts_eval_ne _ _ _ (by rfl)).trans rfl
    have HB := Lib.hid hB
    clear ha hdep g hf hKf hB
    refine Rg.wpOp_of rfl rfl ?_
    go_simp
    exact hK _ _ rfl (Below.refl _ _)
  · intro o ho f us wl al ha g hf hdep K hKf
    obtain rfl := Option.some.inj ho
    have hB := g.1
    have hK : ∀ v w', RT3 bM mp 1 v w' → Below wl.heap.size wl w' → K (al.put (some 12) v) w' := fun v w' hv hb => hKf v w' (RT3.put g hb hv)
    have d0 : RT3 bM mp 0 (us 0) wl := g.2 0 (hdep ⟨0, .data⟩ (by simp) rfl)
    have e11 : al.tmps[11]?.getD undef = us 0 := by rw [← Rg.eval_getD, ha]; exact Rg.puts_eval _ _ _ (by rfl) (by simp) (by simp)
    have f0 : us 0 = .pointer (some ⟨bM, 1, none⟩) := d0
    obtain ⟨c0, c1⟩ := CM.out _ hB
    have HB := Lib.hid hB
    clear ha hdep g hf hKf d0 hB
    refine Rg.wpOp_of rfl rfl ?_
    go_simp
    exact hK _ _ rfl (Below.refl _ _)
  · intro o ho f us wl al ha g hf hdep K hKf
    obtain rfl := Option.some.inj ho
    have hB := g.1
    have hK : ∀ v w', RT3 bM mp 2 v w' → Below wl.heap.size wl w' → K (al.put (some 13) v) w' := fun v w' hv hb => hKf v w' (RT3.put g hb hv)
    have d1 : RT3 bM mp 1 (us 1) wl := g.2 1 (hdep ⟨1, .data⟩ (by simp) rfl)
    have e12 : al.tmps[12]?.getD undef = us 1 := by rw [← Rg.eval_getD, ha]; exact Rg.puts_eval _ _ _ (by rfl) (by simp) (by simp)
    have f1 : us 1 = .int .i64 3 := d1
    have HB := Lib.hid hB
    clear ha hdep g hf hKf d1 hB
    refine Rg.wpOp_of rfl rfl ?_
    go_simp
    exact hK _ _ rfl (Below.refl _ _)
  · intro o ho f us wl al ha g hf hdep K hKf
    obtain rfl := Option.some.inj ho
    have hB := g.1
    have hK : ∀ v w', RT3 bM mp 3 v w' → Below wl.heap.size wl w' → K (al.put (some 14) v) w' := fun v w' hv hb => hKf v w' (RT3.put g hb hv)
    have d2 : RT3 bM mp 2 (us 2) wl := g.2 2 (hdep ⟨2, .data⟩ (by simp) rfl)
    have e13 : al.tmps[13]?.getD undef = us 2 := by rw [← Rg.eval_getD, ha]; exact Rg.puts_eval _ _ _ (by rfl) (by simp) (by simp)
    have f2 : us 2 = .pointer (some ⟨0, 3, none⟩) := d2
    have c2 := CT.out _ hB
    have HB := Lib.hid hB
    clear ha hdep g hf hKf d2 hB
    refine Rg.wpOp_of rfl rfl ?_
    go_simp
    exact hK _ _ rfl (Below.refl _ _)
  · intro o ho f us wl al ha g hf hdep K hKf
    obtain rfl := Option.some.inj ho
    have hB := g.1
    have hK : ∀ v w', RT3 bM mp 4 v w' → Below wl.heap.size wl w' → K (al.put (some 15) v) w' := fun v w' hv hb => hKf v w' (RT3.put g hb hv)
    have d3 : RT3 bM mp 3 (us 3) wl := g.2 3 (hdep ⟨3, .data⟩ (by simp) rfl)
    have e14 : al.tmps[14]?.getD undef = us 3 := by rw [← Rg.eval_getD, ha]; exact Rg.puts_eval _ _ _ (by rfl) (by simp) (by simp)
    have f3 : us 3 = .string (tx [114, 105, 103, 104, 116]) := d3
    have ea : tx [114, 105, 103, 104, 116] ++ (⟨#[32]⟩ : ByteArray) = tx ([114, 105, 103, 104, 116] ++ [32]) := tx_add _ _
    have HB := Lib.hid hB
    clear ha hdep g hf hKf d3 hB
    refine Rg.wpOp_of rfl rfl ?_
    go_simp
    exact hK _ _ rfl (Below.refl _ _)
  · intro o ho f us wl al ha g hf hdep K hKf
    obtain rfl := Option.some.inj ho
    have hB := g.1
    have hK : ∀ v w', RT3 bM mp 5 v w' → Below wl.heap.size wl w' → K (al.put (some 16) v) w' := fun v w' hv hb => hKf v w' (RT3.put g hb hv)
    have e1 : al.tmps[1]?.getD undef = .pointer (some ⟨bM, 0, none⟩) := by rw [← Rg.eval_getD, ha]; exact (Rg.puts_eval_ne _ _ _ (by rfl)).trans rfl
    have HB := Lib.hid hB
    clear ha hdep g hf hKf hB
    refine Rg.wpOp_of rfl rfl ?_
    go_simp
    exact hK _ _ rfl (Below.refl _ _)
  · intro o ho f us wl al ha g hf hdep K hKf
    obtain rfl := Option.some.inj ho
    have hB := g.1
    have hK : ∀ v w', RT3 bM mp 6 v w' → Below wl.heap.size wl w' → K (al.put (some 17) v) w' := fun v w' hv hb => hKf v w' (RT3.put g hb hv)
    have d5 : RT3 bM mp 5 (us 5) wl := g.2 5 (hdep ⟨5, .data⟩ (by simp) rfl)
    have e16 : al.tmps[16]?.getD undef = us 5 := by rw [← Rg.eval_getD, ha]; exact Rg.puts_eval _ _ _ (by rfl) (by simp) (by simp)
    have f5 : us 5 = .pointer (some ⟨bM, 0, none⟩) := d5
    obtain ⟨c0, c1⟩ := CM.out _ hB
    have HB := Lib.hid hB
    clear ha hdep g hf hKf d5 hB
    refine Rg.wpOp_of rfl rfl ?_
    go_simp
    exact hK _ _ rfl (Below.refl _ _)
  · intro o ho f us wl al ha g hf hdep K hKf
    obtain rfl := Option.some.inj ho
    have hB := g.1
    have hK : ∀ v w', RT3 bM mp 7 v w' → Below wl.heap.size wl w' → K (al.put (some 18) v) w' := fun v w' hv hb => hKf v w' (RT3.put g hb hv)
    have d6 : RT3 bM mp 6 (us 6) wl := g.2 6 (hdep ⟨6, .data⟩ (by simp) rfl)
    have e17 : al.tmps[17]?.getD undef = us 6 := by rw [← Rg.eval_getD, ha]; exact Rg.puts_eval _ _ _ (by rfl) (by simp) (by simp)
    have f6 : us 6 = .int .i64 mp := d6
    have HB := Lib.hid hB
    clear ha hdep g hf hKf d6 hB
    refine Rg.wpOp_of rfl rfl ?_
    go_simp
    refine (HI.out _ HB.out).mono ?_
    rintro e wn ⟨rfl, hb⟩
    exact hK _ _ rfl hb
  · intro o ho f us wl al ha g hf hdep K hKf
    obtain rfl := Option.some.inj ho
    have hB := g.1
    have hK : ∀ v w', RT3 bM mp 8 v w' → Below wl.heap.size wl w' → K (al.put (some 19) v) w' := fun v w' hv hb => hKf v w' (RT3.put g hb hv)
    have d4 : RT3 bM mp 4 (us 4) wl := g.2 4 (hdep ⟨4, .data⟩ (by simp) rfl)
    have e15 : al.tmps[15]?.getD undef = us 4 := by rw [← Rg.eval_getD, ha]; exact Rg.puts_eval _ _ _ (by rfl) (by simp) (by simp)
    have d7 : RT3 bM mp 7 (us 7) wl := g.2 7 (hdep ⟨7, .data⟩ (by simp) rfl)
    have e18 : al.tmps[18]?.getD undef = us 7 := by rw [← Rg.eval_getD, ha]; exact Rg.puts_eval _ _ _ (by rfl) (by simp) (by simp)
    have f4 : us 4 = .string (tx ([114, 105, 103, 104, 116] ++ [32])) := d4
    have f7 : us 7 = .string (tx (Lib.itoa mp)) := d7
    have el := HL.out
    have HB := Lib.hid hB
    clear ha hdep g hf hKf d4 d7 hB
    refine Rg.wpOp_of rfl rfl ?_
    go_simp
    rw [if_neg (by omega)]
    refine hK _ _ ?_ (Below.refl _ _)
    exact congrArg Value.string (tx_add ([114, 105, 103, 104, 116] ++ [32]) (Lib.itoa mp))
  · intro o ho f us wl al ha g hf hdep K hKf
    obtain rfl := Option.some.inj ho
    have hB := g.1
    have hK : ∀ v w', RT3 bM mp 9 v w' → Below wl.heap.size wl w' → K (al.put (some 2) v) w' := fun v w' hv hb => hKf v w' (RT3.put g hb hv)
    have d8 : RT3 bM mp 8 (us 8) wl := g.2 8 (hdep ⟨8, .data⟩ (by simp) rfl)
    have e19 : al.tmps[19]?.getD undef = us 8 := by rw [← Rg.eval_getD, ha]; exact Rg.puts_eval _ _ _ (by rfl) (by simp) (by simp)
    have f8 : us 8 = .string (tx ([114, 105, 103, 104, 116] ++ [32] ++ Lib.itoa mp)) := d8
    have HB := Lib.hid hB
    clear ha hdep g hf hKf d8 hB
    refine Rg.wpOp_of rfl rfl ?_
    go_simp
    exact hK _ _ rfl (Below.refl _ _)
  · intro us wz hB hR
    have fz : us 9 = .string s := (hR 9).trans (congrArg Value.string HS.out)
    have DZ := Lib.hid (D4.out.trans (hB.mono D4.out.size))
    clear hB hR
    simp only [Rg.puts, Act.put, List.setIfInBounds_toArray, List.set_cons_zero, List.set_cons_succ, fz]
    go_wp2_with fail
    go_ret
    exact ⟨rfl, DZ.out⟩
def RT4 (bM : Nat) (mp : Int) (k : Nat) (v : Value) (_w' : World) : Prop := match k with
  | 0 => v = .pointer (some ⟨bM, 1, none⟩)
  | 1 => v = .int .i64 4
  | 2 => v = .pointer (some ⟨0, 4, none⟩)
  | 3 => v = .string (tx [103, 111])
  | 4 => v = .string (tx ([103, 111] ++ [32]))
  | 5 => v = .pointer (some ⟨bM, 0, none⟩)
  | 6 => v = .int .i64 mp
  | 7 => v = .string (tx (Lib.itoa mp))
  | 8 => v = .string (tx ([103, 111] ++ [32] ++ Lib.itoa mp))
  | 9 => v = .string (tx ([103, 111] ++ [32] ++ Lib.itoa mp))
  | _ => True
theorem RT4.below {bM : Nat} {mp : Int} {k : Nat} {v : Value} {w w' : World} (h : RT4 bM mp k v w) (_hb : Below w.heap.size w w') : RT4 bM mp k v w' := by
  unfold RT4 at h ⊢
  split at h
  all_goals exact h
theorem RT4.put {w4 : World} {bM : Nat} {mp : Int} {v : Value} {w w' : World} {f : Nat → Bool} {us : Nat → Value} {i : Nat} (g : Rg.Kept (fun w' => Below w4.heap.size w4 w') (RT4 bM mp) f us w) (hb : Below w.heap.size w w') (hv : RT4 bM mp i v w') :
    Rg.Kept (fun w' => Below w4.heap.size w4 w') (RT4 bM mp) (Rg.upd f i true) (Rg.upd us i v) w' :=
  Rg.Kept.put (Base := fun w' => Below w4.heap.size w4 w') (R := RT4 bM mp) (fun _ _ h hb => h.trans (hb.mono h.size)) (fun _ _ _ _ h hb => RT4.below h hb) g hb hv
set_option maxHeartbeats 2000000 in
theorem textP_4 (mp : Int) (w : World) (hn : In64 mp) (hT : Tx w) :
    Calls Tryd.prog 7 #[.agg #[.int .i64 mp, .int .i64 4]] w fun e w' => e = .returned (.string (tx ([103, 111] ++ [32] ++ Lib.itoa mp))) ∧ Below w.heap.size w w' := by
  have D4 := Lib.hid (below1 w (.cells #[.int .i64 mp, .int .i64 4] 23))
  have CM := Lib.hid (bm_keep2 (Bm.new w ⟨mp, 4⟩))
  have T4 := hT.below D4.out
  obtain ⟨bM, hbM⟩ : ∃ bM, w.heap.size = bM := ⟨_, rfl⟩
  obtain ⟨w4, hw4⟩ : ∃ w4, w.alloc (.cells #[.int .i64 mp, .int .i64 4] 23) = w4 := ⟨_, rfl⟩
  change Hid (∀ w', Below (w.alloc (.cells #[.int .i64 mp, .int .i64 4] 23)).heap.size (w.alloc (.cells #[.int .i64 mp, .int .i64 4] 23)) w' → w'.cell? ⟨w.heap.size, 0, none⟩ = some (.int .i64 mp) ∧ w'.cell? ⟨w.heap.size, 1, none⟩ = some (.int .i64 4)) at CM
  rw [hbM, hw4] at CM
  rw [hw4] at D4 T4
  have CT : Hid (∀ w', Below w4.heap.size w4 w' → w'.cell? ⟨0, 4, none⟩ = some (.string (tx [103, 111]))) := Lib.hid fun w' hb => (T4.below hb).cells 4
  have HI := Lib.hid (fun w' (hb : Below w4.heap.size w4 w') => itoaP_any mp w' hn (T4.below hb))
  have HL := Lib.hid (Lib.itoa_length_le mp hn.1 hn.2)
  obtain ⟨c0, c1⟩ := CM.out w4 (Below.refl _ _)
  obtain ⟨s, hs⟩ : ∃ s, tx ([103, 111] ++ [32] ++ Lib.itoa mp) = s := ⟨_, rfl⟩
  rw [hs]
  have HS := Lib.hid hs
  clear hn hT T4 hs
  go_enter Tryd.func7, Tryd.ntmps7
  go_wp2_with fail
  clear hbM hw4 c0 c1
  refine Rg.wp_region_kept (by kernel_rfl) [(0, some 11), (1, some 12), (2, some 13), (3, some 14), (4, some 15), (5, some 16), (6, some 17), (7, some 18), (8, some 19), (9, some 2)] (by rfl) (by kernel_rfl) (by kernel_rfl) (fun w' => Below w4.heap.size w4 w') (RT4 bM mp) (Below.refl _ _).drew ?_ ⟨⟨⟨⟨⟨⟨⟨⟨⟨⟨True.intro, ?_⟩, ?_⟩, ?_⟩, ?_⟩, ?_⟩, ?_⟩, ?_⟩, ?_⟩, ?_⟩, ?_⟩ ?_
  · intro k v w' hk
    unfold RT4
    split
    case h_11 => trivial
    all_goals exact absurd hk (by decide)
  · intro o ho f us wl al ha g hf hdep K hKf
    obtain rfl := Option.some.inj ho
    have hB := g.1
    have hK : ∀ v w', RT4 bM mp 0 v w' → Below wl.heap.size wl w' → K (al.put (some 11) v) w' := fun v w' hv hb => hKf v w' (RT4.put g hb hv)
    have e1 : al.tmps[1]?.getD undef = .pointer (some ⟨bM, 0, none⟩) := by rw [← Rg.eval_getD, ha]; exact (Rg.puts_eval_ne _ _ _ (by rfl)).trans rfl
    have HB := Lib.hid hB
    clear ha hdep g hf hKf hB
    refine Rg.wpOp_of rfl rfl ?_
    go_simp
    exact hK _ _ rfl (Below.refl _ _)
  · intro o ho f us wl al ha g hf hdep K hKf
    obtain rfl := Option.some.inj ho
    have hB := g.1
    have hK : ∀ v w', RT4 bM mp 1 v w' → Below wl.heap.size wl w' → K (al.put (some 12) v) w' := fun v w' hv hb => hKf v w' (RT4.put g hb hv)
    have d0 : RT4 bM mp 0 (us 0) wl := g.2 0 (hdep ⟨0, .data⟩ (by simp) rfl)
    have e11 : al.tmps[11]?.getD undef = us 0 := by rw [← Rg.eval_getD, ha]; exact Rg.puts_eval _ _ _ (by rfl) (by simp) (by simp)
    have f0 : us 0 = .pointer (some ⟨bM, 1, none⟩) := d0
    obtain ⟨c0, c1⟩ := CM.out _ hB
    have HB := Lib.hid hB
    clear ha hdep g hf hKf d0 hB
    refine Rg.wpOp_of rfl rfl ?_
    go_simp
    exact hK _ _ rfl (Below.refl _ _)
  · intro o ho f us wl al ha g hf hdep K hKf
    obtain rfl := Option.some.inj ho
    have hB := g.1
    have hK : ∀ v w', RT4 bM mp 2 v w' → Below wl.heap.size wl w' → K (al.put (some 13) v) w' := fun v w' hv hb => hKf v w' (RT4.put g hb hv)
    have d1 : RT4 bM mp 1 (us 1) wl := g.2 1 (hdep ⟨1, .data⟩ (by simp) rfl)
    have e12 : al.tmps[12]?.getD undef = us 1 := by rw [← Rg.eval_getD, ha]; exact Rg.puts_eval _ _ _ (by rfl) (by simp) (by simp)
    have f1 : us 1 = .int .i64 4 := d1
    have HB := Lib.hid hB
    clear ha hdep g hf hKf d1 hB
    refine Rg.wpOp_of rfl rfl ?_
    go_simp
    exact hK _ _ rfl (Below.refl _ _)
  · intro o ho f us wl al ha g hf hdep K hKf
    obtain rfl := Option.some.inj ho
    have hB := g.1
    have hK : ∀ v w', RT4 bM mp 3 v w' → Below wl.heap.size wl w' → K (al.put (some 14) v) w' := fun v w' hv hb => hKf v w' (RT4.put g hb hv)
    have d2 : RT4 bM mp 2 (us 2) wl := g.2 2 (hdep ⟨2, .data⟩ (by simp) rfl)
    have e13 : al.tmps[13]?.getD undef = us 2 := by rw [← Rg.eval_getD, ha]; exact Rg.puts_eval _ _ _ (by rfl) (by simp) (by simp)
    have f2 : us 2 = .pointer (some ⟨0, 4, none⟩) := d2
    have c2 := CT.out _ hB
    have HB := Lib.hid hB
    clear ha hdep g hf hKf d2 hB
    refine Rg.wpOp_of rfl rfl ?_
    go_simp
    exact hK _ _ rfl (Below.refl _ _)
  · intro o ho f us wl al ha g hf hdep K hKf
    obtain rfl := Option.some.inj ho
    have hB := g.1
    have hK : ∀ v w', RT4 bM mp 4 v w' → Below wl.heap.size wl w' → K (al.put (some 15) v) w' := fun v w' hv hb => hKf v w' (RT4.put g hb hv)
    have d3 : RT4 bM mp 3 (us 3) wl := g.2 3 (hdep ⟨3, .data⟩ (by simp) rfl)
    have e14 : al.tmps[14]?.getD undef = us 3 := by rw [← Rg.eval_getD, ha]; exact Rg.puts_eval _ _ _ (by rfl) (by simp) (by simp)
    have f3 : us 3 = .string (tx [103, 111]) := d3
    have ea : tx [103, 111] ++ (⟨#[32]⟩ : ByteArray) = tx ([103, 111] ++ [32]) := tx_add _ _
    have HB := Lib.hid hB
    clear ha hdep g hf hKf d3 hB
    refine Rg.wpOp_of rfl rfl ?_
    go_simp
    exact hK _ _ rfl (Below.refl _ _)
  · intro o ho f us wl al ha g hf hdep K hKf
    obtain rfl := Option.some.inj ho
    have hB := g.1
    have hK : ∀ v w', RT4 bM mp 5 v w' → Below wl.heap.size wl w' → K (al.put (some 16) v) w' := fun v w' hv hb => hKf v w' (RT4.put g hb hv)
    have e1 : al.tmps[1]?.getD undef = .pointer (some ⟨bM, 0, none⟩) := by rw [← Rg.eval_getD, ha]; exact (Rg.puts_eval_ne _ _ _ (by rfl)).trans rfl
    have HB := Lib.hid hB
    clear ha hdep g hf hKf hB
    refine Rg.wpOp_of rfl rfl ?_
    go_simp
    exact hK _ _ rfl (Below.refl _ _)
  · intro o ho f us wl al ha g hf hdep K hKf
    obtain rfl := Option.some.inj ho
    have hB := g.1
    have hK : ∀ v w', RT4 bM mp 6 v w' → Below wl.heap.size wl w' → K (al.put (some 17) v) w' := fun v w' hv hb => hKf v w' (RT4.put g hb hv)
    have d5 : RT4 bM mp 5 (us 5) wl := g.2 5 (hdep ⟨5, .data⟩ (by simp) rfl)
    have e16 : al.tmps[16]?.getD undef = us 5 := by rw [← Rg.eval_getD, ha]; exact Rg.puts_eval _ _ _ (by rfl) (by simp) (by simp)
    have f5 : us 5 = .pointer (some ⟨bM, 0, none⟩) := d5
    obtain ⟨c0, c1⟩ := CM.out _ hB
    have HB := Lib.hid hB
    clear ha hdep g hf hKf d5 hB
    refine Rg.wpOp_of rfl rfl ?_
    go_simp
    exact hK _ _ rfl (Below.refl _ _)
  · intro o ho f us wl al ha g hf hdep K hKf
    obtain rfl := Option.some.inj ho
    have hB := g.1
    have hK : ∀ v w', RT4 bM mp 7 v w' → Below wl.heap.size wl w' → K (al.put (some 18) v) w' := fun v w' hv hb => hKf v w' (RT4.put g hb hv)
    have d6 : RT4 bM mp 6 (us 6) wl := g.2 6 (hdep ⟨6, .data⟩ (by simp) rfl)
    have e17 : al.tmps[17]?.getD undef = us 6 := by rw [← Rg.eval_getD, ha]; exact Rg.puts_eval _ _ _ (by rfl) (by simp) (by simp)
    have f6 : us 6 = .int .i64 mp := d6
    have HB := Lib.hid hB
    clear ha hdep g hf hKf d6 hB
    refine Rg.wpOp_of rfl rfl ?_
    go_simp
    refine (HI.out _ HB.out).mono ?_
    rintro e wn ⟨rfl, hb⟩
    exact hK _ _ rfl hb
  · intro o ho f us wl al ha g hf hdep K hKf
    obtain rfl := Option.some.inj ho
    have hB := g.1
    have hK : ∀ v w', RT4 bM mp 8 v w' → Below wl.heap.size wl w' → K (al.put (some 19) v) w' := fun v w' hv hb => hKf v w' (RT4.put g hb hv)
    have d4 : RT4 bM mp 4 (us 4) wl := g.2 4 (hdep ⟨4, .data⟩ (by simp) rfl)
    have e15 : al.tmps[15]?.getD undef = us 4 := by rw [← Rg.eval_getD, ha]; exact Rg.puts_eval _ _ _ (by rfl) (by simp) (by simp)
    have d7 : RT4 bM mp 7 (us 7) wl := g.2 7 (hdep ⟨7, .data⟩ (by simp) rfl)
    have e18 : al.tmps[18]?.getD undef = us 7 := by rw [← Rg.eval_getD, ha]; exact Rg.puts_eval _ _ _ (by rfl) (by simp) (by simp)
    have f4 : us 4 = .string (tx ([103, 111] ++ [32])) := d4
    have f7 : us 7 = .string (tx (Lib.itoa mp)) := d7
    have el := HL.out
    have HB := Lib.hid hB
    clear ha hdep g hf hKf d4 d7 hB
    refine Rg.wpOp_of rfl rfl ?_
    go_simp
    rw [if_neg (by omega)]
    refine hK _ _ ?_ (Below.refl _ _)
    exact congrArg Value.string (tx_add ([103, 111] ++ [32]) (Lib.itoa mp))
  · intro o ho f us wl al ha g hf hdep K hKf
    obtain rfl := Option.some.inj ho
    have hB := g.1
    have hK : ∀ v w', RT4 bM mp 9 v w' → Below wl.heap.size wl w' → K (al.put (some 2) v) w' := fun v w' hv hb => hKf v w' (RT4.put g hb hv)
    have d8 : RT4 bM mp 8 (us 8) wl := g.2 8 (hdep ⟨8, .data⟩ (by simp) rfl)
    have e19 : al.tmps[19]?.getD undef = us 8 := by rw [← Rg.eval_getD, ha]; exact Rg.puts_eval _ _ _ (by rfl) (by simp) (by simp)
    have f8 : us 8 = .string (tx ([103, 111] ++ [32] ++ Lib.itoa mp)) := d8
    have HB := Lib.hid hB
    clear ha hdep g hf hKf d8 hB
    refine Rg.wpOp_of rfl rfl ?_
    go_simp
    exact hK _ _ rfl (Below.refl _ _)
  · intro us wz hB hR
    have fz : us 9 = .string s := (hR 9).trans (congrArg Value.string HS.out)
    have DZ := Lib.hid (D4.out.trans (hB.mono D4.out.size))
    clear hB hR
    simp only [Rg.puts, Act.put, List.setIfInBounds_toArray, List.set_cons_zero, List.set_cons_succ, fz]
    go_wp2_with fail
    go_ret
    exact ⟨rfl, DZ.out⟩
def RT5 (bM : Nat) (mp : Int) (k : Nat) (v : Value) (_w' : World) : Prop := match k with
  | 0 => v = .pointer (some ⟨bM, 1, none⟩)
  | 1 => v = .int .i64 5
  | 2 => v = .pointer (some ⟨0, 5, none⟩)
  | 3 => v = .string (tx [115, 116, 111, 112])
  | 4 => v = .string (tx ([115, 116, 111, 112] ++ [32]))
  | 5 => v = .pointer (some ⟨bM, 0, none⟩)
  | 6 => v = .int .i64 mp
  | 7 => v = .string (tx (Lib.itoa mp))
  | 8 => v = .string (tx ([115, 116, 111, 112] ++ [32] ++ Lib.itoa mp))
  | 9 => v = .string (tx ([115, 116, 111, 112] ++ [32] ++ Lib.itoa mp))
  | _ => True
theorem RT5.below {bM : Nat} {mp : Int} {k : Nat} {v : Value} {w w' : World} (h : RT5 bM mp k v w) (_hb : Below w.heap.size w w') : RT5 bM mp k v w' := by
  unfold RT5 at h ⊢
  split at h
  all_goals exact h
theorem RT5.put {w4 : World} {bM : Nat} {mp : Int} {v : Value} {w w' : World} {f : Nat → Bool} {us : Nat → Value} {i : Nat} (g : Rg.Kept (fun w' => Below w4.heap.size w4 w') (RT5 bM mp) f us w) (hb : Below w.heap.size w w') (hv : RT5 bM mp i v w') :
    Rg.Kept (fun w' => Below w4.heap.size w4 w') (RT5 bM mp) (Rg.upd f i true) (Rg.upd us i v) w' :=
  Rg.Kept.put (Base := fun w' => Below w4.heap.size w4 w') (R := RT5 bM mp) (fun _ _ h hb => h.trans (hb.mono h.size)) (fun _ _ _ _ h hb => RT5.below h hb) g hb hv
set_option maxHeartbeats 2000000 in
theorem textP_5 (mp : Int) (w : World) (hn : In64 mp) (hT : Tx w) :
    Calls Tryd.prog 7 #[.agg #[.int .i64 mp, .int .i64 5]] w fun e w' => e = .returned (.string (tx ([115, 116, 111, 112] ++ [32] ++ Lib.itoa mp))) ∧ Below w.heap.size w w' := by
  have D4 := Lib.hid (below1 w (.cells #[.int .i64 mp, .int .i64 5] 23))
  have CM := Lib.hid (bm_keep2 (Bm.new w ⟨mp, 5⟩))
  have T4 := hT.below D4.out
  obtain ⟨bM, hbM⟩ : ∃ bM, w.heap.size = bM := ⟨_, rfl⟩
  obtain ⟨w4, hw4⟩ : ∃ w4, w.alloc (.cells #[.int .i64 mp, .int .i64 5] 23) = w4 := ⟨_, rfl⟩
  change Hid (∀ w', Below (w.alloc (.cells #[.int .i64 mp, .int .i64 5] 23)).heap.size (w.alloc (.cells #[.int .i64 mp, .int .i64 5] 23)) w' → w'.cell? ⟨w.heap.size, 0, none⟩ = some (.int .i64 mp) ∧ w'.cell? ⟨w.heap.size, 1, none⟩ = some (.int .i64 5)) at CM
  rw [hbM, hw4] at CM
  rw [hw4] at D4 T4
  have CT : Hid (∀ w', Below w4.heap.size w4 w' → w'.cell? ⟨0, 5, none⟩ = some (.string (tx [115, 116, 111, 112]))) := Lib.hid fun w' hb => (T4.below hb).cells 5
  have HI := Lib.hid (fun w' (hb : Below w4.heap.size w4 w') => itoaP_any mp w' hn (T4.below hb))
  have HL := Lib.hid (Lib.itoa_length_le mp hn.1 hn.2)
  obtain ⟨c0, c1⟩ := CM.out w4 (Below.refl _ _)
  obtain ⟨s, hs⟩ : ∃ s, tx ([115, 116, 111, 112] ++ [32] ++ Lib.itoa mp) = s := ⟨_, rfl⟩
  rw [hs]
  have HS := Lib.hid hs
  clear hn hT T4 hs
  go_enter Tryd.func7, Tryd.ntmps7
  go_wp2_with fail
  clear hbM hw4 c0 c1
  refine Rg.wp_region_kept (by kernel_rfl) [(0, some 11), (1, some 12), (2, some 13), (3, some 14), (4, some 15), (5, some 16), (6, some 17), (7, some 18), (8, some 19), (9, some 2)] (by rfl) (by kernel_rfl) (by kernel_rfl) (fun w' => Below w4.heap.size w4 w') (RT5 bM mp) (Below.refl _ _).drew ?_ ⟨⟨⟨⟨⟨⟨⟨⟨⟨⟨True.intro, ?_⟩, ?_⟩, ?_⟩, ?_⟩, ?_⟩, ?_⟩, ?_⟩, ?_⟩, ?_⟩, ?_⟩ ?_
  · intro k v w' hk
    unfold RT5
    split
    case h_11 => trivial
    all_goals exact absurd hk (by decide)
  · intro o ho f us wl al ha g hf hdep K hKf
    obtain rfl := Option.some.inj ho
    have hB := g.1
    have hK : ∀ v w', RT5 bM mp 0 v w' → Below wl.heap.size wl w' → K (al.put (some 11) v) w' := fun v w' hv hb => hKf v w' (RT5.put g hb hv)
    have e1 : al.tmps[1]?.getD undef = .pointer (some ⟨bM, 0, none⟩) := by rw [← Rg.eval_getD, ha]; exact (Rg.puts_eval_ne _ _ _ (by rfl)).trans rfl
    have HB := Lib.hid hB
    clear ha hdep g hf hKf hB
    refine Rg.wpOp_of rfl rfl ?_
    go_simp
    exact hK _ _ rfl (Below.refl _ _)
  · intro o ho f us wl al ha g hf hdep K hKf
    obtain rfl := Option.some.inj ho
    have hB := g.1
    have hK : ∀ v w', RT5 bM mp 1 v w' → Below wl.heap.size wl w' → K (al.put (some 12) v) w' := fun v w' hv hb => hKf v w' (RT5.put g hb hv)
    have d0 : RT5 bM mp 0 (us 0) wl := g.2 0 (hdep ⟨0, .data⟩ (by simp) rfl)
    have e11 : al.tmps[11]?.getD undef = us 0 := by rw [← Rg.eval_getD, ha]; exact Rg.puts_eval _ _ _ (by rfl) (by simp) (by simp)
    have f0 : us 0 = .pointer (some ⟨bM, 1, none⟩) := d0
    obtain ⟨c0, c1⟩ := CM.out _ hB
    have HB := Lib.hid hB
    clear ha hdep g hf hKf d0 hB
    refine Rg.wpOp_of rfl rfl ?_
    go_simp
    exact hK _ _ rfl (Below.refl _ _)
  · intro o ho f us wl al ha g hf hdep K hKf
    obtain rfl := Option.some.inj ho
    have hB := g.1
    have hK : ∀ v w', RT5 bM mp 2 v w' → Below wl.heap.size wl w' → K (al.put (some 13) v) w' := fun v w' hv hb => hKf v w' (RT5.put g hb hv)
    have d1 : RT5 bM mp 1 (us 1) wl := g.2 1 (hdep ⟨1, .data⟩ (by simp) rfl)
    have e12 : al.tmps[12]?.getD undef = us 1 := by rw [← Rg.eval_getD, ha]; exact Rg.puts_eval _ _ _ (by rfl) (by simp) (by simp)
    have f1 : us 1 = .int .i64 5 := d1
    have HB := Lib.hid hB
    clear ha hdep g hf hKf d1 hB
    refine Rg.wpOp_of rfl rfl ?_
    go_simp
    exact hK _ _ rfl (Below.refl _ _)
  · intro o ho f us wl al ha g hf hdep K hKf
    obtain rfl := Option.some.inj ho
    have hB := g.1
    have hK : ∀ v w', RT5 bM mp 3 v w' → Below wl.heap.size wl w' → K (al.put (some 14) v) w' := fun v w' hv hb => hKf v w' (RT5.put g hb hv)
    have d2 : RT5 bM mp 2 (us 2) wl := g.2 2 (hdep ⟨2, .data⟩ (by simp) rfl)
    have e13 : al.tmps[13]?.getD undef = us 2 := by rw [← Rg.eval_getD, ha]; exact Rg.puts_eval _ _ _ (by rfl) (by simp) (by simp)
    have f2 : us 2 = .pointer (some ⟨0, 5, none⟩) := d2
    have c2 := CT.out _ hB
    have HB := Lib.hid hB
    clear ha hdep g hf hKf d2 hB
    refine Rg.wpOp_of rfl rfl ?_
    go_simp
    exact hK _ _ rfl (Below.refl _ _)
  · intro o ho f us wl al ha g hf hdep K hKf
    obtain rfl := Option.some.inj ho
    have hB := g.1
    have hK : ∀ v w', RT5 bM mp 4 v w' → Below wl.heap.size wl w' → K (al.put (some 15) v) w' := fun v w' hv hb => hKf v w' (RT5.put g hb hv)
    have d3 : RT5 bM mp 3 (us 3) wl := g.2 3 (hdep ⟨3, .data⟩ (by simp) rfl)
    have e14 : al.tmps[14]?.getD undef = us 3 := by rw [← Rg.eval_getD, ha]; exact Rg.puts_eval _ _ _ (by rfl) (by simp) (by simp)
    have f3 : us 3 = .string (tx [115, 116, 111, 112]) := d3
    have ea : tx [115, 116, 111, 112] ++ (⟨#[32]⟩ : ByteArray) = tx ([115, 116, 111, 112] ++ [32]) := tx_add _ _
    have HB := Lib.hid hB
    clear ha hdep g hf hKf d3 hB
    refine Rg.wpOp_of rfl rfl ?_
    go_simp
    exact hK _ _ rfl (Below.refl _ _)
  · intro o ho f us wl al ha g hf hdep K hKf
    obtain rfl := Option.some.inj ho
    have hB := g.1
    have hK : ∀ v w', RT5 bM mp 5 v w' → Below wl.heap.size wl w' → K (al.put (some 16) v) w' := fun v w' hv hb => hKf v w' (RT5.put g hb hv)
    have e1 : al.tmps[1]?.getD undef = .pointer (some ⟨bM, 0, none⟩) := by rw [← Rg.eval_getD, ha]; exact (Rg.puts_eval_ne _ _ _ (by rfl)).trans rfl
    have HB := Lib.hid hB
    clear ha hdep g hf hKf hB
    refine Rg.wpOp_of rfl rfl ?_
    go_simp
    exact hK _ _ rfl (Below.refl _ _)
  · intro o ho f us wl al ha g hf hdep K hKf
    obtain rfl := Option.some.inj ho
    have hB := g.1
    have hK : ∀ v w', RT5 bM mp 6 v w' → Below wl.heap.size wl w' → K (al.put (some 17) v) w' := fun v w' hv hb => hKf v w' (RT5.put g hb hv)
    have d5 : RT5 bM mp 5 (us 5) wl := g.2 5 (hdep ⟨5, .data⟩ (by simp) rfl)
    have e16 : al.tmps[16]?.getD undef = us 5 := by rw [← Rg.eval_getD, ha]; exact Rg.puts_eval _ _ _ (by rfl) (by simp) (by simp)
    have f5 : us 5 = .pointer (some ⟨bM, 0, none⟩) := d5
    obtain ⟨c0, c1⟩ := CM.out _ hB
    have HB := Lib.hid hB
    clear ha hdep g hf hKf d5 hB
    refine Rg.wpOp_of rfl rfl ?_
    go_simp
    exact hK _ _ rfl (Below.refl _ _)
  · intro o ho f us wl al ha g hf hdep K hKf
    obtain rfl := Option.some.inj ho
    have hB := g.1
    have hK : ∀ v w', RT5 bM mp 7 v w' → Below wl.heap.size wl w' → K (al.put (some 18) v) w' := fun v w' hv hb => hKf v w' (RT5.put g hb hv)
    have d6 : RT5 bM mp 6 (us 6) wl := g.2 6 (hdep ⟨6, .data⟩ (by simp) rfl)
    have e17 : al.tmps[17]?.getD undef = us 6 := by rw [← Rg.eval_getD, ha]; exact Rg.puts_eval _ _ _ (by rfl) (by simp) (by simp)
    have f6 : us 6 = .int .i64 mp := d6
    have HB := Lib.hid hB
    clear ha hdep g hf hKf d6 hB
    refine Rg.wpOp_of rfl rfl ?_
    go_simp
    refine (HI.out _ HB.out).mono ?_
    rintro e wn ⟨rfl, hb⟩
    exact hK _ _ rfl hb
  · intro o ho f us wl al ha g hf hdep K hKf
    obtain rfl := Option.some.inj ho
    have hB := g.1
    have hK : ∀ v w', RT5 bM mp 8 v w' → Below wl.heap.size wl w' → K (al.put (some 19) v) w' := fun v w' hv hb => hKf v w' (RT5.put g hb hv)
    have d4 : RT5 bM mp 4 (us 4) wl := g.2 4 (hdep ⟨4, .data⟩ (by simp) rfl)
    have e15 : al.tmps[15]?.getD undef = us 4 := by rw [← Rg.eval_getD, ha]; exact Rg.puts_eval _ _ _ (by rfl) (by simp) (by simp)
    have d7 : RT5 bM mp 7 (us 7) wl := g.2 7 (hdep ⟨7, .data⟩ (by simp) rfl)
    have e18 : al.tmps[18]?.getD undef = us 7 := by rw [← Rg.eval_getD, ha]; exact Rg.puts_eval _ _ _ (by rfl) (by simp) (by simp)
    have f4 : us 4 = .string (tx ([115, 116, 111, 112] ++ [32])) := d4
    have f7 : us 7 = .string (tx (Lib.itoa mp)) := d7
    have el := HL.out
    have HB := Lib.hid hB
    clear ha hdep g hf hKf d4 d7 hB
    refine Rg.wpOp_of rfl rfl ?_
    go_simp
    rw [if_neg (by omega)]
    refine hK _ _ ?_ (Below.refl _ _)
    exact congrArg Value.string (tx_add ([115, 116, 111, 112] ++ [32]) (Lib.itoa mp))
  · intro o ho f us wl al ha g hf hdep K hKf
    obtain rfl := Option.some.inj ho
    have hB := g.1
    have hK : ∀ v w', RT5 bM mp 9 v w' → Below wl.heap.size wl w' → K (al.put (some 2) v) w' := fun v w' hv hb => hKf v w' (RT5.put g hb hv)
    have d8 : RT5 bM mp 8 (us 8) wl := g.2 8 (hdep ⟨8, .data⟩ (by simp) rfl)
    have e19 : al.tmps[19]?.getD undef = us 8 := by rw [← Rg.eval_getD, ha]; exact Rg.puts_eval _ _ _ (by rfl) (by simp) (by simp)
    have f8 : us 8 = .string (tx ([115, 116, 111, 112] ++ [32] ++ Lib.itoa mp)) := d8
    have HB := Lib.hid hB
    clear ha hdep g hf hKf d8 hB
    refine Rg.wpOp_of rfl rfl ?_
    go_simp
    exact hK _ _ rfl (Below.refl _ _)
  · intro us wz hB hR
    have fz : us 9 = .string s := (hR 9).trans (congrArg Value.string HS.out)
    have DZ := Lib.hid (D4.out.trans (hB.mono D4.out.size))
    clear hB hR
    simp only [Rg.puts, Act.put, List.setIfInBounds_toArray, List.set_cons_zero, List.set_cons_succ, fz]
    go_wp2_with fail
    go_ret
    exact ⟨rfl, DZ.out⟩
theorem textP : TxP := by
  rintro ⟨mp, mh⟩ w hT hn
  by_cases h : mh < 1 ∨ 5 < mh
  · rw [show txM ⟨mp, mh⟩ = ⟨#[]⟩ from if_pos (by show hwT mh = []; unfold hwT; rw [if_neg (by omega), if_neg (by omega), if_neg (by omega), if_neg (by omega), if_neg (by omega)])]
    exact textP_no mp mh w h
  · have h5 : mh = 1 ∨ mh = 2 ∨ mh = 3 ∨ mh = 4 ∨ mh = 5 := by omega
    rcases h5 with rfl | rfl | rfl | rfl | rfl
    · exact textP_1 mp w hn hT
    · exact textP_2 mp w hn hT
    · exact textP_3 mp w hn hT
    · exact textP_4 mp w hn hT
    · exact textP_5 mp w hn hT
end Go.Proofs.YtdkaoiomndkbjaaDoor.Me
