/- Numbers as bytes: the program's Put (an array, a copy of its part). -/
import Derived.Test.YtgdhgicofobebaaCrf
import Derived.Test.YtgdhgicofobebaaStca
import Derived.Laws.Tables
namespace Go.Proofs.Ytgdhgicofobebaa.Cr
open Go Go.RowKit
set_option maxRecDepth 20000

theorem hszB : (Try.prog.info? 5).map (·.size) = some 1 := by kernel_rfl
theorem heap_setCell (w : World) (g o : Nat) (v : Value) (k : Nat) : (w.setCell ⟨g, o, none⟩ v).heap[k]? = if g = k then (w.heap[k]?).map (fun x => match x with | .cells c elem frozen => .cells (c.setIfInBounds o v) elem frozen | o => o) else w.heap[k]? := by
  simp only [World.setCell, Array.getElem?_modify]
  by_cases h : g = k
  · simp [h]
    rfl
  · simp [h]
theorem heap_new (w : World) (o : Obj) : (w.alloc o).heap[w.heap.size]? = some o := by
  show (w.heap.push o)[w.heap.size]? = some o
  simp
/-- Bytes that are copied into a block of the call's own: whatever the walk spells. -/
theorem copy_bys {w : World} (g off : Nat) (X Z : By) {sv : Value} (hx : Bys w sv (X ++ Z)) (cur : List Value) {t : TypeId} (hg : w.heap[g]? = some (.cells cur.toArray t (0, 0)))
    (hfit : off + X.length ≤ cur.length) (B : Nat) (w0 : World) (hb : Below B w0 w) (hBg : B ≤ g) (ty : TypeId) :
    ∃ w', (∀ (dp : Option Addr) (N cap : Nat), X.length = min (X ++ Z).length N → (0 < X.length → dp = some ⟨g, off, none⟩) → (Builtin.copy_ #[23, 23] ty #[.slice dp N cap, sv]).run Try.prog w = .ok (goInt X.length) w') ∧
      w'.heap[g]? = some (.cells (splice cur off (bc X)).toArray t (0, 0)) ∧ Below B w0 w' ∧ w'.heap.size = w.heap.size ∧ ∀ k, k ≠ g → w'.heap[k]? = w.heap[k]? := by
  obtain ⟨hl0, a, c, rfl, hc, hn, hcell⟩ := hx
  by_cases h0 : X.length = 0
  · obtain rfl : X = [] := List.eq_nil_of_length_eq_zero h0
    refine ⟨w, fun dp N cap hN _ => ?_, by simpa [splice, bc] using hg, hb, rfl, fun _ _ => rfl⟩
    exact Cy.run_copy_none w _ _ ty 5 1 dp a N cap _ c Try.underlying23 hszB hN.symm
  · have h1 : 0 < (X ++ Z).length := by rw [List.length_append]; omega
    obtain ⟨b, o, rfl, hj⟩ := hcell h1
    have hsrc : ∀ j v, (bc X)[j]? = some v → w.cell? (Addr.add ⟨b, o, none⟩ j) = some v := fun j v hv => by
      rw [Addr.add_lit]
      refine hj j v ?_
      rw [bc_append, List.getElem?_append_left (List.getElem?_eq_some_iff.1 hv).1]
      exact hv
    refine ⟨w.setRow g (cur.toArray.toList.take off ++ bc X ++ cur.toArray.toList.drop (off + (bc X).length)).toArray, fun dp N cap hN hdp => ?_, ?_, below_setRow hb hBg _, by simp [World.setRow], fun k hk => setRow_other w g k _ hk⟩
    · rw [hdp (by omega)]
      exact Cy.run_copy_row w _ _ ty 5 1 X.length g off N cap _ _ c cur.toArray t (bc X) Try.underlying23 hszB hg hN (by rw [bc_len, Nat.mul_one]) hsrc (by rw [bc_len]; simpa using hfit) (bc_one X)
    · simpa [splice] using setRow_heap w g _ _ t _ hg
theorem blk_set {w : World} {g o : Nat} {cs : List Value} {t : TypeId} (v : Value) (h : w.heap[g]? = some (.cells cs.toArray t (0, 0))) : (w.setCell ⟨g, o, none⟩ v).heap[g]? = some (.cells (cs.set o v).toArray t (0, 0)) := by
  simp [heap_setCell, h]
theorem blk_cell {w : World} {g o : Nat} {cs : List Value} {t : TypeId} (h : w.heap[g]? = some (.cells cs.toArray t (0, 0))) : w.cell? ⟨g, o, none⟩ = cs[o]? := by
  simp [World.cell?, h]
theorem blk_soft {w : World} {g : Nat} {cs : List Value} {t : TypeId} (h : w.heap[g]? = some (.cells cs.toArray t (0, 0))) (o : Nat) : w.frozen? ⟨g, o, none⟩ = false := by
  simp [World.frozen?, h]
theorem below_setCell {B : Nat} {w0 w : World} (h : Below B w0 w) (g o : Nat) (v : Value) (hg : B ≤ g) : Below B w0 (w.setCell ⟨g, o, none⟩ v) :=
  ⟨h.os, h.tape, h.output, by rw [show (w.setCell ⟨g, o, none⟩ v).heap.size = w.heap.size by simp [World.setCell]]; exact h.size, fun k hk => by rw [heap_setCell, if_neg (by omega)]; exact h.block k hk⟩
/-- The array as far as it is filled. -/
def fill (k n : Nat) : List Value := bc (pu k n) ++ List.replicate (8 - k) (.int .u8 0)
theorem fill_len {k n : Nat} (hk : k ≤ 8) : (fill k n).length = 8 := by simp [fill, bc_len, pu_len]; omega
theorem fill_set {k n : Nat} (hk : k < 8) : (fill k n).set k (.int .u8 ((n / 256 ^ k % 256 : Nat) : Int)) = fill (k + 1) n := by
  unfold fill
  rw [pu_snoc, bc_append, List.append_assoc, show 8 - k = (8 - (k + 1)) + 1 by omega, List.replicate_succ, List.set_append_right _ _ (by rw [bc_len, pu_len]; exact Nat.le_refl _), bc_len, pu_len, Nat.sub_self, List.set_cons_zero]
  simp [bc]
theorem pu_take : ∀ (k m n : Nat), k ≤ m → (pu m n).take k = pu k n
  | 0, m, n, _ => rfl
  | k + 1, m + 1, n, h => by rw [pu, pu, List.take_succ_cons, pu_take k m _ (by omega)]
  | k + 1, 0, n, h => absurd h (by omega)
theorem byte_of (n j : Nat) : ((n / 256 ^ j % 256 : Nat) : Int) = (n : Int) / 2 ^ (8 * j) % 256 := by
  have p : (2 : Int) ^ (8 * j) = ((256 ^ j : Nat) : Int) := by
    rw [Int.natCast_pow, show ((256 : Nat) : Int) = 2 ^ 8 from rfl, ← Int.pow_mul]
  rw [p]
  omega
/-- What make gives: a block of its own. -/
theorem made_bytes {w : World} {B g N : Nat} {cs : List Value} (ho : w.ownsRow B 5 1 (.slice (some ⟨g, 0, none⟩) N N) N cs) :
    ∃ cur : List Value, cur.length = N ∧ w.heap[g]? = some (.cells cur.toArray 5 (0, 0)) := by
  obtain ⟨_, ⟨h0, _⟩ | ⟨g, cap, cur, hv, _, hh, h1, h2, h3, h4⟩⟩ := ho
  · cases h0
  · cases hv
    exact ⟨cur.toList, by simpa using h3, by simpa using hh⟩
set_option maxHeartbeats 2000000 in
theorem putP_any (n : Nat) (k : Int) (w : World) : Calls Try.prog 14 #[.int .u64 (n : Int), .int .i64 k] w fun e w' => ∃ v, e = .returned v ∧ OwB w' w.heap.size v (pu (pm k) n) ∧ Below w.heap.size w w' := by
  obtain ⟨i0, hi0, hz0, hs0, hb0⟩ := info_parts infoB
  obtain ⟨B, hB⟩ : ∃ B, w.heap.size = B := ⟨_, rfl⟩
  have HB0 : Hid (Below B w (w.alloc (.cells #[.int .u8 0, .int .u8 0, .int .u8 0, .int .u8 0, .int .u8 0, .int .u8 0, .int .u8 0, .int .u8 0] 44))) := by rw [← hB]; exact (Below.refl _ _).alloc (Nat.le_refl _) _
  have HA0 : Hid ((w.alloc (.cells #[.int .u8 0, .int .u8 0, .int .u8 0, .int .u8 0, .int .u8 0, .int .u8 0, .int .u8 0, .int .u8 0] 44)).heap[B]? = some (.cells (fill 0 n).toArray 44 (0, 0))) := by rw [← hB]; exact heap_new w _
  rw [hB]
  go_enter Try.func14, Try.ntmps14
  go_wp2_with fail
  go_loopw [6, 8] (fun _ iv wr => ∃ (j : Nat), j ≤ 8 ∧ iv = .int .i64 j ∧ Hid (wr.heap[B]? = some (.cells (fill j n).toArray 44 (0, 0))) ∧ Hid (Below B w wr)) (fun _ iv _ => 8 - (intOf iv).toNat)
  case atStart => exact ⟨0, Nat.zero_le _, rfl, HA0, HB0⟩
  case round =>
    obtain ⟨j, hj, rfl, HA, HB⟩ := hrel
    by_cases hlt : j < 8
    · have f0 := blk_soft HA.out j
      have c0 : wr.cell? ⟨B, j, none⟩ = some ((fill j n)[j]'(by rw [fill_len hj]; exact hlt)) := by rw [blk_cell HA.out]; exact List.getElem?_eq_getElem _
      have HA2 : Hid ((wr.setCell ⟨B, j, none⟩ (.int .u8 ((n : Int) / 2 ^ (8 * j) % 256))).heap[B]? = some (.cells (fill (j + 1) n).toArray 44 (0, 0))) := by rw [← fill_set hlt, byte_of]; exact blk_set _ HA.out
      go_wp2_with fail
      go_roundw
      case rel => exact ⟨j + 1, by omega, by go_num, HA2, Lib.hid (below_setCell HB.out _ _ _ (Nat.le_refl _))⟩
      case measure => first | (simp [intOf]; done) | (simp [intOf]; omega)
    · have HA8 : Hid (wr.heap[B]? = some (.cells (bc (pu 8 n)).toArray 44 (0, 0))) := by
        have h := HA.out
        rw [show j = 8 by omega] at h
        unfold fill at h
        rw [Nat.sub_self, List.replicate_zero, List.append_nil] at h
        exact h
      obtain ⟨m, hm⟩ : ∃ m, pm k = m := ⟨_, rfl⟩
      have hm8 : m ≤ 8 := by rw [← hm]; exact pm_le k
      obtain ⟨q, hq⟩ : ∃ q : Int, (if (8 : Int) < k then (8 : Int) else k) = q := ⟨_, rfl⟩
      have hqm : (if (0 : Int) < q then q else 0) = (m : Int) := by
        rw [← hm, ← hq]
        unfold pm
        split <;> split <;> omega
      have HM := Lib.hid hm
      have g0 : (0 : Int) ≤ (m : Int) := by omega
      clear hm
      go_wp2_with (at_make; refine wpList_make_full _ rfl _ _ 23 rfl B 5 i0 _ 1 Try.underlying23 hi0 hz0 hs0 .i64 .i64 _ _ m rfl rfl rfl rfl (by rw [hb0]; omega) (by unfold maxLen; omega) (by have := HB.out.size; omega) ?_; intro w2 hown2 hgrow2)
      obtain ⟨cur, hcl, hcur⟩ := made_bytes hown2
      have hBg : B < wr.heap.size := (Array.getElem?_eq_some_iff.1 HA8.out).1
      have D2 : Below B w w2 := HB.out.grown hgrow2 (by have := HB.out.size; omega) (fun k hk => by cases hk)
      have hA2 : w2.heap[B]? = some (.cells (bc (pu 8 n)).toArray 44 (0, 0)) := by rw [hgrow2.block B hBg (by simp)]; exact HA8.out
      have hsplit : pu 8 n = pu m n ++ (pu 8 n).drop m := by rw [← pu_take m 8 n hm8, List.take_append_drop]
      have hsrc : Bys w2 (.slice (some ⟨B, 0, none⟩) 8 8) (pu m n ++ (pu 8 n).drop m) := by
        rw [← hsplit]
        have h := bys_cells (w := w2) (b := B) (off := 0) (cap := 8) (l := pu 8 n) (by rw [pu_len]; omega) (fun k hk => by rw [blk_cell hA2, Nat.zero_add]; simp [bc, hk])
        rw [pu_len] at h
        exact h
      have hl8 : (pu m n ++ (pu 8 n).drop m).length = 8 := by rw [← hsplit, pu_len]
      obtain ⟨w3, hrun, hcur3, D3, -, -⟩ := copy_bys wr.heap.size 0 (pu m n) _ hsrc cur hcur (by rw [pu_len, hcl]; omega) B w D2 (by omega) 3
      rw [hl8, pu_len] at hrun
      have R := Lib.hid hrun
      have HO : Hid (OwB w3 B (.slice (some ⟨wr.heap.size, 0, none⟩) m m) (pu m n)) := by
        show w3.ownsRow B 5 1 _ (pu m n).length _
        rw [pu_len]
        refine ⟨by rw [bc_len, Nat.mul_one, pu_len], .inr ⟨wr.heap.size, m, _, rfl, by omega, hcur3, Nat.le_refl _, by unfold maxLen; omega, ?_, ?_⟩⟩
        · simp [splice, bc_len, pu_len, hcl]
        · simp [splice, bc_len, pu_len, hcl]
      have D3H := Lib.hid D3
      clear hrun hcur3 D3 hsrc hsplit hl8 hA2 D2 hcur hcl hown2 hgrow2
      go_wp2_with fail
      rw [R.out _ _ _ (by omega) (fun _ => rfl)]
      go_wp2_with fail
      go_ret
      refine ⟨_, rfl, ?_, D3H.out⟩
      rw [HM.out]
      exact HO.out
end Go.Proofs.Ytgdhgicofobebaa.Cr
