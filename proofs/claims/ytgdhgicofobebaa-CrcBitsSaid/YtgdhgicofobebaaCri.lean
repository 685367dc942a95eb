/- bytes.Equal and bytes.HasPrefix at bytes that read so. -/
import Derived.Test.YtgdhgicofobebaaCra
import Derived.Laws.BytesArg
namespace Go.Proofs.Ytgdhgicofobebaa.Cr
open Go Go.RowKit
set_option maxRecDepth 20000

/-- Bytes as a text. -/
def sb (l : By) : ByteArray := strOfNums (l.map fun b => (b.toNat : Int))
theorem sb_inj {l m : By} (h : sb l = sb m) : l = m := by
  have h1 := congrArg (fun s => s.data.toList) h
  simp only [sb, strOfNums_data, List.map_map] at h1
  revert m
  induction l with
  | nil =>
    intro m _ h
    cases m with
    | nil => rfl
    | cons b m => simp at h
  | cons a l ih =>
    intro m _ h
    cases m with
    | nil => simp at h
    | cons b m =>
      simp only [List.map_cons, List.cons.injEq] at h
      have e : l = m := ih (by
        show (⟨_⟩ : ByteArray) = ⟨_⟩
        rw [List.map_map, List.map_map, h.2]) h.2
      have h2 := congrArg UInt8.toNat h.1
      simp only [Function.comp, Int.toNat_natCast, UInt8.toNat_ofNat'] at h2
      have ha := a.isLt
      have hb := b.isLt
      rw [e, BitVec.eq_of_toNat_eq (x := a) (y := b) (by omega)]
theorem sb_beq (l m : By) : ((sb l).toList == (sb m).toList) = decide (l = m) := by
  by_cases h : l = m
  · subst h
    rw [decide_eq_true rfl]
    exact beq_self_eq_true _
  · rw [decide_eq_false h, beq_eq_false_iff_ne]
    intro e
    rw [ByteArray.toList_eq, ByteArray.toList_eq] at e
    refine h (sb_inj ?_)
    cases hs : sb l with
    | mk d => cases ht : sb m with
      | mk d' => rw [hs, ht] at e; simp only at e; rw [Array.ext' e]
theorem conv_bys {w : World} {v : Value} {l : By} (h : Bys w v l) : (convert 23 9 v).run Try.prog w = .ok (.string (sb l)) w := by
  obtain ⟨_, a, c, rfl, hc, hn, hcell⟩ := h
  cases a with
  | none =>
    have h0 : l = [] := List.eq_nil_of_length_eq_zero (hn rfl).1
    subst h0
    exact run_convert_bytes_nil w _ _ Try.underlying23 Try.underlying5 _ _ _ Try.underlying9
  | some ad =>
    by_cases h0 : 0 < l.length
    · obtain ⟨b, off, he, hj⟩ := hcell h0
      cases he
      refine run_convert_bytes_arg w _ _ Try.underlying23 Try.underlying5 b off _ c _ (by simp) (fun i hi => ?_) _ Try.underlying9
      rw [hj i (.int .u8 (l[i].toNat : Int)) (by simp [bc, hi])]
      simp [List.getD, hi]
    · have h1 : l = [] := List.eq_nil_of_length_eq_zero (by omega)
      subst h1
      have hl : (loadCells ad 0).run Try.prog w = .ok (([] : List Int).map (Value.int .u8)).toArray w := by simpa using run_loadCells_list (P := Try.prog) w ad [] (by simp)
      show (convert _ _ (.slice (some ad) 0 c)).run _ w = _
      rw [run_convert_bytes_string w _ _ _ _ 0 c Try.underlying23 Try.underlying5 Try.underlying9, run_bytesToString w _ 0 c [] hl]
      rfl
set_option maxHeartbeats 1000000 in
theorem equalP_any (v x : Value) (l m : By) (w : World) (hv : Bys w v l) (hx : Bys w x m) : Calls Try.prog 26 #[v, x] w fun e w' => e = .returned (.bool (decide (l = m))) ∧ w = w' := by
  have C1 := conv_bys hv
  have C2 := conv_bys hx
  rw [← sb_beq]
  obtain ⟨_, a, c, rfl, -⟩ := id hv
  obtain ⟨_, a', c', rfl, -⟩ := id hx
  generalize sb l = s at C1 ⊢
  generalize sb m = t at C2 ⊢
  clear hv hx
  go_enter Try.func26, Try.ntmps26
  go_wp2_with fail
  go_ret
  exact ⟨rfl, rfl⟩
theorem Bys.take {w : World} {a : Option Addr} {n c : Nat} {l : By} (h : Bys w (.slice a n c) l) {k : Nat} (hk : k ≤ n) : Bys w (.slice a k c) (l.take k) := by
  have hlen := h.len
  have hcap := h.cap
  obtain ⟨_, a', c', hv, hc, hn, hcell⟩ := h
  cases hv
  have hl : (l.take k).length = k := by rw [List.length_take]; omega
  refine ⟨by rw [bc_len, Nat.mul_one], a, c, by rw [hl], by omega, fun ha => ?_, fun h0 => ?_⟩
  · have := hn ha
    rw [hl]
    omega
  · obtain ⟨b, off, ha, hj⟩ := hcell (by rw [hl] at h0; omega)
    refine ⟨b, off, ha, fun j u hu => hj j u ?_⟩
    rw [bc, List.map_take] at hu
    have : j < k := by
      have := (List.getElem?_eq_some_iff.1 hu).1
      rw [List.length_take, List.length_map] at this
      omega
    rw [List.getElem?_take_of_lt this] at hu
    exact hu
set_option maxHeartbeats 1000000 in
theorem prefixP_any (v x : Value) (l m : By) (w : World) (hv : Bys w v l) (hx : Bys w x m) : Calls Try.prog 25 #[v, x] w fun e w' => e = .returned (.bool (decide (m.length ≤ l.length) && decide (l.take m.length = m))) ∧ w = w' := by
  obtain ⟨a, n, c, rfl, hn⟩ := hv.split
  obtain ⟨a', n', c', rfl, hn'⟩ := hx.split
  rw [hn, hn']
  have hc := hv.cap
  by_cases h : n' ≤ n
  · have HE := Lib.hid (equalP_any _ _ _ _ w (hv.take h) hx)
    generalize decide (l.take n' = m) = r at HE ⊢
    rw [decide_eq_true h, Bool.true_and]
    clear hv hx hn hn'
    have hc2 : n' ≤ c := by omega
    go_enter Try.func25, Try.ntmps25
    go_wp2_with fail
    refine HE.out.mono ?_
    rintro e w' ⟨rfl, rfl⟩
    go_wp2_with fail
    go_ret
    exact ⟨rfl, rfl⟩
  · generalize decide (l.take n' = m) = r
    rw [decide_eq_false h, Bool.false_and]
    clear hv hx hn hn'
    go_enter Try.func25, Try.ntmps25
    go_wp2_with fail
    go_ret
    exact ⟨rfl, rfl⟩
end Go.Proofs.Ytgdhgicofobebaa.Cr
