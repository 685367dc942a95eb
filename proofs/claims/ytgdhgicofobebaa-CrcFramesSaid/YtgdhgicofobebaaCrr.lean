/- CrcFrames: the walk. -/
import Derived.Test.YtgdhgicofobebaaCrp
namespace Go.Proofs.Ytgdhgicofobebaa.Cr
open Go Go.RowKit
set_option maxRecDepth 20000

theorem bys_nil (w : World) (a : Option Addr) (c : Nat) (h : a = none → c = 0) : Bys w (.slice a 0 c) [] := ⟨rfl, a, c, rfl, Nat.zero_le _, fun h' => ⟨rfl, h h'⟩, fun h => absurd h (Nat.lt_irrefl 0)⟩
/-- The frame, or nothing. -/
def frO (n : Nat) (d : By) : By := if d.length ≤ 2048 then frame n d else []
/-- What a Frame tells. -/
def FrP (w : World) (n : Nat) (d : By) (e : Ending) (w' : World) : Prop := ∃ y, e = .returned (.tuple #[y, .bool (decide (d.length ≤ 2048))]) ∧ OwB w' w.heap.size y (frO n d) ∧ Below w.heap.size w w'
theorem frameP_all (n : Nat) (v : Value) (d : By) (w : World) (hv : Bys w v d) : Calls Try.prog 19 #[.int .u64 (n : Int), v] w (FrP w n d) := by
  by_cases h : d.length ≤ 2048
  · refine (frameP_any n v d w hv h).mono fun e w' ⟨y, h1, h2, h3⟩ => ⟨y, by rw [decide_eq_true h]; exact h1, ?_, h3⟩
    unfold frO
    rw [if_pos h]
    exact h2
  · refine (frameP_long n v d w hv (by omega)).mono fun e w' ⟨h1, h2⟩ => ⟨_, by rw [decide_eq_false h]; exact h1, ?_, by rw [← h2]; exact Below.refl _ _⟩
    unfold frO
    rw [if_neg h]
    exact OwB.start _ _
theorem frameR_all (n : Nat) (v : Value) (d : By) (w : World) (hv : Bys w v d) (hn : n < 18446744073709551616) : Calls Try.prog 20 #[.int .u64 (n : Int), v] w (FrP w n d) := by
  by_cases h : d.length ≤ 2048
  · refine (frameR_any n v d w hv h hn).mono fun e w' ⟨y, h1, h2, h3⟩ => ⟨y, by rw [decide_eq_true h]; exact h1, ?_, h3⟩
    unfold frO
    rw [if_pos h]
    exact h2
  · refine (frameR_long n v d w hv (by omega)).mono fun e w' ⟨h1, h2⟩ => ⟨_, by rw [decide_eq_false h]; exact h1, ?_, by rw [← h2]; exact Below.refl _ _⟩
    unfold frO
    rw [if_neg h]
    exact OwB.start _ _
theorem frO_len (n : Nat) (d : By) : (frO n d).length ≤ 2064 := by
  unfold frO
  split
  · rw [frame_len]; omega
  · exact Nat.zero_le _
/-- A new row without an element. -/
theorem own_none (w : World) : OwB (w.alloc (.cells #[] 5)) w.heap.size (.slice (some ⟨w.heap.size, 0, none⟩) 0 0) [] :=
  ⟨rfl, .inr ⟨w.heap.size, 0, #[], rfl, Nat.le_refl _, heap_new w _, Nat.le_refl _, Nat.zero_le _, rfl, rfl⟩⟩
/-- Nothing but one block has changed. -/
structure Only (g : Nat) (w w' : World) : Prop where
  os : w'.os = w.os
  tape : w'.tape = w.tape
  output : w'.output = w.output
  size : w'.heap.size = w.heap.size
  block : ∀ k, k ≠ g → w'.heap[k]? = w.heap[k]?
theorem Only.refl (g : Nat) (w : World) : Only g w w := ⟨rfl, rfl, rfl, rfl, fun _ _ => rfl⟩
theorem Only.set {g o : Nat} {w w' : World} {v : Value} (h : Only g w w') : Only g w (w'.setCell ⟨g, o, none⟩ v) :=
  ⟨h.os, h.tape, h.output, by rw [← h.size]; simp [World.setCell], fun k hk => by rw [heap_setCell, if_neg (fun e => hk e.symm)]; exact h.block k hk⟩
theorem Only.below {g B : Nat} {w w' : World} (h : Only g w w') (hB : B ≤ g) : Below B w w' :=
  ⟨h.os, h.tape, h.output, by rw [h.size]; exact Nat.le_refl _, fun k hk => h.block k (by omega)⟩
theorem OwB.only {g base : Nat} {w w' : World} {v : Value} {l : By} (h : OwB w base v l) (ho : Only g w w') (hg : g < base) : OwB w' base v l := by
  obtain ⟨hl, h1 | ⟨g', cap, cur, hv, hb, hh, hr⟩⟩ := h
  · exact ⟨hl, .inl h1⟩
  · exact ⟨hl, .inr ⟨g', cap, cur, hv, hb, (ho.block g' (by omega)).trans hh, hr⟩⟩
/-- A slice that is written into, whatever its bytes are. -/
def At_ (w : World) (g o n : Nat) (a : Option Addr) : Prop := ∃ l : By, l.length = n ∧ (0 < n → a = some ⟨g, o, none⟩ ∧ ∃ P Q, P.length = o ∧ w.heap[g]? = some (.cells (P ++ (bc l ++ Q)).toArray 5 (0, 0)))
theorem At_.cell {w : World} {g o n : Nat} {a : Option Addr} (h : At_ w g o n a) {k : Nat} (hk : k < n) : a = some ⟨g, o, none⟩ ∧ ∃ x : Nat, x < 256 ∧ w.cell? ⟨g, o + k, none⟩ = some (.int .u8 (x : Int)) ∧ w.frozen? ⟨g, o + k, none⟩ = false ∧
    At_ (w.setCell ⟨g, o + k, none⟩ (.int .u8 (((x : Int) + 1) % 256))) g o n a := by
  obtain ⟨l, hl, h1⟩ := h
  obtain ⟨ha, P, Q, rfl, hh⟩ := h1 (by omega)
  have hkl : k < l.length := by omega
  have hkb : k < (bc l).length := by rw [bc_len]; exact hkl
  refine ⟨ha, l[k].toNat, l[k].isLt, ?_, blk_soft hh _, l.set k (BitVec.ofNat 8 (l[k].toNat + 1)), by rw [List.length_set]; exact hl, fun _ => ⟨ha, P, Q, rfl, ?_⟩⟩
  · rw [blk_cell hh, List.getElem?_append_right (by omega), Nat.add_sub_cancel_left, List.getElem?_append_left hkb]
    simp [bc, hkl]
  · have h2 := blk_set (o := P.length + k) (.int .u8 (((l[k].toNat : Int) + 1) % 256)) hh
    rw [h2, List.set_append_right _ _ (by omega), Nat.add_sub_cancel_left, List.set_append_left _ _ hkb]
    have e : (bc l).set k (.int .u8 (((l[k].toNat : Int) + 1) % 256)) = bc (l.set k (BitVec.ofNat 8 (l[k].toNat + 1))) := by
      unfold bc
      rw [List.map_set]
      have e2 : (((BitVec.ofNat 8 (l[k].toNat + 1)).toNat : Nat) : Int) = ((l[k].toNat : Int) + 1) % 256 := by rw [BitVec.toNat_ofNat]; omega
      rw [e2]
    rw [e]
theorem Wr.at_ {w : World} {base : Nat} {a : Option Addr} {n c : Nat} {l : By} (h : Wr w base (.slice a n c) l) : ∃ g o, base ≤ g ∧ At_ w g o n a := by
  obtain ⟨a', c', hv, _, _, h1⟩ := h
  cases hv
  by_cases h0 : 0 < l.length
  · obtain ⟨g, P, Q, rfl, hg, hh⟩ := h1 h0
    exact ⟨g, P.length, hg, l, rfl, fun _ => ⟨rfl, P, Q, rfl, hh⟩⟩
  · exact ⟨base, 0, Nat.le_refl _, l, rfl, fun h => absurd h h0⟩
theorem OwB.at_ {w : World} {base : Nat} {a : Option Addr} {n c : Nat} {l : By} (h : OwB w base (.slice a n c) l) (hb : base < w.heap.size) : ∃ g, base ≤ g ∧ g < w.heap.size ∧ At_ w g 0 n a := by
  have hn := h.bys.len
  by_cases h0 : 0 < l.length
  · obtain ⟨g, Q, rfl, hg, h1, hh⟩ := h.parts h0
    exact ⟨g, hg, (Array.getElem?_eq_some_iff.1 hh).1, l, h1.symm, fun _ => ⟨rfl, [], Q, rfl, hh⟩⟩
  · exact ⟨base, Nat.le_refl _, hb, l, hn, fun h => absurd h (by omega)⟩
theorem frames_long (n : Int) (v : Value) (d : By) (w : World) (hv : Bys w v d) (h : ¬ d.length ≤ 2100) :
    Calls Try.prog 5 #[.int .u64 n, v] w (Yes w) := by
  have FB := Lib.hid (few_any v d w hv)
  have HA := Lib.hid (alive_any w)
  obtain ⟨ab, nb, cb, rfl, hnb⟩ := id hv.split
  rw [decide_eq_false h] at FB
  clear hv hnb h
  go_enter Try.func5, Try.ntmps5
  go_wp2_with fail
  refine FB.out.mono ?_
  rintro e w' ⟨rfl, rfl⟩
  go_wp2_with fail
  refine HA.out.mono ?_
  rintro e w' ⟨rfl, hb⟩
  have D := Lib.hid hb
  clear hb
  go_wp2_with fail
  go_ret
  exact ⟨rfl, D.out⟩
set_option maxHeartbeats 4000000 in
theorem frames_short (n : Nat) (v : Value) (d : By) (w : World) (hn : n < 18446744073709551616) (hv : Bys w v d) (h : d.length ≤ 2100) :
    Calls Try.prog 5 #[.int .u64 (n : Int), v] w (Yes w) := by
  have FB := Lib.hid (few_any v d w hv)
  rw [decide_eq_true h] at FB
  have hb0 := below1 w (.cells #[] 5)
  obtain ⟨vg, w1, r1, og, _, b1, _⟩ := (own_none w).row (by simp) (hv.below hb0) (by simp; omega)
  rw [List.nil_append] at og
  obtain ⟨ag, m, cg, rfl, hm⟩ := og.bys.split
  have hmB : m ≤ 2100 := by omega
  have D1 := Lib.hid (hb0.trans b1)
  have R1 := Lib.hid r1
  have hs1 : w.heap.size < w1.heap.size := by have := b1.size; simp at this; omega
  obtain ⟨g, hg1, hg2, hat⟩ := og.at_ hs1
  have HF := Lib.hid (frameP_all n _ d w1 og.bys)
  have HG := Lib.hid (fun X (hX : Below w.heap.size w X) => frameR_all n _ d X (hv.below hX) hn)
  have AT := Lib.hid hat
  unfold FrP at HF HG
  have HL := Lib.hid (frO_len n d)
  generalize frO n d = F at HF HG HL
  generalize decide (d.length ≤ 2048) = bb at HF HG
  obtain ⟨ad, md, cd, rfl, hmd⟩ := hv.split
  clear hv h hb0 r1 og b1 hm hmd hat
  go_enter Try.func5, Try.ntmps5
  go_wp2_with fail
  refine FB.out.mono ?_
  rintro e w' ⟨rfl, rfl⟩
  go_wp2_with (at_builtin; refine Ap.wpList_append_run (by rfl) (.tmp 15) (.tmp 16) _ _ rfl _ _ rfl rfl _ w1 R1.out ?_)
  refine HF.out.mono ?_
  rintro e w2 ⟨y2, rfl, hy2, hb2⟩
  obtain ⟨a2, m2, c2, rfl, hm2⟩ := hy2.bys.split
  have Y2 := Lib.hid hy2
  have D2 := Lib.hid (D1.out.trans (hb2.mono D1.out.size))
  have B2 := Lib.hid hb2
  clear hy2 hb2
  go_wp2_with fail
  refine (HG.out _ D2.out).mono ?_
  rintro e w3 ⟨y3, rfl, hy3, hb3⟩
  obtain ⟨a3, m3, c3, rfl, hm3⟩ := hy3.bys.split
  have Y3 := Lib.hid (Ap.own_base hy3 B2.out.size)
  have Y2' := Lib.hid (Ap.own_below Y2.out hb3)
  have D3 := Lib.hid (D2.out.trans (hb3.mono D2.out.size))
  have AT3 : Hid (At_ w3 g 0 m ag) := by
    obtain ⟨l, hl, h1⟩ := AT.out
    refine ⟨l, hl, fun h0 => ?_⟩
    obtain ⟨h2, P, Q, h3, h4⟩ := h1 h0
    exact ⟨h2, P, Q, h3, ((B2.out.trans (hb3.mono B2.out.size)).block g hg2).trans h4⟩
  clear hy3 hb3 AT Y2
  go_wp2_with fail
  go_loopw [10, 32] (fun _ iv wr => ∃ k : Nat, k ≤ m ∧ iv = .int .i64 k ∧ Hid (At_ wr g 0 m ag) ∧ Hid (Only g w3 wr)) (fun _ iv _ => m - (intOf iv).toNat)
  case atStart => exact ⟨0, Nat.zero_le _, rfl, AT3, Lib.hid (Only.refl _ _)⟩
  case round =>
    obtain ⟨k, hk, rfl, HT, HO⟩ := hrel
    by_cases hlt : k < m
    · obtain ⟨hag, x, hx, c0, f0, hn⟩ := HT.out.cell hlt
      subst hag
      rw [Nat.zero_add] at c0 f0 hn
      have HT2 := Lib.hid hn
      clear hn
      go_wp2_with fail
      go_roundw
      case rel => exact ⟨k + 1, by omega, by go_num, HT2, Lib.hid HO.out.set⟩
      case measure => first | (simp [intOf]; done) | (simp [intOf]; omega)
    · have HA := Lib.hid (alive_any wr)
      have Y2r := Lib.hid (OwB.only Y2'.out HO.out hg2)
      have Y3r := Lib.hid (OwB.only Y3.out HO.out hg2)
      have Dr := Lib.hid (D3.out.trans (HO.out.below hg1))
      clear Y2' Y3 D3 AT3 HT HO
      go_wp2_with fail
      refine HA.out.mono ?_
      rintro e w5 ⟨rfl, hb5⟩
      have HS := Lib.hid (sameR_any _ _ F F w5 (Y2r.out.bys.below hb5) (Y3r.out.bys.below hb5) (by have := HL.out; omega) (by have := HL.out; omega))
      rw [decide_eq_true rfl] at HS
      have D5 := Lib.hid (Dr.out.trans (hb5.mono Dr.out.size))
      clear hb5
      go_wp2_with fail
      refine HS.out.mono ?_
      rintro e w6 ⟨rfl, hb6⟩
      have D6 := Lib.hid (D5.out.trans (hb6.mono D5.out.size))
      clear hb6
      cases bb
      · go_wp2_with fail
        go_ret
        exact ⟨rfl, D6.out⟩
      · go_wp2_with fail
        go_ret
        exact ⟨rfl, D6.out⟩
theorem frames_law (n : Nat) (v : Value) (d : By) (w : World) (hn : n < 18446744073709551616) (hv : Bys w v d) : Calls Try.prog 5 #[.int .u64 (n : Int), v] w (Yes w) := by
  by_cases h : d.length ≤ 2100
  · exact frames_short n v d w hn hv h
  · exact frames_long _ v d w hv h
end Go.Proofs.Ytgdhgicofobebaa.Cr
