/- CrcOpens: the walk. -/
import Derived.Test.YtgdhgicofobebaaCrr
namespace Go.Proofs.Ytgdhgicofobebaa.Cr
open Go Go.RowKit
set_option maxRecDepth 20000

def oN (b : By) : Nat := match openF b with | some x => x.1 | none => 0
def oD (b : By) : By := match openF b with | some x => x.2 | none => []
def oB (b : By) : Bool := (openF b).isSome
theorem opP_one {v : Value} {b : By} {w : World} (hv : Bys w v b) (hl : b.length ≤ 4398046511104) : Calls Try.prog 21 #[v] w fun e w' => ∃ y, e = .returned (.tuple #[.int .u64 (oN b : Int), y, .bool (oB b)]) ∧ Wr w' w.heap.size y (oD b) ∧ Below w.heap.size w w' := by
  refine (openP_all v b w hv hl).mono ?_
  rintro e w' ⟨⟨h, he⟩ | ⟨n, d, y, h, he, hy⟩, hb⟩
  · unfold oN oB oD
    rw [h]
    exact ⟨_, he, ⟨none, 0, rfl, Nat.zero_le _, fun _ => ⟨rfl, rfl⟩, fun h => absurd h (Nat.lt_irrefl 0)⟩, hb⟩
  · unfold oN oB oD
    rw [h]
    exact ⟨_, he, hy, hb⟩
theorem opR_one {v : Value} {b : By} {w : World} (hv : Bys w v b) (hl : b.length ≤ 4398046511104) : Calls Try.prog 22 #[v] w fun e w' => ∃ y, e = .returned (.tuple #[.int .u64 (oN b : Int), y, .bool (oB b)]) ∧ Bys w' y (oD b) ∧ Below w.heap.size w w' := by
  refine (openR_all v b w hv hl).mono ?_
  rintro e w' ⟨⟨h, he⟩ | ⟨n, d, y, h, he, hy⟩, hb⟩
  · unfold oN oB oD
    rw [h]
    exact ⟨_, he, bys_nil _ _ _ (fun _ => rfl), hb⟩
  · unfold oN oB oD
    rw [h]
    exact ⟨_, he, hy, hb⟩
theorem oD_len (b : By) : (oD b).length ≤ 2048 := by
  unfold oD
  cases h : openF b with
  | none => exact Nat.zero_le _
  | some x => exact (open_some (b := b) (n := x.1) (d := x.2) h).2.1
theorem opens_long (v : Value) (d : By) (w : World) (hv : Bys w v d) (h : ¬ d.length ≤ 2100) :
    Calls Try.prog 6 #[v] w (Yes w) := by
  have FB := Lib.hid (few_any v d w hv)
  have HA := Lib.hid (alive_any w)
  obtain ⟨ab, nb, cb, rfl, hnb⟩ := id hv.split
  rw [decide_eq_false h] at FB
  clear hv hnb h
  go_enter Try.func6, Try.ntmps6
  go_wp2_with fail
  refine FB.out.mono ?_
  rintro e w' ⟨rfl, rfl⟩
  go_wp2_with fail
  refine HA.out.mono ?_
  rintro e w' ⟨rfl, hb⟩
  have D := Lib.hid hb
  clear hb
  go_wp2_with fail
  go_ret
  exact ⟨rfl, D.out⟩
set_option maxHeartbeats 4000000 in
theorem opens_short (v : Value) (b : By) (w : World) (hv : Bys w v b) (h : b.length ≤ 2100) :
    Calls Try.prog 6 #[v] w (Yes w) := by
  have FB := Lib.hid (few_any v b w hv)
  rw [decide_eq_true h] at FB
  have hb0 := below1 w (.cells #[] 5)
  obtain ⟨vg, w1, r1, og, _, b1, _⟩ := (own_none w).row (by simp) (hv.below hb0) (by simp; omega)
  rw [List.nil_append] at og
  obtain ⟨ag, m, cg, rfl, hm⟩ := og.bys.split
  have D1 := Lib.hid (hb0.trans b1)
  have R1 := Lib.hid r1
  have HF := Lib.hid (opP_one og.bys (by omega))
  have HG := Lib.hid (fun X (hX : Below w.heap.size w X) => opR_one (hv.below hX) (by omega))
  have GV := Lib.hid og.bys
  have BV := Lib.hid (fun X (hX : Below w.heap.size w X) => hv.below hX)
  have HL := Lib.hid (oD_len b)
  have HB := Lib.hid h
  generalize oD b = F at HF HG HL
  generalize oB b = bb at HF HG
  generalize oN b = n at HF HG
  obtain ⟨ad, md, cd, rfl, hmd⟩ := hv.split
  clear hv h hb0 r1 og b1 hm hmd
  go_enter Try.func6, Try.ntmps6
  go_wp2_with fail
  refine FB.out.mono ?_
  rintro e w' ⟨rfl, rfl⟩
  go_wp2_with (at_builtin; refine Ap.wpList_append_run (by rfl) (.tmp 15) (.tmp 16) _ _ rfl _ _ rfl rfl _ w1 R1.out ?_)
  refine HF.out.mono ?_
  rintro e w2 ⟨y2, rfl, hy2, hb2⟩
  obtain ⟨a2, m2, c2, rfl, hm2⟩ := hy2.bys.split
  obtain ⟨g, o, hg, hat⟩ := hy2.at_
  have hmB : m2 ≤ 2048 := by have := HL.out; omega
  have AT := Lib.hid hat
  have Y2 := Lib.hid hy2.bys
  have hgl : Hid (0 < m2 → g < w2.heap.size) := by
    obtain ⟨l, hl, h1⟩ := hat
    exact Lib.hid fun h0 => by
      obtain ⟨_, P, Q, _, h4⟩ := h1 h0
      exact (Array.getElem?_eq_some_iff.1 h4).1
  have D2 := Lib.hid (D1.out.trans (hb2.mono D1.out.size))
  have B2 := Lib.hid hb2
  clear hy2 hb2 hm2 hat
  go_wp2_with fail
  refine (HG.out _ D2.out).mono ?_
  rintro e w3 ⟨y3, rfl, hy3, hb3⟩
  obtain ⟨a3, m3, c3, rfl, hm3⟩ := hy3.split
  have HS := Lib.hid (sameR_any _ _ F F w3 (Y2.out.below hb3) hy3 (by have := HL.out; omega) (by have := HL.out; omega))
  rw [decide_eq_true rfl] at HS
  have D3 := Lib.hid (D2.out.trans (hb3.mono D2.out.size))
  have B3 := Lib.hid hb3
  clear hy3 hb3 hm3
  cases bb
  all_goals
    go_wp2_with fail
    refine HS.out.mono ?_
    rintro e w4 ⟨rfl, hb4⟩
    have B4 := Lib.hid (B3.out.trans (hb4.mono B3.out.size))
    have G4 := Lib.hid (B2.out.trans (B4.out.mono B2.out.size))
    have D4 := Lib.hid (D3.out.trans (hb4.mono D3.out.size))
    have AT4 : Hid (At_ w4 g o m2 a2) := by
      obtain ⟨l, hl, h1⟩ := AT.out
      refine ⟨l, hl, fun h0 => ?_⟩
      obtain ⟨h2, P, Q, h3, h4⟩ := h1 h0
      exact ⟨h2, P, Q, h3, (B4.out.block g (hgl.out h0)).trans h4⟩
    clear hb4 AT Y2 B3 B4 hgl
    go_wp2_with fail
    go_loopw [10, 46] (fun _ iv wr => ∃ k : Nat, k ≤ m2 ∧ iv = .int .i64 k ∧ Hid (At_ wr g o m2 a2) ∧ Hid (Only g w4 wr)) (fun _ iv _ => m2 - (intOf iv).toNat)
    case atStart => exact ⟨0, Nat.zero_le _, rfl, AT4, Lib.hid (Only.refl _ _)⟩
    case round =>
      obtain ⟨k, hk, rfl, HT, HO⟩ := hrel
      by_cases hlt : k < m2
      · obtain ⟨hag, x, hx, c0, f0, hn⟩ := HT.out.cell hlt
        subst hag
        have HT2 := Lib.hid hn
        clear hn
        go_wp2_with fail
        go_roundw
        case rel => exact ⟨k + 1, by omega, by go_num, HT2, Lib.hid HO.out.set⟩
        case measure => first | (simp [intOf]; done) | (simp [intOf]; omega)
      · have HA := Lib.hid (alive_any wr)
        have hgw : w.heap.size ≤ g := Nat.le_trans D1.out.size hg
        have Dr := Lib.hid (D4.out.trans (HO.out.below hgw))
        have Gr := Lib.hid (G4.out.trans (HO.out.below hg))
        clear AT4 HT HO hgw
        go_wp2_with fail
        refine HA.out.mono ?_
        rintro e w5 ⟨rfl, hb5⟩
        have D5 := Lib.hid (Dr.out.trans (hb5.mono Dr.out.size))
        have G5 := Lib.hid (Gr.out.trans (hb5.mono Gr.out.size))
        have HS := Lib.hid (sameR_any _ _ b b w5 (GV.out.below G5.out) (BV.out _ D5.out) (by have := HB.out; omega) (by have := HB.out; omega))
        rw [decide_eq_true rfl] at HS
        clear hb5
        go_wp2_with fail
        refine HS.out.mono ?_
        rintro e w6 ⟨rfl, hb6⟩
        have D6 := Lib.hid (D5.out.trans (hb6.mono D5.out.size))
        clear hb6
        go_wp2_with fail
        go_ret
        exact ⟨rfl, D6.out⟩
theorem opens_law (v : Value) (d : By) (w : World) (hv : Bys w v d) : Calls Try.prog 6 #[v] w (Yes w) := by
  by_cases h : d.length ≤ 2100
  · exact opens_short v d w hv h
  · exact opens_long v d w hv h
end Go.Proofs.Ytgdhgicofobebaa.Cr
