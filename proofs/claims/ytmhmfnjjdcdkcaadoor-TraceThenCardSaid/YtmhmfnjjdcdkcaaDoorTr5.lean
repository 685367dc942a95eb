/- The document's Par: the walk. -/
import Derived.Test.YtmhmfnjjdcdkcaaDoorTr4
import Derived.Test.YtmhmfnjjdcdkcaaDoorSgw
namespace Go.Proofs.YtmhmfnjjdcdkcaaDoor.Tr
open Go Go.RowKit
set_option maxRecDepth 20000

theorem below2 (w : World) (x y : Obj) : Below w.heap.size w ((w.alloc x).alloc y) := ((Below.refl _ _).alloc (Nat.le_refl _) x).alloc (by simp) y
theorem map_snoc {α β : Type} (f : α → β) (rs : List α) (k : Nat) (h : k < rs.length) : (rs.take (k + 1)).map f = (rs.take k).map f ++ [f rs[k]] := by
  rw [List.take_succ_eq_append_getElem h, List.map_append]
  rfl

set_option maxHeartbeats 4000000 in
theorem par_any (v1 v2 : Value) (p q : Tr) (w : World) (h1 : Strs w v1 p.a) (h2 : Strs w v2 q.a) (hlen : p.a.length + q.a.length ≤ 19) :
    Calls Tryd.prog 32 #[.agg #[v1, .int .i64 p.e], .agg #[v2, .int .i64 q.e]] w fun e w' => ∃ v, e = .returned v ∧ Trs w' v (norm ((mx 19 p.a q.a).map fun r => ⟨r, Sg.both p.e q.e⟩)) ∧ Below w.heap.size w w' := by
  have H1 := Lib.hid h1
  have H2 := Lib.hid h2
  have HB := Lib.hid (below2 w)
  clear h1 h2
  obtain ⟨b, hbb⟩ : ∃ b, Sg.both p.e q.e = b := ⟨_, rfl⟩
  obtain ⟨rs, hrs⟩ : ∃ rs, mx 19 p.a q.a = rs := ⟨_, rfl⟩
  have hml : rs.length ≤ 524288 := by rw [← hrs]; exact Nat.le_trans (mx_len _ _ _) (by decide)
  have HROW : Hid (∀ r ∈ rs, r.length = p.a.length + q.a.length) := by rw [← hrs]; exact mx_row 19 p.a q.a
  rw [hbb, hrs]
  have HBB := Lib.hid hbb
  have HRS := Lib.hid hrs
  clear hbb hrs
  go_enter Tryd.func32, Tryd.ntmps32
  go_wp2_with fail
  refine (mixed_any 19 (by omega) _ _ p.a q.a _ hlen (H1.out.below (HB.out _ _)) (H2.out.below (HB.out _ _))).mono ?_
  rintro e wm ⟨vm, csm, rfl, hom, hrm, hbm⟩
  rw [HRS.out] at hom hrm
  have E1 : wm.cell? ⟨w.heap.size, 1, none⟩ = some (.int .i64 p.e) := by rw [hbm.cell (p := ⟨w.heap.size, 1, none⟩) (by simp; omega)]; simp [go_sem]
  have E2 : wm.cell? ⟨w.heap.size + 1, 1, none⟩ = some (.int .i64 q.e) := by rw [hbm.cell (p := ⟨w.heap.size + 1, 1, none⟩) (by simp)]; simp [go_sem]
  have KM := Lib.hid (rws_of hom hrm)
  have BM := Lib.hid ((HB.out _ _).trans (hbm.mono (HB.out _ _).size))
  clear hom hrm hbm
  obtain ⟨am, cm, rfl, _, hm⟩ := KM.out.val
  have HM := Lib.hid hm
  clear hm
  go_wp2_with fail
  go_loopw [5, 7] (fun v i wr => ∃ (k : Nat) (cs : List Value), k ≤ rs.length ∧ i = .int .i64 k ∧ Below wm.heap.size wm wr ∧ wr.ownsRow wm.heap.size 24 2 v ((rs.take k).map fun r => (⟨r, b⟩ : Tr)).length cs ∧ TrCells wm cs ((rs.take k).map fun r => ⟨r, b⟩)) (fun _ i _ => rs.length - (intOf i).toNat)
  case atStart => exact ⟨0, [], Nat.zero_le _, rfl, Below.refl _ _, ⟨rfl, .inl ⟨rfl, rfl⟩⟩, trivial⟩
  case round =>
    obtain ⟨k, cs, hk, rfl, hb, hown, hcs⟩ := hrel
    have WB := Lib.hid hb
    have WO := Lib.hid hown
    have WC := Lib.hid hcs
    clear hb hown hcs
    by_cases hlt : k < rs.length
    · obtain ⟨b1, o1, a, rfl, e1, hs⟩ := HM.out k hlt
      have c1 : wr.cell? ⟨b1, o1 + k, none⟩ = some a := by rw [WB.out.cell (Ap.cell_lt e1)]; exact e1
      have c2 : wr.cell? ⟨w.heap.size, 1, none⟩ = some (.int .i64 p.e) := by rw [WB.out.cell (Ap.cell_lt E1)]; exact E1
      have c3 : wr.cell? ⟨w.heap.size + 1, 1, none⟩ = some (.int .i64 q.e) := by rw [WB.out.cell (Ap.cell_lt E2)]; exact E2
      have HS := Lib.hid hs
      have HMS := Lib.hid (map_snoc (fun r => (⟨r, b⟩ : Tr)) rs k hlt)
      generalize rs[k] = r at *
      have hs' := HS.out
      obtain ⟨_, av, cv, rfl, _⟩ := hs'
      obtain ⟨v2', w2, hrun, ho2, hg2, hb2, hf2⟩ := run_append_tr (wr := wr.drew) (t := ⟨r, b⟩) WO.out WB.out.drew.size HS.out (by simp; omega)
      have RUN := Lib.hid hrun
      have O2 := Lib.hid ho2
      have B2 : Hid (Below wm.heap.size wm w2) := WB.out.drew.trans hb2
      have d1 : w2.cell? ⟨b1, o1 + k, none⟩ = some (.slice av r.length cv) := by rw [B2.out.cell (Ap.cell_lt e1)]; exact e1
      have d2 : w2.cell? ⟨w.heap.size, 1, none⟩ = some (.int .i64 p.e) := by rw [B2.out.cell (Ap.cell_lt E1)]; exact E1
      have d3 : w2.cell? ⟨w.heap.size + 1, 1, none⟩ = some (.int .i64 q.e) := by rw [B2.out.cell (Ap.cell_lt E2)]; exact E2
      clear hrun ho2 hg2 hb2 hf2 e1 hs
      go_wp2_with fail
      go_region_held3 (fun w' => w'.cell? ⟨b1, o1 + k, none⟩ = some (.slice av r.length cv) ∧ w'.cell? ⟨w.heap.size, 1, none⟩ = some (.int .i64 p.e) ∧ w'.cell? ⟨w.heap.size + 1, 1, none⟩ = some (.int .i64 q.e)) (first | exact ⟨c1, c2, c3⟩ | exact ⟨d1, d2, d3⟩ | go_keep | fail) (first
        | (go_at_call 53; refine (Sg.bothR_any _ _ _).mono ?_; rw [HBB.out]; rintro e w' ⟨rfl, rfl⟩)
        | (refine Ap.step_append_run (by rfl) _ _ _ _ rfl _ _ rfl rfl v2' w2 RUN.out ?_)
        | fail)
      go_wp2_with fail
      go_roundw
      case rel => exact ⟨k + 1, _, by omega, by go_num, B2.out, by rw [HMS.out]; exact O2.out, by rw [HMS.out]; exact WC.out.snoc (t := ⟨r, b⟩) HS.out⟩
      case measure => simp [intOf]; omega
    · go_wp2_with fail
      have HT : Hid (Trs wr u5 (rs.map fun r => (⟨r, b⟩ : Tr))) := by
        have h1 := WO.out
        have h2 := WC.out
        rw [List.take_of_length_le (by omega)] at h1 h2
        exact ⟨cs, Ap.Rd.owned h1, h2.below WB.out⟩
      refine (set_any rs.length u5 (rs.map fun r => ⟨r, b⟩) _ (by simp) HT.out ⟨by simp; omega, fun t ht => ?_⟩).mono ?_
      · obtain ⟨r, hr, rfl⟩ := List.mem_map.1 ht
        have := HROW.out r hr
        simp only
        omega
      rintro e w' ⟨v, rfl, ht, hb⟩
      have T := Lib.hid ht
      have B := Lib.hid ((BM.out.trans (WB.out.mono BM.out.size)).trans (hb.mono (Nat.le_trans BM.out.size WB.out.size)))
      clear ht hb
      go_wp2_with fail
      go_ret
      exact ⟨_, rfl, T.out, B.out⟩
end Go.Proofs.YtmhmfnjjdcdkcaaDoor.Tr
