/- Moves that are compared; the document's Is: the walk. The program's Beside and Free, of any row; what the laws ask of package doom. The document's Same and Pick: the walks. The document's Digits, word, Text: the walks. A map whose elements read as themselves; an entry set by a composite literal. slices.Index and slices.Contains over moves: the walks. What the laws of move ask of the program; few; MoveEnabled: the walks. The program's ways: the map that it makes; always. -/
import Derived.Test.YtdkaoiomndkbjaaGreatDoorQ30
import Derived.Laws.StructEq
import Derived.Test.YtdkaoiomndkbjaaGreatDoorQ29
import Derived.Test.YtdkaoiomndkbjaaGreatDoorQ05
import Derived.Laws.ResultCell
import Derived.Laws.Rows
import Derived.Lib.ItoaLen
import Derived.Maps.Views
import Derived.Maps.OwnOps
import Derived.Deep.DeepCutAuto
import Derived.Deep.QuietTactic
import Derived.BigQuiet
import Derived.Lib.LaidTab

namespace Go.Proofs.YtdkaoiomndkbjaaGreatDoor.Me
open Go Go.RowKit Rw So Se Do
set_option maxRecDepth 20000
theorem mv_ext {x y : Mv} : x = y ↔ x.p = y.p ∧ x.h = y.h := by
  cases x; cases y; simp
theorem eql_mv (d : Nat) (x y : Mv) (w : World) : (Op.equalIn (d + 2) 29 (.agg #[.int .i64 x.p, .int .i64 x.h]) (.agg #[.int .i64 y.p, .int .i64 y.h])).run Tryz.prog w = .ok (decide (x = y)) w := by
  rw [run_equalIn_struct w (d + 1) _ _ _ (by kernel_rfl) (by kernel_rfl)]
  simp only [Program.fieldsOf, Tryz.underlying29]
  by_cases h1 : x.p = y.p
  · by_cases h2 : x.h = y.h
    · rw [decide_eq_true (mv_ext.2 ⟨h1, h2⟩), h1, h2]
      simp [go_sem, Op.eqFields]
    · rw [decide_eq_false (fun e => h2 (mv_ext.1 e).2), h1]
      simp [go_sem, Op.eqFields, h2]
  · rw [decide_eq_false (fun e => h1 (mv_ext.1 e).1)]
    simp [go_sem, Op.eqFields, h1]
theorem eq_mv (x y : Mv) (w : World) : (binOp .eql 29 (.agg #[.int .i64 x.p, .int .i64 x.h]) (.agg #[.int .i64 y.p, .int .i64 y.h])).run Tryz.prog w = .ok (.bool (decide (x = y))) w := by
  rw [run_eql_struct, show (10000 : Nat) = 9998 + 2 from rfl, eql_mv]
  rfl
theorem neq_mv (x y : Mv) (w : World) : (binOp .neq 29 (.agg #[.int .i64 x.p, .int .i64 x.h]) (.agg #[.int .i64 y.p, .int .i64 y.h])).run Tryz.prog w = .ok (.bool (!decide (x = y))) w := by
  rw [run_neq_struct, show (10000 : Nat) = 9998 + 2 from rfl, eql_mv]
  rfl
theorem mem_takeM {l : List Mv} {k : Nat} {x : Mv} (h : k < l.length) : x ∈ l.take (k + 1) ↔ x ∈ l.take k ∨ x = l[k] := by
  rw [List.take_succ_eq_append_getElem h, List.mem_append, List.mem_singleton]
set_option maxHeartbeats 4000000 in
theorem isR_any (v : Value) (l : List Nd) (m : Mv) (w : World) (hv : Nds w v l) (hl : l.length ≤ 1000) (hm : Nms l) :
    Calls Tryz.prog 13 #[v, .agg #[.int .i64 m.p, .int .i64 m.h]] w fun e w' => e = .returned (.bool (decide (m ∈ enR l))) ∧ Below w.heap.size w w' := by
  have HA := Lib.hid (fun w1 (hb : Below w.heap.size w w1) => enabledR_any v l w1 (hv.below hb) hl hm)
  have hvl : (enR l).length ≤ 2000 := Nat.le_trans (enR_len l) (by omega)
  obtain ⟨_, a, c, rfl, -⟩ := id hv
  generalize enR l = V at HA hvl ⊢
  obtain ⟨mp, mh⟩ := m
  have DB := Lib.hid (below1 w (.cells #[.int .i64 mp, .int .i64 mh] 29))
  have HC : Hid (∀ w', Below (w.heap.size + 1) (w.alloc (.cells #[.int .i64 mp, .int .i64 mh] 29)) w' → w'.cell? ⟨w.heap.size, 0, none⟩ = some (.int .i64 mp) ∧ w'.cell? ⟨w.heap.size, 1, none⟩ = some (.int .i64 mh)) := Lib.hid fun w' hb => by
    rw [hb.cell (p := ⟨w.heap.size, 0, none⟩) (Nat.lt_succ_self _), hb.cell (p := ⟨w.heap.size, 1, none⟩) (Nat.lt_succ_self _)]
    simp
  have HS : Hid ((w.alloc (.cells #[.int .i64 mp, .int .i64 mh] 29)).heap.size = w.heap.size + 1) := Lib.hid (by simp)
  clear hv hm
  go_enter Tryz.func13, Tryz.ntmps13
  go_wp2_with fail
  refine (HA.out _ DB.out).mono ?_
  rintro e w1 ⟨y, rfl, hi, hb1⟩
  rw [HS.out] at hb1
  have E1 := Lib.hid hb1
  have D1 := Lib.hid (DB.out.trans (hb1.mono (by omega)))
  have I1 := Lib.hid (fun w' (hb : Below w1.heap.size w1 w') => hi.below hb)
  obtain ⟨_, ay, cy, rfl, -⟩ := id hi
  clear hb1 hi
  go_wp2_with fail
  go_loopw [6] (fun i wr => ∃ k : Nat, k ≤ V.length ∧ i = .int .i64 k ∧ Hid ((⟨mp, mh⟩ : Mv) ∉ V.take k) ∧ Hid (Below w1.heap.size w1 wr)) (fun i _ => V.length - (intOf i).toNat)
  case atStart => exact ⟨0, Nat.zero_le _, rfl, Lib.hid (by simp), Lib.hid (Below.refl _ _)⟩
  case round =>
    obtain ⟨k, hk, rfl, HN, HB⟩ := hrel
    by_cases hlt : k < V.length
    · rcases Mvs.form (I1.out _ HB.out) with ⟨h0, _⟩ | ⟨b4, o4, c4, e4, _, hat4⟩
      · rw [h0] at hlt; simp at hlt
      injection e4 with e41 e42 e43
      subst e41; subst e43
      obtain ⟨q4, q5⟩ := hat4 k hlt
      have hE : Below (w.heap.size + 1) (w.alloc (.cells #[.int .i64 mp, .int .i64 mh] 29)) wr := E1.out.trans (HB.out.mono (by have := E1.out.size; rw [HS.out] at this; exact this))
      obtain ⟨q6, q7⟩ := HC.out wr hE
      have HM := Lib.hid (mem_takeM (x := ⟨mp, mh⟩) hlt)
      have HI : Hid (V[k] ∈ V) := Lib.hid (List.getElem_mem hlt)
      obtain ⟨x, hx⟩ : ∃ x, V[k] = x := ⟨_, rfl⟩
      rw [hx] at q4 q5 HM HI
      obtain ⟨xp, xh⟩ := x
      simp only at q4 q5
      have hq : ∀ w, (binOp .eql 29 (.agg #[.int .i64 xp, .int .i64 xh]) (.agg #[.int .i64 mp, .int .i64 mh])).run Tryz.prog w = .ok (.bool (decide ((⟨xp, xh⟩ : Mv) = ⟨mp, mh⟩))) w := fun w => eq_mv ⟨xp, xh⟩ ⟨mp, mh⟩ w
      clear hat4 hx hE
      by_cases hxy : (⟨xp, xh⟩ : Mv) = ⟨mp, mh⟩
      · have HXY := Lib.hid hxy
        rw [decide_eq_true hxy] at hq
        clear hxy
        go_wp2_with fail
        go_quiet (fail)
        go_wp2_with fail
        go_ret
        exact ⟨ret_bool (decide_eq_true (HXY.out ▸ HI.out)).symm, D1.out.trans ((HB.out.trans (Below.drewN _ _ _)).mono D1.out.size)⟩
      · have HXY := Lib.hid hxy
        rw [decide_eq_false hxy] at hq
        clear hxy
        go_wp2_with fail
        go_quiet (fail)
        go_wp2_with fail
        go_roundw
        case rel => exact ⟨k + 1, by omega, by go_num, Lib.hid (by rw [HM.out]; rintro (h | h); exact HN.out h; exact HXY.out h.symm), Lib.hid (HB.out.trans (Below.drewN _ _ _))⟩
        case measure => simp [intOf]; omega
    · have hfull : V.take k = V := List.take_of_length_le (by omega)
      rw [hfull] at HN
      go_wp2_with fail
      go_ret
      exact ⟨ret_bool (decide_eq_false HN.out).symm, D1.out.trans (HB.out.mono D1.out.size)⟩
end Go.Proofs.YtdkaoiomndkbjaaGreatDoor.Me

namespace Go.Proofs.YtdkaoiomndkbjaaGreatDoor.Do
open Go Go.RowKit Rw So Se
set_option maxRecDepth 20000
theorem besideP_no (v : Value) (l : List Nd) (z : Int) (w : World) (hv : Nds w v l) (hA : Calls Tryz.prog 54 #[v, .int .i64 z] w fun e w' => e = .returned (.bool false) ∧ Below w.heap.size w w') :
    Calls Tryz.prog 57 #[v, .int .i64 z] w fun e w' => ∃ y, e = .returned y ∧ Rws w' y [] ∧ Below w.heap.size w w' := by
  have HA := Lib.hid hA
  obtain ⟨_, a, c, rfl, -⟩ := hv
  clear hA
  go_enter Tryz.func57, Tryz.ntmps57
  go_wp2_with fail
  refine HA.out.mono ?_
  rintro e w1 ⟨rfl, hb1⟩
  have D1 := Lib.hid hb1
  clear hb1
  go_wp2_with fail
  go_ret
  exact ⟨_, rfl, Rws.below (GotK.start (Nat.le_refl _)).rws (Below.refl _ _), D1.out⟩
theorem besP_any (v : Value) (l : List Nd) (z : Int) (w : World) (hv : Nds w v l) (hl : l.length ≤ 1000) (hm : Nms l) :
    Calls Tryz.prog 57 #[v, .int .i64 z] w fun e w' => ∃ y, e = .returned y ∧ Rws w' y (bs l z) ∧ Below w.heap.size w w' := by
  have hA := isActive_any v l z w hv hl hm
  by_cases hz : z ∈ av l
  · rw [decide_eq_true hz] at hA
    have hs : setB l = true := by
      cases hs : setB l with
      | true => rfl
      | false => rw [av_no hs] at hz; cases hz
    obtain ⟨t, rfl, hg, hn⟩ := set_iff.1 hs
    obtain ⟨k, hk, rfl⟩ := (mem_av hg hn).1 hz
    rw [bs_go hg hn hk]
    obtain ⟨b, off, c, rfl, hc, hat⟩ := go_form hv
    exact besideP_go b off c t k w hat hc (by have := hg.2.1; omega) (by have := wt_in t 0 k hk; omega) hA
  · rw [decide_eq_false hz] at hA
    rw [bs_no hz]
    exact besideP_no v l z w hv hA
theorem any_bang {t : Tm} {k : Nat} (hg : Goes t) (hn : Nf t) (hk : k ∈ wt t 0) : ((pth t 0 k).1.map flat).any dm = (pth t 0 k).1.any bangT := by
  have h := pth_goes t 0 k hk hg hn
  generalize (pth t 0 k).1 = L at h ⊢
  induction L with
  | nil => rfl
  | cons u L ih =>
    rw [List.map_cons, List.any_cons, List.any_cons, ih fun x hx => h x (List.mem_cons_of_mem _ hx)]
    obtain ⟨h1, h2⟩ := h u (List.mem_cons_self ..)
    rw [dm_go h1 h2]
set_option maxHeartbeats 1000000 in
theorem freP_any (v : Value) (l : List Nd) (z : Int) (w : World) (hv : Nds w v l) (hl : l.length ≤ 1000) (hm : Nms l) :
    Calls Tryz.prog 43 #[v, .int .i64 z] w fun e w' => e = .returned (.bool (fr l z)) ∧ Below w.heap.size w w' := by
  have HA := Lib.hid (isActive_any v l z w hv hl hm)
  by_cases hz : z ∈ av l
  · rw [decide_eq_true hz] at HA
    have HB := Lib.hid (fun w1 (hb : Below w.heap.size w w1) => besP_any v l z w1 (hv.below hb) hl hm)
    have hs : setB l = true := by
      cases hs : setB l with
      | true => rfl
      | false => rw [av_no hs] at hz; cases hz
    obtain ⟨t, rfl, hg, hn⟩ := set_iff.1 hs
    obtain ⟨k, hk, rfl⟩ := (mem_av hg hn).1 hz
    rw [bs_go hg hn hk] at HB
    rw [fr_go hg hn hk, ← any_bang hg hn hk]
    obtain ⟨b, off, c, rfl, hc, hat⟩ := go_form hv
    have hkt : k < sz t := by have := wt_in t 0 k hk; omega
    have HWI := Lib.hid (fun w1 (hb : Below w.heap.size w w1) => within_any b off c t k w1 (at_below hat hb rfl) hc (by have := hg.2.1; omega) hkt)
    rw [(up_all t (flat t) 0 k (AtT.self t) (Nat.zero_le _) (by omega)).2] at HWI
    have eg : ∀ args w, (callFunc 58 args).run Tryz.prog w = .ok (.enter 58 args) w := enters_of Tryz.func58 (by kernel_rfl) rfl
    have HC := Lib.hid (fun y w1 (hr : Rws w1 y ((pth t 0 k).1.map flat)) => containsR_any 58 eg dm y _ w1 hr (by rw [List.length_map]; have := pth_len t 0 k; have := hg.2.1; omega) fun r hr wr a hn' => by
      obtain ⟨u, hu, rfl⟩ := List.mem_map.1 hr
      obtain ⟨h1, h2⟩ := pth_goes t 0 k hk hg hn u hu
      exact doomP_any a (flat u) wr hn' (by rw [Se.flat_len]; have := h1.2.1; omega) (nms_goes h1.1))
    generalize ((pth t 0 k).1.map flat) = L at HB HC ⊢
    generalize (pth t 0 k).2 = d at HWI ⊢
    generalize (wth (flat t) (abv t 0 k).reverse).1 = R at HWI
    generalize L.any dm = x at HC ⊢
    generalize sz t = n at HA HB HWI
    clear hv hat hs hz hg hn hk hl hm eg hkt
    cases d with
    | false =>
      go_enter Tryz.func43, Tryz.ntmps43
      go_wp2_with fail
      refine HA.out.mono ?_
      rintro e w1 ⟨rfl, hb1⟩
      have D1 := Lib.hid hb1
      clear hb1
      go_wp2_with fail
      refine (HWI.out _ D1.out).mono ?_
      rintro e w2 ⟨y, rfl, hpl, hb2⟩
      have D2 := Lib.hid (D1.out.trans (hb2.mono D1.out.size))
      clear hpl hb2
      go_wp2_with fail
      go_ret
      exact ⟨rfl, D2.out⟩
    | true =>
      go_enter Tryz.func43, Tryz.ntmps43
      go_wp2_with fail
      refine HA.out.mono ?_
      rintro e w1 ⟨rfl, hb1⟩
      have D1 := Lib.hid hb1
      clear hb1
      go_wp2_with fail
      refine (HWI.out _ D1.out).mono ?_
      rintro e w2 ⟨y, rfl, hpl, hb2⟩
      have D2 := Lib.hid (D1.out.trans (hb2.mono D1.out.size))
      clear hpl hb2
      go_wp2_with fail
      refine (HB.out _ D2.out).mono ?_
      rintro e w3 ⟨y3, rfl, hr3, hb3⟩
      have D3 := Lib.hid (D2.out.trans (hb3.mono D2.out.size))
      have R3 := Lib.hid hr3
      obtain ⟨_, ⟨_, a3, c3, rfl, -⟩, -⟩ := id hr3
      clear hr3 hb3
      go_wp2_with fail
      refine (HC.out _ _ R3.out).mono ?_
      rintro e w4 ⟨rfl, hb4⟩
      have D4 := Lib.hid (D3.out.trans (hb4.mono D3.out.size))
      clear hb4
      go_wp2_with fail
      go_ret
      exact ⟨rfl, D4.out⟩
  · rw [decide_eq_false hz] at HA
    rw [fr_no hz]
    obtain ⟨_, a, c, rfl, -⟩ := hv
    clear hm hz
    go_enter Tryz.func43, Tryz.ntmps43
    go_wp2_with fail
    refine HA.out.mono ?_
    rintro e w1 ⟨rfl, hb1⟩
    have D1 := Lib.hid hb1
    clear hb1
    go_wp2_with fail
    go_ret
    exact ⟨rfl, D1.out⟩
theorem con : Con where
  act := actP_any
  doom := doomP_any
  bes := besP_any
  free := freP_any
end Go.Proofs.YtdkaoiomndkbjaaGreatDoor.Do

namespace Go.Proofs.YtdkaoiomndkbjaaGreatDoor.Me
open Go Go.RowKit Rw So Se Do
set_option maxRecDepth 20000
def sameM (l m : List Mv) : Bool := decide (l = m)
theorem sameM_at {l m : List Mv} {k : Nat} (h1 : k < l.length) (h2 : k < m.length) : sameM (l.drop k) (m.drop k) = (decide (l[k] = m[k]) && sameM (l.drop (k + 1)) (m.drop (k + 1))) := by
  unfold sameM
  rw [List.drop_eq_getElem_cons h1, List.drop_eq_getElem_cons h2, Bool.eq_iff_iff]
  simp only [decide_eq_true_eq, Bool.and_eq_true, List.cons.injEq]
set_option maxHeartbeats 400000 in
theorem mvs_other (a1 a2 : Option Addr) (c1 c2 n m : Nat) (w : World) (h : n ≠ m) :
    Calls Tryz.prog 7 #[.slice a1 n c1, .slice a2 m c2] w fun e w' => e = .returned (.bool false) ∧ Below w.heap.size w w' := by
  have hne : ((n : Int) == (m : Int)) = false := by rw [beq_eq_false_iff_ne]; omega
  have hne' : ((n : Int) != (m : Int)) = true := by rw [bne_iff_ne]; omega
  go_enter Tryz.func7, Tryz.ntmps7
  go_wp2_with fail
  go_ret
  exact ⟨rfl, Below.refl _ _⟩
set_option maxHeartbeats 400000 in
theorem mvs_empty (a1 a2 : Option Addr) (c1 c2 : Nat) (w : World) :
    Calls Tryz.prog 7 #[.slice a1 0 c1, .slice a2 0 c2] w fun e w' => e = .returned (.bool true) ∧ Below w.heap.size w w' := by
  go_enter Tryz.func7, Tryz.ntmps7
  go_wp2_with fail
  refine Go.wp_loop_rounds 1 ?_
  rw [rounds_succ]
  go_wp2_with fail
  go_ret
  exact ⟨rfl, Below.refl _ _⟩
set_option maxHeartbeats 2000000 in
theorem mvs_cells (b1 o1 c1 b2 o2 c2 : Nat) (l m : List Mv) (w : World) (hl : l.length ≤ 1000000) (he : m.length = l.length) (h1 : AtM w b1 o1 l) (h2 : AtM w b2 o2 m) :
    Calls Tryz.prog 7 #[.slice (some ⟨b1, o1, none⟩) l.length c1, .slice (some ⟨b2, o2, none⟩) l.length c2] w fun e w' => e = .returned (.bool (sameM l m)) ∧ Below w.heap.size w w' := by
  have H1 := Lib.hid h1
  have H2 := Lib.hid h2
  have HE := Lib.hid he
  clear h1 h2 he
  go_enter Tryz.func7, Tryz.ntmps7
  go_wp2_with fail
  go_loopw [5] (fun i wr => ∃ k : Nat, k ≤ l.length ∧ i = .int .i64 k ∧ Hid (Below w.heap.size w wr) ∧ Hid (sameM l m = sameM (l.drop k) (m.drop k))) (fun i _ => l.length - (intOf i).toNat)
  case atStart => exact ⟨0, Nat.zero_le _, rfl, Lib.hid (Below.refl _ _), Lib.hid rfl⟩
  case round =>
    obtain ⟨k, hk, rfl, HB, HS⟩ := hrel
    by_cases hlt : k < l.length
    · have hlt2 : k < m.length := by rw [HE.out]; exact hlt
      obtain ⟨d1, d3⟩ := (H1.out.below HB.out) k hlt
      obtain ⟨d2, d4⟩ := (H2.out.below HB.out) k hlt2
      have HA := Lib.hid (HS.out.trans (sameM_at hlt hlt2))
      obtain ⟨u, hu⟩ : ∃ u, l[k] = u := ⟨_, rfl⟩
      obtain ⟨v, hv⟩ : ∃ v, m[k] = v := ⟨_, rfl⟩
      rw [hu] at d1 d3 HA
      rw [hv] at d2 d4 HA
      clear hu hv
      obtain ⟨up, uh⟩ := u
      obtain ⟨vp, vh⟩ := v
      simp only at d1 d2 d3 d4
      have hqn : ∀ w, (binOp .neq 29 (.agg #[.int .i64 up, .int .i64 uh]) (.agg #[.int .i64 vp, .int .i64 vh])).run Tryz.prog w = .ok (.bool (!decide ((⟨up, uh⟩ : Mv) = ⟨vp, vh⟩))) w := fun w => neq_mv ⟨up, uh⟩ ⟨vp, vh⟩ w
      generalize hu : (⟨up, uh⟩ : Mv) = u at HA hqn
      generalize hv : (⟨vp, vh⟩ : Mv) = v at HA hqn
      clear hu hv
      by_cases huv : u = v
      · have HV := Lib.hid huv
        rw [decide_eq_true huv] at hqn
        clear huv
        go_wp2_with fail
        go_quiet (fail)
        go_wp2_with fail
        go_roundw
        case rel => exact ⟨k + 1, by omega, by go_num, Lib.hid (HB.out.trans (Below.drewN _ _ _)), Lib.hid (by rw [HA.out, decide_eq_true HV.out, Bool.true_and])⟩
        case measure => simp [intOf]; omega
      · have HV := Lib.hid huv
        rw [decide_eq_false huv] at hqn
        clear huv
        go_wp2_with fail
        go_quiet (fail)
        go_wp2_with fail
        go_ret
        exact ⟨ret_bool (by rw [HA.out, decide_eq_false HV.out, Bool.false_and]), HB.out.trans (Below.drewN _ _ _)⟩
    · go_wp2_with fail
      go_ret
      refine ⟨ret_bool ?_, HB.out⟩
      rw [HS.out, List.drop_eq_nil_of_le (by omega), List.drop_eq_nil_of_le (by rw [HE.out]; omega)]
      rfl
theorem samesR_any (x y : Value) (l m : List Mv) (w : World) (hx : Mvs w x l) (hy : Mvs w y m) (hl : l.length ≤ 1000000) :
    Calls Tryz.prog 7 #[x, y] w fun e w' => e = .returned (.bool (sameM l m)) ∧ Below w.heap.size w w' := by
  by_cases he : l.length = m.length
  · rcases hx.form with ⟨rfl, a, cap, rfl⟩ | ⟨b, off, cap, rfl, _, hc⟩
    · obtain rfl : m = [] := List.eq_nil_of_length_eq_zero he.symm
      obtain ⟨_, a', cap', rfl, _⟩ := hy
      exact mvs_empty a a' cap cap' w
    · rcases hy.form with ⟨rfl, a', cap', rfl⟩ | ⟨b', off', cap', rfl, _, hc'⟩
      · obtain rfl : l = [] := List.eq_nil_of_length_eq_zero he
        exact mvs_empty _ a' cap cap' w
      · rw [← he]
        exact mvs_cells b off cap b' off' cap' l m w hl he.symm hc hc'
  · rw [show sameM l m = false from decide_eq_false fun e => he (by rw [e])]
    obtain ⟨_, a, cap, rfl, _⟩ := hx
    obtain ⟨_, a', cap', rfl, _⟩ := hy
    exact mvs_other a a' cap cap' l.length m.length w he
abbrev mvV (m : Mv) : Value := .agg #[.int .i64 m.p, .int .i64 m.h]
def Bm (w : World) (b : Nat) (m : Mv) : Prop := w.heap[b]? = some (.cells #[.int .i64 m.p, .int .i64 m.h] 29 (0, 0))
theorem Bm.new (w : World) (m : Mv) : Bm (w.alloc (.cells #[.int .i64 m.p, .int .i64 m.h] 29)) w.heap.size m := by
  show (w.heap.push _)[w.heap.size]? = some _
  simp
theorem Bm.lt {w : World} {b : Nat} {m : Mv} (h : Bm w b m) : b < w.heap.size := Nat.lt_of_not_le fun hle => by
  unfold Bm at h
  rw [Array.getElem?_eq_none hle] at h
  cases h
theorem Bm.below {w w' : World} {M b : Nat} {m : Mv} (h : Bm w b m) (hb : Below M w w') (hM : b < M) : Bm w' b m := (hb.block b hM).trans h
theorem Bm.cells {w : World} {b : Nat} {m : Mv} (h : Bm w b m) : w.cell? ⟨b, 0, none⟩ = some (.int .i64 m.p) ∧ w.cell? ⟨b, 1, none⟩ = some (.int .i64 m.h) ∧ w.frozen? ⟨b, 0, none⟩ = false ∧ w.frozen? ⟨b, 1, none⟩ = false := by
  unfold Bm at h
  simp [World.cell?, World.frozen?, h]
theorem setM {w : World} {g : Nat} {c : Array Value} {t : TypeId} {fr : Nat × Nat} (o : Nat) (v : Value) (h : w.heap[g]? = some (.cells c t fr)) : (w.setCell ⟨g, o, none⟩ v).heap[g]? = some (.cells (c.setIfInBounds o v) t fr) := by
  simp only [World.setCell, Array.getElem?_modify, if_true, h]
  rfl
abbrev put2 (w : World) (b : Nat) (x y : Value) : World := (w.setCell ⟨b, 0, none⟩ x).setCell ⟨b, 1, none⟩ y
theorem Bm.put {w : World} {b : Nat} {m : Mv} (h : Bm w b m) (n : Mv) : Bm (put2 w b (.int .i64 n.p) (.int .i64 n.h)) b n := setM 1 _ (setM 0 _ h)
theorem ret_mv {fn : Func} {p u : Tmp} {R : Ending → World → Prop} {a : Act} {w : World} {b : Nat} {m : Mv} {v : Value} (h : fn.results = #[.cell p 29, .tmp u]) (hp : a.tmps.getD p undef = .pointer (some ⟨b, 0, none⟩)) (hu : a.tmps.getD u undef = v) (hb : Bm w b m) (hd : a.defers = [])
    (hR : R (.returned (.tuple #[mvV m, v])) w) : bodyPost Tryz.prog fn R .ret a w :=
  bodyPost_ret (by
    rw [results_cell_tmp h, hp, hu]
    simp [asAddr, run_loadVar_row w b _ 29 _ (0, 0) _ hb Tryz.underlying29 rfl (by kernel_rfl)]) hd hR
set_option maxHeartbeats 1000000 in
theorem pickR_any (v : Value) (l : List Nd) (n : Int) (w : World) (hv : Nds w v l) (hl : l.length ≤ 1000) (hm : Nms l) (_hn : -9223372036854775808 ≤ n ∧ n ≤ 9223372036854775807) :
    Calls Tryz.prog 11 #[v, .int .i64 n] w fun e w' => e = .returned (.tuple #[mvV (pkM l n), .int .i64 (pkE l)]) ∧ Below w.heap.size w w' := by
  have DB := Lib.hid (below1 w (.cells #[.int .i64 0, .int .i64 0] 29))
  have HA := Lib.hid (fun w1 (hb : Below w.heap.size w w1) => enabledR_any v l w1 (hv.below hb) hl hm)
  have hvl : (enR l).length ≤ 2000 := Nat.le_trans (enR_len l) (by omega)
  have B0 := Lib.hid (Bm.new w ⟨0, 0⟩)
  have HSZ : Hid ((w.alloc (.cells #[.int .i64 0, .int .i64 0] 29)).heap.size = w.heap.size + 1) := Lib.hid (by simp)
  obtain ⟨_, a, c, rfl, -⟩ := id hv
  unfold pkM pkE
  generalize enR l = V at HA hvl ⊢
  clear hv hm
  by_cases h0 : V.length = 0
  · obtain rfl : V = [] := List.eq_nil_of_length_eq_zero h0
    clear hvl h0
    go_enter Tryz.func11, Tryz.ntmps11
    go_wp2_with fail
    refine (HA.out _ DB.out).mono ?_
    rintro e w1 ⟨y, rfl, hi, hb1⟩
    rw [HSZ.out] at hb1
    have B1 := Lib.hid (B0.out.below hb1 (Nat.lt_succ_self _))
    have D1 := Lib.hid (DB.out.trans (hb1.mono (Nat.le_succ _)))
    obtain ⟨k1, k2, k3, k4⟩ := B1.out.cells
    obtain ⟨_, ay, cy, rfl, -⟩ := id hi
    clear hb1 hi
    go_wp2_with fail
    refine ret_mv rfl rfl rfl (B1.out.put ⟨0, 0⟩) rfl ⟨rfl, ?_⟩
    exact Rx.below_setCell (Rx.below_setCell D1.out _ _ _ (Nat.le_refl _)) _ _ _ (Nat.le_refl _)
  · have hk := nr_lt (n := n) (m := V.length) (by omega)
    have ht := nr_tmod (n := n) (m := V.length) (by omega)
    obtain ⟨k, hk2⟩ : ∃ k, nr n V.length = k := ⟨_, rfl⟩
    rw [hk2] at hk ht ⊢
    have HX : Hid (V[k]?.getD ⟨0, 0⟩ = V[k] ∧ (if V.length = 0 then (120 : Int) else 0) = 0) := Lib.hid ⟨by rw [List.getElem?_eq_getElem hk]; rfl, if_neg h0⟩
    have HAT := Lib.hid (fun (w' : World) (y : Value) (h : Mvs w' y V) => h.form)
    rw [HX.out.1, HX.out.2]
    obtain ⟨x, hx⟩ : ∃ x, V[k] = x := ⟨_, rfl⟩
    have HXV : Hid (∀ h : k < V.length, V[k] = x) := Lib.hid fun _ => hx
    rw [hx]
    obtain ⟨m, hm2⟩ : ∃ m, V.length = m := ⟨_, rfl⟩
    rw [hm2] at hk ht h0 hvl
    have HM := Lib.hid hm2
    have hm3 : ((m : Int) == 0) = false := by rw [beq_eq_false_iff_ne]; omega
    have hm4 : (m : Int) ≠ 0 := by omega
    have hm5 : 1 ≤ (m : Int) := by omega
    have hki : (k : Int) < m := by omega
    obtain ⟨r, hr⟩ : ∃ r, n.tmod (m : Int) = r := ⟨_, rfl⟩
    rw [hr] at ht
    have HR : Hid (n.tmod (m : Int) = r) := Lib.hid hr
    clear HX hx hm2 hr
    go_enter Tryz.func11, Tryz.ntmps11
    go_wp2_with fail
    refine (HA.out _ DB.out).mono ?_
    rintro e w1 ⟨y, rfl, hi, hb1⟩
    rw [HSZ.out] at hb1
    have B1 := Lib.hid (B0.out.below hb1 (Nat.lt_succ_self _))
    have D1 := Lib.hid (DB.out.trans (hb1.mono (Nat.le_succ _)))
    obtain ⟨k1, k2, k3, k4⟩ := B1.out.cells
    rcases HAT.out _ _ hi with ⟨e0, _⟩ | ⟨b4, o4, c4, rfl, _, hat4⟩
    · exact absurd (by rw [← HM.out, e0]; rfl) h0
    rw [HM.out]
    obtain ⟨q4, q5⟩ := hat4 k (by rw [HM.out]; exact hk)
    rw [HXV.out] at q4 q5
    clear hb1 hi hat4
    by_cases hneg : r < 0
    · rw [if_pos hneg] at ht
      have hw : wrap64 (n.tmod (m : Int) + m) = (k : Int) := by rw [HR.out, ← ht]; unfold wrap64; omega
      have hwn : (wrap64 (n.tmod (m : Int) + m)).toNat = k := by rw [hw]; omega
      rw [← hwn] at q4 q5
      have g1 : n.tmod (m : Int) < 0 := by rw [HR.out]; exact hneg
      have g2 : 0 ≤ wrap64 (n.tmod (m : Int) + m) ∧ wrap64 (n.tmod (m : Int) + m) < m := by rw [hw]; omega
      clear hw hwn ht hneg
      go_wp2_with fail
      refine ret_mv rfl rfl rfl (B1.out.put x) rfl ⟨rfl, ?_⟩
      exact Rx.below_setCell (Rx.below_setCell D1.out _ _ _ (Nat.le_refl _)) _ _ _ (Nat.le_refl _)
    · rw [if_neg hneg] at ht
      have hwn : (n.tmod (m : Int)).toNat = k := by rw [HR.out]; omega
      rw [← hwn] at q4 q5
      have g1 : ¬ n.tmod (m : Int) < 0 := by rw [HR.out]; exact hneg
      have g2 : 0 ≤ n.tmod (m : Int) ∧ n.tmod (m : Int) < m := by rw [HR.out]; omega
      clear hwn ht hneg
      go_wp2_with fail
      refine ret_mv rfl rfl rfl (B1.out.put x) rfl ⟨rfl, ?_⟩
      exact Rx.below_setCell (Rx.below_setCell D1.out _ _ _ (Nat.le_refl _)) _ _ _ (Nat.le_refl _)
end Go.Proofs.YtdkaoiomndkbjaaGreatDoor.Me

namespace Go.Proofs.YtdkaoiomndkbjaaGreatDoor.Me
open Go Go.RowKit Rw So Se Do
set_option maxRecDepth 20000
abbrev tx (L : List UInt8) : ByteArray := ⟨L.toArray⟩
theorem tx_add (L M : List UInt8) : tx L ++ tx M = tx (L ++ M) := by
  apply ByteArray.ext
  simp [ByteArray.data_append]
def hwT (h : Int) : List UInt8 := if h = 1 then [100, 111] else if h = 2 then [108, 101, 102, 116] else if h = 3 then [114, 105, 103, 104, 116] else if h = 4 then [103, 111] else if h = 5 then [115, 116, 111, 112] else []
def txM (m : Mv) : ByteArray := if hwT m.h = [] then tx [] else tx (hwT m.h ++ [32] ++ Lib.itoa m.p)
end Go.Proofs.YtdkaoiomndkbjaaGreatDoor.Me

namespace Go.Proofs.YtdkaoiomndkbjaaGreatDoor.Me
open Go Go.RowKit Go.Maps Go.WideMaps Rw So Se Do
set_option maxRecDepth 20000
def hE (v : Value) : Option (DataW Value × List MemPlace) := some (.held v, [])
theorem lawI : Keyed Tryz.prog 3 := int_keyed Tryz.underlying3
theorem keyI (k : Int) (h : (Lit.int .i64 k).wf = true) : keyOf Tryz.prog 3 (.int .i64 k) = some (.int .i64 k) := keyOf_int_mk Tryz.underlying3 h
theorem zeroW (w : World) : (zeroValue 54).run Tryz.prog w = .ok (.slice none 0 0) w := by kernel_rfl
def WD (f : Int → Value) (D : DataW Value) : Prop := ∀ k : Int, D.atKey (.int .i64 k) (.held (.slice none 0 0)) = .held (f k)
theorem look {w : World} {b n : Nat} {f : Int → Value} {D : DataW Value} (h : w.ownsMap Tryz.prog 3 hE b n D) (hd : WD f D) (k : Int) (hk : (Lit.int .i64 k).wf = true) :
    (Instr.lookup 55 (.map (some b)) (.int .i64 k) false).run Tryz.prog w = .ok (f k) w := by
  obtain ⟨v, ps, hrun, hv⟩ := h.lookup lawI Tryz.underlying55 (zeroW w) (show hE (.slice none 0 0) = some (.held (.slice none 0 0), []) from rfl) (keyI k hk)
  rw [hd k] at hv
  rw [hrun]
  injection hv with hv
  injection hv with hv
  injection hv with hv
  rw [hv]
end Go.Proofs.YtdkaoiomndkbjaaGreatDoor.Me

namespace Go.Proofs.YtdkaoiomndkbjaaGreatDoor.Me
open Go Go.RowKit Rw So Se Do
set_option maxRecDepth 20000
def idxM (x : Mv) : List Mv → Nat → Int
  | [], _ => -1
  | y :: l, k => if x = y then k else idxM x l (k + 1)
theorem idxM_mem (x : Mv) (l : List Mv) (k : Nat) : decide (0 ≤ idxM x l k) = decide (x ∈ l) := by
  induction l generalizing k with
  | nil => simp [idxM]
  | cons y l ih =>
    unfold idxM
    by_cases h : x = y
    · rw [if_pos h, decide_eq_true (show x ∈ y :: l by rw [h]; exact List.mem_cons_self)]
      simp
    · rw [if_neg h, ih (k + 1)]
      simp [h]
theorem idxM_end {x : Mv} {l : List Mv} {k : Nat} (h : ¬ k < l.length) : idxM x (l.drop k) k = -1 := by rw [List.drop_eq_nil_of_le (by omega)]; rfl
theorem idxM_at {x : Mv} {l : List Mv} {k : Nat} (h : k < l.length) : idxM x (l.drop k) k = if x = l[k] then (k : Int) else idxM x (l.drop (k + 1)) (k + 1) := by
  rw [List.drop_eq_getElem_cons h, idxM]
set_option maxHeartbeats 400000 in
theorem idxM_empty (a : Option Addr) (cap : Nat) (xp xh : Int) (w : World) :
    Calls Tryz.prog 36 #[.slice a 0 cap, .agg #[.int .i64 xp, .int .i64 xh]] w fun e w' => e = .returned (.int .i64 (-1)) ∧ Below w.heap.size w w' := by
  go_enter Tryz.func36, Tryz.ntmps36
  go_wp2_with fail
  refine Go.wp_loop_rounds 1 ?_
  rw [rounds_succ]
  go_wp2_with fail
  go_ret
  exact ⟨rfl, below1 _ _⟩
set_option maxHeartbeats 2000000 in
theorem idxM_cells (b off cap : Nat) (l : List Mv) (x : Mv) (w : World) (hat : AtM w b off l) (hl : l.length ≤ 1000000) :
    Calls Tryz.prog 36 #[.slice (some ⟨b, off, none⟩) l.length cap, mvV x] w fun e w' => e = .returned (.int .i64 (idxM x l 0)) ∧ Below w.heap.size w w' := by
  obtain ⟨xp, xh⟩ := x
  have HA := Lib.hid (hat.below (below1 w (.cells #[.int .i64 xp, .int .i64 xh] 29)))
  have HB0 := Lib.hid (Bm.new w ⟨xp, xh⟩)
  have DB := Lib.hid (below1 w (.cells #[.int .i64 xp, .int .i64 xh] 29))
  obtain ⟨wB, hwB⟩ : ∃ wB, w.alloc (.cells #[.int .i64 xp, .int .i64 xh] 29) = wB := ⟨_, rfl⟩
  obtain ⟨bM, hbM⟩ : ∃ bM, w.heap.size = bM := ⟨_, rfl⟩
  have HS : Hid (w.heap.size ≤ wB.heap.size) := Lib.hid (by rw [← hwB]; simp)
  change Hid (Bm (w.alloc (.cells #[.int .i64 xp, .int .i64 xh] 29)) w.heap.size ⟨xp, xh⟩) at HB0
  rw [hwB] at HA HB0 DB
  rw [hbM] at HB0
  clear hat
  go_enter Tryz.func36, Tryz.ntmps36
  go_wp2_with fail
  clear hwB
  go_loopw [8] (fun i wr => ∃ k : Nat, k ≤ l.length ∧ i = .int .i64 k ∧ Hid (Below wB.heap.size wB wr) ∧ Hid (idxM ⟨xp, xh⟩ l 0 = idxM ⟨xp, xh⟩ (l.drop k) k)) (fun i _ => l.length - (intOf i).toNat)
  case atStart => exact ⟨0, Nat.zero_le _, rfl, Lib.hid (Below.refl _ _), Lib.hid rfl⟩
  case round =>
    obtain ⟨k, hk, rfl, HB, HK⟩ := hrel
    by_cases hlt : k < l.length
    · obtain ⟨e1, e2⟩ := (HA.out.below HB.out) k hlt
      obtain ⟨m1, m2, -⟩ := (HB0.out.below HB.out HB0.out.lt).cells
      have HX := Lib.hid (HK.out.trans (idxM_at hlt))
      obtain ⟨y, hy⟩ : ∃ y, l[k] = y := ⟨_, rfl⟩
      rw [hy] at e1 e2 HX
      clear hy
      obtain ⟨yp, yh⟩ := y
      simp only at e1 e2 m1 m2
      have hq : ∀ w, (binOp .eql 29 (.agg #[.int .i64 xp, .int .i64 xh]) (.agg #[.int .i64 yp, .int .i64 yh])).run Tryz.prog w = .ok (.bool (decide ((⟨xp, xh⟩ : Mv) = ⟨yp, yh⟩))) w := fun w => eq_mv ⟨xp, xh⟩ ⟨yp, yh⟩ w
      by_cases hxy : (⟨xp, xh⟩ : Mv) = ⟨yp, yh⟩
      · rw [if_pos hxy] at HX
        rw [decide_eq_true hxy] at hq
        clear hxy
        go_wp2_with fail
        go_quiet (fail)
        go_wp2_with fail
        go_ret
        exact ⟨ret_int HX.out.symm, DB.out.trans ((HB.out.trans (Below.drewN _ _ _)).mono HS.out)⟩
      · rw [if_neg hxy] at HX
        rw [decide_eq_false hxy] at hq
        clear hxy
        go_wp2_with fail
        go_quiet (fail)
        go_wp2_with fail
        go_roundw
        case rel => exact ⟨k + 1, by omega, by go_num, Lib.hid (HB.out.trans (Below.drewN _ _ _)), HX⟩
        case measure => simp [intOf]; omega
    · have HZ : Hid (idxM ⟨xp, xh⟩ l 0 = -1) := Lib.hid (by rw [HK.out, idxM_end hlt])
      go_wp2_with fail
      go_ret
      exact ⟨ret_int HZ.out.symm, DB.out.trans (HB.out.mono HS.out)⟩
theorem idxM_any (v : Value) (l : List Mv) (x : Mv) (w : World) (h : Mvs w v l) (hl : l.length ≤ 1000000) :
    Calls Tryz.prog 36 #[v, mvV x] w fun e w' => e = .returned (.int .i64 (idxM x l 0)) ∧ Below w.heap.size w w' := by
  rcases h.form with ⟨rfl, a, cap, rfl⟩ | ⟨b, off, cap, rfl, _, hat⟩
  · exact idxM_empty a cap x.p x.h w
  · exact idxM_cells b off cap l x w hat hl
set_option maxHeartbeats 400000 in
theorem hasM_any (v : Value) (l : List Mv) (x : Mv) (w : World) (h : Mvs w v l) (hl : l.length ≤ 1000000) :
    Calls Tryz.prog 22 #[v, mvV x] w fun e w' => e = .returned (.bool (decide (x ∈ l))) ∧ Below w.heap.size w w' := by
  obtain ⟨xp, xh⟩ := x
  have H := Lib.hid (h.below (below1 w (.cells #[.int .i64 xp, .int .i64 xh] 29)))
  have D1 := Lib.hid (below1 w (.cells #[.int .i64 xp, .int .i64 xh] 29))
  have HQ := Lib.hid (idxM_mem ⟨xp, xh⟩ l 0)
  obtain ⟨q, hq⟩ : ∃ q, idxM ⟨xp, xh⟩ l 0 = q := ⟨_, rfl⟩
  rw [hq] at HQ
  have HC := Lib.hid hq
  obtain ⟨_, a, cap, rfl, -⟩ := id h
  clear h hq
  go_enter Tryz.func22, Tryz.ntmps22
  go_wp2_with fail
  refine (idxM_any _ l ⟨xp, xh⟩ _ H.out hl).mono ?_
  rw [HC.out]
  rintro e w' ⟨rfl, hb⟩
  have HB := Lib.hid (D1.out.trans (hb.mono D1.out.size))
  clear hb
  go_wp2_with fail
  go_ret
  exact ⟨ret_bool HQ.out, HB.out⟩
end Go.Proofs.YtdkaoiomndkbjaaGreatDoor.Me

namespace Go.Proofs.YtdkaoiomndkbjaaGreatDoor.Me
open Go Go.RowKit Rw So Se Do
set_option maxRecDepth 20000
def In64 (n : Int) : Prop := -9223372036854775808 ≤ n ∧ n ≤ 9223372036854775807
structure Con : Prop where
  en : ∀ (v : Value) (l : List Nd) (w : World), Nds w v l → l.length ≤ 1000 → Nms l → Calls Tryz.prog 8 #[v] w fun e w' => ∃ y, e = .returned y ∧ Mvs w' y (enR l) ∧ Below w.heap.size w w'
  is : ∀ (v : Value) (l : List Nd) (m : Mv) (w : World), Nds w v l → l.length ≤ 1000 → Nms l → Calls Tryz.prog 12 #[v, mvV m] w fun e w' => e = .returned (.bool (decide (m ∈ enR l))) ∧ Below w.heap.size w w'
  pk : ∀ (v : Value) (l : List Nd) (n : Int) (w : World), Nds w v l → l.length ≤ 1000 → Nms l → In64 n → Calls Tryz.prog 10 #[v, .int .i64 n] w fun e w' => e = .returned (.tuple #[mvV (pkM l n), .int .i64 (pkE l)]) ∧ Below w.heap.size w w'
def txC : Array Value := #[.string ⟨#[]⟩, .string ⟨#[100, 111]⟩, .string ⟨#[108, 101, 102, 116]⟩, .string ⟨#[114, 105, 103, 104, 116]⟩, .string ⟨#[103, 111]⟩, .string ⟨#[115, 116, 111, 112]⟩]
def Tx (w : World) : Prop := w.var? Tryz.prog "redress/move.texts" = some txC ∧ Lib.TabIs Tryz.prog w "internal/strconv.uint64pow10" .u64 Lib.pow10Tab
theorem var_below {P : Program} {w w' : World} {name : String} {cs : Array Value} (h : w.var? P name = some cs) (hb : Below w.heap.size w w') : w'.var? P name = some cs := by
  unfold World.var? at *
  cases hg : P.globalNamed name with
  | none => simp [hg] at h
  | some g =>
    simp only [hg, Option.bind_some] at h ⊢
    have hlt : g < w.heap.size := by
      rcases Nat.lt_or_ge g w.heap.size with h' | h'
      · exact h'
      · rw [Array.getElem?_eq_none h'] at h; simp at h
    rw [hb.block g hlt]
    exact h
theorem Tx.below {w w' : World} (h : Tx w) (hb : Below w.heap.size w w') : Tx w' := ⟨var_below h.1 hb, var_below h.2 hb⟩
def TxP : Prop := ∀ (m : Mv) (w : World), Tx w → In64 m.p → Calls Tryz.prog 15 #[mvV m] w fun e w' => e = .returned (.string (txM m)) ∧ Below w.heap.size w w'
def Alive : Prop := ∀ w : World, Tx w → Calls Tryz.prog 6 #[] w fun e w' => e = .returned (.bool true) ∧ Below w.heap.size w w'
set_option maxHeartbeats 1000000 in
theorem few_any (v : Value) (l : List Nd) (w : World) (h : Nds w v l) :
    Calls Tryz.prog 5 #[v] w fun e w' => e = .returned (.bool (Do.fewB l)) ∧ w = w' := by
  have hr : Do.fewB l = (decide (l.length ≤ 100) && decide (depth l ≤ 24)) := rfl
  rw [hr]
  by_cases h1 : l.length ≤ 100
  · have HD := Lib.hid (depthR_any v l w h (by omega))
    obtain ⟨d, hd⟩ : ∃ d, depth l = d := ⟨_, rfl⟩
    rw [hd] at HD ⊢
    rw [decide_eq_true h1, Bool.true_and]
    obtain ⟨_, a, cap, rfl, -⟩ := h
    clear hr hd
    go_enter Tryz.func5, Tryz.ntmps5
    go_wp2_with fail
    refine HD.out.mono ?_
    rintro e w' ⟨rfl, rfl⟩
    go_wp2_with fail
    go_ret
    exact ⟨ret_bool (decide_eq_decide.2 (by omega)), rfl⟩
  · rw [decide_eq_false h1, Bool.false_and]
    obtain ⟨_, a, cap, rfl, -⟩ := h
    have h2 : ¬ (l.length : Int) ≤ 100 := by omega
    clear hr
    go_enter Tryz.func5, Tryz.ntmps5
    go_wp2_with fail
    go_ret
    exact ⟨rfl, rfl⟩
set_option maxHeartbeats 2000000 in
theorem enabled_law (C : Con) (A : Alive) (v : Value) (l : List Nd) (w0 : World) (hT : Tx w0) (hv : Nds w0 v l) (hm : Nms l) :
    Calls Tryz.prog 3 #[v] w0 fun e w' => e = .returned (.bool true) ∧ Below w0.heap.size w0 w' := by
  have HF := Lib.hid (few_any v l w0 hv)
  have HA := Lib.hid (fun w1 (hb : Below w0.heap.size w0 w1) => A w1 (hT.below hb))
  clear hT
  cases hf : Do.fewB l with
  | false =>
    rw [hf] at HF
    obtain ⟨_, a, c, rfl, -⟩ := id hv
    clear hv hm hf
    go_enter Tryz.func3, Tryz.ntmps3
    go_wp2_with fail
    refine HF.out.mono ?_
    rintro e w1 ⟨rfl, rfl⟩
    go_wp2_with fail
    refine (HA.out _ (Below.refl _ _)).mono ?_
    rintro e w2 ⟨rfl, hb2⟩
    have D2 := Lib.hid hb2
    clear hb2
    go_wp2_with fail
    go_ret
    exact ⟨rfl, D2.out⟩
  | true =>
    rw [hf] at HF
    have hl := Do.few_len hf
    have HC := Lib.hid (fun w1 (hb : Below w0.heap.size w0 w1) => C.en v l w1 (hv.below hb) (by omega) hm)
    have HR := Lib.hid (fun w1 (hb : Below w0.heap.size w0 w1) => enabledR_any v l w1 (hv.below hb) (by omega) hm)
    have HL : Hid ((enR l).length ≤ 1000000) := Lib.hid (Nat.le_trans (enR_len l) (by omega))
    obtain ⟨_, a, c, rfl, -⟩ := id hv
    generalize enR l = V at HC HR HL
    clear hv hm hf
    go_enter Tryz.func3, Tryz.ntmps3
    go_wp2_with fail
    refine HF.out.mono ?_
    rintro e w1 ⟨rfl, rfl⟩
    go_wp2_with fail
    refine (HA.out _ (Below.refl _ _)).mono ?_
    rintro e w2 ⟨rfl, hb2⟩
    have D2 := Lib.hid hb2
    clear hb2
    go_wp2_with fail
    refine (HC.out _ D2.out).mono ?_
    rintro e w3 ⟨y3, rfl, h3, hb3⟩
    have D3 := Lib.hid (D2.out.trans (hb3.mono D2.out.size))
    have I3 := Lib.hid h3
    clear hb3 h3
    go_wp2_with fail
    refine (HR.out _ D3.out).mono ?_
    rintro e w4 ⟨y4, rfl, h4, hb4⟩
    have D4 := Lib.hid (D3.out.trans (hb4.mono D3.out.size))
    have J4 := Lib.hid (I3.out.below hb4)
    have I4 := Lib.hid h4
    clear hb4 h4
    go_wp2_with fail
    refine (samesR_any _ _ _ _ _ J4.out I4.out HL.out).mono ?_
    rw [show sameM V V = true from decide_eq_true rfl]
    rintro e w5 ⟨rfl, hb5⟩
    have D5 := Lib.hid (D4.out.trans (hb5.mono D4.out.size))
    clear hb5
    go_wp2_with fail
    go_ret
    exact ⟨rfl, D5.out⟩
end Go.Proofs.YtdkaoiomndkbjaaGreatDoor.Me

namespace Go.Proofs.YtdkaoiomndkbjaaGreatDoor.Me
open Go Go.RowKit Go.Maps Go.WideMaps Rw So Se Do
set_option maxRecDepth 20000
abbrev Wy := Int × Nat
def wcls : List Wy → List Value
  | [] => []
  | p :: l => .int .i64 p.1 :: .func (.func p.2) #[] #[] :: wcls l
theorem wcls_len : ∀ l : List Wy, (wcls l).length = l.length * 2
  | [] => rfl
  | p :: l => by simp [wcls, wcls_len l]; omega
theorem wcls_at : ∀ (l : List Wy) (k : Nat) (h : k < l.length), (wcls l)[k * 2]? = some (.int .i64 l[k].1) ∧ (wcls l)[k * 2 + 1]? = some (.func (.func l[k].2) #[] #[])
  | [], k, h => by simp at h
  | x :: l, 0, _ => ⟨rfl, rfl⟩
  | x :: l, k + 1, h => by
    have := wcls_at l k (by simpa using h)
    simpa [wcls, show (k + 1) * 2 = k * 2 + 1 + 1 by omega] using this
def Wys (w : World) (v : Value) (l : List Wy) : Prop := Ap.Rd w 2 v l.length (wcls l)
theorem Wys.below {w w' : World} {v : Value} {l : List Wy} (h : Wys w v l) (hb : Below w.heap.size w w') : Wys w' v l := Ap.Rd.below h hb
theorem wys_new (w : World) (l : List Wy) (ty : TypeId) : Wys (w.alloc (.cells (wcls l).toArray ty)) (.slice (some ⟨w.heap.size, 0, none⟩) l.length l.length) l := by
  refine ⟨wcls_len l, some ⟨w.heap.size, 0, none⟩, l.length, rfl, Nat.le_refl _, fun h => (by cases h), fun _ => ⟨w.heap.size, 0, rfl, fun j u hu => ?_⟩⟩
  rw [Nat.zero_add, World.cell?_alloc_new]
  simpa using hu
theorem Wys.grown {w w' : World} {b : Nat} {v : Value} {l : List Wy} (h : Wys w v l) (hg : w.grownBy w' (some b)) (hb : ∀ p c, v = .slice (some p) l.length c → p.block ≠ b) : Wys w' v l := by
  obtain ⟨hn, a, cap, rfl, hle, h0, hcell⟩ := h
  refine ⟨hn, a, cap, rfl, hle, h0, fun hp => ?_⟩
  obtain ⟨c, off, rfl, hj⟩ := hcell hp
  refine ⟨c, off, rfl, fun j u hu => ?_⟩
  have hc := hj j u hu
  exact hg.cell hc (fun e => hb _ _ rfl (Option.some.inj e))
def wyF (v1 v6 v4 : Value) (k : Int) : Value := if k = 1 then v1 else if k = 6 then v6 else if k = 4 ∨ k = 10 then v4 else .slice none 0 0
theorem wd_all (v1 v6 v4 : Value) : WD (wyF v1 v6 v4) (((((DataW.map []).put (.int .i64 1) (.held v1)).put (.int .i64 6) (.held v6)).put (.int .i64 4) (.held v4)).put (.int .i64 10) (.held v4)) := by
  intro k
  have m0 : IsMap (DataW.map [] : DataW Value) := isMap_empty
  have m1 := m0.put (.int .i64 1) (.held v1)
  have m2 := m1.put (.int .i64 6) (.held v6)
  have m3 := m2.put (.int .i64 4) (.held v4)
  have ne : ∀ {a b : Int}, a ≠ b → (Lit.int .i64 a) ≠ .int .i64 b := fun h e => h (by injection e)
  unfold wyF
  by_cases h10 : k = 10
  · subst h10
    rw [atKey_put_same m3 (by simp [WideAt.IsKeyLit])]
    rfl
  · rw [atKey_put_other (ne h10)]
    by_cases h4 : k = 4
    · subst h4
      rw [atKey_put_same m2 (by simp [WideAt.IsKeyLit])]
      rfl
    · rw [atKey_put_other (ne h4)]
      by_cases h6 : k = 6
      · subst h6
        rw [atKey_put_same m1 (by simp [WideAt.IsKeyLit])]
        rfl
      · rw [atKey_put_other (ne h6)]
        by_cases h1 : k = 1
        · subst h1
          rw [atKey_put_same m0 (by simp [WideAt.IsKeyLit])]
          rfl
        · rw [atKey_put_other (ne h1), if_neg h1, if_neg h6, if_neg (by omega)]
          rfl
set_option maxHeartbeats 400000 in
theorem always_any (v : Value) (z : Int) (w : World) (n c : Nat) (a : Option Addr) (hv : v = .slice a n c) : Calls Tryz.prog 42 #[v, .int .i64 z] w fun e w' => e = .returned (.bool true) ∧ Below w.heap.size w w' := by
  subst hv
  go_enter Tryz.func42, Tryz.ntmps42
  go_wp2_with fail
  go_ret
  exact ⟨rfl, Below.refl _ _⟩
def Gmw (w wr : World) (n : Nat) (D : DataW Value) (rows : List (Value × List Wy)) : Prop :=
  wr.ownsMap Tryz.prog 3 hE (w.heap.size + 1) n D ∧ Below w.heap.size w wr ∧ w.heap.size + 2 ≤ wr.heap.size ∧ ∀ r ∈ rows, Wys wr r.1 r.2 ∧ ∃ b c, r.1 = .slice (some ⟨b, 0, none⟩) r.2.length c ∧ b ≠ w.heap.size + 1
theorem Gmw.start (w : World) (L : List Wy) (ty : TypeId) : Gmw w ((w.alloc (.cells (wcls L).toArray ty)).alloc (.map #[] 0)) 0 (.map []) [(.slice (some ⟨w.heap.size, 0, none⟩) L.length L.length, L)] := by
  have h1 := below1 w (.cells (wcls L).toArray ty)
  have hs : (w.alloc (.cells (wcls L).toArray ty)).heap.size = w.heap.size + 1 := by simp
  refine ⟨?_, h1.alloc h1.size _, by simp, fun r hr => ?_⟩
  · rw [← hs]
    exact World.ownsMap_made _ _ _ _
  · obtain rfl := List.mem_singleton.1 hr
    exact ⟨(wys_new w L ty).below (below1 _ _), _, _, rfl, by omega⟩
theorem Gmw.add {w wr : World} {n : Nat} {D : DataW Value} {rows : List (Value × List Wy)} (h : Gmw w wr n D rows) (L : List Wy) (ty : TypeId) :
    Gmw w (wr.alloc (.cells (wcls L).toArray ty)) n D ((.slice (some ⟨wr.heap.size, 0, none⟩) L.length L.length, L) :: rows) := by
  obtain ⟨h1, h2, h3, h4⟩ := h
  refine ⟨h1.alloc _, h2.alloc h2.size _, by simp; omega, fun r hr => ?_⟩
  rcases List.mem_cons.1 hr with rfl | hr
  · exact ⟨wys_new wr L ty, _, _, rfl, by omega⟩
  · obtain ⟨k1, k2⟩ := h4 r hr
    exact ⟨k1.below (below1 _ _), k2⟩
theorem Gmw.set {w wr w1 : World} {n m : Nat} {D D' : DataW Value} {rows : List (Value × List Wy)} (h : Gmw w wr n D rows) (ho : w1.ownsMap Tryz.prog 3 hE (w.heap.size + 1) m D') (hg : wr.grownBy w1 (some (w.heap.size + 1))) : Gmw w w1 m D' rows := by
  obtain ⟨h1, h2, h3, h4⟩ := h
  refine ⟨ho, h2.grown hg h2.size (fun k hk => by injection hk with hk; omega), Nat.le_trans h3 hg.size, fun r hr => ?_⟩
  obtain ⟨k1, b, c, k2, k3⟩ := h4 r hr
  refine ⟨k1.grown hg (fun p c' e => ?_), b, c, k2, k3⟩
  rw [k2] at e
  injection e with e1 _ _
  injection e1 with e1
  rw [← e1]
  exact k3
theorem Gmw.ins {w wr : World} {n : Nat} {D : DataW Value} {rows : List (Value × List Wy)} (h : Gmw w wr n D rows) (hn : n < maxLen) (k : Int) (hk : (Lit.int .i64 k).wf = true) (v : Value) :
    ∃ w1, (Instr.mapUpdate 55 (.map (some (w.heap.size + 1))) (.int .i64 k) v).run Tryz.prog wr = .ok () w1 ∧ Gmw w w1 (n + 1) (D.put (.int .i64 k) (.held v)) rows := by
  obtain ⟨w1, h1, h2, h3⟩ := h.1.update lawI Tryz.underlying55 hn (keyI k hk) (ps := []) (show hE v = some (.held v, []) from rfl)
  exact ⟨w1, h1, h.set h2 h3⟩
set_option maxHeartbeats 2000000 in
theorem ways_any (w : World) :
    Calls Tryz.prog 29 #[] w fun e w' => ∃ b v1 v6 v4, e = .returned (.map (some b)) ∧ (∃ D, w'.ownsMap Tryz.prog 3 hE b 4 D ∧ WD (wyF v1 v6 v4) D) ∧
      Wys w' v1 [(1, 42)] ∧ Wys w' v6 [(2, 42), (3, 42)] ∧ Wys w' v4 [(4, 42), (5, 43)] ∧ Below w.heap.size w w' := by
  have hmm := @run_makeMap Tryz.prog
  have G0 := (Gmw.start w [(4, 42), (5, 43)] 58).add [(1, 42)] 58
  rw [show ((w.alloc (.cells (wcls [(4, 42), (5, 43)]).toArray 58)).alloc (.map #[] 0)).heap.size = w.heap.size + 1 + 1 by simp] at G0
  obtain ⟨w1, r1, G1⟩ := G0.ins (by decide) 1 (by decide) (.slice (some ⟨w.heap.size + 1 + 1, 0, none⟩) 1 1)
  obtain ⟨w2, r2, G2⟩ := (G1.add [(2, 42), (3, 42)] 58).ins (by decide) 6 (by decide) (.slice (some ⟨w1.heap.size, 0, none⟩) 2 2)
  obtain ⟨w3, r3, G3⟩ := G2.ins (by decide) 4 (by decide) (.slice (some ⟨w.heap.size, 0, none⟩) 2 2)
  obtain ⟨w4, r4, G4⟩ := G3.ins (by decide) 10 (by decide) (.slice (some ⟨w.heap.size, 0, none⟩) 2 2)
  change (Instr.mapUpdate 55 (.map (some (w.heap.size + 1))) (.int .i64 1) (.slice (some ⟨w.heap.size + 1 + 1, 0, none⟩) 1 1)).run Tryz.prog
    (((w.alloc (.cells #[.int .i64 4, .func (.func 42) #[] #[], .int .i64 5, .func (.func 43) #[] #[]] 58)).alloc (.map #[] 0)).alloc (.cells #[.int .i64 1, .func (.func 42) #[] #[]] 58)) = _ at r1
  change (Instr.mapUpdate 55 (.map (some (w.heap.size + 1))) (.int .i64 6) (.slice (some ⟨w1.heap.size, 0, none⟩) 2 2)).run Tryz.prog
    (w1.alloc (.cells #[.int .i64 2, .func (.func 42) #[] #[], .int .i64 3, .func (.func 42) #[] #[]] 58)) = _ at r2
  have HG := Lib.hid G4
  clear G0 G1 G2 G3 G4
  go_enter Tryz.func29, Tryz.ntmps29
  go_wp2_with fail
  go_ret
  obtain ⟨h1, h2, -, h4⟩ := HG.out
  refine ⟨_, .slice (some ⟨w.heap.size + 1 + 1, 0, none⟩) 1 1, .slice (some ⟨w1.heap.size, 0, none⟩) 2 2, .slice (some ⟨w.heap.size, 0, none⟩) 2 2, rfl, ⟨_, h1, wd_all _ _ _⟩, ?_, ?_, ?_, h2⟩
  · exact (h4 _ (List.mem_cons_of_mem _ (List.mem_cons_self ..))).1
  · exact (h4 _ (List.mem_cons_self ..)).1
  · exact (h4 _ (List.mem_cons_of_mem _ (List.mem_cons_of_mem _ (List.mem_cons_self ..)))).1
end Go.Proofs.YtdkaoiomndkbjaaGreatDoor.Me
