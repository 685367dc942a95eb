/- Arguments of the laws of runs: rows of numbers, and how long they may be. The program's Enabled, round, Pick: the walks. The program's Is: the walk. The program's round, Pick: the walks. -/
import Derived.Test.YtpingbiibbmcaaaGreatQ05
import Derived.Test.YtpingbiibbmcaaaGreatQ29
import Derived.Test.YtpingbiibbmcaaaGreatQ28
import Derived.Test.YtpingbiibbmcaaaGreatQ03

namespace Go.Proofs.YtpingbiibbmcaaaGreat.Ru
open Go Go.RowKit Go.ChangeShapes Go.WideShapes Go.Proofs.YtpingbiibbmcaaaGreat.Rw Go.Proofs.YtpingbiibbmcaaaGreat.Me
set_option maxRecDepth 100000

theorem in64_wf {n : Int} (h : (Lit.int .i64 n).wf = true) : In64 n := by
  have hmin : IntKind.i64.min = -9223372036854775808 := rfl
  have hmax : IntKind.i64.max = 9223372036854775807 := rfl
  simp only [Lit.wf, Bool.and_eq_true, decide_eq_true_eq] at h
  unfold In64
  omega
theorem cInt1 : Tryz.prog.cellsOf 3 = 1 := by kernel_rfl
theorem bNode1 : Tryz.prog.bytesOf 39 = 32 := by kernel_rfl
theorem rows_len {H : Type} {d : DataW H} {l : List Nd} (hd : Rw.nodesD l d) (h : (d.weights Tryz.prog 22).all (· ≤ reachBytes) = true) : l.length ≤ 140737488355328 := by
  rcases hd with ⟨rfl, _⟩ | ⟨sp, rfl⟩
  · exact Nat.zero_le _
  · rw [DataW.weights, Tryz.underlying22] at h
    simp only [List.all_cons, List.all_append, Bool.and_eq_true, bNode1] at h
    have h1 := h.1
    simp [reachBytes] at h1
    omega
section
variable {H : Type} {enc : TypeId × Value → H} {W : World} {base : Nat} {v : Value} {d : DataW H} {p : List MemPlace}
/-- The datum of a row of numbers. -/
def numsD (l : List Int) (d : DataW H) : Prop := (l = [] ∧ d = .nil) ∨ ∃ r : List Int, d = .slice (lits .i64 l) (lits .i64 r)
/-- A row of numbers that came in. -/
theorem nums_arg (hok : Value.okWide Tryz.prog W .any base 23 v) (h : DataW.Trod enc Tryz.prog W 0 (fun _ => true) true 23 v d p) : ∃ l : List Int, Ints W v l ∧ (∀ z ∈ l, In64 z) ∧ numsD l d := by
  obtain ⟨a, len, cap, rfl⟩ := okWide_slice Tryz.underlying23 hok
  obtain ⟨fuel, hf⟩ := h
  rcases open_ints Tryz.underlying23 Tryz.underlying3 cInt1 hf with ⟨hcs, hx⟩ | ⟨x, l, c, zs, hcs, _, hl, hm, hz, hx, hcell, hwz⟩
  · simp [Value.cells] at hcs
    obtain ⟨rfl, rfl, rfl⟩ := hcs
    exact ⟨[], ⟨rfl, none, 0, rfl, Nat.le_refl _, fun _ => ⟨rfl, rfl⟩, fun h => absurd h (by simp)⟩, (fun _ h => by cases h), .inl ⟨rfl, (Prod.mk.inj hx).1⟩⟩
  · simp [Value.cells] at hcs
    obtain ⟨rfl, rfl, rfl⟩ := hcs
    have hz' : zs.length = cap := by simpa using hz
    have hlen : (zs.take len).length = len := by simp; omega
    refine ⟨zs.take len, ⟨by simp, some x, cap, by rw [hlen], by omega, fun h => (by cases h), fun h0 => ?_⟩, fun n hn => in64_wf (hwz n (List.mem_of_mem_take hn)), .inr ⟨zs.drop len, (Prod.mk.inj hx).1⟩⟩
    rw [hlen] at h0
    obtain ⟨b, off, spot⟩ := x
    have hc := hcell 0 (by omega)
    have hspot : spot = none := by simpa [Addr.add] using World.cell?_spot hc
    subst hspot
    refine ⟨b, off, rfl, fun j u hu => ?_⟩
    rw [List.getElem?_map, Option.map_eq_some_iff] at hu
    obtain ⟨n, hn', rfl⟩ := hu
    obtain ⟨hj', rfl⟩ := List.getElem?_eq_some_iff.1 hn'
    rw [hlen] at hj'
    have := hcell j (by omega)
    rw [Addr.add_lit] at this
    rw [this, List.getElem_take]
    simp [List.getD, show j < zs.length by omega]
end
end Go.Proofs.YtpingbiibbmcaaaGreat.Ru

namespace Go.Proofs.YtpingbiibbmcaaaGreat.Me
open Go Go.RowKit Go.Proofs.YtpingbiibbmcaaaGreat.Rw Go.Proofs.YtpingbiibbmcaaaGreat.So Go.Proofs.YtpingbiibbmcaaaGreat.Se Go.Proofs.YtpingbiibbmcaaaGreat.Do
set_option maxRecDepth 20000

theorem flat_tk {α β : Type} {f : α → List β} {l : List α} {k : Nat} (h : k < l.length) : (l.take (k + 1)).flatMap f = (l.take k).flatMap f ++ f l[k] := by
  rw [List.take_succ_eq_append_getElem h, List.flatMap_append]
  simp
set_option maxHeartbeats 4000000 in
theorem enabledP_any (v : Value) (l : List Nd) (w : World) (hv : Nds w v l) (hl : l.length ≤ 1000) (hm : Nms l) :
    Calls Tryz.prog 38 #[v] w fun e w' => ∃ y, e = .returned y ∧ Mvs w' y (enR l) ∧ Below w.heap.size w w' := by
  have HA := Lib.hid (actP_any v l w hv hl hm)
  have HM := Lib.hid (fun z (hz : z ∈ av l) w1 (hb : Below w.heap.size w w1) => movesAt_any v l z w1 (hv.below hb) hl hm hz)
  have HW : Hid (∀ z ∈ av l, (hw (kn l z) (fr l z) z).length ≤ 2) := Lib.hid fun z _ => hw_len _ _ _
  have hvl : (av l).length ≤ 1000 := Nat.le_trans (av_len l) hl
  unfold enR
  obtain ⟨f, hf⟩ : ∃ f : Int → List Mv, (fun z => hw (kn l z) (fr l z) z) = f := ⟨_, rfl⟩
  have hfz : ∀ z, hw (kn l z) (fr l z) z = f z := fun z => congrFun hf z
  simp only [hfz] at HM HW
  rw [hf]
  obtain ⟨_, a0, c0, rfl, -⟩ := id hv
  generalize av l = V at HA HM HW hvl ⊢
  clear hv hm hf hfz
  go_enter Tryz.func38, Tryz.ntmps38
  go_wp2_with fail
  refine HA.out.mono ?_
  rintro e w1 ⟨y, rfl, hi, hb1⟩
  have D1 := Lib.hid hb1
  have I1 := Lib.hid hi
  obtain ⟨_, ay, cy, rfl, -⟩ := id hi
  clear hb1 hi
  go_wp2_with fail
  go_loopw [3, 9] (fun s i wr => ∃ (k : Nat) (a : Option Addr) (m cc : Nat) (os : List Mv), k ≤ V.length ∧ m ≤ 2 * k ∧ i = .int .i64 k ∧ s = .slice a m cc ∧ Hid (os.length = m) ∧ Hid ((V.take k).flatMap f = os) ∧ Hid (GotM w1.heap.size wr (.slice a m cc) os) ∧ Hid (Below w1.heap.size w1 wr)) (fun _ i _ => V.length - (intOf i).toNat)
  case atStart => exact ⟨0, none, 0, 0, [], Nat.zero_le _, Nat.zero_le _, rfl, rfl, Lib.hid rfl, Lib.hid rfl, Lib.hid (GotM.start (Nat.le_refl _)), Lib.hid (Below.refl _ _)⟩
  case round =>
    obtain ⟨k, a, m, cc, os, hk, hmk, rfl, rfl, HL, HO, HG, HD⟩ := hrel
    by_cases hlt : k < V.length
    · rcases (I1.out.below HD.out).form with ⟨h0, _⟩ | ⟨bq, oq, cq, eq, _, hat⟩
      · rw [h0] at hlt; simp at hlt
      have e1 := hat k hlt
      injection eq with q1 _ q3
      subst q1
      subst q3
      have DW := Lib.hid (D1.out.trans (HD.out.mono D1.out.size))
      have HMk := Lib.hid (HM.out _ (List.getElem_mem hlt) wr DW.out)
      have HWk := Lib.hid (HW.out _ (List.getElem_mem hlt))
      have HT := Lib.hid (flat_tk (f := f) hlt)
      obtain ⟨z, hz⟩ : ∃ z, V[k] = z := ⟨_, rfl⟩
      rw [hz] at e1 HMk HWk HT
      obtain ⟨R, hR⟩ : ∃ R, f z = R := ⟨_, rfl⟩
      rw [hR] at HMk HWk HT
      clear hat hz hR
      go_wp2_with fail
      refine HMk.out.mono ?_
      rintro e w2 ⟨y2, rfl, hy2, hb2⟩
      have hwl : R.length ≤ 2 := HWk.out
      obtain ⟨v', w3, hrun, hgot, hb3⟩ := (HG.out.below hb2).row hy2 (by rw [HL.out]; omega)
      have D3 := Lib.hid ((HD.out.trans (hb2.mono HD.out.size)).trans hb3)
      obtain ⟨r, hr⟩ : ∃ r, R.length = r := ⟨_, rfl⟩
      obtain ⟨a', c', rfl⟩ : ∃ a' c', v' = .slice a' (m + r) c' := by
        obtain ⟨_, a', c', e', -⟩ := hgot.mvs
        rw [List.length_append, HL.out, hr] at e'
        exact ⟨a', c', e'⟩
      have HX : Hid ((V.take (k + 1)).flatMap f = os ++ R) := by
        show _ = _
        rw [HT.out, HO.out]
      have HL' : Hid ((os ++ R).length = m + r) := by
        show _ = _
        rw [List.length_append, HL.out, hr]
      have HRL : Hid (r ≤ 2) := Lib.hid (by omega)
      have HRUN := Lib.hid hrun
      have HG' := Lib.hid hgot
      obtain ⟨_, ay2, cy2, rfl, -⟩ := id hy2
      clear hrun hgot hb2 hb3 hwl hy2
      rw [hr] at HRUN
      have HR := Lib.hid hr
      rw [hr]
      clear hr
      go_wp2_with (at_builtin; refine Ap.wpList_append_run (by rfl) (.tmp 13) (.tmp 16) _ _ rfl _ _ rfl rfl _ w3 HRUN.out ?_)
      go_roundw
      case rel => exact ⟨k + 1, a', m + r, c', os ++ R, by omega, by have := HRL.out; omega, by go_num, rfl, HL', HX, HG', D3⟩
      case measure => simp [intOf]; omega
    · have HZ : Hid (V.flatMap f = os) := by
        have := HO.out
        rwa [List.take_of_length_le (by omega)] at this
      go_wp2_with fail
      go_ret
      exact ⟨_, rfl, by rw [HZ.out]; exact HG.out.mvs, D1.out.trans (HD.out.mono D1.out.size)⟩
end Go.Proofs.YtpingbiibbmcaaaGreat.Me

namespace Go.Proofs.YtpingbiibbmcaaaGreat.Me
open Go Go.RowKit Go.Proofs.YtpingbiibbmcaaaGreat.Rw Go.Proofs.YtpingbiibbmcaaaGreat.So Go.Proofs.YtpingbiibbmcaaaGreat.Se Go.Proofs.YtpingbiibbmcaaaGreat.Do
set_option maxRecDepth 20000

theorem mem_enR {l : List Nd} {m : Mv} : m ∈ enR l ↔ m.p ∈ av l ∧ m ∈ hw (kn l m.p) (fr l m.p) m.p := by
  unfold enR
  rw [List.mem_flatMap]
  constructor
  · rintro ⟨z, hz, hm⟩
    obtain rfl := (hw_up _ _ _).2 m hm
    exact ⟨hz, hm⟩
  · rintro ⟨hz, hm⟩
    exact ⟨m.p, hz, hm⟩
theorem bm_keep3 {w : World} {b : Nat} {m : Mv} (h : Bm w b m) : ∀ w', Below w.heap.size w w' → w'.cell? ⟨b, 0, none⟩ = some (.int .i64 m.p) ∧ w'.cell? ⟨b, 1, none⟩ = some (.int .i64 m.h) := fun _ hb => ⟨(h.below hb h.lt).cells.1, (h.below hb h.lt).cells.2.1⟩
/-- What each operation of the region yields. -/
def RIy (n0 c0 : Nat) (a0 : Option Addr) (mp mh : Int) (V : List Int) (R : List Mv) (y : Bool) (bM : Nat) (k : Nat) (v : Value) (w' : World) : Prop := match k with
  | 0 => v = .slice a0 n0 c0
  | 1 => Ints w' v V
  | 2 => v = .pointer (some ⟨bM, 0, none⟩)
  | 3 => v = .int .i64 mp
  | 4 => v = .bool true
  | 5 => v = .bool true
  | 6 => v = .slice a0 n0 c0
  | 7 => v = .pointer (some ⟨bM, 0, none⟩)
  | 8 => v = .int .i64 mp
  | 9 => Mvs w' v R
  | 10 => v = .agg #[.int .i64 mp, .int .i64 mh]
  | 11 => v = .bool y
  | 12 => v = .bool y
  | 13 => v = .bool y
  | _ => True
theorem RIy.below {n0 c0 : Nat} {a0 : Option Addr} {mp mh : Int} {V : List Int} {R : List Mv} {y : Bool} {bM : Nat} {k : Nat} {v : Value} {w w' : World} (h : RIy n0 c0 a0 mp mh V R y bM k v w) (hb : Below w.heap.size w w') : RIy n0 c0 a0 mp mh V R y bM k v w' := by
  unfold RIy at h ⊢
  split at h
  case h_2 => exact Ints.below h hb
  case h_10 => exact Mvs.below h hb
  all_goals exact h
set_option maxHeartbeats 4000000 in
theorem is_yes (n0 c0 : Nat) (a0 : Option Addr) (mp mh : Int) (V : List Int) (R : List Mv) (y : Bool) (w : World) (hA : ∀ w1, Below w.heap.size w w1 → Calls Tryz.prog 56 #[.slice a0 n0 c0] w1 fun e w' => ∃ y, e = .returned y ∧ Ints w' y V ∧ Below w1.heap.size w1 w') (hV : V.length ≤ 1000000) (hq : decide (mp ∈ V) = true)
    (hM : ∀ w1, Below w.heap.size w w1 → Calls Tryz.prog 57 #[.slice a0 n0 c0, .int .i64 mp] w1 fun e w' => ∃ y, e = .returned y ∧ Mvs w' y R ∧ Below w1.heap.size w1 w') (hR : R.length ≤ 1000000) (hy : decide ((⟨mp, mh⟩ : Mv) ∈ R) = y) : Calls Tryz.prog 58 #[.slice a0 n0 c0, .agg #[.int .i64 mp, .int .i64 mh]] w fun e w' => e = .returned (.bool y) ∧ Below w.heap.size w w' := by
  have HA := Lib.hid hA
  have HQ := Lib.hid (fun w1 v (h : Ints w1 v V) => hq ▸ Rx.has_any v V mp w1 h hV)
  have HM := Lib.hid hM
  have HR := Lib.hid (fun w1 v (h : Mvs w1 v R) => hy ▸ hasM_any v R ⟨mp, mh⟩ w1 h hR)
  have D4 := Lib.hid (below1 w (.cells #[.int .i64 mp, .int .i64 mh] 42))
  have CM := Lib.hid (bm_keep3 (Bm.new w ⟨mp, mh⟩))
  obtain ⟨bM, hbM⟩ : ∃ bM, w.heap.size = bM := ⟨_, rfl⟩
  obtain ⟨w4, hw4⟩ : ∃ w4, w.alloc (.cells #[.int .i64 mp, .int .i64 mh] 42) = w4 := ⟨_, rfl⟩
  change Hid (∀ w', Below (w.alloc (.cells #[.int .i64 mp, .int .i64 mh] 42)).heap.size (w.alloc (.cells #[.int .i64 mp, .int .i64 mh] 42)) w' → w'.cell? ⟨w.heap.size, 0, none⟩ = some (.int .i64 mp) ∧ w'.cell? ⟨w.heap.size, 1, none⟩ = some (.int .i64 mh)) at CM
  rw [hbM, hw4] at CM
  rw [hw4] at D4
  clear hA hV hq hM hR hy
  go_enter Tryz.func58, Tryz.ntmps58
  go_wp2_with fail
  clear hbM hw4
  refine Rg.wp_region_owes (by kernel_rfl) [(0, some 5), (1, some 6), (2, some 7), (3, some 8), (4, some 9), (5, some 10), (6, some 11), (7, some 12), (8, some 13), (9, some 14), (10, some 15), (11, some 16), (12, some 17), (13, some 4)] (by rfl) (by kernel_rfl) (by kernel_rfl) (fun w' => Below w4.heap.size w4 w') (RIy n0 c0 a0 mp mh V R y bM) (Below.refl _ _).drew ?_ (fun _ _ h hb => h.trans (hb.mono h.size)) (fun _ _ _ _ h hb => RIy.below h hb) ⟨⟨⟨⟨⟨⟨⟨⟨⟨⟨⟨⟨⟨⟨True.intro, ?_⟩, ?_⟩, ?_⟩, ?_⟩, ?_⟩, ?_⟩, ?_⟩, ?_⟩, ?_⟩, ?_⟩, ?_⟩, ?_⟩, ?_⟩, ?_⟩ ?_
  · intro k v w' hk
    unfold RIy
    split
    case h_15 => trivial
    all_goals exact absurd hk (by decide)
  · intro o ho us wl al ha hB D K hK
    obtain rfl := Option.some.inj ho
    have e0 : al.tmps[0]?.getD undef = .slice a0 n0 c0 := (Rg.e_out ha (by rfl)).trans rfl
    have HB := Lib.hid hB
    refine Rg.wpOp_of rfl rfl ?_
    clear ha D hB
    go_simp
    exact hK _ _ rfl (Below.refl _ _)
  · intro o ho us wl al ha hB D K hK
    obtain rfl := Option.some.inj ho
    have e5 := Rg.e_in (i := 0) (d := 5) ha (by rfl) (by simp) (by simp)
    have f0 : us 0 = .slice a0 n0 c0 := D ⟨0, .data⟩ (by simp) rfl
    have HB := Lib.hid hB
    refine Rg.wpOp_of rfl rfl ?_
    clear ha D hB
    go_simp
    refine (HA.out _ (D4.out.trans (HB.out.mono D4.out.size))).mono ?_
    rintro e wn ⟨y, rfl, hy, hb⟩
    exact hK _ _ hy hb
  · intro o ho us wl al ha hB D K hK
    obtain rfl := Option.some.inj ho
    have e3 : al.tmps[3]?.getD undef = .pointer (some ⟨bM, 0, none⟩) := (Rg.e_out ha (by rfl)).trans rfl
    have HB := Lib.hid hB
    refine Rg.wpOp_of rfl rfl ?_
    clear ha D hB
    go_simp
    exact hK _ _ rfl (Below.refl _ _)
  · intro o ho us wl al ha hB D K hK
    obtain rfl := Option.some.inj ho
    have e7 := Rg.e_in (i := 2) (d := 7) ha (by rfl) (by simp) (by simp)
    have f2 : us 2 = .pointer (some ⟨bM, 0, none⟩) := D ⟨2, .data⟩ (by simp) rfl
    obtain ⟨c0, c1⟩ := CM.out _ hB
    have HB := Lib.hid hB
    refine Rg.wpOp_of rfl rfl ?_
    clear ha D hB
    go_simp
    exact hK _ _ rfl (Below.refl _ _)
  · intro o ho us wl al ha hB D K hK
    obtain rfl := Option.some.inj ho
    have e6 := Rg.e_in (i := 1) (d := 6) ha (by rfl) (by simp) (by simp)
    have D1 : Hid (Ints wl (us 1) V) := D ⟨1, .data⟩ (by simp) rfl
    have e8 := Rg.e_in (i := 3) (d := 8) ha (by rfl) (by simp) (by simp)
    have f3 : us 3 = .int .i64 mp := D ⟨3, .data⟩ (by simp) rfl
    have HB := Lib.hid hB
    refine Rg.wpOp_of rfl rfl ?_
    clear ha D hB
    go_simp
    refine (HQ.out _ _ D1.out).mono ?_
    rintro e wn ⟨rfl, hb⟩
    exact hK _ _ rfl hb
  · intro o ho us wl al ha hB D K hK
    obtain rfl := Option.some.inj ho
    have e9 := Rg.e_in (i := 4) (d := 9) ha (by rfl) (by simp) (by simp)
    have f4 : us 4 = .bool true := D ⟨4, .data⟩ (by simp) rfl
    have HB := Lib.hid hB
    refine Rg.wpOp_of rfl rfl ?_
    clear ha D hB
    go_simp
    exact hK _ _ rfl (Below.refl _ _)
  · intro o ho us wl al ha hB D K hK
    obtain rfl := Option.some.inj ho
    have e0 : al.tmps[0]?.getD undef = .slice a0 n0 c0 := (Rg.e_out ha (by rfl)).trans rfl
    have HB := Lib.hid hB
    refine Rg.wpOp_of rfl (Rg.wanted_of rfl (Rg.yielded_of (d := 10) (by rfl) (Rg.g_in (d := 10) ha (by rfl) (by simp) (by simp) (D ⟨5, .guard⟩ (by simp) rfl : us 5 = .bool true)))) ?_
    clear ha D hB
    go_simp
    exact hK _ _ rfl (Below.refl _ _)
  · intro o ho us wl al ha hB D K hK
    obtain rfl := Option.some.inj ho
    have e3 : al.tmps[3]?.getD undef = .pointer (some ⟨bM, 0, none⟩) := (Rg.e_out ha (by rfl)).trans rfl
    have HB := Lib.hid hB
    refine Rg.wpOp_of rfl (Rg.wanted_of rfl (Rg.yielded_of (d := 10) (by rfl) (Rg.g_in (d := 10) ha (by rfl) (by simp) (by simp) (D ⟨5, .guard⟩ (by simp) rfl : us 5 = .bool true)))) ?_
    clear ha D hB
    go_simp
    exact hK _ _ rfl (Below.refl _ _)
  · intro o ho us wl al ha hB D K hK
    obtain rfl := Option.some.inj ho
    have e12 := Rg.e_in (i := 7) (d := 12) ha (by rfl) (by simp) (by simp)
    have f7 : us 7 = .pointer (some ⟨bM, 0, none⟩) := D ⟨7, .data⟩ (by simp) rfl
    obtain ⟨c0, c1⟩ := CM.out _ hB
    have HB := Lib.hid hB
    refine Rg.wpOp_of rfl (Rg.wanted_of rfl (Rg.yielded_of (d := 10) (by rfl) (Rg.g_in (d := 10) ha (by rfl) (by simp) (by simp) (D ⟨5, .guard⟩ (by simp) rfl : us 5 = .bool true)))) ?_
    clear ha D hB
    go_simp
    exact hK _ _ rfl (Below.refl _ _)
  · intro o ho us wl al ha hB D K hK
    obtain rfl := Option.some.inj ho
    have e11 := Rg.e_in (i := 6) (d := 11) ha (by rfl) (by simp) (by simp)
    have f6 : us 6 = .slice a0 n0 c0 := D ⟨6, .data⟩ (by simp) rfl
    have e13 := Rg.e_in (i := 8) (d := 13) ha (by rfl) (by simp) (by simp)
    have f8 : us 8 = .int .i64 mp := D ⟨8, .data⟩ (by simp) rfl
    have HB := Lib.hid hB
    refine Rg.wpOp_of rfl (Rg.wanted_of rfl (Rg.yielded_of (d := 10) (by rfl) (Rg.g_in (d := 10) ha (by rfl) (by simp) (by simp) (D ⟨5, .guard⟩ (by simp) rfl : us 5 = .bool true)))) ?_
    clear ha D hB
    go_simp
    refine (HM.out _ (D4.out.trans (HB.out.mono D4.out.size))).mono ?_
    rintro e wn ⟨y, rfl, hy, hb⟩
    exact hK _ _ hy hb
  · intro o ho us wl al ha hB D K hK
    obtain rfl := Option.some.inj ho
    have e3 : al.tmps[3]?.getD undef = .pointer (some ⟨bM, 0, none⟩) := (Rg.e_out ha (by rfl)).trans rfl
    obtain ⟨c0, c1⟩ := CM.out _ hB
    have HB := Lib.hid hB
    refine Rg.wpOp_of rfl (Rg.wanted_of rfl (Rg.yielded_of (d := 10) (by rfl) (Rg.g_in (d := 10) ha (by rfl) (by simp) (by simp) (D ⟨5, .guard⟩ (by simp) rfl : us 5 = .bool true)))) ?_
    clear ha D hB
    go_simp
    exact hK _ _ rfl (Below.refl _ _)
  · intro o ho us wl al ha hB D K hK
    obtain rfl := Option.some.inj ho
    have e14 := Rg.e_in (i := 9) (d := 14) ha (by rfl) (by simp) (by simp)
    have D9 : Hid (Mvs wl (us 9) R) := D ⟨9, .data⟩ (by simp) rfl
    have e15 := Rg.e_in (i := 10) (d := 15) ha (by rfl) (by simp) (by simp)
    have f10 : us 10 = .agg #[.int .i64 mp, .int .i64 mh] := D ⟨10, .data⟩ (by simp) rfl
    have HB := Lib.hid hB
    refine Rg.wpOp_of rfl (Rg.wanted_of rfl (Rg.yielded_of (d := 10) (by rfl) (Rg.g_in (d := 10) ha (by rfl) (by simp) (by simp) (D ⟨5, .guard⟩ (by simp) rfl : us 5 = .bool true)))) ?_
    clear ha D hB
    go_simp
    refine (HR.out _ _ D9.out).mono ?_
    rintro e wn ⟨rfl, hb⟩
    exact hK _ _ rfl hb
  · intro o ho us wl al ha hB D K hK
    obtain rfl := Option.some.inj ho
    have e10 := Rg.e_in (i := 5) (d := 10) ha (by rfl) (by simp) (by simp)
    have f5 : us 5 = .bool true := D ⟨5, .data⟩ (by simp) rfl
    have e16 := Rg.e_in (i := 11) (d := 16) ha (by rfl) (by simp) (by simp)
    have f11 : us 11 = .bool y := D ⟨11, .data⟩ (by simp) rfl
    have HB := Lib.hid hB
    refine Rg.wpOp_of rfl rfl ?_
    clear ha D hB
    go_simp
    exact hK _ _ rfl (Below.refl _ _)
  · intro o ho us wl al ha hB D K hK
    obtain rfl := Option.some.inj ho
    have e17 := Rg.e_in (i := 12) (d := 17) ha (by rfl) (by simp) (by simp)
    have f12 : us 12 = .bool y := D ⟨12, .data⟩ (by simp) rfl
    have HB := Lib.hid hB
    refine Rg.wpOp_of rfl rfl ?_
    clear ha D hB
    go_simp
    exact hK _ _ rfl (Below.refl _ _)
  · intro us wz hB hR
    have fz : us 13 = .bool y := hR 13
    have DZ := Lib.hid (D4.out.trans (hB.mono D4.out.size))
    clear hB hR
    simp only [Rg.puts, Act.put, List.setIfInBounds_toArray, List.set_cons_zero, List.set_cons_succ, fz]
    go_wp2_with fail
    go_ret
    exact ⟨rfl, DZ.out⟩
/-- What each operation of the region yields. -/
def RIn (n0 c0 : Nat) (a0 : Option Addr) (mp : Int) (V : List Int) (bM : Nat) (k : Nat) (v : Value) (w' : World) : Prop := match k with
  | 0 => v = .slice a0 n0 c0
  | 1 => Ints w' v V
  | 2 => v = .pointer (some ⟨bM, 0, none⟩)
  | 3 => v = .int .i64 mp
  | 4 => v = .bool false
  | 5 => v = .bool false
  | 6 => v = undef
  | 7 => v = undef
  | 8 => v = undef
  | 9 => v = undef
  | 10 => v = undef
  | 11 => v = undef
  | 12 => v = .bool false
  | 13 => v = .bool false
  | _ => True
theorem RIn.below {n0 c0 : Nat} {a0 : Option Addr} {mp : Int} {V : List Int} {bM : Nat} {k : Nat} {v : Value} {w w' : World} (h : RIn n0 c0 a0 mp V bM k v w) (hb : Below w.heap.size w w') : RIn n0 c0 a0 mp V bM k v w' := by
  unfold RIn at h ⊢
  split at h
  case h_2 => exact Ints.below h hb
  all_goals exact h
set_option maxHeartbeats 4000000 in
theorem is_no (n0 c0 : Nat) (a0 : Option Addr) (mp mh : Int) (V : List Int) (w : World) (hA : ∀ w1, Below w.heap.size w w1 → Calls Tryz.prog 56 #[.slice a0 n0 c0] w1 fun e w' => ∃ y, e = .returned y ∧ Ints w' y V ∧ Below w1.heap.size w1 w') (hV : V.length ≤ 1000000) (hq : decide (mp ∈ V) = false)
    : Calls Tryz.prog 58 #[.slice a0 n0 c0, .agg #[.int .i64 mp, .int .i64 mh]] w fun e w' => e = .returned (.bool false) ∧ Below w.heap.size w w' := by
  have HA := Lib.hid hA
  have HQ := Lib.hid (fun w1 v (h : Ints w1 v V) => hq ▸ Rx.has_any v V mp w1 h hV)
  have D4 := Lib.hid (below1 w (.cells #[.int .i64 mp, .int .i64 mh] 42))
  have CM := Lib.hid (bm_keep3 (Bm.new w ⟨mp, mh⟩))
  obtain ⟨bM, hbM⟩ : ∃ bM, w.heap.size = bM := ⟨_, rfl⟩
  obtain ⟨w4, hw4⟩ : ∃ w4, w.alloc (.cells #[.int .i64 mp, .int .i64 mh] 42) = w4 := ⟨_, rfl⟩
  change Hid (∀ w', Below (w.alloc (.cells #[.int .i64 mp, .int .i64 mh] 42)).heap.size (w.alloc (.cells #[.int .i64 mp, .int .i64 mh] 42)) w' → w'.cell? ⟨w.heap.size, 0, none⟩ = some (.int .i64 mp) ∧ w'.cell? ⟨w.heap.size, 1, none⟩ = some (.int .i64 mh)) at CM
  rw [hbM, hw4] at CM
  rw [hw4] at D4
  clear hA hV hq
  go_enter Tryz.func58, Tryz.ntmps58
  go_wp2_with fail
  clear hbM hw4
  refine Rg.wp_region_owes (by kernel_rfl) [(0, some 5), (1, some 6), (2, some 7), (3, some 8), (4, some 9), (5, some 10), (6, some 11), (7, some 12), (8, some 13), (9, some 14), (10, some 15), (11, some 16), (12, some 17), (13, some 4)] (by rfl) (by kernel_rfl) (by kernel_rfl) (fun w' => Below w4.heap.size w4 w') (RIn n0 c0 a0 mp V bM) (Below.refl _ _).drew ?_ (fun _ _ h hb => h.trans (hb.mono h.size)) (fun _ _ _ _ h hb => RIn.below h hb) ⟨⟨⟨⟨⟨⟨⟨⟨⟨⟨⟨⟨⟨⟨True.intro, ?_⟩, ?_⟩, ?_⟩, ?_⟩, ?_⟩, ?_⟩, ?_⟩, ?_⟩, ?_⟩, ?_⟩, ?_⟩, ?_⟩, ?_⟩, ?_⟩ ?_
  · intro k v w' hk
    unfold RIn
    split
    case h_15 => trivial
    all_goals exact absurd hk (by decide)
  · intro o ho us wl al ha hB D K hK
    obtain rfl := Option.some.inj ho
    have e0 : al.tmps[0]?.getD undef = .slice a0 n0 c0 := (Rg.e_out ha (by rfl)).trans rfl
    have HB := Lib.hid hB
    refine Rg.wpOp_of rfl rfl ?_
    clear ha D hB
    go_simp
    exact hK _ _ rfl (Below.refl _ _)
  · intro o ho us wl al ha hB D K hK
    obtain rfl := Option.some.inj ho
    have e5 := Rg.e_in (i := 0) (d := 5) ha (by rfl) (by simp) (by simp)
    have f0 : us 0 = .slice a0 n0 c0 := D ⟨0, .data⟩ (by simp) rfl
    have HB := Lib.hid hB
    refine Rg.wpOp_of rfl rfl ?_
    clear ha D hB
    go_simp
    refine (HA.out _ (D4.out.trans (HB.out.mono D4.out.size))).mono ?_
    rintro e wn ⟨y, rfl, hy, hb⟩
    exact hK _ _ hy hb
  · intro o ho us wl al ha hB D K hK
    obtain rfl := Option.some.inj ho
    have e3 : al.tmps[3]?.getD undef = .pointer (some ⟨bM, 0, none⟩) := (Rg.e_out ha (by rfl)).trans rfl
    have HB := Lib.hid hB
    refine Rg.wpOp_of rfl rfl ?_
    clear ha D hB
    go_simp
    exact hK _ _ rfl (Below.refl _ _)
  · intro o ho us wl al ha hB D K hK
    obtain rfl := Option.some.inj ho
    have e7 := Rg.e_in (i := 2) (d := 7) ha (by rfl) (by simp) (by simp)
    have f2 : us 2 = .pointer (some ⟨bM, 0, none⟩) := D ⟨2, .data⟩ (by simp) rfl
    obtain ⟨c0, c1⟩ := CM.out _ hB
    have HB := Lib.hid hB
    refine Rg.wpOp_of rfl rfl ?_
    clear ha D hB
    go_simp
    exact hK _ _ rfl (Below.refl _ _)
  · intro o ho us wl al ha hB D K hK
    obtain rfl := Option.some.inj ho
    have e6 := Rg.e_in (i := 1) (d := 6) ha (by rfl) (by simp) (by simp)
    have D1 : Hid (Ints wl (us 1) V) := D ⟨1, .data⟩ (by simp) rfl
    have e8 := Rg.e_in (i := 3) (d := 8) ha (by rfl) (by simp) (by simp)
    have f3 : us 3 = .int .i64 mp := D ⟨3, .data⟩ (by simp) rfl
    have HB := Lib.hid hB
    refine Rg.wpOp_of rfl rfl ?_
    clear ha D hB
    go_simp
    refine (HQ.out _ _ D1.out).mono ?_
    rintro e wn ⟨rfl, hb⟩
    exact hK _ _ rfl hb
  · intro o ho us wl al ha hB D K hK
    obtain rfl := Option.some.inj ho
    have e9 := Rg.e_in (i := 4) (d := 9) ha (by rfl) (by simp) (by simp)
    have f4 : us 4 = .bool false := D ⟨4, .data⟩ (by simp) rfl
    have HB := Lib.hid hB
    refine Rg.wpOp_of rfl rfl ?_
    clear ha D hB
    go_simp
    exact hK _ _ rfl (Below.refl _ _)
  · intro o ho us wl al ha hB D K hK
    obtain rfl := Option.some.inj ho
    refine Rg.wpOp_off rfl (Rg.unwanted_of (b := true) rfl (Rg.yielded_of (d := 10) (by rfl) (Rg.g_in (d := 10) ha (by rfl) (by simp) (by simp) (D ⟨5, .guard⟩ (by simp) rfl : us 5 = .bool false)))) ?_
    exact hK _ _ rfl (Below.refl _ _)
  · intro o ho us wl al ha hB D K hK
    obtain rfl := Option.some.inj ho
    refine Rg.wpOp_off rfl (Rg.unwanted_of (b := true) rfl (Rg.yielded_of (d := 10) (by rfl) (Rg.g_in (d := 10) ha (by rfl) (by simp) (by simp) (D ⟨5, .guard⟩ (by simp) rfl : us 5 = .bool false)))) ?_
    exact hK _ _ rfl (Below.refl _ _)
  · intro o ho us wl al ha hB D K hK
    obtain rfl := Option.some.inj ho
    refine Rg.wpOp_off rfl (Rg.unwanted_of (b := true) rfl (Rg.yielded_of (d := 10) (by rfl) (Rg.g_in (d := 10) ha (by rfl) (by simp) (by simp) (D ⟨5, .guard⟩ (by simp) rfl : us 5 = .bool false)))) ?_
    exact hK _ _ rfl (Below.refl _ _)
  · intro o ho us wl al ha hB D K hK
    obtain rfl := Option.some.inj ho
    refine Rg.wpOp_off rfl (Rg.unwanted_of (b := true) rfl (Rg.yielded_of (d := 10) (by rfl) (Rg.g_in (d := 10) ha (by rfl) (by simp) (by simp) (D ⟨5, .guard⟩ (by simp) rfl : us 5 = .bool false)))) ?_
    exact hK _ _ rfl (Below.refl _ _)
  · intro o ho us wl al ha hB D K hK
    obtain rfl := Option.some.inj ho
    refine Rg.wpOp_off rfl (Rg.unwanted_of (b := true) rfl (Rg.yielded_of (d := 10) (by rfl) (Rg.g_in (d := 10) ha (by rfl) (by simp) (by simp) (D ⟨5, .guard⟩ (by simp) rfl : us 5 = .bool false)))) ?_
    exact hK _ _ rfl (Below.refl _ _)
  · intro o ho us wl al ha hB D K hK
    obtain rfl := Option.some.inj ho
    refine Rg.wpOp_off rfl (Rg.unwanted_of (b := true) rfl (Rg.yielded_of (d := 10) (by rfl) (Rg.g_in (d := 10) ha (by rfl) (by simp) (by simp) (D ⟨5, .guard⟩ (by simp) rfl : us 5 = .bool false)))) ?_
    exact hK _ _ rfl (Below.refl _ _)
  · intro o ho us wl al ha hB D K hK
    obtain rfl := Option.some.inj ho
    have e10 := Rg.e_in (i := 5) (d := 10) ha (by rfl) (by simp) (by simp)
    have f5 : us 5 = .bool false := D ⟨5, .data⟩ (by simp) rfl
    have e16 := Rg.e_in (i := 11) (d := 16) ha (by rfl) (by simp) (by simp)
    have f11 : us 11 = undef := D ⟨11, .data⟩ (by simp) rfl
    have HB := Lib.hid hB
    refine Rg.wpOp_of rfl rfl ?_
    clear ha D hB
    go_simp
    exact hK _ _ rfl (Below.refl _ _)
  · intro o ho us wl al ha hB D K hK
    obtain rfl := Option.some.inj ho
    have e17 := Rg.e_in (i := 12) (d := 17) ha (by rfl) (by simp) (by simp)
    have f12 : us 12 = .bool false := D ⟨12, .data⟩ (by simp) rfl
    have HB := Lib.hid hB
    refine Rg.wpOp_of rfl rfl ?_
    clear ha D hB
    go_simp
    exact hK _ _ rfl (Below.refl _ _)
  · intro us wz hB hR
    have fz : us 13 = .bool false := hR 13
    have DZ := Lib.hid (D4.out.trans (hB.mono D4.out.size))
    clear hB hR
    simp only [Rg.puts, Act.put, List.setIfInBounds_toArray, List.set_cons_zero, List.set_cons_succ, fz]
    go_wp2_with fail
    go_ret
    exact ⟨rfl, DZ.out⟩
/-- The program's Is. -/
theorem isP_any (v : Value) (l : List Nd) (m : Mv) (w : World) (hv : Nds w v l) (hl : l.length ≤ 1000) (hm : Nms l) :
    Calls Tryz.prog 58 #[v, mvV m] w fun e w' => e = .returned (.bool (decide (m ∈ enR l))) ∧ Below w.heap.size w w' := by
  have hA := fun w1 (hb : Below w.heap.size w w1) => actP_any v l w1 (hv.below hb) hl hm
  have hV : (av l).length ≤ 1000000 := Nat.le_trans (av_len l) (by omega)
  obtain ⟨_, a0, c0, rfl, -⟩ := id hv
  obtain ⟨mp, mh⟩ := m
  by_cases hz : mp ∈ av l
  · rw [show decide ((⟨mp, mh⟩ : Mv) ∈ enR l) = decide ((⟨mp, mh⟩ : Mv) ∈ hw (kn l mp) (fr l mp) mp) from decide_eq_decide.2 (mem_enR.trans ⟨fun h => h.2, fun h => ⟨hz, h⟩⟩)]
    exact is_yes _ c0 a0 mp mh _ _ _ w hA hV (decide_eq_true hz) (fun w1 hb => movesAt_any _ l mp w1 (hv.below hb) hl hm hz) (Nat.le_trans (hw_len _ _ _) (by omega)) rfl
  · rw [show decide ((⟨mp, mh⟩ : Mv) ∈ enR l) = false from decide_eq_false fun h => hz (mem_enR.1 h).1]
    exact is_no _ c0 a0 mp mh _ w hA hV (decide_eq_false hz)
end Go.Proofs.YtpingbiibbmcaaaGreat.Me

namespace Go.Proofs.YtpingbiibbmcaaaGreat.Me
open Go Go.RowKit Go.Proofs.YtpingbiibbmcaaaGreat.Rw Go.Proofs.YtpingbiibbmcaaaGreat.So Go.Proofs.YtpingbiibbmcaaaGreat.Se Go.Proofs.YtpingbiibbmcaaaGreat.Do
set_option maxRecDepth 20000

set_option maxHeartbeats 1000000 in
theorem roundP_any (n : Int) (m : Nat) (w : World) (h0 : 0 < m) (hm : m ≤ 1000000) :
    Calls Tryz.prog 39 #[.int .i64 n, .int .i64 (m : Int)] w fun e w' => e = .returned (.int .i64 (nr n m : Nat)) ∧ w = w' := by
  have ht := nr_tmod (n := n) h0
  have hlt := nr_lt (n := n) h0
  obtain ⟨k, hk⟩ : ∃ k, nr n m = k := ⟨_, rfl⟩
  rw [hk] at ht hlt ⊢
  have hm3 : ((m : Int) == 0) = false := by rw [beq_eq_false_iff_ne]; omega
  have hm4 : (m : Int) ≠ 0 := by omega
  obtain ⟨r, hr⟩ : ∃ r, n.tmod (m : Int) = r := ⟨_, rfl⟩
  rw [hr] at ht
  have HR : Hid (n.tmod (m : Int) = r) := Lib.hid hr
  clear hk hr
  by_cases hneg : r < 0
  · rw [if_pos hneg] at ht
    have hw : Hid (wrap64 (n.tmod (m : Int) + m) = (k : Int)) := Lib.hid (by rw [HR.out, ← ht]; unfold wrap64; omega)
    have g1 : n.tmod (m : Int) < 0 := by rw [HR.out]; exact hneg
    clear ht hneg
    go_enter Tryz.func39, Tryz.ntmps39
    go_wp2_with fail
    go_ret
    exact ⟨ret_int hw.out, rfl⟩
  · rw [if_neg hneg] at ht
    have hw : Hid (n.tmod (m : Int) = (k : Int)) := Lib.hid (by rw [HR.out, ← ht])
    have g1 : ¬ n.tmod (m : Int) < 0 := by rw [HR.out]; exact hneg
    clear ht hneg
    go_enter Tryz.func39, Tryz.ntmps39
    go_wp2_with fail
    go_ret
    exact ⟨ret_int hw.out, rfl⟩
set_option maxHeartbeats 2000000 in
theorem pickP_any (v : Value) (l : List Nd) (n : Int) (w : World) (hv : Nds w v l) (hl : l.length ≤ 1000) (hm : Nms l) (_hn : In64 n) :
    Calls Tryz.prog 18 #[v, .int .i64 n] w fun e w' => e = .returned (.tuple #[mvV (pkM l n), .int .i64 (pkE l)]) ∧ Below w.heap.size w w' := by
  have DB := Lib.hid (below1 w (.cells #[.int .i64 0, .int .i64 0] 42))
  have HA := Lib.hid (fun w1 (hb : Below w.heap.size w w1) => enabledP_any v l w1 (hv.below hb) hl hm)
  have hvl : (enR l).length ≤ 2000 := Nat.le_trans (enR_len l) (by omega)
  have B0 := Lib.hid (Bm.new w ⟨0, 0⟩)
  have HSZ : Hid ((w.alloc (.cells #[.int .i64 0, .int .i64 0] 42)).heap.size = w.heap.size + 1) := Lib.hid (by simp)
  obtain ⟨_, a, c, rfl, -⟩ := id hv
  unfold pkM pkE
  generalize enR l = V at HA hvl ⊢
  clear hv hm
  by_cases h0 : V.length = 0
  · obtain rfl : V = [] := List.eq_nil_of_length_eq_zero h0
    clear hvl h0
    go_enter Tryz.func18, Tryz.ntmps18
    go_wp2_with fail
    refine (HA.out _ DB.out).mono ?_
    rintro e w1 ⟨y, rfl, hi, hb1⟩
    rw [HSZ.out] at hb1
    have B1 := Lib.hid (B0.out.below hb1 (Nat.lt_succ_self _))
    have D1 := Lib.hid (DB.out.trans (hb1.mono (Nat.le_succ _)))
    obtain ⟨k1, k2, k3, k4⟩ := B1.out.cells
    obtain ⟨_, ay, cy, rfl, -⟩ := id hi
    clear hb1 hi
    go_wp2_with fail
    refine ret_mv rfl rfl rfl (B1.out.put ⟨0, 0⟩) rfl ⟨rfl, ?_⟩
    exact Rx.below_setCell (Rx.below_setCell D1.out _ _ _ (Nat.le_refl _)) _ _ _ (Nat.le_refl _)
  · have hk := nr_lt (n := n) (m := V.length) (by omega)
    have HRD := Lib.hid (fun w => roundP_any n V.length w (by omega) (by omega))
    obtain ⟨k, hk2⟩ : ∃ k, nr n V.length = k := ⟨_, rfl⟩
    rw [hk2] at hk HRD ⊢
    have HX : Hid (V[k]?.getD ⟨0, 0⟩ = V[k] ∧ (if V.length = 0 then (120 : Int) else 0) = 0) := Lib.hid ⟨by rw [List.getElem?_eq_getElem hk]; rfl, if_neg h0⟩
    have HAT := Lib.hid (fun (w' : World) (y : Value) (h : Mvs w' y V) => h.form)
    rw [HX.out.1, HX.out.2]
    obtain ⟨x, hx⟩ : ∃ x, V[k] = x := ⟨_, rfl⟩
    have HXV : Hid (∀ h : k < V.length, V[k] = x) := Lib.hid fun _ => hx
    rw [hx]
    obtain ⟨m, hm2⟩ : ∃ m, V.length = m := ⟨_, rfl⟩
    rw [hm2] at hk h0 hvl HRD
    have HM := Lib.hid hm2
    have hm3 : ((m : Int) == 0) = false := by rw [beq_eq_false_iff_ne]; omega
    clear HX hx hm2 hk2
    go_enter Tryz.func18, Tryz.ntmps18
    go_wp2_with fail
    refine (HA.out _ DB.out).mono ?_
    rintro e w1 ⟨y, rfl, hi, hb1⟩
    rw [HSZ.out] at hb1
    have B1 := Lib.hid (B0.out.below hb1 (Nat.lt_succ_self _))
    have D1 := Lib.hid (DB.out.trans (hb1.mono (Nat.le_succ _)))
    obtain ⟨k1, k2, k3, k4⟩ := B1.out.cells
    rcases HAT.out _ _ hi with ⟨e0, _⟩ | ⟨b4, o4, c4, rfl, _, hat4⟩
    · exact absurd (by rw [← HM.out, e0]; rfl) h0
    rw [HM.out]
    obtain ⟨q4, q5⟩ := hat4 k (by rw [HM.out]; exact hk)
    rw [HXV.out] at q4 q5
    clear hb1 hi hat4
    go_wp2_with fail
    refine (HRD.out _).mono ?_
    rintro e w2 ⟨rfl, rfl⟩
    go_wp2_with fail
    refine ret_mv rfl rfl rfl (B1.out.put x) rfl ⟨rfl, ?_⟩
    exact Rx.below_setCell (Rx.below_setCell D1.out _ _ _ (Nat.le_refl _)) _ _ _ (Nat.le_refl _)
end Go.Proofs.YtpingbiibbmcaaaGreat.Me
