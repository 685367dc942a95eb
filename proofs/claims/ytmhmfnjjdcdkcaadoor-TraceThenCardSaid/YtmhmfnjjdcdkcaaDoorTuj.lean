/- The program's Par, and all contracts of package trace together. -/
import Derived.Test.YtmhmfnjjdcdkcaaDoorTuh
import Derived.Laws.EntriesVeiled
import Derived.Test.YtmhmfnjjdcdkcaaDoorTub
namespace Go.Proofs.YtmhmfnjjdcdkcaaDoor.Tr
open Go Go.RowKit
set_option maxRecDepth 20000

/-- Mix's own blocks, as the closure finds them. -/
theorem in_start {w wS : World} {D Lb : Nat} {x y : Value} {a b : List ByteArray} (hx : Strs w x a) (hy : Strs w y b) (h9 : a.length + b.length ≤ 9) (hS : Below w.heap.size w wS)
    (cL : wS.cell? ⟨w.heap.size, 0, none⟩ = some (.int .i64 ((a.length + b.length : Nat) : Int))) (cR : wS.cell? ⟨w.heap.size + 1, 0, none⟩ = some (.slice none 0 0)) (fR : wS.frozen? ⟨w.heap.size + 1, 0, none⟩ = false)
    (cM : wS.cell? ⟨w.heap.size + 1 + 1, 0, none⟩ = some (.func (.func 48) #[] #[.pointer (some ⟨w.heap.size, 0, none⟩), .pointer (some ⟨w.heap.size + 1 + 1, 0, none⟩), .pointer (some ⟨w.heap.size + 1, 0, none⟩)]))
    (hD : ∃ cur : Array Value, wS.heap[D]? = some (.cells cur 9 (0, 0)) ∧ cur.size = a.length + b.length) (hD3 : w.heap.size + 2 < D)
    (l0 : wS.cell? ⟨Lb, 0, none⟩ = some x) (l1 : wS.cell? ⟨Lb, 1, none⟩ = some y) (hL3 : w.heap.size + 2 < Lb) (hLD : Lb ≠ D) :
    In w.heap.size D w.heap.size (w.heap.size + 1 + 1) (w.heap.size + 1) (a.length + b.length) (a.length + b.length) a b wS (.slice none 0 0) (.slice (some ⟨Lb, 0, none⟩) 1 1) [] [(a, b)] [] := by
  have hno : ∀ b : Nat, some b ≠ (Value.slice none 0 0).ownBlock := fun b e => by cases e
  have hOk : ∀ v l, Strs w v l → StrsO (Ok D (w.heap.size + 1) (.slice none 0 0)) wS v l := fun v l h => Ap.RdO.below (Ap.RdO.imp (Ap.RdO.of (by omega) h) fun b hb _ => ⟨by omega, by omega, hno b⟩) hS
  obtain ⟨cur, hc1, hc2⟩ := hD
  refine ⟨⟨cL, cM⟩, ⟨cR, fR, [], ⟨rfl, .inl ⟨rfl, rfl⟩⟩, trivial⟩, ⟨cur, hc1, hc2, Nat.zero_le _, fun j hj => by simp at hj⟩, ⟨⟨⟨by omega, by omega, hno _⟩, ⟨by omega, by omega, hno _⟩⟩, by omega, hno _, hno _, by omega, by omega⟩, ?_, ?_, by simp, ?_, by simp, h9, hS.size⟩
  · refine ⟨[x, y], ⟨rfl, _, 1, rfl, Nat.le_refl _, fun h => (by cases h), fun _ => ⟨Lb, 0, rfl, ⟨by omega, hLD, hno _⟩, Ap.cell_lt l0, fun j u hu => ?_⟩⟩, hOk _ _ hx, hOk _ _ hy, trivial⟩
    match j, hu with
    | 0, hu => simp at hu; subst hu; exact l0
    | 1, hu => simp at hu; subst hu; exact l1
    | j + 2, hu => simp at hu
  · intro q hq
    simp at hq
    subst hq
    exact ⟨List.suffix_refl _, List.suffix_refl _, rfl⟩
  · have : 2 ^ (a.length + b.length) ≤ 2 ^ 9 := Nat.pow_le_pow_right (by omega) h9
    simp
    omega

theorem size3 (w : World) (x y z : Obj) : (((w.alloc x).alloc y).alloc z).heap.size = w.heap.size + 1 + 1 + 1 := by simp
theorem below5 (w : World) (x y z u v : Obj) : Below w.heap.size w (((((w.alloc x).alloc y).alloc z).alloc u).alloc v).drew := ((belowx4 w x y z u).alloc (by simp; omega) v).drew
theorem heap_new4 (w : World) (x y z u v : Obj) : (((((w.alloc x).alloc y).alloc z).alloc u).alloc v).drew.heap[w.heap.size + 1 + 1 + 1]? = some u := by
  show (((((w.alloc x).alloc y).alloc z).alloc u).alloc v).heap[w.heap.size + 1 + 1 + 1]? = some u
  rw [Below.heap_alloc _ _ _ (by simp), ← size3 w x y z]
  exact heap_newS _ _
theorem heap_new5 (w : World) (x y z u v : Obj) : (((((w.alloc x).alloc y).alloc z).alloc u).alloc v).drew.heap[w.heap.size + 1 + 1 + 1 + 1]? = some v := by
  show (((((w.alloc x).alloc y).alloc z).alloc u).alloc v).heap[w.heap.size + 1 + 1 + 1 + 1]? = some v
  rw [show w.heap.size + 1 + 1 + 1 + 1 = ((((w.alloc x).alloc y).alloc z).alloc u).heap.size by simp]
  exact heap_newS _ _
/-- What the closure tells Mix. -/
theorem mix_told {w wS : World} {D L0 M0 R0 n : Nat} {a b : List ByteArray} {lv : Value} (hn : a.length + b.length = n) (hS : Below w.heap.size w wS) (h : In w.heap.size D L0 M0 R0 n n a b wS (.slice none 0 0) lv [] [(a, b)] []) (hR : w.heap.size ≤ R0) (hD : w.heap.size ≤ D) :
    Calls Tryd.prog 48 #[.slice (some ⟨D, 0, none⟩) 0 n, lv, .pointer (some ⟨L0, 0, none⟩), .pointer (some ⟨M0, 0, none⟩), .pointer (some ⟨R0, 0, none⟩)] wS fun e w' => e = .returned (.tuple #[]) ∧ ∃ rv', w'.cell? ⟨R0, 0, none⟩ = some rv' ∧ Rws w' rv' (mix a b) ∧ Below w.heap.size w w' ∧ Env L0 M0 R0 n w' := by
  have h9 : 9 ^ n ≤ 9 ^ 9 := Nat.pow_le_pow_right (by omega) h.n9
  have hn9 := h.n9
  refine (mix1_any w.heap.size D L0 M0 R0 n a b hn n wS _ _ 0 [] [(a, b)] [] rfl h (by simp; omega)).mono ?_
  rintro e w' ⟨rfl, rv', L, g1, ⟨c1, _, cs, c2, c3⟩, _, g4, _⟩
  refine ⟨rfl, rv', c1, ?_, g4.bel hS hS.size hR hD (fun k hk => by cases hk), h.env.fr h.fx g4⟩
  have e1 : [] ++ L.map (([] : List ByteArray) ++ ·) = mix a b := by
    rw [← good_mix hn (by omega) g1]
    simp
  rw [e1] at c2 c3
  exact rws_of c2 c3

set_option maxHeartbeats 4000000 in
theorem mixT_any (x y : Value) (a b : List ByteArray) (w : World) (hx : Strs w x a) (hy : Strs w y b) (h9 : a.length + b.length ≤ 9) :
    Calls Tryd.prog 27 #[x, y] w (MixPost (mix a b) w) := by
  have HX := Lib.hid hx
  have HY := Lib.hid hy
  obtain ⟨_, ax, cx, rfl, -⟩ := hx
  obtain ⟨_, ay, cy, rfl, -⟩ := hy
  unfold MixPost
  obtain ⟨n, hn⟩ : ∃ n, a.length + b.length = n := ⟨_, rfl⟩
  have hcast : (a.length : Int) + (b.length : Int) = (n : Int) := by omega
  obtain ⟨MC, hMC, hmk⟩ : ∃ MC : Array Value, MC.size = n ∧ ∀ W : World, Sem.run Tryd.prog (Instr.makeSlice 22 (.int .i64 0) (.int .i64 ((a.length : Int) + (b.length : Int)))) W = .ok (.slice (some ⟨W.heap.size, 0, none⟩) 0 n) (W.alloc (.cells MC 9)) := by
    obtain ⟨i0, hi, hz, hs1, hb8⟩ := info_parts infoS
    refine ⟨madeCells (Value.string ⟨#[]⟩).cells n, by simp [madeCells], fun W => ?_⟩
    have hr := run_make (P := Tryd.prog) W 22 9 i0 _ Tryd.underlying22 hi hz .i64 .i64 0 (n : Int) (by omega) (by omega) (by rw [hb8]; omega) (by omega)
    rw [hcast]
    simp only [Int.toNat_natCast, hs1, Nat.mul_one] at hr
    exact hr
  have HN := Lib.hid hn
  have HMC := Lib.hid hMC
  have HCA := Lib.hid hcast
  have B5 := Lib.hid (below5 w)
  have HA : Hid (∀ D Lb : Nat, ∀ wS : World, Below w.heap.size w wS → wS.cell? ⟨w.heap.size, 0, none⟩ = some (.int .i64 ((a.length : Int) + (b.length : Int))) → wS.cell? ⟨w.heap.size + 1, 0, none⟩ = some (.slice none 0 0) → wS.frozen? ⟨w.heap.size + 1, 0, none⟩ = false →
      wS.cell? ⟨w.heap.size + 1 + 1, 0, none⟩ = some (.func (.func 48) #[] #[.pointer (some ⟨w.heap.size, 0, none⟩), .pointer (some ⟨w.heap.size + 1 + 1, 0, none⟩), .pointer (some ⟨w.heap.size + 1, 0, none⟩)]) → wS.heap[D]? = some (.cells MC 9 (0, 0)) → w.heap.size + 2 < D → wS.cell? ⟨Lb, 0, none⟩ = some (.slice ax a.length cx) → wS.cell? ⟨Lb, 1, none⟩ = some (.slice ay b.length cy) → w.heap.size + 2 < Lb → Lb ≠ D →
      Calls Tryd.prog 48 #[.slice (some ⟨D, 0, none⟩) 0 n, .slice (some ⟨Lb, 0, none⟩) 1 1, .pointer (some ⟨w.heap.size, 0, none⟩), .pointer (some ⟨w.heap.size + 1 + 1, 0, none⟩), .pointer (some ⟨w.heap.size + 1, 0, none⟩)] wS fun e w' => e = .returned (.tuple #[]) ∧ ∃ rv', w'.cell? ⟨w.heap.size + 1, 0, none⟩ = some rv' ∧ Rws w' rv' (mix a b) ∧ Below w.heap.size w w' ∧ Env w.heap.size (w.heap.size + 1 + 1) (w.heap.size + 1) n w') := Lib.hid fun D Lb wS hS cL cR fR cM hD hD3 l0 l1 hL3 hLD => by
    have hin := in_start (D := D) (Lb := Lb) HX.out HY.out h9 hS (by rw [cL, ← HCA.out.symm]; exact congrArg some (congrArg _ (by omega))) cR fR cM ⟨MC, hD, by rw [HMC.out, HN.out]⟩ hD3 l0 l1 hL3 hLD
    rw [HN.out] at hin
    exact mix_told HN.out hS hin (by omega) (by omega)
  obtain ⟨ml, hml⟩ : ∃ ml, mix a b = ml := ⟨_, rfl⟩
  rw [hml] at HA ⊢
  clear hml hn hMC hcast
  go_enter Tryd.func27, Tryd.ntmps27
  go_wp2_with fail
  go_region_held3 (fun w' => w'.cell? ⟨w.heap.size, 0, none⟩ = some (.int .i64 ((a.length : Int) + (b.length : Int))) ∧ w'.cell? ⟨w.heap.size + 1 + 1, 0, none⟩ = some (.func (.func 48) #[] #[.pointer (some ⟨w.heap.size, 0, none⟩), .pointer (some ⟨w.heap.size + 1 + 1, 0, none⟩), .pointer (some ⟨w.heap.size + 1, 0, none⟩)])) (first | (simp [go_sem]; done) | exact kz | fail) (first
    | (go_at_call 48
       first
         | (with_reducible refine (HA.out (w.heap.size + 1 + 1 + 1) (w.heap.size + 1 + 1 + 1 + 1) _ (B5.out _ _ _ _ _) ?q1 ?q2 ?q3 ?q4 (heap_new4 _ _ _ _ _ _) (by omega) ?q5 ?q6 (by omega) (by omega)).mono ?_)
         | (with_reducible refine (HA.out (w.heap.size + 1 + 1 + 1 + 1) (w.heap.size + 1 + 1 + 1) _ (B5.out _ _ _ _ _) ?q1 ?q2 ?q3 ?q4 (heap_new5 _ _ _ _ _ _) (by omega) ?q5 ?q6 (by omega) (by omega)).mono ?_)
       case q1 => simp [go_sem]
       case q2 => simp [go_sem]
       case q3 => simp [go_sem]
       case q4 => simp [go_sem]
       case q5 => simp [go_sem]
       case q6 => simp [go_sem]
       rintro e wz ⟨rfl, rvz, z1, z2, z3, z4⟩
       have kz : wz.cell? ⟨w.heap.size, 0, none⟩ = some (.int .i64 ((a.length : Int) + (b.length : Int))) ∧ wz.cell? ⟨w.heap.size + 1 + 1, 0, none⟩ = some (.func (.func 48) #[] #[.pointer (some ⟨w.heap.size, 0, none⟩), .pointer (some ⟨w.heap.size + 1 + 1, 0, none⟩), .pointer (some ⟨w.heap.size + 1, 0, none⟩)]) := ⟨by rw [HCA.out]; exact z4.1, z4.2⟩
       have Z2 := Lib.hid z2
       have Z3 := Lib.hid z3
       clear z2 z3 z4)
    | fail)
  all_goals (
    obtain ⟨az, cz, rfl, _⟩ := Z2.out.val
    go_wp2_with fail
    go_ret
    exact ⟨_, rfl, Z2.out, Z3.out⟩)
end Go.Proofs.YtmhmfnjjdcdkcaaDoor.Tr

namespace Go.Proofs.YtmhmfnjjdcdkcaaDoor.Tr
open Go Go.RowKit
set_option maxRecDepth 20000

set_option maxHeartbeats 4000000 in
theorem parT_any (v1 v2 : Value) (p q : Tr) (w : World) (h1 : Strs w v1 p.a) (h2 : Strs w v2 q.a) (hlen : p.a.length + q.a.length ≤ 9) :
    Calls Tryd.prog 31 #[.agg #[v1, .int .i64 p.e], .agg #[v2, .int .i64 q.e]] w (SetPost (pr p q) w) := by
  have HB := Lib.hid (below2 w)
  have MT := Lib.hid (fun x y => mixT_any v1 v2 p.a q.a ((w.alloc x).alloc y) (h1.below (HB.out x y)) (h2.below (HB.out x y)) hlen)
  obtain ⟨_, a1, c1, rfl, -⟩ := h1
  obtain ⟨_, a2, c2, rfl, -⟩ := h2
  have hpr := mix_pr p q (by omega)
  have hml := mix_len p.a q.a
  obtain ⟨b, hbb⟩ : ∃ b, Sg.both p.e q.e = b := ⟨_, rfl⟩
  obtain ⟨rs, hrs⟩ : ∃ rs, mix p.a q.a = rs := ⟨_, rfl⟩
  rw [hbb, hrs] at hpr
  rw [hrs] at MT hml
  unfold SetPost
  rw [← hpr]
  have BT := Lib.hid (Sg.both_any p.e q.e)
  rw [hbb] at BT
  clear hbb hrs hpr
  go_enter Tryd.func31, Tryd.ntmps31
  go_wp2_with (go_at_call 51; refine (BT.out _).mono ?_; rintro e w' ⟨rfl, rfl⟩)
  refine (MT.out _ _).mono ?_
  rintro e wm ⟨vm, rfl, hrm, hbm⟩
  have BM := Lib.hid ((HB.out _ _).trans (hbm.mono (HB.out _ _).size))
  obtain ⟨am, cm, rfl, _, hm⟩ := hrm.val
  have HM := Lib.hid hm
  clear hm hbm hrm
  go_wp2_with fail
  go_loopw [6, 20] (fun v i wr => ∃ (k : Nat) (cs : List Value), k ≤ rs.length ∧ i = .int .i64 k ∧ Below wm.heap.size wm wr ∧ wr.ownsRow wm.heap.size 30 2 v ((rs.take k).map fun r => (⟨r, b⟩ : Tr)).length cs ∧ TrCells wm cs ((rs.take k).map fun r => ⟨r, b⟩)) (fun _ i _ => rs.length - (intOf i).toNat)
  case atStart => exact ⟨0, [], Nat.zero_le _, rfl, Below.refl _ _, ⟨rfl, .inl ⟨rfl, rfl⟩⟩, trivial⟩
  case round =>
    obtain ⟨k, cs, hk, rfl, hb, hown, hcs⟩ := hrel
    have WB := Lib.hid hb
    have WO := Lib.hid hown
    have WC := Lib.hid hcs
    clear hb hown hcs
    by_cases hlt : k < rs.length
    · obtain ⟨b1, o1, a, rfl, e1, hs⟩ := HM.out k hlt
      have c1 : wr.cell? ⟨b1, o1 + k, none⟩ = some a := by rw [WB.out.cell (Ap.cell_lt e1)]; exact e1
      have HS := Lib.hid hs
      have HMS := Lib.hid (map_snoc (fun r => (⟨r, b⟩ : Tr)) rs k hlt)
      generalize rs[k] = r at *
      have hs' := HS.out
      obtain ⟨_, av, cv, rfl, _⟩ := hs'
      obtain ⟨v2', w2, hrun, ho2, hg2, hb2, hf2⟩ := run_append_news (wr := wr) (t := ⟨r, b⟩) WO.out WB.out.size HS.out (by simp; omega)
      have RUN := Lib.hid hrun
      have O2 := Lib.hid ho2
      have B2 : Hid (Below wm.heap.size wm w2) := WB.out.trans hb2
      clear hrun ho2 hg2 hb2 hf2 e1 hs
      go_wp2_with (at_builtin; refine Ap.wpList_append_run (by rfl) _ _ _ _ rfl _ _ rfl rfl v2' w2 RUN.out ?_)
      go_roundw
      case rel => exact ⟨k + 1, _, by omega, by go_num, B2.out, by rw [HMS.out]; exact O2.out, by rw [HMS.out]; exact WC.out.snoc (t := ⟨r, b⟩) HS.out⟩
      case measure => simp [intOf]; omega
    · go_wp2_with fail
      go_ret
      refine ⟨_, rfl, ?_, BM.out.trans (WB.out.mono BM.out.size)⟩
      have h1 := WO.out
      have h2 := WC.out
      rw [List.take_of_length_le (by omega)] at h1 h2
      exact ⟨cs, Ap.Rd.owned h1, h2.below WB.out⟩

/-- Package trace keeps all its contracts. -/
theorem con : Con where
  cCmp v1 v2 p q w _ h1 h2 hl hm := (compare_any v1 v2 p q w h1 h2 hl hm).mono fun e w' ⟨he, hb⟩ => by
    have hbd := cmp_bd p q
    refine ⟨cmp p q, he, by omega, by omega, ?_, hb⟩
    unfold sgn
    split
    · omega
    · split <;> omega
  cSet x l w _ hx hlen hl := setT_any x l w hx (by omega) fun t ht => by have := hl t ht; omega
  cOr x y l m w _ hx hy hlen hl := orT_any x y l m w hx hy (by omega) fun t ht => by have := hl t ht; omega
  cHas x v l t w _ hx hv hlen hl ht := hasT_any x v l t w hx hv (by omega) (fun t ht => by have := hl t ht; omega) (by omega)
  cThn v1 v2 p q w _ h1 h2 hlen := thenT_any v1 v2 p q w h1 h2 (by omega)
  cMix x y l m w _ hx hy h9 := mixT_any x y l m w hx hy h9
  cPar v1 v2 p q w _ h1 h2 hlen := parT_any v1 v2 p q w h1 h2 hlen
  cText v t w hT hv hlen hsum := textT_any v t w hT hv (by omega) (by omega)
end Go.Proofs.YtmhmfnjjdcdkcaaDoor.Tr
