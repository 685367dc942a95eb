/- Settle, the document's and the program's; Settled, Begin: the walks. The program's Over: slices.Clone over numbers, a range that is left early. Plain: what a tree costs: how many moves at most, or at least; each move leaves fewer. What Settle tells of any row; what follows of that. The program's Ended at any row: the walk. slices.Reverse over numbers. The document's costs: the walks. Plain: what is beside a place, and whether a block is above it. -/
import Derived.Test.YtpingbiibbmcaaaGreatQ21
import Derived.Test.YtpingbiibbmcaaaGreatQ12
import Derived.Test.YtpingbiibbmcaaaGreatQ07
import Derived.Lib.SliceRun
import Derived.Test.YtpingbiibbmcaaaGreatQ06
import Derived.BigQuiet
import Derived.Test.YtpingbiibbmcaaaGreatQ18
import Derived.Test.YtpingbiibbmcaaaGreatQ13
import Derived.Test.YtpingbiibbmcaaaGreatQ05
import Derived.Test.YtpingbiibbmcaaaGreatQ14
import Derived.Deep.QuietTactic
import Derived.Test.YtpingbiibbmcaaaGreatQ20

namespace Go.Proofs.YtpingbiibbmcaaaGreat.Se
open Go Go.RowKit Go.Proofs.YtpingbiibbmcaaaGreat.Rw Go.Proofs.YtpingbiibbmcaaaGreat.So
set_option maxRecDepth 20000

/-- A call that tells this row. -/
def OutL (l : List Nd) (w : World) (e : Ending) (w' : World) : Prop := ∃ y, e = .returned y ∧ Nds w' y l ∧ Below w.heap.size w w'
theorem nds_nil (w : World) : Nds w (.slice none 0 0) [] := ⟨rfl, none, 0, rfl, Nat.le_refl _, fun _ => ⟨rfl, rfl⟩, fun h => absurd h (Nat.lt_irrefl 0)⟩
theorem Goes.sz {t : Tm} (h : Goes t) : Se.sz t ≤ 200 := h.2.1
theorem Goes.len {t : Tm} (h : Goes t) : (flat t).length ≤ 200 := by rw [flat_len]; exact h.2.1
set_option maxHeartbeats 1000000 in
theorem settleR_no (v : Value) (l : List Nd) (w : World) (hv : Nds w v l) (hl : l.length ≤ 1000) (hm : Nms l) (h0 : of l = 0) :
    Calls Tryz.prog 4 #[v] w (OutL [] w) := by
  have HO := Lib.hid (ofR_any l v w hv hl hm)
  rw [h0] at HO
  obtain ⟨_, a, c, rfl, -⟩ := id hv
  unfold OutL
  clear h0 hv hm
  go_enter Tryz.func4, Tryz.ntmps4
  go_wp2_with fail
  refine HO.out.mono ?_
  rintro e w1 ⟨rfl, hb⟩
  have B1 := Lib.hid hb
  clear hb
  go_wp2_with fail
  go_ret
  exact ⟨_, rfl, nds_nil _, B1.out⟩
set_option maxHeartbeats 1000000 in
theorem settleR_go (v : Value) (t : Tm) (w : World) (hv : Nds w v (flat t)) (hm : Nms (flat t)) (hg : Goes t) :
    Calls Tryz.prog 4 #[v] w (OutL (flat (S t)) w) := by
  have HO := Lib.hid (ofR_any (flat t) v w hv (by have := hg.len; omega) hm)
  have HT := Lib.hid (fun w1 (hb : Below w.heap.size w w1) => treeR_any t (by have := hg.sz; omega) hg.2.2 v w1 (hv.below hb))
  have h0 := hg.of
  have h4 := of_le (flat t)
  obtain ⟨z, hz⟩ : ∃ z, of (flat t) = z := ⟨_, rfl⟩
  rw [hz] at HO h0 h4
  have f0 : ((z : Int) == 0) = false := by rw [beq_eq_false_iff_ne]; omega
  have hs : (flat (S t)).length ≤ 200 := hg.S.len
  obtain ⟨L, hL⟩ : ∃ L, flat (S t) = L := ⟨_, rfl⟩
  unfold OutN at HT
  rw [hL] at hs HT ⊢
  obtain ⟨m, hmm⟩ : ∃ m, L.length = m := ⟨_, rfl⟩
  have hs' : ¬ (200 : Int) < (m : Int) := by omega
  have hs2 : (m : Int) ≤ 200 := by omega
  have hs3 : m ≤ 200 := by omega
  have HM := Lib.hid hmm
  obtain ⟨_, a, c, rfl, -⟩ := id hv
  unfold OutL
  clear hv hm hz hg hmm hL hs
  go_enter Tryz.func4, Tryz.ntmps4
  go_wp2_with fail
  refine HO.out.mono ?_
  rintro e w1 ⟨rfl, hb⟩
  have B1 := Lib.hid hb
  clear hb
  go_wp2_with fail
  refine (HT.out _ B1.out).mono ?_
  rintro e w2 ⟨y, rfl, hn, hb⟩
  have B2 := Lib.hid (B1.out.trans (hb.mono B1.out.size))
  have N2 := Lib.hid hn
  obtain ⟨_, a2, c2, rfl, -⟩ := hn
  rw [HM.out] at N2 ⊢
  clear hb
  go_wp2_with fail
  go_ret
  exact ⟨_, rfl, N2.out, B2.out⟩

set_option maxHeartbeats 1000000 in
theorem settleP_no (v : Value) (l : List Nd) (w : World) (hv : Nds w v l) (hl : l.length ≤ 1000) (hm : Nms l) (h0 : of l = 0) :
    Calls Tryz.prog 74 #[v] w (OutL [] w) := by
  have HO := Lib.hid (fun p w1 (hb : Below w.heap.size w w1) => Sx.onP_any l p v w1 (hv.below hb) hl hm)
  have e : ∀ p, onB l p = false := fun p => by unfold onB; rw [h0]; cases p <;> rfl
  have HF : Hid (∀ w1, Below w.heap.size w w1 → ∀ p, Calls Tryz.prog 91 #[v, .bool p] w1 fun e w' => e = .returned (.bool false) ∧ Below w1.heap.size w1 w') := Lib.hid fun w1 hb p => by have h := HO.out p w1 hb; rw [e p] at h; exact h
  obtain ⟨_, a, c, rfl, -⟩ := id hv
  unfold OutL
  clear h0 hv hm HO e
  go_enter Tryz.func74, Tryz.ntmps74
  go_wp2_with fail
  refine (HF.out _ (Below.refl _ _) false).mono ?_
  rintro e w1 ⟨rfl, hb⟩
  have B1 := Lib.hid hb
  clear hb
  go_wp2_with fail
  refine (HF.out _ B1.out true).mono ?_
  rintro e w2 ⟨rfl, hb⟩
  have B2 := Lib.hid (B1.out.trans (hb.mono B1.out.size))
  clear hb
  go_wp2_with fail
  go_ret
  exact ⟨_, rfl, nds_nil _, B2.out⟩
set_option maxHeartbeats 1000000 in
theorem settleP_go (v : Value) (t : Tm) (w : World) (hv : Nds w v (flat t)) (hm : Nms (flat t)) (hg : Goes t) :
    Calls Tryz.prog 74 #[v] w (OutL (flat (S t)) w) := by
  have HO := Lib.hid (fun p w1 (hb : Below w.heap.size w w1) => Sx.onP_any (flat t) p v w1 (hv.below hb) (by have := hg.len; omega) hm)
  have HT := Lib.hid (fun w1 (hb : Below w.heap.size w w1) => settledP_any t (by have := hg.sz; omega) hg.2.2 v w1 (hv.below hb))
  have e1 := on_flat hg.1 hg.2.1 false
  have e2 := on_flat hg.1 hg.2.1 true
  simp only [Bool.false_eq_true, if_false, if_true] at e1 e2
  have hi := hg.2.2
  cases h3 : is t 3 with
  | true =>
    rw [h3] at e1
    have HF := Lib.hid (HO.out false w (Below.refl _ _))
    rw [e1] at HF
    obtain ⟨_, a, c, rfl, -⟩ := id hv
    unfold OutL
    clear hv hm HO e1 e2 hi hg
    go_enter Tryz.func74, Tryz.ntmps74
    go_wp2_with fail
    refine HF.out.mono ?_
    rintro e w1 ⟨rfl, hb⟩
    have B1 := Lib.hid hb
    clear hb
    go_wp2_with fail
    refine (HT.out _ B1.out).mono ?_
    rintro e w2 ⟨y, rfl, hn, hb⟩
    have B2 := Lib.hid (B1.out.trans (hb.mono B1.out.size))
    have N2 := Lib.hid hn.nds
    clear hb hn
    go_wp2_with fail
    go_ret
    exact ⟨_, rfl, N2.out, B2.out⟩
  | false =>
    rw [h3] at e1
    rw [show is t 4 = true from hi.resolve_left (by rw [h3]; decide)] at e2
    have HF := Lib.hid (HO.out false w (Below.refl _ _))
    have HG := Lib.hid (fun w1 (hb : Below w.heap.size w w1) => HO.out true w1 hb)
    rw [e1] at HF
    rw [e2] at HG
    obtain ⟨_, a, c, rfl, -⟩ := id hv
    unfold OutL
    clear hv hm HO e1 e2 hi hg
    go_enter Tryz.func74, Tryz.ntmps74
    go_wp2_with fail
    refine HF.out.mono ?_
    rintro e w1 ⟨rfl, hb⟩
    have B1 := Lib.hid hb
    clear hb
    go_wp2_with fail
    refine (HG.out _ B1.out).mono ?_
    rintro e w2 ⟨rfl, hb⟩
    have B2 := Lib.hid (B1.out.trans (hb.mono B1.out.size))
    clear hb
    go_wp2_with fail
    refine (HT.out _ B2.out).mono ?_
    rintro e w3 ⟨y, rfl, hn, hb⟩
    have B3 := Lib.hid (B2.out.trans (hb.mono B2.out.size))
    have N3 := Lib.hid hn.nds
    clear hb hn
    go_wp2_with fail
    go_ret
    exact ⟨_, rfl, N3.out, B3.out⟩
/-- Settled: is what comes of a row that row, and is it not empty? -/
theorem settledQ_none (a : Option Addr) (c : Nat) (w : World) : Calls Tryz.prog 68 #[.slice a 0 c] w fun e w' => e = .returned (.bool false) ∧ w = w' := by
  go_enter Tryz.func68, Tryz.ntmps68
  go_wp2_with fail
  go_ret
  exact ⟨rfl, rfl⟩
set_option maxHeartbeats 1000000 in
theorem settledQ_some (v : Value) (l m : List Nd) (w : World) (hv : Nds w v l) (hl : l.length ≤ 1000) (hm : m.length ≤ 1000) (h0 : 0 < l.length) (hS : Calls Tryz.prog 74 #[v] w (OutL m w)) :
    Calls Tryz.prog 68 #[v] w fun e w' => e = .returned (.bool (sameN m l)) ∧ Below w.heap.size w w' := by
  have HS := Lib.hid hS
  have HV := Lib.hid hv
  obtain ⟨_, a, c, rfl, -⟩ := id hv
  obtain ⟨n, hn⟩ : ∃ n, l.length = n + 1 := ⟨l.length - 1, by omega⟩
  obtain ⟨q, hq⟩ : ∃ q, sameN m l = q := ⟨_, rfl⟩
  have HP := Lib.hid (fun y w1 (h1 : Nds w1 y m) (h2 : Nds w1 (.slice a l.length c) l) => Rx.sameP_any y (.slice a l.length c) m l w1 h1 h2 (by omega))
  rw [hq] at HP ⊢
  rw [hn] at HS HV HP ⊢
  have g1 : (0 : Int) < (n : Int) + 1 := by omega
  have g2 : 0 < n + 1 := by omega
  unfold OutL at HS
  clear hS hv hq hn
  go_enter Tryz.func68, Tryz.ntmps68
  go_wp2_with fail
  refine HS.out.mono ?_
  rintro e w1 ⟨y, rfl, hn, hb⟩
  have B1 := Lib.hid hb
  have N1 := Lib.hid hn
  have V1 := Lib.hid (HV.out.below hb)
  clear hb hn
  go_wp2_with fail
  refine (HP.out _ _ N1.out V1.out).mono ?_
  rintro e w2 ⟨rfl, hb⟩
  have B2 := Lib.hid (B1.out.trans (hb.mono B1.out.size))
  clear hb
  go_wp2_with fail
  go_ret
  exact ⟨rfl, B2.out⟩
end Go.Proofs.YtpingbiibbmcaaaGreat.Se

namespace Go.Proofs.YtpingbiibbmcaaaGreat.Pl
open Go Go.RowKit Go.Proofs.YtpingbiibbmcaaaGreat.Rw Go.Proofs.YtpingbiibbmcaaaGreat.So Go.Proofs.YtpingbiibbmcaaaGreat.Ro
set_option maxRecDepth 20000
attribute [local go_sem] Oper.semAt_some

theorem own_madeI (w : World) : (w.alloc (.cells #[] 3)).ownsRow w.heap.size 3 1 (.slice (some ⟨w.heap.size, 0, none⟩) 0 0) 0 [] :=
  ⟨rfl, .inr ⟨w.heap.size, 0, #[], rfl, Nat.le_refl _, by show (w.heap.push _)[w.heap.size]? = _; simp, Nat.le_refl _, Nat.zero_le _, rfl, rfl⟩⟩
set_option maxHeartbeats 800000 in
theorem cloneI_any (x : Value) (L : List Nat) (w : World) (hx : Rf.Plc w x L) (hlen : L.length ≤ 4398046511104) :
    Calls Tryz.prog 124 #[x] w fun e w' => ∃ v, e = .returned v ∧ w'.ownsRow w.heap.size 3 1 v L.length (Rx.ic L) ∧ Below w.heap.size w w' := by
  have q : ∀ (w : World) (a : Option Addr) (n c n' c' : Nat), (binOp .eql 23 (.slice a n c) (.slice none n' c')).run Tryz.prog w = .ok (.bool a.isNone) w := fun w a n c n' c' => Lib.run_eql_slice_nil w _ _ a n c n' c' Tryz.underlying23
  have hb0 : Below w.heap.size w (w.alloc (.cells #[] 3)) := below1 w _
  obtain ⟨i0, hi, hz, hs1, hb8⟩ := info_parts Rx.infoI
  obtain ⟨v1, w1, hrun, hown, _, hb, _⟩ := Ap.run_append_rd (P := Tryz.prog) (ty := 23) Tryz.underlying23 hi hz hs1 hb8 (by rfl) (by omega) (own_madeI w) hb0.size (hx.below hb0)
    (by intro u hu; rw [List.mem_map] at hu; obtain ⟨k, _, rfl⟩ := hu; rfl) (by unfold maxLen; omega) (by omega)
  rw [List.nil_append, Nat.zero_add] at hown
  obtain ⟨hl, a, c, rfl, _, hn, _⟩ := hx
  cases a with
  | none =>
    obtain ⟨h0, rfl⟩ := hn rfl
    obtain rfl : L = [] := List.eq_nil_of_length_eq_zero h0
    clear hrun hown hb hb0 hl hn h0 hi hz hs1 hb8
    go_enter Tryz.func124, Tryz.ntmps124
    go_wp2_with fail
    go_ret
    exact ⟨_, rfl, ⟨rfl, .inl ⟨rfl, rfl⟩⟩, Below.refl _ _⟩
  | some ad =>
    have R := Lib.hid hrun
    have O := Lib.hid hown
    have B := Lib.hid (hb0.trans hb)
    clear hrun hown hb hb0 hn hl hi hz hs1 hb8
    go_enter Tryz.func124, Tryz.ntmps124
    go_wp2_with (at_builtin; refine Ap.wpList_append_run (by rfl) _ _ _ _ rfl _ _ rfl rfl v1 w1 R.out ?_)
    go_ret
    exact ⟨_, rfl, O.out, B.out⟩

/-- The places of the nodes above node k, or none. -/
def ovI (l : List Nd) (k : Int) : List Nat := if 0 ≤ k ∧ k < rounds l then ov l k.toNat else []
/-- Between two rounds of Over. -/
structure Ost (w : World) (l : List Nd) (kk : Int) (k : Nat) (W : World) : Prop where
  ck : W.cell? ⟨w.heap.size, 0, none⟩ = some (.int .i64 kk)
  cr : W.cell? ⟨w.heap.size + 1, 0, none⟩ = some (.slice none 0 0)
  fr : W.frozen? ⟨w.heap.size + 1, 0, none⟩ = false
  no : ∀ j : Nat, j < k → (j : Int) ≠ kk
  bel : Below w.heap.size w W
  size : w.heap.size + 3 ≤ W.heap.size
theorem Ost.turn {w : World} {l : List Nd} {T : Nat → Prop} {kk : Int} {k : Nat} {A B : World} (h : Ost w l kk k A) (hT : ∀ t, T t → w.heap.size + 3 ≤ t ∧ t < A.heap.size) (ht : Turn T A B) : Ost w l kk k B := by
  have n0 : ∀ t, t < w.heap.size + 3 → ¬ T t := fun t h1 h2 => by have := hT t h2; omega
  exact ⟨ht.cell h.ck (n0 _ (by show w.heap.size < _; omega)), ht.cell h.cr (n0 _ (by show w.heap.size + 1 < _; omega)), (turn_frozen ht h.cr (n0 _ (by show w.heap.size + 1 < _; omega))).trans h.fr, h.no, h.bel.trans (ht.below h.bel.size fun t h' => by have := hT t h'; omega), Nat.le_trans h.size ht.size⟩
/-- Left. -/
structure Oed (w : World) (l : List Nd) (kk : Int) (T : Nat → Prop) (y : Value) (W : World) : Prop where
  lt : 0 ≤ kk ∧ kk < rounds l
  cr : W.cell? ⟨w.heap.size + 1, 0, none⟩ = some y
  own : Ow W y (ov l kk.toNat)
  apart : ∀ g, y.ownBlock = some g → ¬ T g
  bel : Below w.heap.size w W
  base : ∀ g, y.ownBlock = some g → w.heap.size ≤ g
theorem own_up {w : World} {base size n : Nat} {e : TypeId} {v : Value} {xs : List Value} (h : w.ownsRow 0 e size v n xs) (hb : ∀ g, v.ownBlock = some g → base ≤ g) : w.ownsRow base e size v n xs := by
  obtain ⟨h1, ⟨rfl, h2⟩ | ⟨g, cap, cur, rfl, _, h3⟩⟩ := h
  · exact ⟨h1, .inl ⟨rfl, h2⟩⟩
  · exact ⟨h1, .inr ⟨g, cap, cur, rfl, hb g rfl, h3⟩⟩
theorem Oed.turn {w : World} {l : List Nd} {T : Nat → Prop} {kk : Int} {y : Value} {A B : World} (h : Oed w l kk T y A) (hT : ∀ t, T t → w.heap.size + 3 ≤ t ∧ t < A.heap.size) (ht : Turn T A B) : Oed w l kk T y B :=
  ⟨h.lt, ht.cell h.cr (fun h' => by have := (hT _ h').1; change _ ≤ w.heap.size + 1 at this; omega), h.own.turn ht h.apart, h.apart, h.bel.trans (ht.below h.bel.size fun t h' => by have := hT t h'; omega), h.base⟩

set_option maxHeartbeats 400000 in
theorem overP_own (v : Value) (l : List Nd) (kk : Int) (w : World) (hv : Nds w v l) (hl : l.length ≤ 4398046511104) :
    Calls Tryz.prog 112 #[v, .int .i64 kk] w fun e w' => ∃ y, e = .returned y ∧ w'.ownsRow w.heap.size 3 1 y (ovI l kk).length (Rx.ic (ovI l kk)) ∧ Below w.heap.size w w' := by
  have HN := Lib.hid hv
  obtain ⟨_, a, cap, rfl, -⟩ := hv
  refine calls_of_marks Tryz.func112 rfl ?_
  simp only [Tryz.ntmps112, List.size_toArray, List.length_cons, List.length_nil, Nat.reduceAdd, Nat.reduceSub, Array.replicate_succ, Array.replicate_zero, List.push_toArray, List.append_toArray, List.nil_append, List.cons_append]
  go_wp2_with fail
  refine (nodes_any a l.length cap _).mono ?_
  rintro e w' ⟨rfl, rfl⟩
  go_wp2_with fail
  obtain ⟨wl, hwl⟩ : ∃ wl, (((w.alloc (.cells #[.int .i64 kk] 3)).alloc (.cells #[.slice none 0 0] 23)).alloc (.cells #[.slice a l.length cap] 22)) = wl := ⟨_, rfl⟩
  have hsz : wl.heap.size = w.heap.size + 3 := by rw [← hwl]; simp
  have hbl : Below w.heap.size w wl := by
    rw [← hwl]
    exact ((below1 w _).alloc (by simp) _).alloc (by simp; omega) _
  have b0 := cell_new_l w (.int .i64 kk) 3
  have b1 := cell_new_l (w.alloc (.cells #[.int .i64 kk] 3)) (.slice none 0 0) 23
  have b2 := cell_new_l ((w.alloc (.cells #[.int .i64 kk] 3)).alloc (.cells #[.slice none 0 0] 23)) (.slice a l.length cap) 22
  simp only [World.size_alloc] at b1 b2
  have hc0 := (cell_al (.cells #[.slice a l.length cap] 22) (cell_al (.cells #[.slice none 0 0] 23) b0)).1
  have hc1 := cell_al (.cells #[.slice a l.length cap] 22) b1
  have hc2 := b2.1
  rw [hwl] at hc0 hc1 hc2 ⊢
  clear b0 b1 b2 hwl
  refine wp_range (gf := 128) (lb := #[.pointer (some ⟨w.heap.size + 1 + 1, 0, none⟩)]) rfl (enters_of Tryz.func128 (by kernel_rfl) rfl)
    (iter_any (w.heap.size + 1 + 1) _ l w wl HN.out hl hbl hc2) (by omega) (Below.refl _ _) Told.size Told.stay
    (fun T k W => Ost w l kk k W) (fun c T k W => c = .ret ∧ ∃ y, Oed w l kk T y W)
    (fun T k A B h hT ht => h.turn (by rw [← hsz]; exact hT) ht) (fun T k A B h hT ht _ => h.turn (by rw [← hsz]; exact hT) ht) (fun c T k A B ⟨e, y, h⟩ hT ht _ => ⟨e, y, h.turn (by rw [← hsz]; exact hT) ht⟩)
    (fun W hb _ => ⟨by rw [hb.cell (Ap.cell_lt hc0)]; exact hc0, by rw [hb.cell (Ap.cell_lt hc1.1)]; exact hc1.1, (World.frozen?_of_block (hb.block _ (Ap.cell_lt hc1.1))).trans hc1.2, fun j hj => absurd hj (Nat.not_lt_zero j), hbl.trans (hb.mono hbl.size), by have := hb.size; omega⟩)
    (fun args => { tmps := #[.slice a l.length cap, .int .i64 kk, undef, .pointer (some ⟨w.heap.size, 0, none⟩), .pointer (some ⟨w.heap.size + 1, 0, none⟩), args.getD 0 undef, args.getD 1 undef, .slice a l.length cap, .func (.func 128) #[] #[.pointer (some ⟨w.heap.size + 1 + 1, 0, none⟩)], args.getD 0 undef, args.getD 1 undef, undef, undef, undef, undef, undef], defers := [] }) ?assign ?body ?done ?stop
  case assign =>
    rintro l0 k args A K ⟨va, rfl, hva⟩ hK
    gi_wp2
    exact hK
  case body =>
    rintro l0 T k args A hp hT hk ⟨va, rfl, hva⟩
    have hlt := rounds_lt hk
    have hck := hp.ck
    obtain ⟨_, aa, ca, rfl, -⟩ := id hva
    have HP := Lib.hid hp
    have HT3 : Hid (∀ t, T t → w.heap.size + 3 ≤ t ∧ t < A.heap.size) := Lib.hid (by rw [← hsz]; exact hT)
    have HVA := Lib.hid hva
    have HK := Lib.hid hk
    have HLV : Hid ((ov l k).length ≤ 4398046511104) := Lib.hid (by
      unfold ov
      exact Nat.le_trans (List.length_filter_le _ _) (by simp; omega))
    clear hp hT hva hk
    by_cases he : (k : Int) = kk
    · subst he
      gi_wp2
      refine ⟨trivial, rfl, (CallsIn.inRound l0 (callsIn_wide.2 (cloneI_any _ _ A HVA.out HLV.out))).mono ?_⟩
      rintro e w2 ⟨y, rfl, hown, hb⟩
      have hlk := HP.out.size
      have hbA := hb.size
      have hr2 : w2.cell? ⟨w.heap.size + 1, 0, none⟩ = some (.slice none 0 0) := by rw [hb.cell (Ap.cell_lt HP.out.cr)]; exact HP.out.cr
      have hf2 : w2.frozen? ⟨w.heap.size + 1, 0, none⟩ = false := (World.frozen?_of_block (hb.block _ (Ap.cell_lt HP.out.cr))).trans HP.out.fr
      have hyb : ∀ g, y.ownBlock = some g → A.heap.size ≤ g := fun g hg => by
        obtain ⟨_, ⟨rfl, _⟩ | ⟨g', cp, cur, rfl, hq, _⟩⟩ := hown
        · cases hg
        · cases hg; exact hq
      have hown0 : Ow w2 y (ov l k) := Ap.own_base hown (Nat.zero_le _)
      have HE : Hid (Oed w l (k : Int) T y (w2.setCell ⟨w.heap.size + 1, 0, none⟩ y)) := by
        refine Lib.hid ⟨⟨by omega, by have := HK.out; omega⟩, World.cell?_setCell_same' _ _ _ (by rw [hr2]; rfl), ?_, fun g hg ht => ?_, ?_, fun g hg => by have := hyb g hg; omega⟩
        · rw [Int.toNat_natCast]
          exact hown0.turn (M := fun t => t = w.heap.size + 1) (Turn.setCell rfl) fun g hg e => by have := hyb g hg; omega
        · have h1 := hyb g hg
          have h2 := HT3.out g ht
          omega
        · exact (HP.out.bel.trans (hb.mono HP.out.bel.size)).trans ((Turn.setCell (T := fun t => t = w.heap.size + 1) rfl).below (by omega) fun t h => by omega)
      have HKp : Hid (Keep (fun t => T t ∨ t < w.heap.size) A (w2.setCell ⟨w.heap.size + 1, 0, none⟩ y)) := Lib.hid
        ((Keep.of_below hb fun t h => by
          rcases h with h | h
          · exact (HT3.out t h).2
          · omega).trans (Keep.setCell fun h => by
          rcases h with h | h
          · have h1 := (HT3.out _ h).1
            change _ ≤ w.heap.size + 1 at h1
            omega
          · change w.heap.size + 1 < w.heap.size at h
            omega))
      obtain ⟨ya, yc, rfl⟩ := hown0.slice
      clear hown hown0 hyb hb
      gi_wp2
      exact ⟨HKp.out, rfl, _, HE.out⟩
    · have g0 : ((k : Int) == kk) = false := by rw [beq_eq_false_iff_ne]; exact he
      gi_wp2
      refine ⟨Keep.refl _ _, HP.out.ck, HP.out.cr, HP.out.fr, fun j hj => ?_, HP.out.bel, HP.out.size⟩
      by_cases h : j = k
      · subst h; exact he
      · exact HP.out.no j (by omega)
  case done =>
    rintro T W hp hTD hT hD
    have hcr := hp.cr
    have hfr := hp.fr
    have hne : wl.heap.size ≠ w.heap.size + 1 := by omega
    have e0 : ovI l kk = [] := by
      unfold ovI
      rw [if_neg]
      rintro ⟨h1, h2⟩
      exact hp.no kk.toNat (by omega) (by omega)
    have hD2 : (W.setCell ⟨w.heap.size + 1, 0, none⟩ (.slice none 0 0)).heap[wl.heap.size]? = some (.deferred (some [])) := (Below.heap_setCell W _ _ _ hne).trans hD
    have HD := Lib.hid hD2
    have hc5 := cell_kept (World.cell?_setCell_same' W ⟨w.heap.size + 1, 0, none⟩ (.slice none 0 0) (by rw [hcr]; rfl)) (grownBy_putObj' _ wl.heap.size (.deferred none)) (fun r e => by cases e; exact ⟨_, hD2, rfl⟩)
    have HC5 := Lib.hid hc5
    have hbs := hp.bel.trans ((Turn.setCell (T := fun t => t = w.heap.size + 1) (w := W) (p := ⟨w.heap.size + 1, 0, none⟩) (v := .slice none 0 0) rfl).below hp.bel.size fun t h => by omega)
    have HB := Lib.hid (hbs.trans ((putObj_turn (T := fun t => t = wl.heap.size) (o := .deferred none) rfl).below hbs.size fun t h => by omega))
    have HE0 := Lib.hid e0
    clear hp hT hTD hD hD2 hc5 hbs e0
    go_wp2_with fail
    refine leaves_mark (v := .slice none 0 0) HD.out ?_ ⟨_, rfl, ?_, HB.out⟩
    · have hc6 := HC5.out
      simp [results, Tryz.f112, go_sem, hc6]
    · rw [HE0.out]
      exact ⟨rfl, .inl ⟨rfl, rfl⟩⟩
  case stop =>
    rintro T c k W _ ⟨rfl, y, h⟩ hTD hT hD
    have hne : y.ownBlock ≠ some wl.heap.size := fun e => h.apart _ e hTD
    have e0 : ovI l kk = ov l kk.toNat := by
      unfold ovI
      rw [if_pos h.lt]
    have hc6 := cell_kept h.cr (grownBy_putObj' _ wl.heap.size (.deferred none)) (fun r e => by cases e; exact ⟨_, hD, rfl⟩)
    refine wpIn_ret (leaves_mark (v := y) hD ?_ ⟨_, rfl, ?_, ?_⟩)
    · simp [results, Tryz.f112, go_sem, hc6]
    · rw [e0]
      exact own_up (h.own.turn (M := fun t => t = wl.heap.size) (putObj_turn rfl) fun g hg e => hne (by rw [hg, e])) h.base
    · exact h.bel.trans ((putObj_turn (T := fun t => t = wl.heap.size) rfl).below h.bel.size fun t h => by omega)
end Go.Proofs.YtpingbiibbmcaaaGreat.Pl

namespace Go.Proofs.YtpingbiibbmcaaaGreat.Co
open Go Go.Proofs.YtpingbiibbmcaaaGreat.Rw Go.Proofs.YtpingbiibbmcaaaGreat.So Go.Proofs.YtpingbiibbmcaaaGreat.Se Go.Proofs.YtpingbiibbmcaaaGreat.Do Go.Proofs.YtpingbiibbmcaaaGreat.Sp

/-- How many moves at most (of an Alt the greater one); at least (the lesser one). -/
def mo : Tm → Nat
  | .act _ => 1
  | .yield => 1
  | .alt a b => 1 + max (mo a) (mo b)
  | .pair a b => mo a + mo b + 1
  | .seq a b => mo a + mo b
  | .par a b => mo a + mo b
  | .hand a b => mo a + mo b
  | .going a b => mo a + mo b
  | .stack a b => mo a + mo b
  | .block a => mo a
  | .fin _ c => mo c
  | _ => 0
def le : Tm → Nat
  | .act _ => 1
  | .yield => 1
  | .alt a b => 1 + min (le a) (le b)
  | .pair a b => le a + le b + 1
  | .seq a b => le a + le b
  | .par a b => le a + le b
  | .hand a b => le a + le b
  | .going a b => le a + le b
  | .stack a b => le a + le b
  | .block a => le a
  | .fin _ c => le c
  | _ => 0
theorem le_mo : ∀ t : Tm, le t ≤ mo t := by
  intro t
  induction t <;> simp only [le, mo] <;> omega
/-- How many Acts, Alts, Yields and Pairs. -/
def ch (t : Tm) : Nat := ct (fun x => decide (x.k = 1) || decide (x.k = 4) || decide (x.k = 6) || decide (x.k = 10)) t
theorem mo_ch : ∀ t : Tm, mo t ≤ ch t := by
  intro t
  unfold ch
  induction t with
  | act s => exact Nat.le_refl 1
  | yield => exact Nat.le_refl 1
  | skip => exact Nat.zero_le _
  | throw => exact Nat.zero_le _
  | over s => exact Nat.zero_le _
  | fin s c ic => rw [ct_fin]; simp only [mo]; omega
  | block a ia => rw [ct_block]; simp only [mo]; omega
  | seq a b ia ib => rw [ct_seq]; simp only [mo]; omega
  | par a b ia ib => rw [ct_par]; simp only [mo]; omega
  | hand a b ia ib => rw [ct_hand]; simp only [mo]; omega
  | going a b ia ib => rw [ct_going]; simp only [mo]; omega
  | stack a b ia ib => rw [ct_stack]; simp only [mo]; omega
  | alt a b ia ib => rw [ct_two (t := .alt a b) (n := nOf 6) rfl]; simp only [mo, show (decide ((nOf 6).k = 1) || decide ((nOf 6).k = 4) || decide ((nOf 6).k = 6) || decide ((nOf 6).k = 10)) = true from rfl, if_true]; omega
  | pair a b ia ib => rw [ct_two (t := .pair a b) (n := nOf 10) rfl]; simp only [mo, show (decide ((nOf 10).k = 1) || decide ((nOf 10).k = 4) || decide ((nOf 10).k = 6) || decide ((nOf 10).k = 10)) = true from rfl, if_true]; omega
theorem ch_sz (t : Tm) : ch t ≤ sz t := by
  rw [← Se.flat_len]
  exact List.countP_le_length
theorem stk_mo (a d : Tm) : mo (stk a d) = mo a + mo d := by cases a <;> simp only [stk, mo] <;> omega
/-- What is settled costs no more. -/
theorem S_mo : ∀ t : Tm, mo (S t) ≤ mo t := by
  apply S_ind
  intro t ih
  cases t with
  | act s => exact Nat.le_refl _
  | skip => exact Nat.le_refl _
  | throw => exact Nat.le_refl _
  | yield => exact Nat.le_refl _
  | over s => exact Nat.le_refl _
  | fin s c => exact Nat.le_refl _
  | alt a b => exact Nat.le_refl _
  | pair a b => exact Nat.le_refl _
  | seq a b =>
    have ia := ih a (by simp [sz]; omega)
    have ib := ih b (by simp [sz]; omega)
    rw [S_seq]
    generalize S a = x at ia ⊢
    rcases seq_cs S x b with ⟨s, rfl⟩ | ⟨s, c, rfl⟩ | e
    · simp only [sSeq]; split <;> simp only [mo] at * <;> omega
    · simp only [sSeq]; split
      · rw [stk_mo]; simp only [mo] at *; omega
      · simp only [mo] at *; omega
    · rw [e]; simp only [mo]; omega
  | hand a b =>
    have ia := ih a (by simp [sz]; omega)
    have ib := ih b (by simp [sz]; omega)
    rw [S_hand]
    generalize S a = x at ia ⊢
    rcases hand_cs S x b with ⟨s, rfl⟩ | e
    · simp only [sHand]; split <;> simp only [mo] at * <;> omega
    · rw [e]; simp only [mo]; omega
  | par a b =>
    have ia := ih a (by simp [sz]; omega)
    have ib := ih b (by simp [sz]; omega)
    rw [S_par]
    generalize S a = x at ia ⊢
    generalize S b = y at ib ⊢
    cases x <;> simp only [sPar] <;> (try (simp only [mo] at *; omega))
    · cases y <;> simp only [mo] at * <;> omega
    · cases y <;> simp only [mo] at * <;> omega
  | block a =>
    have ia := ih a (by simp [sz])
    have hs := S_sz a
    rw [S_block]
    generalize S a = x at ia hs ⊢
    rcases block_cs S x with ⟨s, c, rfl⟩ | e
    · simp only [sz] at hs
      have ic := ih c (by simp [sz]; omega)
      simp only [sBlock]
      split
      · exact Nat.zero_le _
      · split <;> simp only [mo] at * <;> omega
    · rw [e]; simp only [mo]; omega
  | going a b =>
    have ia := ih a (by simp [sz]; omega)
    rw [S_going]
    generalize S a = x at ia ⊢
    rcases going_cs x b with ⟨s, rfl⟩ | e
    · simp only [sGoing]; split <;> simp only [mo] at * <;> omega
    · rw [e]; simp only [mo]; omega
  | stack a b =>
    have ia := ih a (by simp [sz]; omega)
    rw [S_stack, stk_mo]
    simp only [mo]; omega
/-- Each move leaves a lesser most; fewer choices. -/
theorem mv_mo : ∀ (t : Tm) (d : Bool) (i : Nat), ∀ m ∈ mvs d t i, mo m.r < mo t := by
  refine mv_ind (P := fun t m => mo m.r < mo t) ?_ ?_ ?_ ?_ ?_ ?_ ?_ ?_ ?_ ?_ ?_ ?_ ?_ ?_
  all_goals intros
  all_goals simp only [upm, mo] at *
  all_goals omega
/-- Of Acts, Seqs and Pars alone, as far as it has gone. -/
def bare : Tm → Bool
  | .act _ => true
  | .over s => s == 1
  | .seq a b => bare a && bare b
  | .par a b => bare a && bare b
  | _ => false
theorem S_bare : ∀ t : Tm, bare t = true → bare (S t) = true ∧ le (S t) = le t := by
  apply S_ind
  intro t ih h
  cases t with
  | act s => exact ⟨rfl, rfl⟩
  | over s => exact ⟨h, rfl⟩
  | seq a b =>
    simp only [bare, Bool.and_eq_true] at h
    obtain ⟨a1, a2⟩ := ih a (by simp [sz]; omega) h.1
    obtain ⟨b1, b2⟩ := ih b (by simp [sz]; omega) h.2
    rw [S_seq]
    generalize S a = x at a1 a2 ⊢
    rcases seq_cs S x b with ⟨s, rfl⟩ | ⟨s, c, rfl⟩ | e
    · have hs : s = 1 := by simpa [bare] using a1
      subst hs
      simp only [sSeq, if_true, le] at a2 ⊢
      exact ⟨b1, by omega⟩
    · cases a1
    · rw [e]; simp only [bare, le, Bool.and_eq_true]; exact ⟨⟨a1, h.2⟩, by omega⟩
  | par a b =>
    simp only [bare, Bool.and_eq_true] at h
    obtain ⟨a1, a2⟩ := ih a (by simp [sz]; omega) h.1
    obtain ⟨b1, b2⟩ := ih b (by simp [sz]; omega) h.2
    rw [S_par]
    generalize S a = x at a1 a2 ⊢
    generalize S b = y at b1 b2 ⊢
    have stay : sPar x y = .par x y → bare (sPar x y) = true ∧ le (sPar x y) = le (.par a b) := fun e => by
      rw [e]; simp only [bare, le, Bool.and_eq_true]; exact ⟨⟨a1, b1⟩, by omega⟩
    cases x with
    | over s =>
      cases y with
      | over u =>
        have hs : s = 1 := by simpa [bare] using a1
        have hu : u = 1 := by simpa [bare] using b1
        subst hs; subst hu
        simp only [le] at a2 b2 ⊢
        exact ⟨rfl, by show 0 = _; omega⟩
      | _ => exact stay rfl
    | fin s c => cases a1
    | _ => exact stay rfl
  | _ => cases h
theorem mv_bare : ∀ (t : Tm) (d : Bool) (i : Nat), ∀ m ∈ mvs d t i, bare t = true → bare m.r = true ∧ le m.r + 1 = le t := by
  refine mv_ind (P := fun t m => bare t = true → bare m.r = true ∧ le m.r + 1 = le t) ?_ ?_ ?_ ?_ ?_ ?_ ?_ ?_ ?_ ?_ ?_ ?_ ?_ ?_
  · intro s i _; exact ⟨rfl, rfl⟩
  · intro a b i h; cases h
  · intro a b i h; cases h
  · intro i h; cases h
  · intro i h; cases h
  · intro a b i h; cases h
  · intro a b i h; cases h
  · intro a b m g h
    simp only [upm, bare, le, Bool.and_eq_true] at h ⊢
    obtain ⟨g1, g2⟩ := g h.1
    exact ⟨⟨g1, h.2⟩, by omega⟩
  · intro a b m g h; cases h
  · intro a b m g h; cases h
  · intro a b m g h; cases h
  · intro a m g h; cases h
  · intro a b m g h
    simp only [upm, bare, le, Bool.and_eq_true] at h ⊢
    obtain ⟨g1, g2⟩ := g h.1
    exact ⟨⟨g1, h.2⟩, by omega⟩
  · intro a b m g h
    simp only [upm, bare, le, Bool.and_eq_true] at h ⊢
    obtain ⟨g1, g2⟩ := g h.2
    exact ⟨⟨h.1, g1⟩, by omega⟩
end Go.Proofs.YtpingbiibbmcaaaGreat.Co

namespace Go.Proofs.YtpingbiibbmcaaaGreat.Se
open Go Go.RowKit Go.Proofs.YtpingbiibbmcaaaGreat.Rw Go.Proofs.YtpingbiibbmcaaaGreat.So
set_option maxRecDepth 20000

/-- A row is of one tree. -/
theorem flat_inj : ∀ t u : Tm, flat t = flat u → t = u := by
  intro t
  induction t with
  | act s =>
    intro u h
    have hk : kd u = 1 := by unfold kd; rw [← h]; rfl
    cases u <;> try (simp [kd, flat, hd, nOf] at hk; done)
    · have e := congrArg nml h
      exact congrArg Tm.act e
  | skip =>
    intro u h
    have hk : kd u = 2 := by unfold kd; rw [← h]; rfl
    cases u <;> try (simp [kd, flat, hd, nOf] at hk; done)
    · rfl
  | throw =>
    intro u h
    have hk : kd u = 3 := by unfold kd; rw [← h]; rfl
    cases u <;> try (simp [kd, flat, hd, nOf] at hk; done)
    · rfl
  | yield =>
    intro u h
    have hk : kd u = 4 := by unfold kd; rw [← h]; rfl
    cases u <;> try (simp [kd, flat, hd, nOf] at hk; done)
    · rfl
  | over s =>
    intro u h
    have hk : kd u = 11 := by unfold kd; rw [← h]; rfl
    cases u <;> try (simp [kd, flat, hd, nOf] at hk; done)
    · have e := congrArg sgl h
      exact congrArg Tm.over e
  | block a ia =>
    intro u h
    have hk : kd u = 9 := by unfold kd; rw [← h]; rfl
    cases u <;> try (simp [kd, flat, hd, nOf] at hk; done)
    · have e := congrArg kids h
      rw [kids_block, kids_block] at e
      injection e with e _
      rw [ia _ e]
  | fin s c ic =>
    intro u h
    have hk : kd u = 14 := by unfold kd; rw [← h]; rfl
    cases u <;> try (simp [kd, flat, hd, nOf] at hk; done)
    · have e := congrArg kids h
      have e2 : s = _ := congrArg sgl h
      rw [kids_fin, kids_fin] at e
      injection e with e _
      rw [ic _ e, e2]
      rfl
  | seq a b ia ib =>
    intro u h
    have hk : kd u = 5 := by unfold kd; rw [← h]; rfl
    cases u <;> try (simp [kd, flat, hd, nOf] at hk; done)
    · have e := congrArg kids h
      rw [kids_seq, kids_seq] at e
      injection e with e1 e
      injection e with e2 _
      rw [ia _ e1, ib _ e2]
  | alt a b ia ib =>
    intro u h
    have hk : kd u = 6 := by unfold kd; rw [← h]; rfl
    cases u <;> try (simp [kd, flat, hd, nOf] at hk; done)
    · have e := congrArg kids h
      rw [kids_alt, kids_alt] at e
      injection e with e1 e
      injection e with e2 _
      rw [ia _ e1, ib _ e2]
  | par a b ia ib =>
    intro u h
    have hk : kd u = 7 := by unfold kd; rw [← h]; rfl
    cases u <;> try (simp [kd, flat, hd, nOf] at hk; done)
    · have e := congrArg kids h
      rw [kids_par, kids_par] at e
      injection e with e1 e
      injection e with e2 _
      rw [ia _ e1, ib _ e2]
  | hand a b ia ib =>
    intro u h
    have hk : kd u = 8 := by unfold kd; rw [← h]; rfl
    cases u <;> try (simp [kd, flat, hd, nOf] at hk; done)
    · have e := congrArg kids h
      rw [kids_hand, kids_hand] at e
      injection e with e1 e
      injection e with e2 _
      rw [ia _ e1, ib _ e2]
  | pair a b ia ib =>
    intro u h
    have hk : kd u = 10 := by unfold kd; rw [← h]; rfl
    cases u <;> try (simp [kd, flat, hd, nOf] at hk; done)
    · have e := congrArg kids h
      rw [kids_pair, kids_pair] at e
      injection e with e1 e
      injection e with e2 _
      rw [ia _ e1, ib _ e2]
  | going a b ia ib =>
    intro u h
    have hk : kd u = 12 := by unfold kd; rw [← h]; rfl
    cases u <;> try (simp [kd, flat, hd, nOf] at hk; done)
    · have e := congrArg kids h
      rw [kids_going, kids_going] at e
      injection e with e1 e
      injection e with e2 _
      rw [ia _ e1, ib _ e2]
  | stack a b ia ib =>
    intro u h
    have hk : kd u = 13 := by unfold kd; rw [← h]; rfl
    cases u <;> try (simp [kd, flat, hd, nOf] at hk; done)
    · have e := congrArg kids h
      rw [kids_stack, kids_stack] at e
      injection e with e1 e
      injection e with e2 _
      rw [ia _ e1, ib _ e2]
/-- What comes of a row. -/
noncomputable def st (l : List Nd) : List Nd := if h : of l = 0 then [] else flat (S (goes_of h).choose)
theorem st_no {l : List Nd} (h : of l = 0) : st l = [] := dif_pos h
theorem st_go {t : Tm} (h : Goes t) : st (flat t) = flat (S t) := by
  have h0 := h.of
  unfold st
  rw [dif_neg h0]
  rw [flat_inj _ _ (goes_of h0).choose_spec.1]
theorem st_len (l : List Nd) : (st l).length ≤ l.length := by
  by_cases h : of l = 0
  · rw [st_no h]; exact Nat.zero_le _
  · obtain ⟨t, rfl, hg⟩ := goes_of h
    rw [st_go hg, flat_len, flat_len]
    exact S_sz t
/-- A row that comes of another one. -/
theorem st_some {l : List Nd} (h : st l ≠ []) : ∃ t, flat t = l ∧ Goes t ∧ st l = flat (S t) := by
  by_cases h0 : of l = 0
  · exact absurd (st_no h0) h
  · obtain ⟨t, rfl, hg⟩ := goes_of h0
    exact ⟨t, rfl, hg, st_go hg⟩
theorem settleP_any (v : Value) (l : List Nd) (w : World) (hv : Nds w v l) (hl : l.length ≤ 1000) (hm : Nms l) : Calls Tryz.prog 74 #[v] w (OutL (st l) w) := by
  by_cases h : of l = 0
  · rw [st_no h]; exact settleP_no v l w hv hl hm h
  · obtain ⟨t, rfl, hg⟩ := goes_of h
    rw [st_go hg]; exact settleP_go v t w hv hm hg
theorem settleR_any (v : Value) (l : List Nd) (w : World) (hv : Nds w v l) (hl : l.length ≤ 1000) (hm : Nms l) : Calls Tryz.prog 4 #[v] w (OutL (st l) w) := by
  by_cases h : of l = 0
  · rw [st_no h]; exact settleR_no v l w hv hl hm h
  · obtain ⟨t, rfl, hg⟩ := goes_of h
    rw [st_go hg]; exact settleR_go v t w hv hm hg
theorem nms_goes {t : Tm} (h : rg t = true) : Nms (flat t) := by
  intro x hx
  have hr : rgt x = true := (List.all_eq_true.1 h) x hx
  obtain ⟨k, n, s⟩ := x
  show n.size ≤ _
  by_cases h1 : k = 1
  · subst h1
    rw [rgt_act] at hr
    simp only [Bool.and_eq_true, decide_eq_true_eq] at hr
    omega
  · by_cases h2 : k = 11 ∨ k = 14
    · rw [rgt_sign n s h2] at hr
      simp only [Bool.and_eq_true, decide_eq_true_eq] at hr
      omega
    · have h0 : ¬ ar k < 0 := fun h0 => by unfold rgt at hr; rw [if_pos h0] at hr; cases hr
      rw [rgt_other n s h0 h1 h2] at hr
      simp only [Bool.and_eq_true, decide_eq_true_eq] at hr
      omega
theorem nms_st (l : List Nd) : Nms (st l) := by
  by_cases h : st l = []
  · rw [h]; intro x hx; cases hx
  · obtain ⟨t, _, hg, e⟩ := st_some h
    rw [e]
    exact nms_goes hg.S.1
theorem settledQ_any (v : Value) (l : List Nd) (w : World) (hv : Nds w v l) (hl : l.length ≤ 1000) (hm : Nms l) :
    Calls Tryz.prog 68 #[v] w fun e w' => e = .returned (.bool (decide (0 < l.length) && sameN (st l) l)) ∧ Below w.heap.size w w' := by
  by_cases h0 : 0 < l.length
  · rw [decide_eq_true h0, Bool.true_and]
    exact settledQ_some v l (st l) w hv hl (by have := st_len l; omega) h0 (settleP_any v l w hv hl hm)
  · have : l = [] := List.eq_nil_of_length_eq_zero (by omega)
    subst this
    obtain ⟨_, a, c, rfl, -⟩ := hv
    refine (settledQ_none a c w).mono ?_
    rintro e w' ⟨rfl, rfl⟩
    exact ⟨rfl, Below.refl _ _⟩
end Go.Proofs.YtpingbiibbmcaaaGreat.Se

namespace Go.Proofs.YtpingbiibbmcaaaGreat.Se
open Go Go.RowKit Go.Proofs.YtpingbiibbmcaaaGreat.Rw Go.Proofs.YtpingbiibbmcaaaGreat.So
set_option maxRecDepth 20000

/-- What the document's Ended tells: the sign, and whether there is an Over alone. -/
def overB (l : List Nd) : Bool := match l with | [x] => x.k == 11 | _ => false
def overS (l : List Nd) : Int := match l with | [x] => if x.k == 11 then x.s else 0 | _ => 0
set_option maxHeartbeats 1000000 in
theorem endedP_not (v : Value) (l : List Nd) (w : World) (hv : Nds w v l) (hn : l.length ≠ 1) : Calls Tryz.prog 21 #[v] w fun e w' => e = .returned (.tuple #[.int .i64 0, .bool false]) ∧ Below w.heap.size w w' := by
  obtain ⟨_, a, c, rfl, -⟩ := hv
  obtain ⟨n, hl⟩ : ∃ n, l.length = n := ⟨_, rfl⟩
  rw [hl] at hn ⊢
  have h1 : ((n : Int) = 1) = False := by simp; omega
  clear hl
  go_enter Tryz.func21, Tryz.ntmps21
  go_wp2_with fail
  go_ret2
  exact ⟨rfl, Below.refl _ _⟩
set_option maxHeartbeats 1000000 in
theorem endedP_one (v : Value) (x : Nd) (w : World) (hv : Nds w v [x]) : Calls Tryz.prog 21 #[v] w fun e w' => e = .returned (.tuple #[.int .i64 (overS [x]), .bool (overB [x])]) ∧ Below w.heap.size w w' := by
  rcases hv.form with ⟨h0, _⟩ | ⟨b, o, c, rfl, hc, hat⟩
  · cases h0
  obtain ⟨e0, e1, e2⟩ := hat 0 (by simp)
  simp only [List.getElem_cons_zero, Nat.zero_mul, Nat.add_zero] at e0 e1 e2
  simp only [List.length_cons, List.length_nil, Nat.zero_add] at hc ⊢
  obtain ⟨xk, xn, xs⟩ := x
  simp only [overS, overB]
  by_cases h : xk = 11
  · subst h
    clear hat hv
    go_enter Tryz.func21, Tryz.ntmps21
    go_wp2_with fail
    go_ret2
    exact ⟨rfl, Below.refl _ _⟩
  · have h1 : (xk == 11) = false := by simpa using h
    rw [h1]
    clear hat hv
    go_enter Tryz.func21, Tryz.ntmps21
    go_wp2_with fail
    go_ret2
    exact ⟨rfl, Below.refl _ _⟩
theorem endedP_any (v : Value) (l : List Nd) (w : World) (hv : Nds w v l) : Calls Tryz.prog 21 #[v] w fun e w' => e = .returned (.tuple #[.int .i64 (overS l), .bool (overB l)]) ∧ Below w.heap.size w w' := by
  match l, hv with
  | [], hv => exact endedP_not v [] w hv (by simp)
  | [x], hv => exact endedP_one v x w hv
  | x :: y :: r, hv => exact endedP_not v (x :: y :: r) w hv (by simp)
end Go.Proofs.YtpingbiibbmcaaaGreat.Se

namespace Go.Proofs.YtpingbiibbmcaaaGreat.Do
open Go Go.RowKit Go.Proofs.YtpingbiibbmcaaaGreat.Rw Go.Proofs.YtpingbiibbmcaaaGreat.So Go.Proofs.YtpingbiibbmcaaaGreat.Se
set_option maxRecDepth 20000

/-- Numbers in a block of their own. -/
structure Nums (n g : Nat) (f : Nat → Nat) (w : World) : Prop where
  cell : ∀ j : Nat, j < n → w.cell? ⟨g, j, none⟩ = some (.int .i64 (f j : Int))
  soft : ∀ j : Nat, w.frozen? ⟨g, j, none⟩ = false
theorem Nums.below {n g M : Nat} {f : Nat → Nat} {w w' : World} (h : Nums n g f w) (hb : Below M w w') (hg : g < M) : Nums n g f w' :=
  ⟨fun j hj => by rw [hb.cell (p := ⟨g, j, none⟩) hg]; exact h.cell j hj, fun j => (World.frozen?_of_block (hb.block _ hg)).trans (h.soft j)⟩
/-- Turned round, as far as k from either end. -/
def rv (n : Nat) (f : Nat → Nat) (k m : Nat) : Nat := if m < k ∨ n < m + k + 1 then f (n - 1 - m) else f m
theorem Nums.swap {n g : Nat} {f : Nat → Nat} {k : Nat} {w : World} (h : Nums n g (rv n f k) w) (hk : k + k + 1 < n) :
    Nums n g (rv n f (k + 1)) ((w.setCell ⟨g, k, none⟩ (.int .i64 (rv n f k (n - 1 - k) : Int))).setCell ⟨g, n - 1 - k, none⟩ (.int .i64 (rv n f k k : Int))) := by
  refine ⟨fun j hj => ?_, fun j => by rw [frozen_set, frozen_set]; exact h.soft j⟩
  by_cases e1 : j = n - 1 - k
  · subst e1
    rw [cell_set_eq (u := .int .i64 (rv n f k (n - 1 - k) : Int)) (by rw [cell_set_o (by omega)]; exact h.cell _ hj)]
    congr 3
    unfold rv
    rw [if_neg (by omega), if_pos (by omega)]
    congr 1
    omega
  · rw [cell_set_o (fun e => e1 e.symm)]
    by_cases e2 : j = k
    · subst e2
      rw [cell_set_eq (h.cell _ hj)]
      congr 3
      unfold rv
      rw [if_neg (by omega), if_pos (by omega)]
    · rw [cell_set_o (fun e => e2 e.symm), h.cell j hj]
      congr 3
      unfold rv
      by_cases e3 : j < k ∨ n < j + k + 1
      · rw [if_pos e3, if_pos (by omega)]
      · rw [if_neg e3, if_neg (by omega)]
theorem rev_empty (a : Option Addr) (c : Nat) (w : World) : Calls Tryz.prog 113 #[.slice a 0 c] w fun e w' => e = .returned (.tuple #[]) ∧ w' = w := by
  go_enter Tryz.func113, Tryz.ntmps113
  go_wp2_with fail
  refine Go.wp_loop_rounds 1 ?_
  rw [rounds_succ]
  go_wp2_with fail
  go_end0
  exact ⟨rfl, rfl⟩
set_option maxHeartbeats 4000000 in
theorem rev_any (g c n : Nat) (f : Nat → Nat) (w : World) (_hc : n ≤ c) (hn : 1 ≤ n) (hl : n ≤ 1000) (h : Nums n g f w) :
    Calls Tryz.prog 113 #[.slice (some ⟨g, 0, none⟩) n c] w fun e w' => e = .returned (.tuple #[]) ∧ Nums n g (fun m => f (n - 1 - m)) w' ∧ Below g w w' := by
  have H := Lib.hid h
  clear h
  go_enter Tryz.func113, Tryz.ntmps113
  go_wp2_with fail
  go_loopw [2, 3] (fun i j wr => ∃ k : Nat, k + k ≤ n ∧ i = .int .i64 k ∧ j = .int .i64 ((n : Int) - 1 - k) ∧ Hid (Below g w wr) ∧ Hid (Nums n g (rv n f k) wr)) (fun i _ _ => n - (intOf i).toNat)
  case atStart => exact ⟨0, by omega, rfl, by go_num, Lib.hid (Below.refl _ _), Lib.hid ⟨fun j hj => by rw [H.out.cell j hj]; congr 3; unfold rv; rw [if_neg (by omega)], H.out.soft⟩⟩
  case round =>
    obtain ⟨k, hk, rfl, rfl, HB, HS⟩ := hrel
    by_cases hlt : (k : Int) < (n : Int) - 1 - k
    · have hk2 : k + k + 1 < n := by omega
      obtain ⟨j, hj⟩ : ∃ j, n - 1 - k = j := ⟨_, rfl⟩
      have hj2 : (n : Int) - 1 - k = j := by omega
      have e1 := HS.out.cell k (by omega)
      have e2 := HS.out.cell j (by omega)
      have f1 := HS.out.soft k
      have f2 := HS.out.soft j
      have NW := Lib.hid (HS.out.swap hk2)
      rw [hj] at NW
      rw [hj2] at hlt ⊢
      have jn : (j : Int) < n := by omega
      have kn : (k : Int) < n := by omega
      generalize (rv n f k k : Int) = x at e1 NW
      generalize (rv n f k j : Int) = y at e2 NW
      have kj : (k : Int) ≠ j := by omega
      have ckj : wr.cell? ⟨g, k, none⟩ = some (.int .i64 x) := e1
      have HJ : Hid ((j : Int) = (n : Int) - 1 - k ∧ k + k + 1 < n) := Lib.hid ⟨hj2.symm, hk2⟩
      clear hj hj2 hk2
      go_wp2_with fail
      go_region
      go_wp2_with fail
      go_roundw
      case rel => exact ⟨k + 1, by have := HJ.out; omega, by go_num, by have := HJ.out; go_num, Lib.hid (Rx.below_setCell (Rx.below_setCell HB.out g _ _ (Nat.le_refl _)) g _ _ (Nat.le_refl _)).drew, Lib.hid ⟨NW.out.cell, NW.out.soft⟩⟩
      case measure => simp [intOf]; omega
    · have H2 : Hid (Nums n g (fun m => f (n - 1 - m)) wr) := Lib.hid ⟨fun j hj => by
        rw [HS.out.cell j hj]
        congr 3
        unfold rv
        split
        · rfl
        · congr 1
          omega, HS.out.soft⟩
      clear HS
      go_wp2_with fail
      go_end0
      exact ⟨rfl, H2.out, HB.out⟩
end Go.Proofs.YtpingbiibbmcaaaGreat.Do

namespace Go.Proofs.YtpingbiibbmcaaaGreat.Co
open Go Go.RowKit Go.Proofs.YtpingbiibbmcaaaGreat.Rw Go.Proofs.YtpingbiibbmcaaaGreat.So Go.Proofs.YtpingbiibbmcaaaGreat.Se Go.Proofs.YtpingbiibbmcaaaGreat.Do Go.Proofs.YtpingbiibbmcaaaGreat.Sp
set_option maxRecDepth 20000

/-- What a tree costs: the least, or the most. -/
def cst (b : Bool) (t : Tm) : Nat := if b then le t else mo t
theorem cst_sz (b : Bool) (t : Tm) : cst b t ≤ sz t := by
  have h1 := le_mo t
  have h2 := mo_ch t
  have h3 := ch_sz t
  unfold cst
  split <;> omega
end Go.Proofs.YtpingbiibbmcaaaGreat.Co

namespace Go.Proofs.YtpingbiibbmcaaaGreat.Do
open Go Go.Proofs.YtpingbiibbmcaaaGreat.Rw Go.Proofs.YtpingbiibbmcaaaGreat.So Go.Proofs.YtpingbiibbmcaaaGreat.Se

/-- Those beside a place, from the innermost one outward, up to the innermost block; and whether there is one. -/
def pth : Tm → Nat → Nat → List Tm × Bool
  | .par a b, i, p => if i = p then ([], false) else if p < i + 1 + sz a then (if (pth a (i + 1) p).2 then pth a (i + 1) p else ((pth a (i + 1) p).1 ++ [b], false)) else (if (pth b (i + 1 + sz a) p).2 then pth b (i + 1 + sz a) p else ((pth b (i + 1 + sz a) p).1 ++ [a], false))
  | .block a, i, p => if i = p then ([], false) else ((pth a (i + 1) p).1, true)
  | .seq a b, i, p => if i = p then ([], false) else if p < i + 1 + sz a then pth a (i + 1) p else pth b (i + 1 + sz a) p
  | .alt a b, i, p => if i = p then ([], false) else if p < i + 1 + sz a then pth a (i + 1) p else pth b (i + 1 + sz a) p
  | .hand a b, i, p => if i = p then ([], false) else if p < i + 1 + sz a then pth a (i + 1) p else pth b (i + 1 + sz a) p
  | .pair a b, i, p => if i = p then ([], false) else if p < i + 1 + sz a then pth a (i + 1) p else pth b (i + 1 + sz a) p
  | .going a b, i, p => if i = p then ([], false) else if p < i + 1 + sz a then pth a (i + 1) p else pth b (i + 1 + sz a) p
  | .stack a b, i, p => if i = p then ([], false) else if p < i + 1 + sz a then pth a (i + 1) p else pth b (i + 1 + sz a) p
  | .fin _ c, i, p => if i = p then ([], false) else pth c (i + 1) p
  | _, _, _ => ([], false)
end Go.Proofs.YtpingbiibbmcaaaGreat.Do
