/- The program's Over: slices.Clone over numbers, a range that is left early. The program's then, beside, handed, asBlock, plainOfTwo: the walks. What Settle tells of any row; what follows of that. The program's Ended at any row: the walk. slices.Reverse over numbers. The document's merge and Set of traces: where what they tell lies; the walks. -/
import Derived.Test.YtekblibhaipioaaGreatQ25
import Derived.Lib.SliceRun
import Derived.Shelf.Abstract
import Derived.Test.YtekblibhaipioaaGreatQ06
import Derived.BigQuiet
import Derived.Test.YtekblibhaipioaaGreatQ18
import Derived.Test.YtekblibhaipioaaGreatQ07

namespace Go.Proofs.YtekblibhaipioaaGreat.Pl
open Go Go.RowKit Rw So Ro
set_option maxRecDepth 20000
attribute [local go_sem] Oper.semAt_some
theorem own_madeI (w : World) : (w.alloc (.cells #[] 3)).ownsRow w.heap.size 3 1 (.slice (some ⟨w.heap.size, 0, none⟩) 0 0) 0 [] :=
  ⟨rfl, .inr ⟨w.heap.size, 0, #[], rfl, Nat.le_refl _, by show (w.heap.push _)[w.heap.size]? = _; simp, Nat.le_refl _, Nat.zero_le _, rfl, rfl⟩⟩
set_option maxHeartbeats 800000 in
theorem cloneI_any (x : Value) (L : List Nat) (w : World) (hx : Rf.Plc w x L) (hlen : L.length ≤ 4398046511104) :
    Calls Tryz.prog 102 #[x] w fun e w' => ∃ v, e = .returned v ∧ w'.ownsRow w.heap.size 3 1 v L.length (Rx.ic L) ∧ Below w.heap.size w w' := by
  have q : ∀ (w : World) (a : Option Addr) (n c n' c' : Nat), (binOp .eql 46 (.slice a n c) (.slice none n' c')).run Tryz.prog w = .ok (.bool a.isNone) w := fun w a n c n' c' => Lib.run_eql_slice_nil w _ _ a n c n' c' Tryz.underlying46
  have hb0 : Below w.heap.size w (w.alloc (.cells #[] 3)) := below1 w _
  obtain ⟨i0, hi, hz, hs1, hb8⟩ := info_parts Rx.infoI
  obtain ⟨v1, w1, hrun, hown, _, hb, _⟩ := Ap.run_append_rd (P := Tryz.prog) (ty := 46) Tryz.underlying46 hi hz hs1 hb8 (by rfl) (by omega) (own_madeI w) hb0.size (hx.below hb0)
    (by intro u hu; rw [List.mem_map] at hu; obtain ⟨k, _, rfl⟩ := hu; rfl) (by unfold maxLen; omega) (by omega)
  rw [List.nil_append, Nat.zero_add] at hown
  obtain ⟨hl, a, c, rfl, _, hn, _⟩ := hx
  cases a with
  | none =>
    obtain ⟨h0, rfl⟩ := hn rfl
    obtain rfl : L = [] := List.eq_nil_of_length_eq_zero h0
    clear hrun hown hb hb0 hl hn h0 hi hz hs1 hb8
    go_enter Tryz.func102, Tryz.ntmps102
    go_wp2_with fail
    go_ret
    exact ⟨_, rfl, ⟨rfl, .inl ⟨rfl, rfl⟩⟩, Below.refl _ _⟩
  | some ad =>
    have R := Lib.hid hrun
    have O := Lib.hid hown
    have B := Lib.hid (hb0.trans hb)
    clear hrun hown hb hb0 hn hl hi hz hs1 hb8
    go_enter Tryz.func102, Tryz.ntmps102
    go_wp2_with (at_builtin; refine Ap.wpList_append_run (by rfl) _ _ _ _ rfl _ _ rfl rfl v1 w1 R.out ?_)
    go_ret
    exact ⟨_, rfl, O.out, B.out⟩
def ovI (l : List Nd) (k : Int) : List Nat := if 0 ≤ k ∧ k < rounds l then ov l k.toNat else []
structure Ost (w : World) (l : List Nd) (kk : Int) (k : Nat) (W : World) : Prop where
  ck : W.cell? ⟨w.heap.size, 0, none⟩ = some (.int .i64 kk)
  cr : W.cell? ⟨w.heap.size + 1, 0, none⟩ = some (.slice none 0 0)
  fr : W.frozen? ⟨w.heap.size + 1, 0, none⟩ = false
  no : ∀ j : Nat, j < k → (j : Int) ≠ kk
  bel : Below w.heap.size w W
  size : w.heap.size + 3 ≤ W.heap.size
theorem Ost.turn {w : World} {l : List Nd} {T : Nat → Prop} {kk : Int} {k : Nat} {A B : World} (h : Ost w l kk k A) (hT : ∀ t, T t → w.heap.size + 3 ≤ t ∧ t < A.heap.size) (ht : Turn T A B) : Ost w l kk k B := by
  have n0 : ∀ t, t < w.heap.size + 3 → ¬ T t := fun t h1 h2 => by have := hT t h2; omega
  exact ⟨ht.cell h.ck (n0 _ (by show w.heap.size < _; omega)), ht.cell h.cr (n0 _ (by show w.heap.size + 1 < _; omega)), (turn_frozen ht h.cr (n0 _ (by show w.heap.size + 1 < _; omega))).trans h.fr, h.no, h.bel.trans (ht.below h.bel.size fun t h' => by have := hT t h'; omega), Nat.le_trans h.size ht.size⟩
structure Oed (w : World) (l : List Nd) (kk : Int) (T : Nat → Prop) (y : Value) (W : World) : Prop where
  lt : 0 ≤ kk ∧ kk < rounds l
  cr : W.cell? ⟨w.heap.size + 1, 0, none⟩ = some y
  own : Ow W y (ov l kk.toNat)
  apart : ∀ g, y.ownBlock = some g → ¬ T g
  bel : Below w.heap.size w W
  base : ∀ g, y.ownBlock = some g → w.heap.size ≤ g
theorem own_up {w : World} {base size n : Nat} {e : TypeId} {v : Value} {xs : List Value} (h : w.ownsRow 0 e size v n xs) (hb : ∀ g, v.ownBlock = some g → base ≤ g) : w.ownsRow base e size v n xs := by
  obtain ⟨h1, ⟨rfl, h2⟩ | ⟨g, cap, cur, rfl, _, h3⟩⟩ := h
  · exact ⟨h1, .inl ⟨rfl, h2⟩⟩
  · exact ⟨h1, .inr ⟨g, cap, cur, rfl, hb g rfl, h3⟩⟩
theorem Oed.turn {w : World} {l : List Nd} {T : Nat → Prop} {kk : Int} {y : Value} {A B : World} (h : Oed w l kk T y A) (hT : ∀ t, T t → w.heap.size + 3 ≤ t ∧ t < A.heap.size) (ht : Turn T A B) : Oed w l kk T y B :=
  ⟨h.lt, ht.cell h.cr (fun h' => by have := (hT _ h').1; change _ ≤ w.heap.size + 1 at this; omega), h.own.turn ht h.apart, h.apart, h.bel.trans (ht.below h.bel.size fun t h' => by have := hT t h'; omega), h.base⟩
set_option maxHeartbeats 400000 in
theorem overP_own (v : Value) (l : List Nd) (kk : Int) (w : World) (hv : Nds w v l) (hl : l.length ≤ 4398046511104) :
    Calls Tryz.prog 57 #[v, .int .i64 kk] w fun e w' => ∃ y, e = .returned y ∧ w'.ownsRow w.heap.size 3 1 y (ovI l kk).length (Rx.ic (ovI l kk)) ∧ Below w.heap.size w w' := by
  have HN := Lib.hid hv
  obtain ⟨_, a, cap, rfl, -⟩ := hv
  refine calls_of_marks Tryz.func57 rfl ?_
  simp only [Tryz.ntmps57, List.size_toArray, List.length_cons, List.length_nil, Nat.reduceAdd, Nat.reduceSub, Array.replicate_succ, Array.replicate_zero, List.push_toArray, List.append_toArray, List.nil_append, List.cons_append]
  go_wp2_with fail
  refine (nodes_any a l.length cap _).mono ?_
  rintro e w' ⟨rfl, rfl⟩
  go_wp2_with fail
  obtain ⟨wl, hwl⟩ : ∃ wl, (((w.alloc (.cells #[.int .i64 kk] 3)).alloc (.cells #[.slice none 0 0] 46)).alloc (.cells #[.slice a l.length cap] 22)) = wl := ⟨_, rfl⟩
  have hsz : wl.heap.size = w.heap.size + 3 := by rw [← hwl]; simp
  have hbl : Below w.heap.size w wl := by
    rw [← hwl]
    exact ((below1 w _).alloc (by simp) _).alloc (by simp; omega) _
  have b0 := cell_new_l w (.int .i64 kk) 3
  have b1 := cell_new_l (w.alloc (.cells #[.int .i64 kk] 3)) (.slice none 0 0) 46
  have b2 := cell_new_l ((w.alloc (.cells #[.int .i64 kk] 3)).alloc (.cells #[.slice none 0 0] 46)) (.slice a l.length cap) 22
  simp only [World.size_alloc] at b1 b2
  have hc0 := (cell_al (.cells #[.slice a l.length cap] 22) (cell_al (.cells #[.slice none 0 0] 46) b0)).1
  have hc1 := cell_al (.cells #[.slice a l.length cap] 22) b1
  have hc2 := b2.1
  rw [hwl] at hc0 hc1 hc2 ⊢
  clear b0 b1 b2 hwl
  refine wp_range (gf := 131) (lb := #[.pointer (some ⟨w.heap.size + 1 + 1, 0, none⟩)]) rfl (enters_of Tryz.func131 (by kernel_rfl) rfl)
    (iter_any (w.heap.size + 1 + 1) _ l w wl HN.out hl hbl hc2) (by omega) (Below.refl _ _) Told.size Told.stay
    (fun T k W => Ost w l kk k W) (fun c T k W => c = .ret ∧ ∃ y, Oed w l kk T y W)
    (fun T k A B h hT ht => h.turn (by rw [← hsz]; exact hT) ht) (fun T k A B h hT ht _ => h.turn (by rw [← hsz]; exact hT) ht) (fun c T k A B ⟨e, y, h⟩ hT ht _ => ⟨e, y, h.turn (by rw [← hsz]; exact hT) ht⟩)
    (fun W hb _ => ⟨by rw [hb.cell (Ap.cell_lt hc0)]; exact hc0, by rw [hb.cell (Ap.cell_lt hc1.1)]; exact hc1.1, (World.frozen?_of_block (hb.block _ (Ap.cell_lt hc1.1))).trans hc1.2, fun j hj => absurd hj (Nat.not_lt_zero j), hbl.trans (hb.mono hbl.size), by have := hb.size; omega⟩)
    (fun args => { tmps := #[.slice a l.length cap, .int .i64 kk, undef, .pointer (some ⟨w.heap.size, 0, none⟩), .pointer (some ⟨w.heap.size + 1, 0, none⟩), args.getD 0 undef, args.getD 1 undef, .slice a l.length cap, .func (.func 131) #[] #[.pointer (some ⟨w.heap.size + 1 + 1, 0, none⟩)], args.getD 0 undef, args.getD 1 undef, undef, undef, undef, undef, undef], defers := [] }) ?assign ?body ?done ?stop
  case assign =>
    rintro l0 k args A K ⟨va, rfl, hva⟩ hK
    gi_wp2
    exact hK
  case body =>
    rintro l0 T k args A hp hT hk ⟨va, rfl, hva⟩
    have hlt := rounds_lt hk
    have hck := hp.ck
    obtain ⟨_, aa, ca, rfl, -⟩ := id hva
    have HP := Lib.hid hp
    have HT3 : Hid (∀ t, T t → w.heap.size + 3 ≤ t ∧ t < A.heap.size) := Lib.hid (by rw [← hsz]; exact hT)
    have HVA := Lib.hid hva
    have HK := Lib.hid hk
    have HLV : Hid ((ov l k).length ≤ 4398046511104) := Lib.hid (by
      unfold ov
      exact Nat.le_trans (List.length_filter_le _ _) (by simp; omega))
    clear hp hT hva hk
    by_cases he : (k : Int) = kk
    · subst he
      gi_wp2
      refine ⟨trivial, rfl, (CallsIn.inRound l0 (callsIn_wide.2 (cloneI_any _ _ A HVA.out HLV.out))).mono ?_⟩
      rintro e w2 ⟨y, rfl, hown, hb⟩
      have hlk := HP.out.size
      have hbA := hb.size
      have hr2 : w2.cell? ⟨w.heap.size + 1, 0, none⟩ = some (.slice none 0 0) := by rw [hb.cell (Ap.cell_lt HP.out.cr)]; exact HP.out.cr
      have hf2 : w2.frozen? ⟨w.heap.size + 1, 0, none⟩ = false := (World.frozen?_of_block (hb.block _ (Ap.cell_lt HP.out.cr))).trans HP.out.fr
      have hyb : ∀ g, y.ownBlock = some g → A.heap.size ≤ g := fun g hg => by
        obtain ⟨_, ⟨rfl, _⟩ | ⟨g', cp, cur, rfl, hq, _⟩⟩ := hown
        · cases hg
        · cases hg; exact hq
      have hown0 : Ow w2 y (ov l k) := Ap.own_base hown (Nat.zero_le _)
      have HE : Hid (Oed w l (k : Int) T y (w2.setCell ⟨w.heap.size + 1, 0, none⟩ y)) := by
        refine Lib.hid ⟨⟨by omega, by have := HK.out; omega⟩, World.cell?_setCell_same' _ _ _ (by rw [hr2]; rfl), ?_, fun g hg ht => ?_, ?_, fun g hg => by have := hyb g hg; omega⟩
        · rw [Int.toNat_natCast]
          exact hown0.turn (M := fun t => t = w.heap.size + 1) (Turn.setCell rfl) fun g hg e => by have := hyb g hg; omega
        · have h1 := hyb g hg
          have h2 := HT3.out g ht
          omega
        · exact (HP.out.bel.trans (hb.mono HP.out.bel.size)).trans ((Turn.setCell (T := fun t => t = w.heap.size + 1) rfl).below (by omega) fun t h => by omega)
      have HKp : Hid (Keep (fun t => T t ∨ t < w.heap.size) A (w2.setCell ⟨w.heap.size + 1, 0, none⟩ y)) := Lib.hid
        ((Keep.of_below hb fun t h => by
          rcases h with h | h
          · exact (HT3.out t h).2
          · omega).trans (Keep.setCell fun h => by
          rcases h with h | h
          · have h1 := (HT3.out _ h).1
            change _ ≤ w.heap.size + 1 at h1
            omega
          · change w.heap.size + 1 < w.heap.size at h
            omega))
      obtain ⟨ya, yc, rfl⟩ := hown0.slice
      clear hown hown0 hyb hb
      gi_wp2
      exact ⟨HKp.out, rfl, _, HE.out⟩
    · have g0 : ((k : Int) == kk) = false := by rw [beq_eq_false_iff_ne]; exact he
      gi_wp2
      refine ⟨Keep.refl _ _, HP.out.ck, HP.out.cr, HP.out.fr, fun j hj => ?_, HP.out.bel, HP.out.size⟩
      by_cases h : j = k
      · subst h; exact he
      · exact HP.out.no j (by omega)
  case done =>
    rintro T W hp hTD hT hD
    have hcr := hp.cr
    have hfr := hp.fr
    have hne : wl.heap.size ≠ w.heap.size + 1 := by omega
    have e0 : ovI l kk = [] := by
      unfold ovI
      rw [if_neg]
      rintro ⟨h1, h2⟩
      exact hp.no kk.toNat (by omega) (by omega)
    have hD2 : (W.setCell ⟨w.heap.size + 1, 0, none⟩ (.slice none 0 0)).heap[wl.heap.size]? = some (.deferred (some [])) := (Below.heap_setCell W _ _ _ hne).trans hD
    have HD := Lib.hid hD2
    have hc5 := cell_kept (World.cell?_setCell_same' W ⟨w.heap.size + 1, 0, none⟩ (.slice none 0 0) (by rw [hcr]; rfl)) (grownBy_putObj' _ wl.heap.size (.deferred none)) (fun r e => by cases e; exact ⟨_, hD2, rfl⟩)
    have HC5 := Lib.hid hc5
    have hbs := hp.bel.trans ((Turn.setCell (T := fun t => t = w.heap.size + 1) (w := W) (p := ⟨w.heap.size + 1, 0, none⟩) (v := .slice none 0 0) rfl).below hp.bel.size fun t h => by omega)
    have HB := Lib.hid (hbs.trans ((putObj_turn (T := fun t => t = wl.heap.size) (o := .deferred none) rfl).below hbs.size fun t h => by omega))
    have HE0 := Lib.hid e0
    clear hp hT hTD hD hD2 hc5 hbs e0
    go_wp2_with fail
    refine leaves_mark (v := .slice none 0 0) HD.out ?_ ⟨_, rfl, ?_, HB.out⟩
    · have hc6 := HC5.out
      simp [results, Tryz.f57, go_sem, hc6]
    · rw [HE0.out]
      exact ⟨rfl, .inl ⟨rfl, rfl⟩⟩
  case stop =>
    rintro T c k W _ ⟨rfl, y, h⟩ hTD hT hD
    have hne : y.ownBlock ≠ some wl.heap.size := fun e => h.apart _ e hTD
    have e0 : ovI l kk = ov l kk.toNat := by
      unfold ovI
      rw [if_pos h.lt]
    have hc6 := cell_kept h.cr (grownBy_putObj' _ wl.heap.size (.deferred none)) (fun r e => by cases e; exact ⟨_, hD, rfl⟩)
    refine wpIn_ret (leaves_mark (v := y) hD ?_ ⟨_, rfl, ?_, ?_⟩)
    · simp [results, Tryz.f57, go_sem, hc6]
    · rw [e0]
      exact own_up (h.own.turn (M := fun t => t = wl.heap.size) (putObj_turn rfl) fun g hg e => hne (by rw [hg, e])) h.base
    · exact h.bel.trans ((putObj_turn (T := fun t => t = wl.heap.size) rfl).below h.bel.size fun t h => by omega)
end Go.Proofs.YtekblibhaipioaaGreat.Pl

namespace Go.Proofs.YtekblibhaipioaaGreat.Mn
open Go Go.RowKit Tr
set_option maxRecDepth 20000
def BoxT (w : World) (b : Nat) (v : Value) (e : Int) : Prop := w.cell? ⟨b, 0, none⟩ = some v ∧ w.cell? ⟨b, 1, none⟩ = some (.int .i64 e)
theorem BoxT.below {w w' : World} {b : Nat} {v : Value} {e : Int} (h : BoxT w b v e) (hb : Below w.heap.size w w') : BoxT w' b v e :=
  ⟨by rw [hb.cell (p := ⟨b, 0, none⟩) (Ap.cell_lt h.1)]; exact h.1, by rw [hb.cell (p := ⟨b, 1, none⟩) (Ap.cell_lt h.2)]; exact h.2⟩
theorem map_flat {α β : Type} (f : α → β) (l : List α) : l.map f = l.flatMap fun t => [f t] := by
  induction l with
  | nil => rfl
  | cons x l ih => rw [List.map_cons, List.flatMap_cons, ih]; rfl
theorem box_new (w : World) (a b : Value) (t : TypeId) : (w.alloc (.cells #[a, b] t)).cell? ⟨w.heap.size, 0, none⟩ = some a ∧ (w.alloc (.cells #[a, b] t)).cell? ⟨w.heap.size, 1, none⟩ = some b := by simp
set_option maxHeartbeats 1000000 in
theorem then1_any (T : TCon) (ok : Nat → Prop) (bx : Nat) (a pv : Value) (t p : Tr) (w : World) (hb : BoxT w bx pv p.e) (hp : StrsO ok w pv p.a) (hs : StrsO ok w a t.a) (hlen : p.a.length + t.a.length ≤ 1000000) :
    Calls Tryz.prog 112 #[.agg #[a, .int .i64 t.e], .pointer (some ⟨bx, 0, none⟩)] w (OutT ok [thn p t] w) := by
  have HB := Lib.hid (fun o => bel1 w o)
  have C := Lib.hid (fun o => T.cThn pv a p t (w.alloc o) (so_strs (so_below hp (HB.out o))) (so_strs (so_below hs (HB.out o))) hlen)
  have hlt := Ap.cell_lt hb.1
  obtain ⟨c0, c1⟩ := hb
  obtain ⟨_, a1, k1, rfl, _⟩ := hp
  obtain ⟨_, a2, k2, rfl, _⟩ := hs
  go_enter Tryz.func112, Tryz.ntmps112
  go_wp2_with fail
  refine (C.out _).mono ?_
  rintro e w1 ⟨v, rfl, hm, hb1⟩
  have B1 := Lib.hid ((HB.out _).trans (hb1.mono (HB.out _).size))
  have HM := Lib.hid (so_imp hm.1 (ok' := fun b => ok b ∨ w.heap.size ≤ b) fun b _ h => .inr (Nat.le_trans (by simp) h))
  obtain ⟨⟨_, a3, k3, rfl, _⟩, _⟩ := hm
  go_wp2_with fail
  refine (only_any _ _ (thn p t) _ HM.out).mono ?_
  intro e w2 ho
  have HO := Lib.hid (ho.up B1.out fun b h => h)
  obtain ⟨a4, k4, rfl, _, _⟩ := ho
  go_wp2_with fail
  go_ret
  exact HO.out
set_option maxHeartbeats 1000000 in
theorem then_any (T : TCon) (ok : Nat → Prop) (pv y : Value) (p : Tr) (l : List Tr) (w : World) (hp : StrsO ok w pv p.a) (hl : TsO ok w y l) (hlen : l.length ≤ 1000000000000) (hrow : ∀ t ∈ l, p.a.length + t.a.length ≤ 1000000) :
    Calls Tryz.prog 78 #[.agg #[pv, .int .i64 p.e], y] w (OutT ok (l.map (thn p)) w) := by
  have eg : ∀ args w, (callFunc 112 args).run Tryz.prog w = .ok (.enter 112 args) w := enters_of Tryz.func112 (by kernel_rfl) rfl
  have hmap := map_flat (thn p) l
  have C := Lib.hid (fun ty => eachTT 112 #[.pointer (some ⟨w.heap.size, 0, none⟩)] eg ok y l (fun t => [thn p t]) (w.alloc (.cells #[pv, .int .i64 p.e] ty)) (hl.below (bel1 _ _))
    (fun wr hb t ht a ha => then1_any T _ w.heap.size a pv t p wr (BoxT.below (box_new _ _ _ _) hb) (so_below (so_below (so_imp hp fun b hlt h => ⟨h, by simp; omega⟩) (bel1 _ _)) hb) ha (hrow t ht)) hlen (by rw [← hmap, List.length_map]; exact hlen))
  rw [← hmap] at C
  generalize l.map (thn p) = L at C ⊢
  obtain ⟨_, a1, k1, rfl, _⟩ := hp
  obtain ⟨_, ⟨_, a2, k2, rfl, _⟩, _⟩ := hl
  clear hmap
  go_enter Tryz.func78, Tryz.ntmps78
  go_wp2_with fail
  refine (C.out _).mono ?_
  intro e w2 ho
  have HO := Lib.hid (ho.up (bel1 w _) fun b h => .inl h)
  obtain ⟨a4, k4, rfl, _, _⟩ := ho
  go_wp2_with fail
  go_ret
  exact HO.out
set_option maxHeartbeats 1000000 in
theorem beside1_any (T : TCon) (ok : Nat → Prop) (bx : Nat) (a pv : Value) (t p : Tr) (w : World) (hb : BoxT w bx pv p.e) (hp : StrsO ok w pv p.a) (hs : StrsO ok w a t.a) (hlen : p.a.length + t.a.length ≤ 9) :
    Calls Tryz.prog 122 #[.agg #[a, .int .i64 t.e], .pointer (some ⟨bx, 0, none⟩)] w (OutT ok (pr p t) w) := by
  have HB := Lib.hid (fun o => bel1 w o)
  have C := Lib.hid (fun o => T.cPar pv a p t (w.alloc o) (so_strs (so_below hp (HB.out o))) (so_strs (so_below hs (HB.out o))) hlen)
  have hlt := Ap.cell_lt hb.1
  obtain ⟨c0, c1⟩ := hb
  obtain ⟨_, a1, k1, rfl, _⟩ := hp
  obtain ⟨_, a2, k2, rfl, _⟩ := hs
  generalize pr p t = L at C ⊢
  go_enter Tryz.func122, Tryz.ntmps122
  go_wp2_with fail
  refine (C.out _).mono ?_
  intro e w2 ho
  have HO := Lib.hid (ho.up (ok := ok) (HB.out _) fun b h => h.elim)
  obtain ⟨a4, k4, rfl, _, _⟩ := ho
  go_wp2_with fail
  go_ret
  exact HO.out
set_option maxHeartbeats 1000000 in
theorem beside_any (T : TCon) (ok : Nat → Prop) (pv y : Value) (p : Tr) (l : List Tr) (w : World) (hp : StrsO ok w pv p.a) (hl : TsO ok w y l) (hlen : l.length ≤ 1000000000000) (hout : (l.flatMap (pr p)).length ≤ 1000000000000) (hrow : ∀ t ∈ l, p.a.length + t.a.length ≤ 9) :
    Calls Tryz.prog 95 #[.agg #[pv, .int .i64 p.e], y] w (OutT ok (l.flatMap (pr p)) w) := by
  have eg : ∀ args w, (callFunc 122 args).run Tryz.prog w = .ok (.enter 122 args) w := enters_of Tryz.func122 (by kernel_rfl) rfl
  have C := Lib.hid (fun ty => eachTT 122 #[.pointer (some ⟨w.heap.size, 0, none⟩)] eg ok y l (pr p) (w.alloc (.cells #[pv, .int .i64 p.e] ty)) (hl.below (bel1 _ _))
    (fun wr hb t ht a ha => beside1_any T _ w.heap.size a pv t p wr (BoxT.below (box_new _ _ _ _) hb) (so_below (so_below (so_imp hp fun b hlt h => ⟨h, by simp; omega⟩) (bel1 _ _)) hb) ha (hrow t ht)) hlen hout)
  generalize l.flatMap (pr p) = L at C ⊢
  obtain ⟨_, a1, k1, rfl, _⟩ := hp
  obtain ⟨_, ⟨_, a2, k2, rfl, _⟩, _⟩ := hl
  go_enter Tryz.func95, Tryz.ntmps95
  go_wp2_with fail
  refine (C.out _).mono ?_
  intro e w2 ho
  have HO := Lib.hid (ho.up (bel1 w _) fun b h => .inl h)
  obtain ⟨a4, k4, rfl, _, _⟩ := ho
  go_wp2_with fail
  go_ret
  exact HO.out
def hdl (p : Tr) (l : List Tr) : List Tr := if p.e = 2 then l.map (thn ⟨p.a, 1⟩) else [p]
set_option maxHeartbeats 1000000 in
theorem handed_any (T : TCon) (ok : Nat → Prop) (pv y : Value) (p : Tr) (l : List Tr) (w : World) (hp : StrsO ok w pv p.a) (hl : TsO ok w y l) (hlen : l.length ≤ 1000000000000) (hrow : ∀ t ∈ l, p.a.length + t.a.length ≤ 1000000) :
    Calls Tryz.prog 97 #[.agg #[pv, .int .i64 p.e], y] w (OutT ok (hdl p l) w) := by
  have HB := Lib.hid (fun o => bel1 w o)
  by_cases h2 : p.e = 2
  · have hL : hdl p l = l.map (thn ⟨p.a, 1⟩) := if_pos h2
    rw [hL, h2]
    have TH := Lib.hid (fun w1 (hb : Below w.heap.size w w1) => then_any T ok pv y ⟨p.a, 1⟩ l w1 (so_below hp hb) (hl.below hb) hlen hrow)
    generalize l.map (thn ⟨p.a, 1⟩) = L at TH ⊢
    obtain ⟨_, a1, k1, rfl, _⟩ := hp
    obtain ⟨_, ⟨_, a2, k2, rfl, _⟩, _⟩ := hl
    clear hL h2
    go_enter Tryz.func97, Tryz.ntmps97
    go_wp2_with fail
    refine (ticked_any _ _ _ _ _).mono ?_
    rintro e w1 ⟨rfl, hb1⟩
    have B1 := Lib.hid ((HB.out _).trans (hb1.mono (HB.out _).size))
    go_wp2_with fail
    refine (TH.out _ B1.out).mono ?_
    intro e w2 ho
    have HO := Lib.hid (ho.up B1.out fun b h => .inl h)
    obtain ⟨a4, k4, rfl, _, _⟩ := ho
    go_wp2_with fail
    go_ret
    exact HO.out
  · have hL : hdl p l = [p] := if_neg h2
    have hne : (p.e != 2) = true := by simp [h2]
    rw [hL]
    have ON := Lib.hid (fun w1 (hb : Below w.heap.size w w1) => only_any ok pv p w1 (so_below hp hb))
    obtain ⟨_, a1, k1, rfl, _⟩ := hp
    obtain ⟨_, ⟨_, a2, k2, rfl, _⟩, _⟩ := hl
    clear hL
    go_enter Tryz.func97, Tryz.ntmps97
    go_wp2_with fail
    refine (ON.out _ (HB.out _)).mono ?_
    intro e w2 ho
    have HO := Lib.hid (ho.up (HB.out _) fun b h => .inl h)
    obtain ⟨a4, k4, rfl, _, _⟩ := ho
    go_wp2_with fail
    go_ret
    exact HO.out
def BoxP (w : World) (b : Nat) (v : Value) (e : Int) (v' : Value) (e' : Int) : Prop := w.cell? ⟨b, 0, none⟩ = some v ∧ w.cell? ⟨b, 1, none⟩ = some (.int .i64 e) ∧ w.cell? ⟨b, 2, none⟩ = some v' ∧ w.cell? ⟨b, 3, none⟩ = some (.int .i64 e')
theorem BoxP.below {w w' : World} {b : Nat} {v v' : Value} {e e' : Int} (h : BoxP w b v e v' e') (hb : Below w.heap.size w w') : BoxP w' b v e v' e' :=
  ⟨by rw [hb.cell (p := ⟨b, 0, none⟩) (Ap.cell_lt h.1)]; exact h.1, by rw [hb.cell (p := ⟨b, 1, none⟩) (Ap.cell_lt h.2.1)]; exact h.2.1, by rw [hb.cell (p := ⟨b, 2, none⟩) (Ap.cell_lt h.2.2.1)]; exact h.2.2.1, by rw [hb.cell (p := ⟨b, 3, none⟩) (Ap.cell_lt h.2.2.2)]; exact h.2.2.2⟩
theorem boxP_new (w : World) (a b c d : Value) (t : TypeId) : (w.alloc (.cells #[a, b, c, d] t)).cell? ⟨w.heap.size, 0, none⟩ = some a ∧ (w.alloc (.cells #[a, b, c, d] t)).cell? ⟨w.heap.size, 1, none⟩ = some b ∧ (w.alloc (.cells #[a, b, c, d] t)).cell? ⟨w.heap.size, 2, none⟩ = some c ∧ (w.alloc (.cells #[a, b, c, d] t)).cell? ⟨w.heap.size, 3, none⟩ = some d := by simp
set_option maxHeartbeats 2000000 in
theorem asBlock_any (T : TCon) (ok : Nat → Prop) (v1 v2 : Value) (x : Pr) (w : World) (h1 : StrsO ok w v1 x.p.a) (h2 : StrsO ok w v2 x.q.a) (hlen : x.p.a.length + x.q.a.length ≤ 1000000) :
    Calls Tryz.prog 50 #[.agg #[v1, .int .i64 x.p.e, v2, .int .i64 x.q.e]] w (OutT ok (blk1 x) w) := by
  have HB := Lib.hid (fun o => bel1 w o)
  by_cases e1 : x.p.e = 1
  · have hL : blk1 x = [x.p] := if_pos e1
    rw [hL]
    have ON := Lib.hid (fun w1 (hb : Below w.heap.size w w1) => only_any ok v1 x.p w1 (so_below h1 hb))
    rw [e1] at ON ⊢
    obtain ⟨_, a1, k1, rfl, _⟩ := h1
    obtain ⟨_, a2, k2, rfl, _⟩ := h2
    clear hL
    go_enter Tryz.func50, Tryz.ntmps50
    go_wp2_with fail
    refine (ON.out _ (HB.out _)).mono ?_
    intro e w2 ho
    have HO := Lib.hid (ho.up (HB.out _) fun b h => .inl h)
    obtain ⟨a4, k4, rfl, _, _⟩ := ho
    go_wp2_with fail
    go_ret
    exact HO.out
  · by_cases e2 : x.p.e = 2
    · have hL : blk1 x = [x.q].map (thn ⟨x.p.a, 1⟩) := by
        unfold blk1
        rw [if_neg e1, if_pos e2]
        rfl
      rw [hL, e2]
      have ON := Lib.hid (fun w1 (hb : Below w.heap.size w w1) => only_any ok v2 x.q w1 (so_below h2 hb))
      have TH := Lib.hid (fun y w1 ok' (hp : StrsO ok' w1 v1 x.p.a) (hl : TsO ok' w1 y [x.q]) => then_any T ok' v1 y ⟨x.p.a, 1⟩ [x.q] w1 hp hl (by simp) (fun t ht => by rw [List.mem_singleton] at ht; rw [ht]; exact hlen))
      have H1 := Lib.hid h1
      generalize [x.q].map (thn ⟨x.p.a, 1⟩) = L at TH ⊢
      obtain ⟨_, a1, k1, rfl, _⟩ := h1
      obtain ⟨_, a2, k2, rfl, _⟩ := h2
      clear hL e1 e2
      go_enter Tryz.func50, Tryz.ntmps50
      go_wp2_with fail
      go_region_held3 (fun w' => w'.cell? ⟨w.heap.size, 0, none⟩ = some (.slice a1 x.p.a.length k1) ∧ w'.cell? ⟨w.heap.size, 1, none⟩ = some (.int .i64 2) ∧ w'.cell? ⟨w.heap.size, 2, none⟩ = some (.slice a2 x.q.a.length k2) ∧ w'.cell? ⟨w.heap.size, 3, none⟩ = some (.int .i64 x.q.e)) (first | exact ⟨by simp [go_sem], by simp [go_sem], by simp [go_sem], by simp [go_sem]⟩ | exact kz | exact ky | exact kx | fail) (first
        | (go_at_call 91
           (with_reducible refine (ticked_any _ _ _ _ _).mono ?_)
           rintro e w1 ⟨rfl, hb1⟩
           have kz : BoxP w1 w.heap.size (.slice a1 x.p.a.length k1) 2 (.slice a2 x.q.a.length k2) x.q.e := BoxP.below ⟨by simp [go_sem], by simp [go_sem], by simp [go_sem], by simp [go_sem]⟩ hb1
           have B1 := Lib.hid (((HB.out _).drew).trans (hb1.mono (HB.out _).drew.size))
           clear hb1)
        | (go_at_call 47
           (with_reducible refine (ON.out _ B1.out).mono ?_)
           rintro e w2 ⟨a4, k4, rfl, ht2, hb2⟩
           have B2 := Lib.hid (B1.out.trans (hb2.mono B1.out.size))
           have T2 : Hid (TsO (fun b => ok b ∨ w.heap.size ≤ b) w2 (.slice a4 1 k4) [x.q]) := Lib.hid (ht2.imp (ok' := fun b => ok b ∨ w.heap.size ≤ b) fun b _ h => h.imp id fun h => Nat.le_trans B1.out.size h)
           have ky := BoxP.below kz hb2
           clear ht2 hb2)
        | (go_at_call 78
           (with_reducible refine (TH.out _ _ _ (so_below (so_imp H1.out fun _ _ h => .inl h) B2.out) T2.out).mono ?_)
           intro e w3 ho
           have HO := Lib.hid (ho.up (ok := ok) B2.out fun b h => h)
           obtain ⟨a5, k5, rfl, _, hb5⟩ := ho
           have kx := BoxP.below ky hb5
           clear hb5)
        | fail)
      go_wp2_with fail
      go_ret
      exact HO.out
    · have hL : blk1 x = [] := by
        unfold blk1
        rw [if_neg e1, if_neg e2]
      have g1 : (x.p.e == 1) = false := by simp [e1]
      have g2 : (x.p.e == 2) = false := by simp [e2]
      rw [hL]
      obtain ⟨_, a1, k1, rfl, _⟩ := h1
      obtain ⟨_, a2, k2, rfl, _⟩ := h2
      go_enter Tryz.func50, Tryz.ntmps50
      go_wp2_with fail
      go_ret
      exact ⟨none, 0, rfl, ts_nil _ _, HB.out _⟩
end Go.Proofs.YtekblibhaipioaaGreat.Mn

namespace Go.Proofs.YtekblibhaipioaaGreat.Se
open Go Go.RowKit Rw So
set_option maxRecDepth 20000
theorem flat_inj : ∀ t u : Tm, flat t = flat u → t = u := by
  intro t
  induction t with
  | act s =>
    intro u h
    have hk : kd u = 1 := by unfold kd; rw [← h]; rfl
    cases u <;> try (simp [kd, flat, hd, nOf] at hk; done)
    · have e := congrArg nml h
      exact congrArg Tm.act e
  | skip =>
    intro u h
    have hk : kd u = 2 := by unfold kd; rw [← h]; rfl
    cases u <;> try (simp [kd, flat, hd, nOf] at hk; done)
    · rfl
  | throw =>
    intro u h
    have hk : kd u = 3 := by unfold kd; rw [← h]; rfl
    cases u <;> try (simp [kd, flat, hd, nOf] at hk; done)
    · rfl
  | yield =>
    intro u h
    have hk : kd u = 4 := by unfold kd; rw [← h]; rfl
    cases u <;> try (simp [kd, flat, hd, nOf] at hk; done)
    · rfl
  | over s =>
    intro u h
    have hk : kd u = 11 := by unfold kd; rw [← h]; rfl
    cases u <;> try (simp [kd, flat, hd, nOf] at hk; done)
    · have e := congrArg sgl h
      exact congrArg Tm.over e
  | block a ia =>
    intro u h
    have hk : kd u = 9 := by unfold kd; rw [← h]; rfl
    cases u <;> try (simp [kd, flat, hd, nOf] at hk; done)
    · have e := congrArg kids h
      rw [kids_block, kids_block] at e
      injection e with e _
      rw [ia _ e]
  | fin s c ic =>
    intro u h
    have hk : kd u = 14 := by unfold kd; rw [← h]; rfl
    cases u <;> try (simp [kd, flat, hd, nOf] at hk; done)
    · have e := congrArg kids h
      have e2 : s = _ := congrArg sgl h
      rw [kids_fin, kids_fin] at e
      injection e with e _
      rw [ic _ e, e2]
      rfl
  | seq a b ia ib =>
    intro u h
    have hk : kd u = 5 := by unfold kd; rw [← h]; rfl
    cases u <;> try (simp [kd, flat, hd, nOf] at hk; done)
    · have e := congrArg kids h
      rw [kids_seq, kids_seq] at e
      injection e with e1 e
      injection e with e2 _
      rw [ia _ e1, ib _ e2]
  | alt a b ia ib =>
    intro u h
    have hk : kd u = 6 := by unfold kd; rw [← h]; rfl
    cases u <;> try (simp [kd, flat, hd, nOf] at hk; done)
    · have e := congrArg kids h
      rw [kids_alt, kids_alt] at e
      injection e with e1 e
      injection e with e2 _
      rw [ia _ e1, ib _ e2]
  | par a b ia ib =>
    intro u h
    have hk : kd u = 7 := by unfold kd; rw [← h]; rfl
    cases u <;> try (simp [kd, flat, hd, nOf] at hk; done)
    · have e := congrArg kids h
      rw [kids_par, kids_par] at e
      injection e with e1 e
      injection e with e2 _
      rw [ia _ e1, ib _ e2]
  | hand a b ia ib =>
    intro u h
    have hk : kd u = 8 := by unfold kd; rw [← h]; rfl
    cases u <;> try (simp [kd, flat, hd, nOf] at hk; done)
    · have e := congrArg kids h
      rw [kids_hand, kids_hand] at e
      injection e with e1 e
      injection e with e2 _
      rw [ia _ e1, ib _ e2]
  | pair a b ia ib =>
    intro u h
    have hk : kd u = 10 := by unfold kd; rw [← h]; rfl
    cases u <;> try (simp [kd, flat, hd, nOf] at hk; done)
    · have e := congrArg kids h
      rw [kids_pair, kids_pair] at e
      injection e with e1 e
      injection e with e2 _
      rw [ia _ e1, ib _ e2]
  | going a b ia ib =>
    intro u h
    have hk : kd u = 12 := by unfold kd; rw [← h]; rfl
    cases u <;> try (simp [kd, flat, hd, nOf] at hk; done)
    · have e := congrArg kids h
      rw [kids_going, kids_going] at e
      injection e with e1 e
      injection e with e2 _
      rw [ia _ e1, ib _ e2]
  | stack a b ia ib =>
    intro u h
    have hk : kd u = 13 := by unfold kd; rw [← h]; rfl
    cases u <;> try (simp [kd, flat, hd, nOf] at hk; done)
    · have e := congrArg kids h
      rw [kids_stack, kids_stack] at e
      injection e with e1 e
      injection e with e2 _
      rw [ia _ e1, ib _ e2]
noncomputable def st (l : List Nd) : List Nd := if h : of l = 0 then [] else flat (S (goes_of h).choose)
theorem st_no {l : List Nd} (h : of l = 0) : st l = [] := dif_pos h
theorem st_go {t : Tm} (h : Goes t) : st (flat t) = flat (S t) := by
  have h0 := h.of
  unfold st
  rw [dif_neg h0]
  rw [flat_inj _ _ (goes_of h0).choose_spec.1]
theorem st_len (l : List Nd) : (st l).length ≤ l.length := by
  by_cases h : of l = 0
  · rw [st_no h]; exact Nat.zero_le _
  · obtain ⟨t, rfl, hg⟩ := goes_of h
    rw [st_go hg, flat_len, flat_len]
    exact S_sz t
theorem st_some {l : List Nd} (h : st l ≠ []) : ∃ t, flat t = l ∧ Goes t ∧ st l = flat (S t) := by
  by_cases h0 : of l = 0
  · exact absurd (st_no h0) h
  · obtain ⟨t, rfl, hg⟩ := goes_of h0
    exact ⟨t, rfl, hg, st_go hg⟩
theorem settleP_any (v : Value) (l : List Nd) (w : World) (hv : Nds w v l) (hl : l.length ≤ 1000) (hm : Nms l) : Calls Tryz.prog 28 #[v] w (OutL (st l) w) := by
  by_cases h : of l = 0
  · rw [st_no h]; exact settleP_no v l w hv hl hm h
  · obtain ⟨t, rfl, hg⟩ := goes_of h
    rw [st_go hg]; exact settleP_go v t w hv hm hg
theorem nms_goes {t : Tm} (h : rg t = true) : Nms (flat t) := by
  intro x hx
  have hr : rgt x = true := (List.all_eq_true.1 h) x hx
  obtain ⟨k, n, s⟩ := x
  show n.size ≤ _
  by_cases h1 : k = 1
  · subst h1
    rw [rgt_act] at hr
    simp only [Bool.and_eq_true, decide_eq_true_eq] at hr
    omega
  · by_cases h2 : k = 11 ∨ k = 14
    · rw [rgt_sign n s h2] at hr
      simp only [Bool.and_eq_true, decide_eq_true_eq] at hr
      omega
    · have h0 : ¬ ar k < 0 := fun h0 => by unfold rgt at hr; rw [if_pos h0] at hr; cases hr
      rw [rgt_other n s h0 h1 h2] at hr
      simp only [Bool.and_eq_true, decide_eq_true_eq] at hr
      omega
theorem settledQ_any (v : Value) (l : List Nd) (w : World) (hv : Nds w v l) (hl : l.length ≤ 1000) (hm : Nms l) :
    Calls Tryz.prog 12 #[v] w fun e w' => e = .returned (.bool (decide (0 < l.length) && sameN (st l) l)) ∧ Below w.heap.size w w' := by
  by_cases h0 : 0 < l.length
  · rw [decide_eq_true h0, Bool.true_and]
    exact settledQ_some v l (st l) w hv hl (by have := st_len l; omega) h0 (settleP_any v l w hv hl hm)
  · have : l = [] := List.eq_nil_of_length_eq_zero (by omega)
    subst this
    obtain ⟨_, a, c, rfl, -⟩ := hv
    refine (settledQ_none a c w).mono ?_
    rintro e w' ⟨rfl, rfl⟩
    exact ⟨rfl, Below.refl _ _⟩
end Go.Proofs.YtekblibhaipioaaGreat.Se

namespace Go.Proofs.YtekblibhaipioaaGreat.Se
open Go Go.RowKit Rw So
set_option maxRecDepth 20000
end Go.Proofs.YtekblibhaipioaaGreat.Se

namespace Go.Proofs.YtekblibhaipioaaGreat.Do
open Go Go.RowKit Rw So Se
set_option maxRecDepth 20000
structure Nums (n g : Nat) (f : Nat → Nat) (w : World) : Prop where
  cell : ∀ j : Nat, j < n → w.cell? ⟨g, j, none⟩ = some (.int .i64 (f j : Int))
  soft : ∀ j : Nat, w.frozen? ⟨g, j, none⟩ = false
theorem Nums.below {n g M : Nat} {f : Nat → Nat} {w w' : World} (h : Nums n g f w) (hb : Below M w w') (hg : g < M) : Nums n g f w' :=
  ⟨fun j hj => by rw [hb.cell (p := ⟨g, j, none⟩) hg]; exact h.cell j hj, fun j => (World.frozen?_of_block (hb.block _ hg)).trans (h.soft j)⟩
def rv (n : Nat) (f : Nat → Nat) (k m : Nat) : Nat := if m < k ∨ n < m + k + 1 then f (n - 1 - m) else f m
theorem Nums.swap {n g : Nat} {f : Nat → Nat} {k : Nat} {w : World} (h : Nums n g (rv n f k) w) (hk : k + k + 1 < n) :
    Nums n g (rv n f (k + 1)) ((w.setCell ⟨g, k, none⟩ (.int .i64 (rv n f k (n - 1 - k) : Int))).setCell ⟨g, n - 1 - k, none⟩ (.int .i64 (rv n f k k : Int))) := by
  refine ⟨fun j hj => ?_, fun j => by rw [frozen_set, frozen_set]; exact h.soft j⟩
  by_cases e1 : j = n - 1 - k
  · subst e1
    rw [cell_set_eq (u := .int .i64 (rv n f k (n - 1 - k) : Int)) (by rw [cell_set_o (by omega)]; exact h.cell _ hj)]
    congr 3
    unfold rv
    rw [if_neg (by omega), if_pos (by omega)]
    congr 1
    omega
  · rw [cell_set_o (fun e => e1 e.symm)]
    by_cases e2 : j = k
    · subst e2
      rw [cell_set_eq (h.cell _ hj)]
      congr 3
      unfold rv
      rw [if_neg (by omega), if_pos (by omega)]
    · rw [cell_set_o (fun e => e2 e.symm), h.cell j hj]
      congr 3
      unfold rv
      by_cases e3 : j < k ∨ n < j + k + 1
      · rw [if_pos e3, if_pos (by omega)]
      · rw [if_neg e3, if_neg (by omega)]
theorem rev_empty (a : Option Addr) (c : Nat) (w : World) : Calls Tryz.prog 58 #[.slice a 0 c] w fun e w' => e = .returned (.tuple #[]) ∧ w' = w := by
  go_enter Tryz.func58, Tryz.ntmps58
  go_wp2_with fail
  refine Go.wp_loop_rounds 1 ?_
  rw [rounds_succ]
  go_wp2_with fail
  go_end0
  exact ⟨rfl, rfl⟩
set_option maxHeartbeats 4000000 in
theorem rev_any (g c n : Nat) (f : Nat → Nat) (w : World) (_hc : n ≤ c) (hn : 1 ≤ n) (hl : n ≤ 1000) (h : Nums n g f w) :
    Calls Tryz.prog 58 #[.slice (some ⟨g, 0, none⟩) n c] w fun e w' => e = .returned (.tuple #[]) ∧ Nums n g (fun m => f (n - 1 - m)) w' ∧ Below g w w' := by
  have H := Lib.hid h
  clear h
  go_enter Tryz.func58, Tryz.ntmps58
  go_wp2_with fail
  go_loopw [2, 3] (fun i j wr => ∃ k : Nat, k + k ≤ n ∧ i = .int .i64 k ∧ j = .int .i64 ((n : Int) - 1 - k) ∧ Hid (Below g w wr) ∧ Hid (Nums n g (rv n f k) wr)) (fun i _ _ => n - (intOf i).toNat)
  case atStart => exact ⟨0, by omega, rfl, by go_num, Lib.hid (Below.refl _ _), Lib.hid ⟨fun j hj => by rw [H.out.cell j hj]; congr 3; unfold rv; rw [if_neg (by omega)], H.out.soft⟩⟩
  case round =>
    obtain ⟨k, hk, rfl, rfl, HB, HS⟩ := hrel
    by_cases hlt : (k : Int) < (n : Int) - 1 - k
    · have hk2 : k + k + 1 < n := by omega
      obtain ⟨j, hj⟩ : ∃ j, n - 1 - k = j := ⟨_, rfl⟩
      have hj2 : (n : Int) - 1 - k = j := by omega
      have e1 := HS.out.cell k (by omega)
      have e2 := HS.out.cell j (by omega)
      have f1 := HS.out.soft k
      have f2 := HS.out.soft j
      have NW := Lib.hid (HS.out.swap hk2)
      rw [hj] at NW
      rw [hj2] at hlt ⊢
      have jn : (j : Int) < n := by omega
      have kn : (k : Int) < n := by omega
      generalize (rv n f k k : Int) = x at e1 NW
      generalize (rv n f k j : Int) = y at e2 NW
      have kj : (k : Int) ≠ j := by omega
      have ckj : wr.cell? ⟨g, k, none⟩ = some (.int .i64 x) := e1
      have HJ : Hid ((j : Int) = (n : Int) - 1 - k ∧ k + k + 1 < n) := Lib.hid ⟨hj2.symm, hk2⟩
      clear hj hj2 hk2
      go_wp2_with fail
      go_region
      go_wp2_with fail
      go_roundw
      case rel => exact ⟨k + 1, by have := HJ.out; omega, by go_num, by have := HJ.out; go_num, Lib.hid (Rx.below_setCell (Rx.below_setCell HB.out g _ _ (Nat.le_refl _)) g _ _ (Nat.le_refl _)).drew, Lib.hid ⟨NW.out.cell, NW.out.soft⟩⟩
      case measure => simp [intOf]; omega
    · have H2 : Hid (Nums n g (fun m => f (n - 1 - m)) wr) := Lib.hid ⟨fun j hj => by
        rw [HS.out.cell j hj]
        congr 3
        unfold rv
        split
        · rfl
        · congr 1
          omega, HS.out.soft⟩
      clear HS
      go_wp2_with fail
      go_end0
      exact ⟨rfl, H2.out, HB.out⟩
end Go.Proofs.YtekblibhaipioaaGreat.Do

namespace Go.Proofs.YtekblibhaipioaaGreat.Mn
open Go Go.RowKit Tr
set_option maxRecDepth 20000
end Go.Proofs.YtekblibhaipioaaGreat.Mn
