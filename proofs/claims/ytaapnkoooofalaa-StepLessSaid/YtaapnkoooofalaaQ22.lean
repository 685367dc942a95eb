/- The program's Over: slices.Clone over numbers, a range that is left early. Plain: what was begun never comes to a stop ahead of its end. What Settle tells of any row; what follows of that. The program's Ended at any row: the walk. -/
import Derived.Test.YtaapnkoooofalaaQ21
import Derived.Lib.SliceRun
import Derived.Test.YtaapnkoooofalaaQ05
import Derived.BigQuiet

namespace Go.Proofs.Ytaapnkoooofalaa.Pl
open Go Go.RowKit Rw So Ro
set_option maxRecDepth 20000
attribute [local go_sem] Oper.semAt_some
theorem own_madeI (w : World) : (w.alloc (.cells #[] 3)).ownsRow w.heap.size 3 1 (.slice (some ⟨w.heap.size, 0, none⟩) 0 0) 0 [] :=
  ⟨rfl, .inr ⟨w.heap.size, 0, #[], rfl, Nat.le_refl _, by show (w.heap.push _)[w.heap.size]? = _; simp, Nat.le_refl _, Nat.zero_le _, rfl, rfl⟩⟩
set_option maxHeartbeats 800000 in
theorem cloneI_any (x : Value) (L : List Nat) (w : World) (hx : Rf.Plc w x L) (hlen : L.length ≤ 4398046511104) :
    Calls Try.prog 96 #[x] w fun e w' => ∃ v, e = .returned v ∧ w'.ownsRow w.heap.size 3 1 v L.length (Rx.ic L) ∧ Below w.heap.size w w' := by
  have q : ∀ (w : World) (a : Option Addr) (n c n' c' : Nat), (binOp .eql 51 (.slice a n c) (.slice none n' c')).run Try.prog w = .ok (.bool a.isNone) w := fun w a n c n' c' => Lib.run_eql_slice_nil w _ _ a n c n' c' Try.underlying51
  have hb0 : Below w.heap.size w (w.alloc (.cells #[] 3)) := below1 w _
  obtain ⟨i0, hi, hz, hs1, hb8⟩ := info_parts Rx.infoI
  obtain ⟨v1, w1, hrun, hown, _, hb, _⟩ := Ap.run_append_rd (P := Try.prog) (ty := 51) Try.underlying51 hi hz hs1 hb8 (by rfl) (by omega) (own_madeI w) hb0.size (hx.below hb0)
    (by intro u hu; rw [List.mem_map] at hu; obtain ⟨k, _, rfl⟩ := hu; rfl) (by unfold maxLen; omega) (by omega)
  rw [List.nil_append, Nat.zero_add] at hown
  obtain ⟨hl, a, c, rfl, _, hn, _⟩ := hx
  cases a with
  | none =>
    obtain ⟨h0, rfl⟩ := hn rfl
    obtain rfl : L = [] := List.eq_nil_of_length_eq_zero h0
    clear hrun hown hb hb0 hl hn h0 hi hz hs1 hb8
    go_enter Try.func96, Try.ntmps96
    go_wp2_with fail
    go_ret
    exact ⟨_, rfl, ⟨rfl, .inl ⟨rfl, rfl⟩⟩, Below.refl _ _⟩
  | some ad =>
    have R := Lib.hid hrun
    have O := Lib.hid hown
    have B := Lib.hid (hb0.trans hb)
    clear hrun hown hb hb0 hn hl hi hz hs1 hb8
    go_enter Try.func96, Try.ntmps96
    go_wp2_with (at_builtin; refine Ap.wpList_append_run (by rfl) _ _ _ _ rfl _ _ rfl rfl v1 w1 R.out ?_)
    go_ret
    exact ⟨_, rfl, O.out, B.out⟩
def ovI (l : List Nd) (k : Int) : List Nat := if 0 ≤ k ∧ k < rounds l then ov l k.toNat else []
structure Ost (w : World) (l : List Nd) (kk : Int) (k : Nat) (W : World) : Prop where
  ck : W.cell? ⟨w.heap.size, 0, none⟩ = some (.int .i64 kk)
  cr : W.cell? ⟨w.heap.size + 1, 0, none⟩ = some (.slice none 0 0)
  fr : W.frozen? ⟨w.heap.size + 1, 0, none⟩ = false
  no : ∀ j : Nat, j < k → (j : Int) ≠ kk
  bel : Below w.heap.size w W
  size : w.heap.size + 3 ≤ W.heap.size
theorem Ost.turn {w : World} {l : List Nd} {T : Nat → Prop} {kk : Int} {k : Nat} {A B : World} (h : Ost w l kk k A) (hT : ∀ t, T t → w.heap.size + 3 ≤ t ∧ t < A.heap.size) (ht : Turn T A B) : Ost w l kk k B := by
  have n0 : ∀ t, t < w.heap.size + 3 → ¬ T t := fun t h1 h2 => by have := hT t h2; omega
  exact ⟨ht.cell h.ck (n0 _ (by show w.heap.size < _; omega)), ht.cell h.cr (n0 _ (by show w.heap.size + 1 < _; omega)), (turn_frozen ht h.cr (n0 _ (by show w.heap.size + 1 < _; omega))).trans h.fr, h.no, h.bel.trans (ht.below h.bel.size fun t h' => by have := hT t h'; omega), Nat.le_trans h.size ht.size⟩
structure Oed (w : World) (l : List Nd) (kk : Int) (T : Nat → Prop) (y : Value) (W : World) : Prop where
  lt : 0 ≤ kk ∧ kk < rounds l
  cr : W.cell? ⟨w.heap.size + 1, 0, none⟩ = some y
  own : Ow W y (ov l kk.toNat)
  apart : ∀ g, y.ownBlock = some g → ¬ T g
  bel : Below w.heap.size w W
  base : ∀ g, y.ownBlock = some g → w.heap.size ≤ g
theorem own_up {w : World} {base size n : Nat} {e : TypeId} {v : Value} {xs : List Value} (h : w.ownsRow 0 e size v n xs) (hb : ∀ g, v.ownBlock = some g → base ≤ g) : w.ownsRow base e size v n xs := by
  obtain ⟨h1, ⟨rfl, h2⟩ | ⟨g, cap, cur, rfl, _, h3⟩⟩ := h
  · exact ⟨h1, .inl ⟨rfl, h2⟩⟩
  · exact ⟨h1, .inr ⟨g, cap, cur, rfl, hb g rfl, h3⟩⟩
theorem Oed.turn {w : World} {l : List Nd} {T : Nat → Prop} {kk : Int} {y : Value} {A B : World} (h : Oed w l kk T y A) (hT : ∀ t, T t → w.heap.size + 3 ≤ t ∧ t < A.heap.size) (ht : Turn T A B) : Oed w l kk T y B :=
  ⟨h.lt, ht.cell h.cr (fun h' => by have := (hT _ h').1; change _ ≤ w.heap.size + 1 at this; omega), h.own.turn ht h.apart, h.apart, h.bel.trans (ht.below h.bel.size fun t h' => by have := hT t h'; omega), h.base⟩
set_option maxHeartbeats 400000 in
theorem overP_own (v : Value) (l : List Nd) (kk : Int) (w : World) (hv : Nds w v l) (hl : l.length ≤ 4398046511104) :
    Calls Try.prog 88 #[v, .int .i64 kk] w fun e w' => ∃ y, e = .returned y ∧ w'.ownsRow w.heap.size 3 1 y (ovI l kk).length (Rx.ic (ovI l kk)) ∧ Below w.heap.size w w' := by
  have HN := Lib.hid hv
  obtain ⟨_, a, cap, rfl, -⟩ := hv
  refine calls_of_marks Try.func88 rfl ?_
  simp only [Try.ntmps88, List.size_toArray, List.length_cons, List.length_nil, Nat.reduceAdd, Nat.reduceSub, Array.replicate_succ, Array.replicate_zero, List.push_toArray, List.append_toArray, List.nil_append, List.cons_append]
  go_wp2_with fail
  refine (nodes_any a l.length cap _).mono ?_
  rintro e w' ⟨rfl, rfl⟩
  go_wp2_with fail
  obtain ⟨wl, hwl⟩ : ∃ wl, (((w.alloc (.cells #[.int .i64 kk] 3)).alloc (.cells #[.slice none 0 0] 51)).alloc (.cells #[.slice a l.length cap] 22)) = wl := ⟨_, rfl⟩
  have hsz : wl.heap.size = w.heap.size + 3 := by rw [← hwl]; simp
  have hbl : Below w.heap.size w wl := by
    rw [← hwl]
    exact ((below1 w _).alloc (by simp) _).alloc (by simp; omega) _
  have b0 := cell_new_l w (.int .i64 kk) 3
  have b1 := cell_new_l (w.alloc (.cells #[.int .i64 kk] 3)) (.slice none 0 0) 51
  have b2 := cell_new_l ((w.alloc (.cells #[.int .i64 kk] 3)).alloc (.cells #[.slice none 0 0] 51)) (.slice a l.length cap) 22
  simp only [World.size_alloc] at b1 b2
  have hc0 := (cell_al (.cells #[.slice a l.length cap] 22) (cell_al (.cells #[.slice none 0 0] 51) b0)).1
  have hc1 := cell_al (.cells #[.slice a l.length cap] 22) b1
  have hc2 := b2.1
  rw [hwl] at hc0 hc1 hc2 ⊢
  clear b0 b1 b2 hwl
  refine wp_range (gf := 99) (lb := #[.pointer (some ⟨w.heap.size + 1 + 1, 0, none⟩)]) rfl (enters_of Try.func99 (by kernel_rfl) rfl)
    (iter_any (w.heap.size + 1 + 1) _ l w wl HN.out hl hbl hc2) (by omega) (Below.refl _ _) Told.size Told.stay
    (fun T k W => Ost w l kk k W) (fun c T k W => c = .ret ∧ ∃ y, Oed w l kk T y W)
    (fun T k A B h hT ht => h.turn (by rw [← hsz]; exact hT) ht) (fun T k A B h hT ht _ => h.turn (by rw [← hsz]; exact hT) ht) (fun c T k A B ⟨e, y, h⟩ hT ht _ => ⟨e, y, h.turn (by rw [← hsz]; exact hT) ht⟩)
    (fun W hb _ => ⟨by rw [hb.cell (Ap.cell_lt hc0)]; exact hc0, by rw [hb.cell (Ap.cell_lt hc1.1)]; exact hc1.1, (World.frozen?_of_block (hb.block _ (Ap.cell_lt hc1.1))).trans hc1.2, fun j hj => absurd hj (Nat.not_lt_zero j), hbl.trans (hb.mono hbl.size), by have := hb.size; omega⟩)
    (fun args => { tmps := #[.slice a l.length cap, .int .i64 kk, undef, .pointer (some ⟨w.heap.size, 0, none⟩), .pointer (some ⟨w.heap.size + 1, 0, none⟩), args.getD 0 undef, args.getD 1 undef, .slice a l.length cap, .func (.func 99) #[] #[.pointer (some ⟨w.heap.size + 1 + 1, 0, none⟩)], args.getD 0 undef, args.getD 1 undef, undef, undef, undef, undef, undef], defers := [] }) ?assign ?body ?done ?stop
  case assign =>
    rintro l0 k args A K ⟨va, rfl, hva⟩ hK
    gi_wp2
    exact hK
  case body =>
    rintro l0 T k args A hp hT hk ⟨va, rfl, hva⟩
    have hlt := rounds_lt hk
    have hck := hp.ck
    obtain ⟨_, aa, ca, rfl, -⟩ := id hva
    have HP := Lib.hid hp
    have HT3 : Hid (∀ t, T t → w.heap.size + 3 ≤ t ∧ t < A.heap.size) := Lib.hid (by rw [← hsz]; exact hT)
    have HVA := Lib.hid hva
    have HK := Lib.hid hk
    have HLV : Hid ((ov l k).length ≤ 4398046511104) := Lib.hid (by
      unfold ov
      exact Nat.le_trans (List.length_filter_le _ _) (by simp; omega))
    clear hp hT hva hk
    by_cases he : (k : Int) = kk
    · subst he
      gi_wp2
      refine ⟨trivial, rfl, (CallsIn.inRound l0 (callsIn_wide.2 (cloneI_any _ _ A HVA.out HLV.out))).mono ?_⟩
      rintro e w2 ⟨y, rfl, hown, hb⟩
      have hlk := HP.out.size
      have hbA := hb.size
      have hr2 : w2.cell? ⟨w.heap.size + 1, 0, none⟩ = some (.slice none 0 0) := by rw [hb.cell (Ap.cell_lt HP.out.cr)]; exact HP.out.cr
      have hf2 : w2.frozen? ⟨w.heap.size + 1, 0, none⟩ = false := (World.frozen?_of_block (hb.block _ (Ap.cell_lt HP.out.cr))).trans HP.out.fr
      have hyb : ∀ g, y.ownBlock = some g → A.heap.size ≤ g := fun g hg => by
        obtain ⟨_, ⟨rfl, _⟩ | ⟨g', cp, cur, rfl, hq, _⟩⟩ := hown
        · cases hg
        · cases hg; exact hq
      have hown0 : Ow w2 y (ov l k) := Ap.own_base hown (Nat.zero_le _)
      have HE : Hid (Oed w l (k : Int) T y (w2.setCell ⟨w.heap.size + 1, 0, none⟩ y)) := by
        refine Lib.hid ⟨⟨by omega, by have := HK.out; omega⟩, World.cell?_setCell_same' _ _ _ (by rw [hr2]; rfl), ?_, fun g hg ht => ?_, ?_, fun g hg => by have := hyb g hg; omega⟩
        · rw [Int.toNat_natCast]
          exact hown0.turn (M := fun t => t = w.heap.size + 1) (Turn.setCell rfl) fun g hg e => by have := hyb g hg; omega
        · have h1 := hyb g hg
          have h2 := HT3.out g ht
          omega
        · exact (HP.out.bel.trans (hb.mono HP.out.bel.size)).trans ((Turn.setCell (T := fun t => t = w.heap.size + 1) rfl).below (by omega) fun t h => by omega)
      have HKp : Hid (Keep (fun t => T t ∨ t < w.heap.size) A (w2.setCell ⟨w.heap.size + 1, 0, none⟩ y)) := Lib.hid
        ((Keep.of_below hb fun t h => by
          rcases h with h | h
          · exact (HT3.out t h).2
          · omega).trans (Keep.setCell fun h => by
          rcases h with h | h
          · have h1 := (HT3.out _ h).1
            change _ ≤ w.heap.size + 1 at h1
            omega
          · change w.heap.size + 1 < w.heap.size at h
            omega))
      obtain ⟨ya, yc, rfl⟩ := hown0.slice
      clear hown hown0 hyb hb
      gi_wp2
      exact ⟨HKp.out, rfl, _, HE.out⟩
    · have g0 : ((k : Int) == kk) = false := by rw [beq_eq_false_iff_ne]; exact he
      gi_wp2
      refine ⟨Keep.refl _ _, HP.out.ck, HP.out.cr, HP.out.fr, fun j hj => ?_, HP.out.bel, HP.out.size⟩
      by_cases h : j = k
      · subst h; exact he
      · exact HP.out.no j (by omega)
  case done =>
    rintro T W hp hTD hT hD
    have hcr := hp.cr
    have hfr := hp.fr
    have hne : wl.heap.size ≠ w.heap.size + 1 := by omega
    have e0 : ovI l kk = [] := by
      unfold ovI
      rw [if_neg]
      rintro ⟨h1, h2⟩
      exact hp.no kk.toNat (by omega) (by omega)
    have hD2 : (W.setCell ⟨w.heap.size + 1, 0, none⟩ (.slice none 0 0)).heap[wl.heap.size]? = some (.deferred (some [])) := (Below.heap_setCell W _ _ _ hne).trans hD
    have HD := Lib.hid hD2
    have hc5 := cell_kept (World.cell?_setCell_same' W ⟨w.heap.size + 1, 0, none⟩ (.slice none 0 0) (by rw [hcr]; rfl)) (grownBy_putObj' _ wl.heap.size (.deferred none)) (fun r e => by cases e; exact ⟨_, hD2, rfl⟩)
    have HC5 := Lib.hid hc5
    have hbs := hp.bel.trans ((Turn.setCell (T := fun t => t = w.heap.size + 1) (w := W) (p := ⟨w.heap.size + 1, 0, none⟩) (v := .slice none 0 0) rfl).below hp.bel.size fun t h => by omega)
    have HB := Lib.hid (hbs.trans ((putObj_turn (T := fun t => t = wl.heap.size) (o := .deferred none) rfl).below hbs.size fun t h => by omega))
    have HE0 := Lib.hid e0
    clear hp hT hTD hD hD2 hc5 hbs e0
    go_wp2_with fail
    refine leaves_mark (v := .slice none 0 0) HD.out ?_ ⟨_, rfl, ?_, HB.out⟩
    · have hc6 := HC5.out
      simp [results, Try.f88, go_sem, hc6]
    · rw [HE0.out]
      exact ⟨rfl, .inl ⟨rfl, rfl⟩⟩
  case stop =>
    rintro T c k W _ ⟨rfl, y, h⟩ hTD hT hD
    have hne : y.ownBlock ≠ some wl.heap.size := fun e => h.apart _ e hTD
    have e0 : ovI l kk = ov l kk.toNat := by
      unfold ovI
      rw [if_pos h.lt]
    have hc6 := cell_kept h.cr (grownBy_putObj' _ wl.heap.size (.deferred none)) (fun r e => by cases e; exact ⟨_, hD, rfl⟩)
    refine wpIn_ret (leaves_mark (v := y) hD ?_ ⟨_, rfl, ?_, ?_⟩)
    · simp [results, Try.f88, go_sem, hc6]
    · rw [e0]
      exact own_up (h.own.turn (M := fun t => t = wl.heap.size) (putObj_turn rfl) fun g hg e => hne (by rw [hg, e])) h.base
    · exact h.bel.trans ((putObj_turn (T := fun t => t = wl.heap.size) rfl).below h.bel.size fun t h => by omega)
theorem overP_any (v : Value) (l : List Nd) (kk : Int) (w : World) (hv : Nds w v l) (hl : l.length ≤ 4398046511104) :
    Calls Try.prog 88 #[v, .int .i64 kk] w fun e w' => ∃ y, e = .returned y ∧ Rf.Plc w' y (ovI l kk) ∧ Below w.heap.size w w' :=
  (overP_own v l kk w hv hl).mono fun _ _ ⟨y, h1, h2, h3⟩ => ⟨y, h1, Ow.plc (Ap.own_base h2 (Nat.zero_le _)), h3⟩
end Go.Proofs.Ytaapnkoooofalaa.Pl

namespace Go.Proofs.Ytaapnkoooofalaa.Sp
open Go Rw So Se Tr Mn Do
def gv : Tm → Bool
  | .over s => s == 3
  | .fin s _ => s == 3
  | .seq a _ => gv a
  | .hand a _ => gv a && !bangT a
  | .going a _ => gv a
  | .stack a _ => gv a
  | .par a b => gv a || gv b
  | _ => false
def J : Tm → Bool
  | .seq a _ => J a
  | .hand a _ => J a
  | .going a _ => J a
  | .stack a _ => J a
  | .par a b => J a && J b
  | .block a => J a && (!gv a || bangT a)
  | _ => true
theorem J_stuck : ∀ t : Tm, J t = true → Se.stuck t = false := by
  intro t
  induction t with
  | block a ia =>
    intro h
    simp only [J, Bool.and_eq_true] at h
    simp only [Se.stuck, ia h.1, Bool.or_false]
    cases a with
    | fin s c =>
      have h2 := h.2
      simp only [gv, bangT, isQuery] at h2 ⊢
      by_cases hs : s = 3
      · subst hs; simp at h2
      · simpa using hs
    | _ => rfl
  | par a b ia ib => intro h; simp only [J, Bool.and_eq_true] at h; simp [Se.stuck, ia h.1, ib h.2]
  | seq a b ia ib => intro h; exact ia h
  | hand a b ia ib => intro h; exact ia h
  | going a b ia ib => intro h; exact ia h
  | stack a b ia ib => intro h; exact ia h
  | _ => intro _; rfl
theorem stk_bang (a d : Tm) : bangT (stk a d) = bangT a := by cases a <;> rfl
theorem stk_gv (a d : Tm) : gv (stk a d) = gv a := by cases a <;> rfl
theorem stk_J (a d : Tm) : J (stk a d) = J a := by cases a <;> rfl
theorem seq_cs (S : Tm → Tm) (x b : Tm) : (∃ s, x = .over s) ∨ (∃ s c, x = .fin s c) ∨ sSeq S x b = .seq x b := by
  cases x with
  | over s => exact .inl ⟨s, rfl⟩
  | fin s c => exact .inr (.inl ⟨s, c, rfl⟩)
  | _ => exact .inr (.inr rfl)
theorem hand_cs (S : Tm → Tm) (x b : Tm) : (∃ s, x = .over s) ∨ sHand S x b = .hand x b := by
  cases x with
  | over s => exact .inl ⟨s, rfl⟩
  | _ => exact .inr rfl
theorem block_cs (S : Tm → Tm) (x : Tm) : (∃ s c, x = .fin s c) ∨ sBlock S x = .block x := by
  cases x with
  | fin s c => exact .inl ⟨s, c, rfl⟩
  | _ => exact .inr rfl
theorem going_cs (x b : Tm) : (∃ s, x = .over s) ∨ sGoing x b = .going x b := by
  cases x with
  | over s => exact .inl ⟨s, rfl⟩
  | _ => exact .inr rfl
set_option maxHeartbeats 1000000 in
theorem S_gv : ∀ t : Tm, rg t = true →
    ((is t 1 = true ∨ is t 2 = true) → gv (S t) = false ∧ J (S t) = true) ∧
    ((is t 3 = true ∨ is t 4 = true) → (bangT t = true → bangT (S t) = true) ∧ (gv (S t) = true → gv t = true) ∧ (J t = true → J (S t) = true)) := by
  apply S_ind
  intro t ih hr
  cases t with
  | act s => simp [S_act, gv, J, bangT]
  | skip => simp [S_skip, gv, J, bangT]
  | throw => simp [S_throw, gv, J, bangT]
  | yield => simp [S_yield, gv, J, bangT]
  | over s => simp [S_over, is]
  | fin s c => simp [S_fin, is]
  | alt a b => simp [S_alt, gv, J]
  | pair a b => simp [S_pair, gv, J]
  | seq a b =>
    rw [rg_seq, Bool.and_eq_true] at hr
    obtain ⟨a1, a2⟩ := ih a (by simp [sz]; omega) hr.1
    obtain ⟨b1, b2⟩ := ih b (by simp [sz]; omega) hr.2
    rw [S_seq]
    generalize S a = x at a1 a2 ⊢
    constructor
    · intro h
      have h1 : (is a 1 = true ∨ is a 2 = true) ∧ (is b 1 = true ∨ is b 2 = true) := by simp [is] at h; rcases h with h | h <;> simp [h.1, h.2]
      obtain ⟨c1, c2⟩ := a1 h1.1
      obtain ⟨d1, d2⟩ := b1 h1.2
      clear a1 a2 b1 b2
      rcases seq_cs S x b with ⟨s, rfl⟩ | ⟨s, c, rfl⟩ | e
      · simp only [sSeq]
        split
        · exact ⟨d1, d2⟩
        · exact ⟨c1, c2⟩
      · simp only [sSeq]
        split
        · rw [stk_gv, stk_J]; exact ⟨d1, d2⟩
        · exact ⟨c1, c2⟩
      · rw [e]; exact ⟨c1, c2⟩
    · intro h
      have h1 : (is a 3 = true ∨ is a 4 = true) ∧ (is b 1 = true ∨ is b 2 = true) := by simp [is] at h; rcases h with h | h <;> simp [h.1, h.2]
      obtain ⟨c1, c2, c3⟩ := a2 h1.1
      obtain ⟨d1, d2⟩ := b1 h1.2
      show (bangT a = true → _) ∧ (_ → gv a = true) ∧ (J a = true → _)
      clear a1 a2 b1 b2
      rcases seq_cs S x b with ⟨s, rfl⟩ | ⟨s, c, rfl⟩ | e
      · simp only [sSeq]
        split
        · rename_i hs
          subst hs
          exact ⟨fun k => absurd (c1 k) (by simp [bangT]), fun k => absurd (d1.symm.trans k) (by decide), fun _ => d2⟩
        · exact ⟨c1, c2, c3⟩
      · simp only [sSeq]
        split
        · rename_i hs
          subst hs
          rw [stk_gv, stk_J, stk_bang]
          exact ⟨fun k => absurd (c1 k) (by simp [bangT]), fun k => absurd (d1.symm.trans k) (by decide), fun _ => d2⟩
        · exact ⟨c1, c2, c3⟩
      · rw [e]; exact ⟨c1, c2, c3⟩
  | hand a b =>
    rw [rg_hand, Bool.and_eq_true] at hr
    obtain ⟨a1, a2⟩ := ih a (by simp [sz]; omega) hr.1
    obtain ⟨b1, b2⟩ := ih b (by simp [sz]; omega) hr.2
    rw [S_hand]
    generalize S a = x at a1 a2 ⊢
    constructor
    · intro h
      have h1 : (is a 1 = true ∨ is a 2 = true) ∧ (is b 1 = true ∨ is b 2 = true) := by simp [is] at h; simp [h.1, h.2]
      obtain ⟨c1, c2⟩ := a1 h1.1
      obtain ⟨d1, d2⟩ := b1 h1.2
      clear a1 a2 b1 b2
      rcases hand_cs S x b with ⟨s, rfl⟩ | e
      · simp only [sHand]
        split
        · exact ⟨d1, d2⟩
        · exact ⟨c1, c2⟩
      · rw [e]; exact ⟨by simp [gv, c1], c2⟩
    · intro h
      have h1 : (is a 3 = true ∨ is a 4 = true) ∧ (is b 1 = true ∨ is b 2 = true) := by simp [is] at h; simp [h.1, h.2]
      obtain ⟨c1, c2, c3⟩ := a2 h1.1
      obtain ⟨d1, d2⟩ := b1 h1.2
      refine ⟨fun h => by simp [bangT] at h, ?_⟩
      show (_ → (gv a && !bangT a) = true) ∧ (J a = true → _)
      rw [Bool.and_eq_true, Bool.not_eq_true']
      have nb : bangT x = false → bangT a = false := fun k => by
        cases hb : bangT a with
        | false => rfl
        | true => rw [c1 hb] at k; cases k
      clear a1 a2 b1 b2
      rcases hand_cs S x b with ⟨s, rfl⟩ | e
      · simp only [sHand]
        split
        · exact ⟨fun k => absurd (d1.symm.trans k) (by decide), fun _ => d2⟩
        · rename_i hs
          exact ⟨fun k => ⟨c2 k, nb (by simpa [bangT] using hs)⟩, fun _ => rfl⟩
      · rw [e]
        refine ⟨fun k => ?_, c3⟩
        have k' : (gv x && !bangT x) = true := k
        rw [Bool.and_eq_true, Bool.not_eq_true'] at k'
        exact ⟨c2 k'.1, nb k'.2⟩
  | par a b =>
    rw [rg_par, Bool.and_eq_true] at hr
    obtain ⟨a1, a2⟩ := ih a (by simp [sz]; omega) hr.1
    obtain ⟨b1, b2⟩ := ih b (by simp [sz]; omega) hr.2
    have ra := S_rg a hr.1
    have rb := S_rg b hr.2
    rw [S_par]
    generalize S a = x at a1 a2 ra ⊢
    generalize S b = y at b1 b2 rb ⊢
    have two : ∀ s u : Int, (1 ≤ s ∧ s ≤ 3) → (1 ≤ u ∧ u ≤ 3) → ((s == 3) = true ∨ (u == 3) = true ∨ (Sg.both s u == 3) = false) ∧ ((Sg.both s u == 2) = ((s == 2) || (u == 2))) := by
      intro s u hs hu
      have h1 : s = 1 ∨ s = 2 ∨ s = 3 := by omega
      have h2 : u = 1 ∨ u = 2 ∨ u = 3 := by omega
      rcases h1 with rfl | rfl | rfl <;> rcases h2 with rfl | rfl | rfl <;> decide
    have ends : ∀ G : Tm → Tm → Prop, (∀ s u, rg (.over s) = true → rg (.over u) = true → x = .over s → y = .over u → G (.over s) (.over u)) → (∀ s c u e, rg (.fin s c) = true → rg (.fin u e) = true → x = .fin s c → y = .fin u e → G (.fin s c) (.fin u e)) → (sPar x y = .par x y → G x y) → G x y := by
      intro G g1 g2 g3
      cases x with
      | over s =>
        cases y with
        | over u => exact g1 s u ra rb rfl rfl
        | _ => exact g3 rfl
      | fin s c =>
        cases y with
        | fin u e => exact g2 s c u e ra rb rfl rfl
        | _ => exact g3 rfl
      | _ => exact g3 rfl
    constructor
    · intro h
      have h1 : (is a 1 = true ∨ is a 2 = true) ∧ (is b 1 = true ∨ is b 2 = true) := by simp [is] at h; rcases h with h | h <;> simp [h.1, h.2]
      obtain ⟨c1, c2⟩ := a1 h1.1
      obtain ⟨d1, d2⟩ := b1 h1.2
      refine ends (fun x y => gv (sPar x y) = false ∧ J (sPar x y) = true) ?_ ?_ ?_
      · intro s u rs ru e1 e2
        subst e1; subst e2
        simp only [rg_over, Bool.and_eq_true, decide_eq_true_eq] at rs ru
        obtain ⟨t1, t2⟩ := two s u rs ru
        simp only [gv] at c1 d1
        rw [c1, d1] at t1
        exact ⟨by simpa [sPar, gv] using t1, rfl⟩
      · intro s c u e rs ru e1 e2
        subst e1; subst e2
        simp only [rg_fin, rgt_nEnd, Bool.and_eq_true, decide_eq_true_eq] at rs ru
        obtain ⟨t1, t2⟩ := two s u rs.1 ru.1
        simp only [gv] at c1 d1
        rw [c1, d1] at t1
        exact ⟨by simpa [sPar, gv] using t1, rfl⟩
      · intro e; rw [e]; simp [gv, J, c1, c2, d1, d2]
    · intro h
      have h1 : (is a 3 = true ∨ is a 4 = true) ∧ (is b 3 = true ∨ is b 4 = true) := by simp [is] at h; rcases h with h | h <;> simp [h.1, h.2]
      obtain ⟨c1, c2, c3⟩ := a2 h1.1
      obtain ⟨d1, d2, d3⟩ := b2 h1.2
      simp only [bangT, gv, J, Bool.or_eq_true, Bool.and_eq_true]
      refine ends (fun x y => (bangT a = true ∨ bangT b = true → bangT (sPar x y) = true) ∧ (gv (sPar x y) = true → gv a = true ∨ gv b = true) ∧ (J a = true ∧ J b = true → J (sPar x y) = true)) ?_ ?_ ?_
      · intro s u rs ru e1 e2
        subst e1; subst e2
        simp only [rg_over, Bool.and_eq_true, decide_eq_true_eq] at rs ru
        obtain ⟨t1, t2⟩ := two s u rs ru
        refine ⟨fun k => ?_, fun k => ?_, fun _ => rfl⟩
        · show (Sg.both s u == 2) = true
          rw [t2, Bool.or_eq_true]
          exact k.imp c1 d1
        · have k' : (Sg.both s u == 3) = true := k
          rw [k'] at t1
          rcases t1 with t1 | t1 | t1
          · exact .inl (c2 t1)
          · exact .inr (d2 t1)
          · cases t1
      · intro s c u e rs ru e1 e2
        subst e1; subst e2
        simp only [rg_fin, rgt_nEnd, Bool.and_eq_true, decide_eq_true_eq] at rs ru
        obtain ⟨t1, t2⟩ := two s u rs.1 ru.1
        refine ⟨fun k => ?_, fun k => ?_, fun _ => rfl⟩
        · show (Sg.both s u == 2) = true
          rw [t2, Bool.or_eq_true]
          exact k.imp c1 d1
        · have k' : (Sg.both s u == 3) = true := k
          rw [k'] at t1
          rcases t1 with t1 | t1 | t1
          · exact .inl (c2 t1)
          · exact .inr (d2 t1)
          · cases t1
      · intro e
        rw [e]
        simp only [bangT, gv, J, Bool.or_eq_true, Bool.and_eq_true]
        exact ⟨fun k => k.imp c1 d1, fun k => k.imp c2 d2, fun k => ⟨c3 k.1, d3 k.2⟩⟩
  | block a =>
    rw [rg_block] at hr
    obtain ⟨a1, a2⟩ := ih a (by simp [sz]) hr
    have hs := S_sz a
    have ra := S_rg a hr
    have ks := S_is a
    rw [S_block]
    generalize S a = x at a1 a2 hs ra ks ⊢
    have inner : ∀ s c, x = .fin s c → is a 4 = true → gv (S c) = false ∧ J (S c) = true := by
      intro s c e h4
      subst e
      have k4 := ks.2 h4
      simp [is] at k4
      simp only [sz] at hs
      rw [rg_fin, Bool.and_eq_true] at ra
      exact (ih c (by simp [sz]; omega) ra.2).1 (.inl k4)
    constructor
    · intro h
      have h1 : is a 2 = true := by simpa [is] using h
      obtain ⟨c1, c2⟩ := a1 (.inr h1)
      have h4 := (is13 a).2 h1
      rcases block_cs S x with ⟨s, c, rfl⟩ | e
      · obtain ⟨d1, d2⟩ := inner s c rfl h4
        simp only [sBlock]
        split
        · exact ⟨rfl, rfl⟩
        · split
          · exact ⟨d1, d2⟩
          · exact ⟨rfl, by simp [J, c1]⟩
      · rw [e]; exact ⟨rfl, by simp [J, c1, c2]⟩
    · intro h
      have h4 : is a 4 = true := by simpa [is] using h
      obtain ⟨c1, c2, c3⟩ := a2 (.inr h4)
      refine ⟨fun k => by simp [bangT] at k, ?_, ?_⟩
      · rcases block_cs S x with ⟨s, c, rfl⟩ | e
        · obtain ⟨d1, d2⟩ := inner s c rfl h4
          simp only [sBlock]
          split
          · intro k; cases k
          · split
            · rw [d1]; intro k; cases k
            · intro k; cases k
        · rw [e]; intro k; cases k
      · intro k
        simp only [J, Bool.and_eq_true, Bool.or_eq_true, Bool.not_eq_true'] at k
        have k2 : gv x = true → bangT x = true := fun g => c1 (k.2.resolve_left (by rw [c2 g]; simp))
        have k3 := c3 k.1
        have fine : J (.block x) = true := by
          simp only [J, Bool.and_eq_true, Bool.or_eq_true, Bool.not_eq_true']
          refine ⟨k3, ?_⟩
          cases hg : gv x with
          | false => exact .inl rfl
          | true => exact .inr (k2 hg)
        rcases block_cs S x with ⟨s, c, rfl⟩ | e
        · obtain ⟨d1, d2⟩ := inner s c rfl h4
          simp only [sBlock]
          split
          · rfl
          · split
            · exact d2
            · exact fine
        · rw [e]; exact fine
  | going a b =>
    rw [rg_going, Bool.and_eq_true] at hr
    obtain ⟨a1, a2⟩ := ih a (by simp [sz]; omega) hr.1
    rw [S_going]
    generalize S a = x at a1 a2 ⊢
    refine ⟨fun h => by simp [is] at h, fun h => ?_⟩
    have h1 : is a 3 = true := by simp [is] at h; exact h.1
    obtain ⟨c1, c2, c3⟩ := a2 (.inl h1)
    show (bangT a = true → _) ∧ (_ → gv a = true) ∧ (J a = true → _)
    clear a1 a2
    rcases going_cs x b with ⟨s, rfl⟩ | e
    · simp only [sGoing]
      split
      · rename_i hs
        subst hs
        exact ⟨fun k => absurd (c1 k) (by simp [bangT]), fun k => by simp [gv] at k, fun _ => rfl⟩
      · exact ⟨c1, c2, fun _ => rfl⟩
    · rw [e]; exact ⟨c1, c2, c3⟩
  | stack a b =>
    rw [rg_stack, Bool.and_eq_true] at hr
    obtain ⟨a1, a2⟩ := ih a (by simp [sz]; omega) hr.1
    rw [S_stack, stk_gv, stk_J, stk_bang]
    refine ⟨fun h => by simp [is] at h, fun h => ?_⟩
    have h1 : is a 4 = true := by simp [is] at h; exact h.1
    exact a2 (.inr h1)
theorem mv_bang : ∀ (t : Tm) (d : Bool) (i : Nat), ∀ m ∈ mvs d t i, bangT t = true → bangT m.r = true := by
  refine mv_ind (P := fun t m => bangT t = true → bangT m.r = true) ?_ ?_ ?_ ?_ ?_ ?_ ?_ ?_ ?_ ?_ ?_ ?_ ?_ ?_
  · intro s i h; cases h
  · intro a b i h; cases h
  · intro a b i h; cases h
  · intro i h; cases h
  · intro i h; cases h
  · intro a b i h; cases h
  · intro a b i h; cases h
  · intro a b m h k; exact h k
  · intro a b m h k; cases k
  · intro a b m h k; exact h k
  · intro a b m h k; exact h k
  · intro a m h k; cases k
  · intro a b m h k
    simp only [upm, bangT, Bool.or_eq_true] at k ⊢
    exact k.imp h id
  · intro a b m h k
    simp only [upm, bangT, Bool.or_eq_true] at k ⊢
    exact k.imp id h
theorem fresh_gv : ∀ t : Tm, (is t 1 = true ∨ is t 2 = true) → gv t = false ∧ J t = true := by
  intro t
  induction t with
  | seq a b ia ib => intro h; exact ia (by simp [is] at h; exact h.imp (·.1) (·.1))
  | hand a b ia ib =>
    intro h
    have := ia (by simp [is] at h; exact .inl h.1)
    exact ⟨by simp [gv, this.1], this.2⟩
  | going a b ia ib => intro h; simp [is] at h
  | stack a b ia ib => intro h; simp [is] at h
  | over s => intro h; simp [is] at h
  | fin s c => intro h; simp [is] at h
  | block a ia =>
    intro h
    have := ia (by simp [is] at h; exact .inr h)
    exact ⟨rfl, by simp [J, this.1, this.2]⟩
  | par a b ia ib =>
    intro h
    have h1 := ia (by simp [is] at h; exact h.imp (·.1) (·.1))
    have h2 := ib (by simp [is] at h; exact h.imp (·.2) (·.2))
    exact ⟨by simp [gv, h1.1, h2.1], by simp [J, h1.2, h2.2]⟩
  | _ => intro _; exact ⟨rfl, rfl⟩
theorem mv_gv : ∀ (t : Tm) (d : Bool) (i : Nat), ∀ m ∈ mvs d t i, (is t 3 = true ∨ is t 4 = true) → (gv m.r = true → gv t = true ∨ d = true ∨ bangT m.r = true) ∧ (J t = true → J m.r = true) := by
  intro t
  induction t with
  | act s => intro d i m hm _; simp only [mvs, List.mem_singleton] at hm; subst hm; exact ⟨fun k => by simp [gv] at k, fun _ => rfl⟩
  | alt a b =>
    intro d i m hm h
    have h1 : (is a 1 = true ∨ is a 2 = true) ∧ (is b 1 = true ∨ is b 2 = true) := by simp [is] at h; rcases h with h | h <;> simp [h.1, h.2]
    simp only [mvs, List.mem_cons, List.not_mem_nil, or_false] at hm
    rcases hm with rfl | rfl
    · obtain ⟨g1, g2⟩ := fresh_gv a h1.1
      exact ⟨fun k => absurd (g1.symm.trans k) (by decide), fun _ => g2⟩
    · obtain ⟨g1, g2⟩ := fresh_gv b h1.2
      exact ⟨fun k => absurd (g1.symm.trans k) (by decide), fun _ => g2⟩
  | yield =>
    intro d i m hm _
    cases d with
    | false => simp [mvs] at hm; subst hm; exact ⟨fun k => by simp [gv] at k, fun _ => rfl⟩
    | true => simp [mvs] at hm; rcases hm with rfl | rfl <;> exact ⟨fun _ => .inr (.inl rfl), fun _ => rfl⟩
  | pair a b =>
    intro d i m hm h
    have h1 : is a 1 = true ∨ is a 2 = true := by simp [is] at h; exact .inl h.1
    obtain ⟨g1, g2⟩ := fresh_gv a h1
    have go : (gv (.going a b) = true → gv (.pair a b) = true ∨ d = true ∨ bangT (.going a b) = true) ∧ (J (.pair a b) = true → J (.going a b) = true) := ⟨fun k => absurd (g1.symm.trans k) (by decide), fun _ => g2⟩
    cases d with
    | false => simp [mvs] at hm; subst hm; exact go
    | true =>
      simp [mvs] at hm
      rcases hm with rfl | rfl
      · exact go
      · exact ⟨fun _ => .inr (.inl rfl), fun _ => rfl⟩
  | seq a b ia ib =>
    intro d i m hm h
    obtain ⟨n, hn, rfl⟩ := List.mem_map.1 hm
    have h1 : is a 3 = true ∨ is a 4 = true := by simp [is] at h; exact h.imp (·.1) (·.1)
    exact ia _ _ n hn h1
  | going a b ia ib =>
    intro d i m hm h
    obtain ⟨n, hn, rfl⟩ := List.mem_map.1 hm
    have h1 : is a 3 = true ∨ is a 4 = true := by simp [is] at h; exact .inl h.1
    exact ia _ _ n hn h1
  | stack a b ia ib =>
    intro d i m hm h
    obtain ⟨n, hn, rfl⟩ := List.mem_map.1 hm
    have h1 : is a 3 = true ∨ is a 4 = true := by simp [is] at h; exact .inr h.1
    exact ia _ _ n hn h1
  | hand a b ia ib =>
    intro d i m hm h
    obtain ⟨n, hn, rfl⟩ := List.mem_map.1 hm
    have h1 : is a 3 = true ∨ is a 4 = true := by simp [is] at h; exact .inl h.1
    obtain ⟨k1, k2⟩ := ia _ _ n hn h1
    refine ⟨fun k => ?_, k2⟩
    simp only [upm, gv, bangT, Bool.and_eq_true, Bool.not_eq_true'] at k ⊢
    rcases k1 k.1 with g | g | g
    · refine .inl ⟨g, ?_⟩
      cases hb : bangT a with
      | false => rfl
      | true => rw [mv_bang a d _ n hn hb] at k; cases k.2
    · exact .inr (.inl g)
    · rw [g] at k; cases k.2
  | block a ia =>
    intro d i m hm h
    obtain ⟨n, hn, rfl⟩ := List.mem_map.1 hm
    have h1 : is a 3 = true ∨ is a 4 = true := by simp [is] at h; exact .inr h
    obtain ⟨k1, k2⟩ := ia _ _ n hn h1
    refine ⟨fun k => (by cases k), fun k => ?_⟩
    simp only [upm, J, Bool.and_eq_true, Bool.or_eq_true, Bool.not_eq_true'] at k ⊢
    refine ⟨k2 k.1, ?_⟩
    cases hg : gv n.r with
    | false => exact .inl rfl
    | true =>
      refine .inr ?_
      rcases k1 hg with g | g | g
      · exact mv_bang a false _ n hn (k.2.resolve_left (by rw [g]; simp))
      · cases g
      · exact g
  | par a b ia ib =>
    intro d i m hm h
    have h1 : (is a 3 = true ∨ is a 4 = true) ∧ (is b 3 = true ∨ is b 4 = true) := by simp [is] at h; rcases h with h | h <;> simp [h.1, h.2]
    rcases List.mem_append.1 hm with hm | hm
    · obtain ⟨n, hn, rfl⟩ := List.mem_map.1 hm
      obtain ⟨k1, k2⟩ := ia _ _ n hn h1.1
      simp only [upm, gv, J, bangT, Bool.or_eq_true, Bool.and_eq_true] at k1 ⊢
      refine ⟨fun k => ?_, fun k => ⟨k2 k.1, k.2⟩⟩
      rcases k with k | k
      · rcases k1 k with g | (g | g) | g
        · exact .inl (.inl g)
        · exact .inr (.inl g)
        · exact .inr (.inr (.inr g))
        · exact .inr (.inr (.inl g))
      · exact .inl (.inr k)
    · obtain ⟨n, hn, rfl⟩ := List.mem_map.1 hm
      obtain ⟨k1, k2⟩ := ib _ _ n hn h1.2
      simp only [upm, gv, J, bangT, Bool.or_eq_true, Bool.and_eq_true] at k1 ⊢
      refine ⟨fun k => ?_, fun k => ⟨k.1, k2 k.2⟩⟩
      rcases k with k | k
      · exact .inl (.inl k)
      · rcases k1 k with g | (g | g) | g
        · exact .inl (.inr g)
        · exact .inr (.inl g)
        · exact .inr (.inr (.inl g))
        · exact .inr (.inr (.inr g))
  | _ => intro d i m hm; exact absurd hm (by simp [mvs])
structure Run (t : Tm) : Prop where
  nf : Nf t
  rg : Se.rg t = true
  is3 : is t 3 = true
  j : J t = true
theorem Run.next {t : Tm} (h : Run t) {i : Nat} {m : Mo} (hm : m ∈ mvs true t i) : Run (S m.r) := by
  have r := mv_rg t true i m hm h.rg
  have k := (mv_is t true i m hm).1 h.is3
  exact ⟨S_nf _, S_rg _ r, (S_is _).1 k, ((S_gv _ r).2 (.inl k)).2.2 ((mv_gv t true i m hm (.inl h.is3)).2 h.j)⟩
theorem mv_some : ∀ (t : Tm) (d : Bool) (i : Nat), waits t = true ↔ mvs d t i ≠ [] := by
  intro t
  induction t with
  | par a b ia ib =>
    intro d i
    rw [waits, Bool.or_eq_true, ia (d || bangT b) (i + 1), ib (d || bangT a) (i + 1 + sz a)]
    simp only [mvs, ne_eq, List.append_eq_nil_iff, List.map_eq_nil_iff]
    constructor
    · rintro (h | h) ⟨k1, k2⟩
      · exact h k1
      · exact h k2
    · intro h
      by_cases k : mvs (d || bangT b) a (i + 1) = []
      · exact .inr fun k2 => h ⟨k, k2⟩
      · exact .inl k
  | seq a b ia ib => intro d i; rw [waits, ia d (i + 1)]; simp [mvs]
  | hand a b ia ib => intro d i; rw [waits, ia d (i + 1)]; simp [mvs]
  | going a b ia ib => intro d i; rw [waits, ia d (i + 1)]; simp [mvs]
  | stack a b ia ib => intro d i; rw [waits, ia d (i + 1)]; simp [mvs]
  | block a ia => intro d i; rw [waits, ia false (i + 1)]; simp [mvs]
  | _ => intro d i; simp [waits, mvs]
theorem Run.goes {t : Tm} (h : Run t) (d : Bool) (i : Nat) : mvs d t i ≠ [] ∨ ∃ s, t = .over s := by
  rcases nf_ends t h.nf h.rg (.inl h.is3) with k | k | k | k
  · exact .inl ((mv_some t d i).1 k)
  · cases t with
    | over s => exact .inr ⟨s, rfl⟩
    | _ => cases k
  · have := h.is3
    rw [fin_is k] at this
    cases this
  · rw [J_stuck t h.j] at k; cases k
end Go.Proofs.Ytaapnkoooofalaa.Sp

namespace Go.Proofs.Ytaapnkoooofalaa.Se
open Go Go.RowKit Rw So
set_option maxRecDepth 20000
theorem flat_inj : ∀ t u : Tm, flat t = flat u → t = u := by
  intro t
  induction t with
  | act s =>
    intro u h
    have hk : kd u = 1 := by unfold kd; rw [← h]; rfl
    cases u <;> try (simp [kd, flat, hd, nOf] at hk; done)
    · have e := congrArg nml h
      exact congrArg Tm.act e
  | skip =>
    intro u h
    have hk : kd u = 2 := by unfold kd; rw [← h]; rfl
    cases u <;> try (simp [kd, flat, hd, nOf] at hk; done)
    · rfl
  | throw =>
    intro u h
    have hk : kd u = 3 := by unfold kd; rw [← h]; rfl
    cases u <;> try (simp [kd, flat, hd, nOf] at hk; done)
    · rfl
  | yield =>
    intro u h
    have hk : kd u = 4 := by unfold kd; rw [← h]; rfl
    cases u <;> try (simp [kd, flat, hd, nOf] at hk; done)
    · rfl
  | over s =>
    intro u h
    have hk : kd u = 11 := by unfold kd; rw [← h]; rfl
    cases u <;> try (simp [kd, flat, hd, nOf] at hk; done)
    · have e := congrArg sgl h
      exact congrArg Tm.over e
  | block a ia =>
    intro u h
    have hk : kd u = 9 := by unfold kd; rw [← h]; rfl
    cases u <;> try (simp [kd, flat, hd, nOf] at hk; done)
    · have e := congrArg kids h
      rw [kids_block, kids_block] at e
      injection e with e _
      rw [ia _ e]
  | fin s c ic =>
    intro u h
    have hk : kd u = 14 := by unfold kd; rw [← h]; rfl
    cases u <;> try (simp [kd, flat, hd, nOf] at hk; done)
    · have e := congrArg kids h
      have e2 : s = _ := congrArg sgl h
      rw [kids_fin, kids_fin] at e
      injection e with e _
      rw [ic _ e, e2]
      rfl
  | seq a b ia ib =>
    intro u h
    have hk : kd u = 5 := by unfold kd; rw [← h]; rfl
    cases u <;> try (simp [kd, flat, hd, nOf] at hk; done)
    · have e := congrArg kids h
      rw [kids_seq, kids_seq] at e
      injection e with e1 e
      injection e with e2 _
      rw [ia _ e1, ib _ e2]
  | alt a b ia ib =>
    intro u h
    have hk : kd u = 6 := by unfold kd; rw [← h]; rfl
    cases u <;> try (simp [kd, flat, hd, nOf] at hk; done)
    · have e := congrArg kids h
      rw [kids_alt, kids_alt] at e
      injection e with e1 e
      injection e with e2 _
      rw [ia _ e1, ib _ e2]
  | par a b ia ib =>
    intro u h
    have hk : kd u = 7 := by unfold kd; rw [← h]; rfl
    cases u <;> try (simp [kd, flat, hd, nOf] at hk; done)
    · have e := congrArg kids h
      rw [kids_par, kids_par] at e
      injection e with e1 e
      injection e with e2 _
      rw [ia _ e1, ib _ e2]
  | hand a b ia ib =>
    intro u h
    have hk : kd u = 8 := by unfold kd; rw [← h]; rfl
    cases u <;> try (simp [kd, flat, hd, nOf] at hk; done)
    · have e := congrArg kids h
      rw [kids_hand, kids_hand] at e
      injection e with e1 e
      injection e with e2 _
      rw [ia _ e1, ib _ e2]
  | pair a b ia ib =>
    intro u h
    have hk : kd u = 10 := by unfold kd; rw [← h]; rfl
    cases u <;> try (simp [kd, flat, hd, nOf] at hk; done)
    · have e := congrArg kids h
      rw [kids_pair, kids_pair] at e
      injection e with e1 e
      injection e with e2 _
      rw [ia _ e1, ib _ e2]
  | going a b ia ib =>
    intro u h
    have hk : kd u = 12 := by unfold kd; rw [← h]; rfl
    cases u <;> try (simp [kd, flat, hd, nOf] at hk; done)
    · have e := congrArg kids h
      rw [kids_going, kids_going] at e
      injection e with e1 e
      injection e with e2 _
      rw [ia _ e1, ib _ e2]
  | stack a b ia ib =>
    intro u h
    have hk : kd u = 13 := by unfold kd; rw [← h]; rfl
    cases u <;> try (simp [kd, flat, hd, nOf] at hk; done)
    · have e := congrArg kids h
      rw [kids_stack, kids_stack] at e
      injection e with e1 e
      injection e with e2 _
      rw [ia _ e1, ib _ e2]
noncomputable def st (l : List Nd) : List Nd := if h : of l = 0 then [] else flat (S (goes_of h).choose)
theorem st_no {l : List Nd} (h : of l = 0) : st l = [] := dif_pos h
theorem st_go {t : Tm} (h : Goes t) : st (flat t) = flat (S t) := by
  have h0 := h.of
  unfold st
  rw [dif_neg h0]
  rw [flat_inj _ _ (goes_of h0).choose_spec.1]
theorem st_len (l : List Nd) : (st l).length ≤ l.length := by
  by_cases h : of l = 0
  · rw [st_no h]; exact Nat.zero_le _
  · obtain ⟨t, rfl, hg⟩ := goes_of h
    rw [st_go hg, flat_len, flat_len]
    exact S_sz t
theorem st_some {l : List Nd} (h : st l ≠ []) : ∃ t, flat t = l ∧ Goes t ∧ st l = flat (S t) := by
  by_cases h0 : of l = 0
  · exact absurd (st_no h0) h
  · obtain ⟨t, rfl, hg⟩ := goes_of h0
    exact ⟨t, rfl, hg, st_go hg⟩
theorem settleP_any (v : Value) (l : List Nd) (w : World) (hv : Nds w v l) (hl : l.length ≤ 1000) (hm : Nms l) : Calls Try.prog 33 #[v] w (OutL (st l) w) := by
  by_cases h : of l = 0
  · rw [st_no h]; exact settleP_no v l w hv hl hm h
  · obtain ⟨t, rfl, hg⟩ := goes_of h
    rw [st_go hg]; exact settleP_go v t w hv hm hg
theorem nms_goes {t : Tm} (h : rg t = true) : Nms (flat t) := by
  intro x hx
  have hr : rgt x = true := (List.all_eq_true.1 h) x hx
  obtain ⟨k, n, s⟩ := x
  show n.size ≤ _
  by_cases h1 : k = 1
  · subst h1
    rw [rgt_act] at hr
    simp only [Bool.and_eq_true, decide_eq_true_eq] at hr
    omega
  · by_cases h2 : k = 11 ∨ k = 14
    · rw [rgt_sign n s h2] at hr
      simp only [Bool.and_eq_true, decide_eq_true_eq] at hr
      omega
    · have h0 : ¬ ar k < 0 := fun h0 => by unfold rgt at hr; rw [if_pos h0] at hr; cases hr
      rw [rgt_other n s h0 h1 h2] at hr
      simp only [Bool.and_eq_true, decide_eq_true_eq] at hr
      omega
theorem settledQ_any (v : Value) (l : List Nd) (w : World) (hv : Nds w v l) (hl : l.length ≤ 1000) (hm : Nms l) :
    Calls Try.prog 15 #[v] w fun e w' => e = .returned (.bool (decide (0 < l.length) && sameN (st l) l)) ∧ Below w.heap.size w w' := by
  by_cases h0 : 0 < l.length
  · rw [decide_eq_true h0, Bool.true_and]
    exact settledQ_some v l (st l) w hv hl (by have := st_len l; omega) h0 (settleP_any v l w hv hl hm)
  · have : l = [] := List.eq_nil_of_length_eq_zero (by omega)
    subst this
    obtain ⟨_, a, c, rfl, -⟩ := hv
    refine (settledQ_none a c w).mono ?_
    rintro e w' ⟨rfl, rfl⟩
    exact ⟨rfl, Below.refl _ _⟩
end Go.Proofs.Ytaapnkoooofalaa.Se

namespace Go.Proofs.Ytaapnkoooofalaa.Se
open Go Go.RowKit Rw So
set_option maxRecDepth 20000
end Go.Proofs.Ytaapnkoooofalaa.Se
