/- The program's Kids: slices.Clone over nodes. -/
import Derived.Test.YtcgbbhnhpkkomaaRxg
import Derived.Test.YtcgbbhnhpkkomaaRwk
import Derived.Test.YtcgbbhnhpkkomaaRwca
import Derived.Lib.SliceRun
namespace Go.Proofs.Ytcgbbhnhpkkomaa.Rx
open Go Go.RowKit Rw
set_option maxRecDepth 20000

theorem heap_newK (w : World) (o : Obj) : (w.alloc o).heap[w.heap.size]? = some o := by
  show (w.heap.push o)[w.heap.size]? = some o
  simp
theorem own_madeK (w : World) : (w.alloc (.cells #[] 34)).ownsRow w.heap.size 34 3 (.slice (some ⟨w.heap.size, 0, none⟩) 0 0) 0 [] :=
  ⟨rfl, .inr ⟨w.heap.size, 0, #[], rfl, Nat.le_refl _, heap_newK w _, Nat.le_refl _, Nat.zero_le _, rfl, rfl⟩⟩

set_option maxHeartbeats 800000 in
theorem clone_any (x : Value) (l : List Nd) (w : World) (hx : Nds w x l) (hlen : l.length ≤ 1000000) :
    Calls Try.prog 35 #[x] w fun e w' => ∃ v, e = .returned v ∧ w'.ownsRow w.heap.size 34 3 v l.length (cls l) ∧ Below w.heap.size w w' := by
  have q : ∀ (w : World) (a : Option Addr) (n c n' c' : Nat), (binOp .eql 22 (.slice a n c) (.slice none n' c')).run Try.prog w = .ok (.bool a.isNone) w := fun w a n c n' c' => Lib.run_eql_slice_nil w _ _ a n c n' c' Try.underlying22
  have hb0 : Below w.heap.size w (w.alloc (.cells #[] 34)) := below1 w _
  obtain ⟨v1, w1, hrun, hown, _, hb, _⟩ := run_append_nds (l := []) (own_madeK w) hb0.size (hx.below hb0) (by simp; omega)
  rw [List.nil_append] at hown
  obtain ⟨hl, a, c, rfl, _, hn, _⟩ := hx
  cases a with
  | none =>
    obtain ⟨h0, rfl⟩ := hn rfl
    obtain rfl : l = [] := List.eq_nil_of_length_eq_zero h0
    clear hrun hown hb hb0 hl hn h0
    go_enter Try.func35, Try.ntmps35
    go_wp2_with fail
    go_ret
    exact ⟨_, rfl, ⟨rfl, .inl ⟨rfl, rfl⟩⟩, Below.refl _ _⟩
  | some ad =>
    have R := Lib.hid hrun
    have O := Lib.hid hown
    have B := Lib.hid (hb0.trans hb)
    clear hrun hown hb hb0 hn hl
    go_enter Try.func35, Try.ntmps35
    go_wp2_with (at_builtin; refine Ap.wpList_append_run (by rfl) _ _ _ _ rfl _ _ rfl rfl v1 w1 R.out ?_)
    go_ret
    exact ⟨_, rfl, O.out, B.out⟩

/-- Rows of the call's own, none in a given block. -/
def OwnK (base : Nat) (out : Option Nat) (w : World) : List Value → List (List Nd) → Prop
  | [], [] => True
  | a :: cs, r :: rs => (w.ownsRow base 34 3 a r.length (cls r) ∧ ∀ g, a.ownBlock = some g → some g ≠ out) ∧ OwnK base out w cs rs
  | _, _ => False
theorem OwnK.below {base : Nat} {out : Option Nat} {w w' : World} (hb : Below w.heap.size w w') : ∀ {cs : List Value} {ls : List (List Nd)}, OwnK base out w cs ls → OwnK base out w' cs ls
  | [], [], _ => trivial
  | _ :: _, _ :: _, h => ⟨⟨Ap.own_below h.1.1 hb, h.1.2⟩, OwnK.below hb h.2⟩
  | [], _ :: _, h => h.elim
  | _ :: _, [], h => h.elim
theorem OwnK.snoc {base : Nat} {out : Option Nat} {w : World} {a : Value} {r : List Nd} (ha : w.ownsRow base 34 3 a r.length (cls r)) (hn : ∀ g, a.ownBlock = some g → some g ≠ out) : ∀ {cs : List Value} {ls : List (List Nd)}, OwnK base out w cs ls → OwnK base out w (cs ++ [a]) (ls ++ [r])
  | [], [], _ => ⟨⟨ha, hn⟩, trivial⟩
  | _ :: _, _ :: _, h => ⟨h.1, OwnK.snoc ha hn h.2⟩
  | [], _ :: _, h => h.elim
  | _ :: _, [], h => h.elim
theorem own_grown {w w' : World} {base size n : Nat} {e : TypeId} {v : Value} {xs : List Value} {r : Option Nat} (h : w.ownsRow base e size v n xs) (hg : w.grownBy w' r) (hr : ∀ g, v.ownBlock = some g → some g ≠ r) : w'.ownsRow base e size v n xs := by
  obtain ⟨hl, h | ⟨g, cap, cur, rfl, hb, hh, h1, h2, h3, h4⟩⟩ := h
  · exact ⟨hl, .inl h⟩
  · refine ⟨hl, .inr ⟨g, cap, cur, rfl, hb, ?_, h1, h2, h3, h4⟩⟩
    rw [hg.block g (Nat.lt_of_not_le fun hle => by rw [Array.getElem?_eq_none hle] at hh; cases hh) (hr g rfl)]
    exact hh
theorem OwnK.grow {base : Nat} {w w' : World} {v v' : Value} (hg : w.grownBy w' v.ownBlock) (hf : Ap.Fresh w v v') : ∀ {cs : List Value} {ls : List (List Nd)}, OwnK base v.ownBlock w cs ls → OwnK base v'.ownBlock w' cs ls
  | [], [], _ => trivial
  | a :: _, r :: _, h => by
    refine ⟨⟨own_grown h.1.1 hg h.1.2, fun g hgo => ?_⟩, OwnK.grow hg hf h.2⟩
    have hlt := Ap.own_lt h.1.1 g hgo
    rcases hf with e | ⟨k, e, hk⟩
    · rw [e]; exact h.1.2 g hgo
    · rw [e]
      intro e2
      cases e2
      omega
  | [], _ :: _, h => h.elim
  | _ :: _, [], h => h.elim
theorem own_rdO {base : Nat} {out : Option Nat} {w : World} {a : Value} {r : List Nd} (h : w.ownsRow base 34 3 a r.length (cls r)) (hn : ∀ g, a.ownBlock = some g → some g ≠ out) : Own1 base out w a r := by
  obtain ⟨hl, ⟨rfl, h0⟩ | ⟨g, cap, cur, rfl, hb, hh, hnc, hcm, hcs, ht⟩⟩ := h
  · refine ⟨⟨hl, none, 0, by rw [h0], by omega, fun _ => ⟨h0, rfl⟩, fun h => by omega⟩, ?_⟩
    intro b off cap e
    rw [h0] at e
    cases e
  · refine ⟨⟨hl, some ⟨g, 0, none⟩, cap, rfl, hnc, fun h => (by cases h), fun _ => ⟨g, 0, rfl, ⟨hb, hn g rfl⟩, ?_, fun j u hu => ?_⟩⟩, ?_⟩
    · exact Nat.lt_of_not_le fun hle => by
        rw [Array.getElem?_eq_none hle] at hh
        cases hh
    · have hj : j < r.length * 3 := by
        rw [← hl]
        exact (List.getElem?_eq_some_iff.1 hu).1
      rw [← ht, List.getElem?_take_of_lt hj] at hu
      simp only [World.cell?, hh, Nat.zero_add]
      simpa using hu
    · intro b off cap' e j _
      cases e
      simp [World.frozen?, hh]
theorem OwnK.ownC {base : Nat} {out : Option Nat} {w : World} : ∀ {cs : List Value} {ls : List (List Nd)}, OwnK base out w cs ls → OwnC base out w cs ls
  | [], [], _ => trivial
  | _ :: _, _ :: _, h => ⟨own_rdO h.1.1 h.1.2, OwnK.ownC h.2⟩
  | [], _ :: _, h => h.elim
  | _ :: _, [], h => h.elim
/-- What the loop has made: the first k kids, in a row of its own, each in a block of its own. -/
def MadeK (w wr : World) (v : Value) (l : List Nd) (k p : Nat) : Prop := ∃ cs d, Far l 0 k p d ∧ wr.ownsRow w.heap.size 22 1 v k cs ∧ OwnK w.heap.size v.ownBlock wr cs (kidsN k (l.drop 1)) ∧ Below w.heap.size w wr
theorem MadeK.start (w : World) (l : List Nd) : MadeK w w (.slice none 0 0) l 0 1 := ⟨[], 0, Far.start l 0, ⟨rfl, .inl ⟨rfl, rfl⟩⟩, trivial, Below.refl _ _⟩
theorem MadeK.below {w wr wr' : World} {v : Value} {l : List Nd} {k p : Nat} (h : MadeK w wr v l k p) (hb : Below wr.heap.size wr wr') : MadeK w wr' v l k p := by
  obtain ⟨cs, d, h1, h2, h3, h4⟩ := h
  exact ⟨cs, d, h1, Ap.own_below h2 hb, h3.below hb, h4.trans (hb.mono h4.size)⟩
theorem MadeK.next {w wr w1 : World} {v a : Value} {l : List Nd} {k p c' d' : Nat} (h : MadeK w wr v l k p) (ht : T (l.drop p) = some (c', d')) (hk : k ≤ 2) (ha : w1.ownsRow wr.heap.size 34 3 a ((l.drop p).take c').length (cls ((l.drop p).take c'))) (hb1 : Below wr.heap.size wr w1) (h1a : a.oneCell' = true) :
    ∃ v' w', (Builtin.append_ #[36, 36] 36 #[v, .slice (some ⟨w1.heap.size, 0, none⟩) 1 1]).run Try.prog (w1.alloc (.cells #[a] 22)) = .ok v' w' ∧ MadeK w w' v' l (k + 1) (p + c') := by
  have h' := h.below hb1
  obtain ⟨cs, d, hfar, hown, hrw, hb⟩ := h'
  have hb0 : w.heap.size ≤ wr.heap.size := by obtain ⟨_, _, _, _, _, hb⟩ := h; exact hb.size
  obtain ⟨i0, hi, hz, hs1, hb8⟩ := info_parts infoR
  obtain ⟨v', w', h1, h2, h3, h4, h5⟩ := Ap.run_append_one (P := Try.prog) (ty := 36) Try.underlying36 hi hz hs1 hb8 (by rfl) (by omega) hown hb.size #[a] rfl
    (by intro u hu; simp at hu; subst hu; exact h1a) (by unfold maxLen; omega) (by omega)
  have hne : ∀ g, a.ownBlock = some g → some g ≠ v.ownBlock := by
    intro g hg e
    obtain ⟨_, _, _, hown0, _⟩ := h
    have h1 := Ap.own_lt hown0 g e.symm
    obtain ⟨_, ⟨rfl, _⟩ | ⟨g', _, _, rfl, hg', _⟩⟩ := ha
    · cases hg
    · have : g' = g := Option.some.inj hg
      omega
  refine ⟨v', w', h1, cs ++ [a], max d d', hfar.next ht, h2, ?_, hb.trans h4⟩
  rw [kids_next hfar ht]
  exact (hrw.snoc (Ap.own_base ha hb0) hne).grow h3 h5
theorem blk_own (v : Value) : blk v = v.ownBlock := by
  unfold blk Value.ownBlock
  rfl
theorem MadeK.done {w wr : World} {v : Value} {l : List Nd} {k p : Nat} (h : MadeK w wr v l k p) (hk : kids l = kidsN k (l.drop 1)) : KidsPost (kids l) w (.returned v) wr := by
  obtain ⟨cs, d, _, hown, hrw, hb⟩ := h
  refine ⟨v, cs, rfl, ?_, ?_, hb⟩
  · rw [hk, kidsN_len]
    exact Ap.RdO.fresh hown
  · rw [blk_own, hk]
    exact hrw.ownC
theorem own_sliceK {w : World} {base size n : Nat} {e : TypeId} {v : Value} {xs : List Value} (h : w.ownsRow base e size v n xs) : ∃ a c, v = .slice a n c := by
  obtain ⟨_, ⟨rfl, rfl⟩ | ⟨g, cap, cur, rfl, _⟩⟩ := h
  · exact ⟨none, 0, rfl⟩
  · exact ⟨_, _, rfl⟩

set_option maxHeartbeats 400000 in
theorem kidsP_none (v : Value) (l : List Nd) (w : World) (hv : Nds w v l) (hl : l.length ≤ 1000000) (hs : size l = 0) :
    Calls Try.prog 23 #[v] w (KidsPost (kids l) w) := by
  have HV := Lib.hid hv
  have HS := Lib.hid hs
  have HK : Hid (kids l = []) := by
    show _ = _
    unfold kids
    rw [if_pos hs]
  obtain ⟨_, a, cap, rfl, -⟩ := hv
  clear hs
  rw [HK.out]
  go_enter Try.func23, Try.ntmps23
  go_wp2_with fail
  refine (sizeP_any _ l _ HV.out hl).mono ?_
  rw [HS.out]
  rintro e w' ⟨rfl, hb⟩
  have HB := Lib.hid hb
  clear hb
  go_wp2_with fail
  go_ret
  exact ⟨_, [], rfl, ⟨rfl, none, 0, rfl, Nat.le_refl _, fun _ => ⟨rfl, rfl⟩, fun h => absurd h (Nat.lt_irrefl 0)⟩, trivial, HB.out⟩

set_option maxHeartbeats 800000 in
theorem kidsP_leaf (b off : Nat) (l : List Nd) (w : World) (hn : Nds w (.slice (some ⟨b, off, none⟩) l.length 1) l) (hat : At w b off l) (hl : l.length ≤ 1000000) (hcap : l.length ≤ 1) (hs : size l ≠ 0) :
    Calls Try.prog 23 #[.slice (some ⟨b, off, none⟩) l.length 1] w (KidsPost (kids l) w) := by
  have h0 : 0 < l.length := by have := size_le l; omega
  have HN := Lib.hid hn
  have HA := Lib.hid hat
  have hz := size_le l
  have HM := Lib.hid (fun k p d => kids_more (k := k) (p := p) (d := d) h0 hs)
  have HK := Lib.hid (kids_of h0 hs)
  have hbd := ar_le l[0].k
  obtain ⟨e1, e2, e3⟩ := hat 0 h0
  rw [Nat.zero_mul, Nat.add_zero] at e1 e2 e3
  obtain ⟨z, hzz⟩ : ∃ z, size l = z := ⟨_, rfl⟩
  have HZ := Lib.hid hzz
  rw [hzz] at hs hz
  have gz : ((z : Int) == 0) = false := by rw [beq_eq_false_iff_ne]; omega
  obtain ⟨y, hy⟩ : ∃ y, l[0] = y := ⟨_, rfl⟩
  rw [hy] at hbd e1 e2 e3 HM HK
  obtain ⟨x, hx⟩ : ∃ x, ar y.k = x := ⟨_, rfl⟩
  have HX := Lib.hid hx
  rw [hx] at hbd HM HK
  have E1 := Lib.hid e1
  have E2 := Lib.hid e2
  have E3 := Lib.hid e3
  have HBD := Lib.hid hbd
  clear hn hat hx hzz e1 e2 e3 hy hbd
  go_enter Try.func23, Try.ntmps23
  go_wp2_with fail
  refine (sizeP_any _ l _ HN.out hl).mono ?_
  rw [HZ.out]
  rintro e w0 ⟨rfl, hb⟩
  have HB0 := Lib.hid hb
  have c1 : w0.cell? ⟨b, off, none⟩ = some (.int .i64 y.k) := by rw [hb.cell (Ap.cell_lt E1.out)]; exact E1.out
  have c2 : w0.cell? ⟨b, off + 1, none⟩ = some (.string y.n) := by rw [hb.cell (Ap.cell_lt E2.out)]; exact E2.out
  have c3 : w0.cell? ⟨b, off + 2, none⟩ = some (.int .i64 y.s) := by rw [hb.cell (Ap.cell_lt E3.out)]; exact E3.out
  clear hb
  go_wp2_with fail
  refine (arP_eq y.k _).mono ?_
  rw [HX.out]
  rintro e w' ⟨rfl, rfl⟩
  go_wp2_with fail
  have hx0 : x ≤ 0 := by
    by_cases hx : x ≤ 0
    · exact hx
    · exfalso
      obtain ⟨c', d', ht⟩ := HM.out 0 1 0 (Far.start l 0) (by omega)
      rw [List.drop_eq_nil_of_le hcap, T_nil] at ht
      cases ht
  refine Go.wp_loop_rounds 1 ?_
  rw [rounds_succ]
  go_wp2_with fail
  go_ret
  exact ((MadeK.start w l).below HB0.out).done (by rw [HK.out, show x.toNat = 0 by omega])
set_option maxHeartbeats 800000 in
theorem kidsP_cells (b off cap : Nat) (l : List Nd) (w : World) (hn : Nds w (.slice (some ⟨b, off, none⟩) l.length cap) l) (hat : At w b off l) (hl : l.length ≤ 1000000) (hcap : l.length ≤ cap) (hs : size l ≠ 0) (hc1 : ¬ cap = 1) :
    Calls Try.prog 23 #[.slice (some ⟨b, off, none⟩) l.length cap] w (KidsPost (kids l) w) := by
  have h0 : 0 < l.length := by have := size_le l; omega
  have HN := Lib.hid hn
  have HA := Lib.hid hat
  have hz := size_le l
  have HM := Lib.hid (fun k p d => kids_more (k := k) (p := p) (d := d) h0 hs)
  have HK := Lib.hid (kids_of h0 hs)
  have hbd := ar_le l[0].k
  obtain ⟨e1, e2, e3⟩ := hat 0 h0
  rw [Nat.zero_mul, Nat.add_zero] at e1 e2 e3
  obtain ⟨z, hzz⟩ : ∃ z, size l = z := ⟨_, rfl⟩
  have HZ := Lib.hid hzz
  rw [hzz] at hs hz
  have gz : ((z : Int) == 0) = false := by rw [beq_eq_false_iff_ne]; omega
  obtain ⟨y, hy⟩ : ∃ y, l[0] = y := ⟨_, rfl⟩
  rw [hy] at hbd e1 e2 e3 HM HK
  obtain ⟨x, hx⟩ : ∃ x, ar y.k = x := ⟨_, rfl⟩
  have HX := Lib.hid hx
  rw [hx] at hbd HM HK
  have E1 := Lib.hid e1
  have E2 := Lib.hid e2
  have E3 := Lib.hid e3
  have HBD := Lib.hid hbd
  clear hn hat hx hzz e1 e2 e3 hy hbd
  go_enter Try.func23, Try.ntmps23
  go_wp2_with fail
  refine (sizeP_any _ l _ HN.out hl).mono ?_
  rw [HZ.out]
  rintro e w0 ⟨rfl, hb⟩
  have HB0 := Lib.hid hb
  have c1 : w0.cell? ⟨b, off, none⟩ = some (.int .i64 y.k) := by rw [hb.cell (Ap.cell_lt E1.out)]; exact E1.out
  have c2 : w0.cell? ⟨b, off + 1, none⟩ = some (.string y.n) := by rw [hb.cell (Ap.cell_lt E2.out)]; exact E2.out
  have c3 : w0.cell? ⟨b, off + 2, none⟩ = some (.int .i64 y.s) := by rw [hb.cell (Ap.cell_lt E3.out)]; exact E3.out
  clear hb
  go_wp2_with fail
  refine (arP_eq y.k _).mono ?_
  rw [HX.out]
  rintro e w' ⟨rfl, rfl⟩
  go_wp2_with fail
  go_loopw [3, 4, 16] (fun kv rv iv wr => ∃ k p o : Nat, (k : Int) ≤ max x 0 ∧ p ≤ l.length ∧ rv = .slice (some ⟨b, o, none⟩) (l.length - p) (cap - p) ∧ (p < cap → o = off + p * 3) ∧ iv = .int .i64 k ∧ Hid (MadeK w wr kv l k p)) (fun _ _ i _ => (x - intOf i).toNat)
  case atStart =>
    exact ⟨0, 1, off + 3, by omega, by omega, rfl, fun _ => by omega, rfl, Lib.hid ((MadeK.start w l).below HB0.out)⟩
  case round =>
    have HC1 := Lib.hid hc1; clear hc1
    obtain ⟨k, p, o, hk, hp, rfl, ho, rfl, HD⟩ := hrel
    have HB : Hid (Below w.heap.size w wr) := by obtain ⟨_, _, _, _, _, hb⟩ := HD.out; exact hb
    by_cases hkl : (k : Int) < x
    · obtain ⟨c', d', ht⟩ : ∃ c' d', T (l.drop p) = some (c', d') := by
        obtain ⟨_, d, hfar, _⟩ := HD.out
        exact HM.out k p d hfar hkl
      have hb' := T_bd ht
      rw [List.length_drop] at hb'
      have HSZ : Hid (size (l.drop p) = c') := by show _ = _; unfold size; rw [ht]
      have HT := Lib.hid ht
      obtain rfl := ho (by omega)
      have hNr := part_nds HA.out p (l.length - p) (cap - p) (by omega) (by omega)
      rw [List.take_of_length_le (by rw [List.length_drop]; exact Nat.le_refl _)] at hNr
      have HNr := Lib.hid (hNr.below HB.out)
      have HNp := Lib.hid (part_nds HA.out p c' (cap - p) (by omega) (by omega))
      have i1 : 1 ≤ c' := by omega
      have i2 : c' ≤ l.length - p := by omega
      have i3 : c' ≤ cap - p := by omega
      have i4 : k ≤ 2 := by have := HBD.out; omega
      have HLP : Hid ((l.drop p).length ≤ 1000000 ∧ ((l.drop p).take c').length ≤ 1000000) := by
        show _ ∧ _
        rw [List.length_take, List.length_drop]
        omega
      clear ht hb' ho hNr
      go_wp2_with fail
      refine (sizeP_any _ (l.drop p) _ HNr.out HLP.out.1).mono ?_
      rw [HSZ.out]
      rintro e w1 ⟨rfl, hb1⟩
      have HB1 := Lib.hid hb1
      clear hb1
      go_wp2_with fail
      refine (clone_any _ ((l.drop p).take c') _ ((HNp.out.below HB.out).below HB1.out) HLP.out.2).mono ?_
      rintro e w2 ⟨a, rfl, hown, hb2⟩
      have hB2 := HB1.out.trans (hb2.mono HB1.out.size)
      obtain ⟨v', w', hrun, hmk⟩ := HD.out.next HT.out i4 (Ap.own_base hown HB1.out.size) hB2 (by obtain ⟨_, _, rfl⟩ := own_sliceK hown; rfl)
      obtain ⟨am, cm, rfl⟩ := own_sliceK hown
      rw [show ((l.drop p).take c').length = c' by rw [List.length_take, List.length_drop]; omega] at hrun ⊢
      have R := Lib.hid hrun
      have HD' := Lib.hid hmk
      clear hown hb2 hrun hmk hB2
      go_wp2_with (at_builtin; refine Ap.wpList_append_run (by rfl) (.tmp 20) (.tmp 25) _ _ rfl _ _ rfl rfl v' w' R.out ?_)
      go_roundw
      case rel =>
        have l1 : l.length - p - c' = l.length - (p + c') := by omega
        have l2 : cap - p - c' = cap - (p + c') := by omega
        rw [l1, l2]
        by_cases hf : cap - p = c'
        · rw [if_pos hf]
          exact ⟨k + 1, p + c', off + p * 3, by omega, by omega, rfl, fun _ => by omega, by go_num, HD'⟩
        · rw [if_neg hf]
          exact ⟨k + 1, p + c', off + p * 3 + c' * 3, by omega, by omega, rfl, fun _ => by omega, by go_num, HD'⟩
      case measure => simp [intOf]; omega
    · go_wp2_with fail
      go_ret
      exact HD.out.done (by rw [HK.out, show x.toNat = k by omega])
/-- The program's Kids. -/
theorem kidsP_any (v : Value) (l : List Nd) (w : World) (hv : Nds w v l) (hl : l.length ≤ 1000000) :
    Calls Try.prog 23 #[v] w (KidsPost (kids l) w) := by
  by_cases hs : size l = 0
  · exact kidsP_none v l w hv hl hs
  · rcases hv.form with ⟨rfl, _, _, rfl⟩ | ⟨b, off, cap, rfl, hc, hat⟩
    · exact absurd rfl hs
    · by_cases hc1 : cap = 1
      · subst hc1
        exact kidsP_leaf b off l w hv hat hl hc hs
      · exact kidsP_cells b off cap l w hv hat hl hc hs hc1
end Go.Proofs.Ytcgbbhnhpkkomaa.Rx
