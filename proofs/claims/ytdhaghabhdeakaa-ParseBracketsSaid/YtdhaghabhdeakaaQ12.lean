/- The program's Kids: slices.Clone over nodes. The document's pair. The document's Is, Of, On and Right. -/
import Derived.Test.YtdhaghabhdeakaaQ08
import Derived.Test.YtdhaghabhdeakaaQ06
import Derived.Test.YtdhaghabhdeakaaQ07
import Derived.Lib.SliceRun
import Derived.Test.YtdhaghabhdeakaaQ09
import Derived.Test.YtdhaghabhdeakaaQ10

namespace Go.Proofs.Ytdhaghabhdeakaa.Rx
open Go Go.RowKit Rw
set_option maxRecDepth 20000

theorem heap_newK (w : World) (o : Obj) : (w.alloc o).heap[w.heap.size]? = some o := by
  show (w.heap.push o)[w.heap.size]? = some o
  simp
theorem own_madeK (w : World) : (w.alloc (.cells #[] 37)).ownsRow w.heap.size 37 3 (.slice (some ⟨w.heap.size, 0, none⟩) 0 0) 0 [] :=
  ⟨rfl, .inr ⟨w.heap.size, 0, #[], rfl, Nat.le_refl _, heap_newK w _, Nat.le_refl _, Nat.zero_le _, rfl, rfl⟩⟩

set_option maxHeartbeats 800000 in
theorem clone_any (x : Value) (l : List Nd) (w : World) (hx : Nds w x l) (hlen : l.length ≤ 1000000) :
    Calls Try.prog 73 #[x] w fun e w' => ∃ v, e = .returned v ∧ w'.ownsRow w.heap.size 37 3 v l.length (cls l) ∧ Below w.heap.size w w' := by
  have q : ∀ (w : World) (a : Option Addr) (n c n' c' : Nat), (binOp .eql 23 (.slice a n c) (.slice none n' c')).run Try.prog w = .ok (.bool a.isNone) w := fun w a n c n' c' => Lib.run_eql_slice_nil w _ _ a n c n' c' Try.underlying23
  have hb0 : Below w.heap.size w (w.alloc (.cells #[] 37)) := below1 w _
  obtain ⟨v1, w1, hrun, hown, _, hb, _⟩ := run_append_nds (l := []) (own_madeK w) hb0.size (hx.below hb0) (by simp; omega)
  rw [List.nil_append] at hown
  obtain ⟨hl, a, c, rfl, _, hn, _⟩ := hx
  cases a with
  | none =>
    obtain ⟨h0, rfl⟩ := hn rfl
    obtain rfl : l = [] := List.eq_nil_of_length_eq_zero h0
    clear hrun hown hb hb0 hl hn h0
    go_enter Try.func73, Try.ntmps73
    go_wp2_with fail
    go_ret
    exact ⟨_, rfl, ⟨rfl, .inl ⟨rfl, rfl⟩⟩, Below.refl _ _⟩
  | some ad =>
    have R := Lib.hid hrun
    have O := Lib.hid hown
    have B := Lib.hid (hb0.trans hb)
    clear hrun hown hb hb0 hn hl
    go_enter Try.func73, Try.ntmps73
    go_wp2_with (at_builtin; refine Ap.wpList_append_run (by rfl) _ _ _ _ rfl _ _ rfl rfl v1 w1 R.out ?_)
    go_ret
    exact ⟨_, rfl, O.out, B.out⟩

/-- Rows of the call's own, none in a given block. -/
def OwnK (base : Nat) (out : Option Nat) (w : World) : List Value → List (List Nd) → Prop
  | [], [] => True
  | a :: cs, r :: rs => (w.ownsRow base 37 3 a r.length (cls r) ∧ ∀ g, a.ownBlock = some g → some g ≠ out) ∧ OwnK base out w cs rs
  | _, _ => False
theorem OwnK.below {base : Nat} {out : Option Nat} {w w' : World} (hb : Below w.heap.size w w') : ∀ {cs : List Value} {ls : List (List Nd)}, OwnK base out w cs ls → OwnK base out w' cs ls
  | [], [], _ => trivial
  | _ :: _, _ :: _, h => ⟨⟨Ap.own_below h.1.1 hb, h.1.2⟩, OwnK.below hb h.2⟩
  | [], _ :: _, h => h.elim
  | _ :: _, [], h => h.elim
theorem OwnK.snoc {base : Nat} {out : Option Nat} {w : World} {a : Value} {r : List Nd} (ha : w.ownsRow base 37 3 a r.length (cls r)) (hn : ∀ g, a.ownBlock = some g → some g ≠ out) : ∀ {cs : List Value} {ls : List (List Nd)}, OwnK base out w cs ls → OwnK base out w (cs ++ [a]) (ls ++ [r])
  | [], [], _ => ⟨⟨ha, hn⟩, trivial⟩
  | _ :: _, _ :: _, h => ⟨h.1, OwnK.snoc ha hn h.2⟩
  | [], _ :: _, h => h.elim
  | _ :: _, [], h => h.elim
theorem own_grown {w w' : World} {base size n : Nat} {e : TypeId} {v : Value} {xs : List Value} {r : Option Nat} (h : w.ownsRow base e size v n xs) (hg : w.grownBy w' r) (hr : ∀ g, v.ownBlock = some g → some g ≠ r) : w'.ownsRow base e size v n xs := by
  obtain ⟨hl, h | ⟨g, cap, cur, rfl, hb, hh, h1, h2, h3, h4⟩⟩ := h
  · exact ⟨hl, .inl h⟩
  · refine ⟨hl, .inr ⟨g, cap, cur, rfl, hb, ?_, h1, h2, h3, h4⟩⟩
    rw [hg.block g (Nat.lt_of_not_le fun hle => by rw [Array.getElem?_eq_none hle] at hh; cases hh) (hr g rfl)]
    exact hh
theorem OwnK.grow {base : Nat} {w w' : World} {v v' : Value} (hg : w.grownBy w' v.ownBlock) (hf : Ap.Fresh w v v') : ∀ {cs : List Value} {ls : List (List Nd)}, OwnK base v.ownBlock w cs ls → OwnK base v'.ownBlock w' cs ls
  | [], [], _ => trivial
  | a :: _, r :: _, h => by
    refine ⟨⟨own_grown h.1.1 hg h.1.2, fun g hgo => ?_⟩, OwnK.grow hg hf h.2⟩
    have hlt := Ap.own_lt h.1.1 g hgo
    rcases hf with e | ⟨k, e, hk⟩
    · rw [e]; exact h.1.2 g hgo
    · rw [e]
      intro e2
      cases e2
      omega
  | [], _ :: _, h => h.elim
  | _ :: _, [], h => h.elim
theorem own_rdO {base : Nat} {out : Option Nat} {w : World} {a : Value} {r : List Nd} (h : w.ownsRow base 37 3 a r.length (cls r)) (hn : ∀ g, a.ownBlock = some g → some g ≠ out) : Own1 base out w a r := by
  obtain ⟨hl, ⟨rfl, h0⟩ | ⟨g, cap, cur, rfl, hb, hh, hnc, hcm, hcs, ht⟩⟩ := h
  · refine ⟨⟨hl, none, 0, by rw [h0], by omega, fun _ => ⟨h0, rfl⟩, fun h => by omega⟩, ?_⟩
    intro b off cap e
    rw [h0] at e
    cases e
  · refine ⟨⟨hl, some ⟨g, 0, none⟩, cap, rfl, hnc, fun h => (by cases h), fun _ => ⟨g, 0, rfl, ⟨hb, hn g rfl⟩, ?_, fun j u hu => ?_⟩⟩, ?_⟩
    · exact Nat.lt_of_not_le fun hle => by
        rw [Array.getElem?_eq_none hle] at hh
        cases hh
    · have hj : j < r.length * 3 := by
        rw [← hl]
        exact (List.getElem?_eq_some_iff.1 hu).1
      rw [← ht, List.getElem?_take_of_lt hj] at hu
      simp only [World.cell?, hh, Nat.zero_add]
      simpa using hu
    · intro b off cap' e j _
      cases e
      simp [World.frozen?, hh]
theorem OwnK.ownC {base : Nat} {out : Option Nat} {w : World} : ∀ {cs : List Value} {ls : List (List Nd)}, OwnK base out w cs ls → OwnC base out w cs ls
  | [], [], _ => trivial
  | _ :: _, _ :: _, h => ⟨own_rdO h.1.1 h.1.2, OwnK.ownC h.2⟩
  | [], _ :: _, h => h.elim
  | _ :: _, [], h => h.elim
/-- What the loop has made: the first k kids, in a row of its own, each in a block of its own. -/
def MadeK (w wr : World) (v : Value) (l : List Nd) (k p : Nat) : Prop := ∃ cs d, Far l 0 k p d ∧ wr.ownsRow w.heap.size 23 1 v k cs ∧ OwnK w.heap.size v.ownBlock wr cs (kidsN k (l.drop 1)) ∧ Below w.heap.size w wr
theorem MadeK.start (w : World) (l : List Nd) : MadeK w w (.slice none 0 0) l 0 1 := ⟨[], 0, Far.start l 0, ⟨rfl, .inl ⟨rfl, rfl⟩⟩, trivial, Below.refl _ _⟩
theorem MadeK.below {w wr wr' : World} {v : Value} {l : List Nd} {k p : Nat} (h : MadeK w wr v l k p) (hb : Below wr.heap.size wr wr') : MadeK w wr' v l k p := by
  obtain ⟨cs, d, h1, h2, h3, h4⟩ := h
  exact ⟨cs, d, h1, Ap.own_below h2 hb, h3.below hb, h4.trans (hb.mono h4.size)⟩
theorem MadeK.next {w wr w1 : World} {v a : Value} {l : List Nd} {k p c' d' : Nat} (h : MadeK w wr v l k p) (ht : T (l.drop p) = some (c', d')) (hk : k ≤ 2) (ha : w1.ownsRow wr.heap.size 37 3 a ((l.drop p).take c').length (cls ((l.drop p).take c'))) (hb1 : Below wr.heap.size wr w1) (h1a : a.oneCell' = true) :
    ∃ v' w', (Builtin.append_ #[59, 59] 59 #[v, .slice (some ⟨w1.heap.size, 0, none⟩) 1 1]).run Try.prog (w1.alloc (.cells #[a] 23)) = .ok v' w' ∧ MadeK w w' v' l (k + 1) (p + c') := by
  have h' := h.below hb1
  obtain ⟨cs, d, hfar, hown, hrw, hb⟩ := h'
  have hb0 : w.heap.size ≤ wr.heap.size := by obtain ⟨_, _, _, _, _, hb⟩ := h; exact hb.size
  obtain ⟨i0, hi, hz, hs1, hb8⟩ := info_parts infoR
  obtain ⟨v', w', h1, h2, h3, h4, h5⟩ := Ap.run_append_one (P := Try.prog) (ty := 59) Try.underlying59 hi hz hs1 hb8 (by rfl) (by omega) hown hb.size #[a] rfl
    (by intro u hu; simp at hu; subst hu; exact h1a) (by unfold maxLen; omega) (by omega)
  have hne : ∀ g, a.ownBlock = some g → some g ≠ v.ownBlock := by
    intro g hg e
    obtain ⟨_, _, _, hown0, _⟩ := h
    have h1 := Ap.own_lt hown0 g e.symm
    obtain ⟨_, ⟨rfl, _⟩ | ⟨g', _, _, rfl, hg', _⟩⟩ := ha
    · cases hg
    · have : g' = g := Option.some.inj hg
      omega
  refine ⟨v', w', h1, cs ++ [a], max d d', hfar.next ht, h2, ?_, hb.trans h4⟩
  rw [kids_next hfar ht]
  exact (hrw.snoc (Ap.own_base ha hb0) hne).grow h3 h5
theorem blk_own (v : Value) : blk v = v.ownBlock := by
  unfold blk Value.ownBlock
  rfl
theorem MadeK.done {w wr : World} {v : Value} {l : List Nd} {k p : Nat} (h : MadeK w wr v l k p) (hk : kids l = kidsN k (l.drop 1)) : KidsPost (kids l) w (.returned v) wr := by
  obtain ⟨cs, d, _, hown, hrw, hb⟩ := h
  refine ⟨v, cs, rfl, ?_, ?_, hb⟩
  · rw [hk, kidsN_len]
    exact Ap.RdO.fresh hown
  · rw [blk_own, hk]
    exact hrw.ownC
theorem own_sliceK {w : World} {base size n : Nat} {e : TypeId} {v : Value} {xs : List Value} (h : w.ownsRow base e size v n xs) : ∃ a c, v = .slice a n c := by
  obtain ⟨_, ⟨rfl, rfl⟩ | ⟨g, cap, cur, rfl, _⟩⟩ := h
  · exact ⟨none, 0, rfl⟩
  · exact ⟨_, _, rfl⟩

set_option maxHeartbeats 400000 in
theorem kidsP_none (v : Value) (l : List Nd) (w : World) (hv : Nds w v l) (hl : l.length ≤ 1000000) (hs : size l = 0) :
    Calls Try.prog 54 #[v] w (KidsPost (kids l) w) := by
  have HV := Lib.hid hv
  have HS := Lib.hid hs
  have HK : Hid (kids l = []) := by
    show _ = _
    unfold kids
    rw [if_pos hs]
  obtain ⟨_, a, cap, rfl, -⟩ := hv
  clear hs
  rw [HK.out]
  go_enter Try.func54, Try.ntmps54
  go_wp2_with fail
  refine (sizeP_any _ l _ HV.out hl).mono ?_
  rw [HS.out]
  rintro e w' ⟨rfl, hb⟩
  have HB := Lib.hid hb
  clear hb
  go_wp2_with fail
  go_ret
  exact ⟨_, [], rfl, ⟨rfl, none, 0, rfl, Nat.le_refl _, fun _ => ⟨rfl, rfl⟩, fun h => absurd h (Nat.lt_irrefl 0)⟩, trivial, HB.out⟩

set_option maxHeartbeats 800000 in
theorem kidsP_leaf (b off : Nat) (l : List Nd) (w : World) (hn : Nds w (.slice (some ⟨b, off, none⟩) l.length 1) l) (hat : At w b off l) (hl : l.length ≤ 1000000) (hcap : l.length ≤ 1) (hs : size l ≠ 0) :
    Calls Try.prog 54 #[.slice (some ⟨b, off, none⟩) l.length 1] w (KidsPost (kids l) w) := by
  have h0 : 0 < l.length := by have := size_le l; omega
  have HN := Lib.hid hn
  have HA := Lib.hid hat
  have hz := size_le l
  have HM := Lib.hid (fun k p d => kids_more (k := k) (p := p) (d := d) h0 hs)
  have HK := Lib.hid (kids_of h0 hs)
  have hbd := ar_le l[0].k
  obtain ⟨e1, e2, e3⟩ := hat 0 h0
  rw [Nat.zero_mul, Nat.add_zero] at e1 e2 e3
  obtain ⟨z, hzz⟩ : ∃ z, size l = z := ⟨_, rfl⟩
  have HZ := Lib.hid hzz
  rw [hzz] at hs hz
  have gz : ((z : Int) == 0) = false := by rw [beq_eq_false_iff_ne]; omega
  obtain ⟨y, hy⟩ : ∃ y, l[0] = y := ⟨_, rfl⟩
  rw [hy] at hbd e1 e2 e3 HM HK
  obtain ⟨x, hx⟩ : ∃ x, ar y.k = x := ⟨_, rfl⟩
  have HX := Lib.hid hx
  rw [hx] at hbd HM HK
  have E1 := Lib.hid e1
  have E2 := Lib.hid e2
  have E3 := Lib.hid e3
  have HBD := Lib.hid hbd
  clear hn hat hx hzz e1 e2 e3 hy hbd
  go_enter Try.func54, Try.ntmps54
  go_wp2_with fail
  refine (sizeP_any _ l _ HN.out hl).mono ?_
  rw [HZ.out]
  rintro e w0 ⟨rfl, hb⟩
  have HB0 := Lib.hid hb
  have c1 : w0.cell? ⟨b, off, none⟩ = some (.int .i64 y.k) := by rw [hb.cell (Ap.cell_lt E1.out)]; exact E1.out
  have c2 : w0.cell? ⟨b, off + 1, none⟩ = some (.string y.n) := by rw [hb.cell (Ap.cell_lt E2.out)]; exact E2.out
  have c3 : w0.cell? ⟨b, off + 2, none⟩ = some (.int .i64 y.s) := by rw [hb.cell (Ap.cell_lt E3.out)]; exact E3.out
  clear hb
  go_wp2_with fail
  refine (arP_eq y.k _).mono ?_
  rw [HX.out]
  rintro e w' ⟨rfl, rfl⟩
  go_wp2_with fail
  have hx0 : x ≤ 0 := by
    by_cases hx : x ≤ 0
    · exact hx
    · exfalso
      obtain ⟨c', d', ht⟩ := HM.out 0 1 0 (Far.start l 0) (by omega)
      rw [List.drop_eq_nil_of_le hcap, T_nil] at ht
      cases ht
  refine Go.wp_loop_rounds 1 ?_
  rw [rounds_succ]
  go_wp2_with fail
  go_ret
  exact ((MadeK.start w l).below HB0.out).done (by rw [HK.out, show x.toNat = 0 by omega])
set_option maxHeartbeats 800000 in
theorem kidsP_cells (b off cap : Nat) (l : List Nd) (w : World) (hn : Nds w (.slice (some ⟨b, off, none⟩) l.length cap) l) (hat : At w b off l) (hl : l.length ≤ 1000000) (hcap : l.length ≤ cap) (hs : size l ≠ 0) (hc1 : ¬ cap = 1) :
    Calls Try.prog 54 #[.slice (some ⟨b, off, none⟩) l.length cap] w (KidsPost (kids l) w) := by
  have h0 : 0 < l.length := by have := size_le l; omega
  have HN := Lib.hid hn
  have HA := Lib.hid hat
  have hz := size_le l
  have HM := Lib.hid (fun k p d => kids_more (k := k) (p := p) (d := d) h0 hs)
  have HK := Lib.hid (kids_of h0 hs)
  have hbd := ar_le l[0].k
  obtain ⟨e1, e2, e3⟩ := hat 0 h0
  rw [Nat.zero_mul, Nat.add_zero] at e1 e2 e3
  obtain ⟨z, hzz⟩ : ∃ z, size l = z := ⟨_, rfl⟩
  have HZ := Lib.hid hzz
  rw [hzz] at hs hz
  have gz : ((z : Int) == 0) = false := by rw [beq_eq_false_iff_ne]; omega
  obtain ⟨y, hy⟩ : ∃ y, l[0] = y := ⟨_, rfl⟩
  rw [hy] at hbd e1 e2 e3 HM HK
  obtain ⟨x, hx⟩ : ∃ x, ar y.k = x := ⟨_, rfl⟩
  have HX := Lib.hid hx
  rw [hx] at hbd HM HK
  have E1 := Lib.hid e1
  have E2 := Lib.hid e2
  have E3 := Lib.hid e3
  have HBD := Lib.hid hbd
  clear hn hat hx hzz e1 e2 e3 hy hbd
  go_enter Try.func54, Try.ntmps54
  go_wp2_with fail
  refine (sizeP_any _ l _ HN.out hl).mono ?_
  rw [HZ.out]
  rintro e w0 ⟨rfl, hb⟩
  have HB0 := Lib.hid hb
  have c1 : w0.cell? ⟨b, off, none⟩ = some (.int .i64 y.k) := by rw [hb.cell (Ap.cell_lt E1.out)]; exact E1.out
  have c2 : w0.cell? ⟨b, off + 1, none⟩ = some (.string y.n) := by rw [hb.cell (Ap.cell_lt E2.out)]; exact E2.out
  have c3 : w0.cell? ⟨b, off + 2, none⟩ = some (.int .i64 y.s) := by rw [hb.cell (Ap.cell_lt E3.out)]; exact E3.out
  clear hb
  go_wp2_with fail
  refine (arP_eq y.k _).mono ?_
  rw [HX.out]
  rintro e w' ⟨rfl, rfl⟩
  go_wp2_with fail
  go_loopw [3, 4, 16] (fun kv rv iv wr => ∃ k p o : Nat, (k : Int) ≤ max x 0 ∧ p ≤ l.length ∧ rv = .slice (some ⟨b, o, none⟩) (l.length - p) (cap - p) ∧ (p < cap → o = off + p * 3) ∧ iv = .int .i64 k ∧ Hid (MadeK w wr kv l k p)) (fun _ _ i _ => (x - intOf i).toNat)
  case atStart =>
    exact ⟨0, 1, off + 3, by omega, by omega, rfl, fun _ => by omega, rfl, Lib.hid ((MadeK.start w l).below HB0.out)⟩
  case round =>
    have HC1 := Lib.hid hc1; clear hc1
    obtain ⟨k, p, o, hk, hp, rfl, ho, rfl, HD⟩ := hrel
    have HB : Hid (Below w.heap.size w wr) := by obtain ⟨_, _, _, _, _, hb⟩ := HD.out; exact hb
    by_cases hkl : (k : Int) < x
    · obtain ⟨c', d', ht⟩ : ∃ c' d', T (l.drop p) = some (c', d') := by
        obtain ⟨_, d, hfar, _⟩ := HD.out
        exact HM.out k p d hfar hkl
      have hb' := T_bd ht
      rw [List.length_drop] at hb'
      have HSZ : Hid (size (l.drop p) = c') := by show _ = _; unfold size; rw [ht]
      have HT := Lib.hid ht
      obtain rfl := ho (by omega)
      have hNr := part_nds HA.out p (l.length - p) (cap - p) (by omega) (by omega)
      rw [List.take_of_length_le (by rw [List.length_drop]; exact Nat.le_refl _)] at hNr
      have HNr := Lib.hid (hNr.below HB.out)
      have HNp := Lib.hid (part_nds HA.out p c' (cap - p) (by omega) (by omega))
      have i1 : 1 ≤ c' := by omega
      have i2 : c' ≤ l.length - p := by omega
      have i3 : c' ≤ cap - p := by omega
      have i4 : k ≤ 2 := by have := HBD.out; omega
      have HLP : Hid ((l.drop p).length ≤ 1000000 ∧ ((l.drop p).take c').length ≤ 1000000) := by
        show _ ∧ _
        rw [List.length_take, List.length_drop]
        omega
      clear ht hb' ho hNr
      go_wp2_with fail
      refine (sizeP_any _ (l.drop p) _ HNr.out HLP.out.1).mono ?_
      rw [HSZ.out]
      rintro e w1 ⟨rfl, hb1⟩
      have HB1 := Lib.hid hb1
      clear hb1
      go_wp2_with fail
      refine (clone_any _ ((l.drop p).take c') _ ((HNp.out.below HB.out).below HB1.out) HLP.out.2).mono ?_
      rintro e w2 ⟨a, rfl, hown, hb2⟩
      have hB2 := HB1.out.trans (hb2.mono HB1.out.size)
      obtain ⟨v', w', hrun, hmk⟩ := HD.out.next HT.out i4 (Ap.own_base hown HB1.out.size) hB2 (by obtain ⟨_, _, rfl⟩ := own_sliceK hown; rfl)
      obtain ⟨am, cm, rfl⟩ := own_sliceK hown
      rw [show ((l.drop p).take c').length = c' by rw [List.length_take, List.length_drop]; omega] at hrun ⊢
      have R := Lib.hid hrun
      have HD' := Lib.hid hmk
      clear hown hb2 hrun hmk hB2
      go_wp2_with (at_builtin; refine Ap.wpList_append_run (by rfl) (.tmp 20) (.tmp 25) _ _ rfl _ _ rfl rfl v' w' R.out ?_)
      go_roundw
      case rel =>
        have l1 : l.length - p - c' = l.length - (p + c') := by omega
        have l2 : cap - p - c' = cap - (p + c') := by omega
        rw [l1, l2]
        by_cases hf : cap - p = c'
        · rw [if_pos hf]
          exact ⟨k + 1, p + c', off + p * 3, by omega, by omega, rfl, fun _ => by omega, by go_num, HD'⟩
        · rw [if_neg hf]
          exact ⟨k + 1, p + c', off + p * 3 + c' * 3, by omega, by omega, rfl, fun _ => by omega, by go_num, HD'⟩
      case measure => simp [intOf]; omega
    · go_wp2_with fail
      go_ret
      exact HD.out.done (by rw [HK.out, show x.toNat = k by omega])
/-- The program's Kids. -/
theorem kidsP_any (v : Value) (l : List Nd) (w : World) (hv : Nds w v l) (hl : l.length ≤ 1000000) :
    Calls Try.prog 54 #[v] w (KidsPost (kids l) w) := by
  by_cases hs : size l = 0
  · exact kidsP_none v l w hv hl hs
  · rcases hv.form with ⟨rfl, _, _, rfl⟩ | ⟨b, off, cap, rfl, hc, hat⟩
    · exact absurd rfl hs
    · by_cases hc1 : cap = 1
      · subst hc1
        exact kidsP_leaf b off l w hv hat hl hc hs
      · exact kidsP_cells b off cap l w hv hat hl hc hs hc1
end Go.Proofs.Ytdhaghabhdeakaa.Rx

namespace Go.Proofs.Ytdhaghabhdeakaa.Pa
open Go Go.RowKit Rw
set_option maxRecDepth 20000

set_option maxHeartbeats 1000000 in
theorem pr_walk {f : Nat} {ts : List To.Tk} (hts : ts.length ≤ 1000) (ih : AtC f ts) : PrC (f + 1) ts := by
  intro p g w v hp h hv
  have IH := Lib.hid ih
  have HV := Lib.hid hv
  rw [pr_succ] at h
  have hkind := Lib.hid (fun i w' hv' => kindT_any v ts i w' hv')
  have B0 := Lib.hid (below1 w gz)
  have HV0 := Lib.hid (HV.out.below B0.out)
  have K0 := Lib.hid (Bk.new w)
  obtain ⟨x, hx, hm⟩ := Option.bind_eq_some_iff.1 h
  have IX := Lib.hid (fun w' v' hv' => IH.out p x w' v' hp hx hv')
  obtain ⟨q1, q2, q3⟩ := (few f).2.2.2 _ _ _ (by rw [tkn_len]; omega) hx
  rw [tkn_len] at q2
  have HM := Lib.hid hm
  obtain ⟨_, a, cap, rfl, -⟩ := hv
  clear ih h hx hm
  go_enter Try.func49, Try.ntmps49
  go_wp2_with fail
  refine (IX.out _ _ HV0.out).mono ?_
  rintro e w1 ⟨y, rfl, hy, hb⟩
  cases hxb : x.bad with
  | true =>
    have HB := Lib.hid hb
    have HY := Lib.hid hy
    have K1 := Lib.hid (K0.out.below hb)
    have HV1 := Lib.hid (HV0.out.below hb)
    obtain ⟨_, ya, yc, rfl, -⟩ := hy
    have B2 := Lib.hid (below1 w1 (.cells #[.slice ya x.L.length yc, .int .i64 (x.next : Int), .bool true] 49))
    have KG := Lib.hid (Bk.mk w1 (.slice ya x.L.length yc) (.int .i64 (x.next : Int)) (.bool true))
    have K2 := Lib.hid (K1.out.below B2.out)
    have HV2 := Lib.hid (HV1.out.below B2.out)
    have HY2 := Lib.hid (HY.out.below B2.out)
    have BB2 := Lib.hid (B0.out.trans ((hb.trans (B2.out.mono hb.size)).mono B0.out.size))
    have hne : w.heap.size ≠ w1.heap.size := by have := K1.out.lt; omega
    obtain ⟨d1, d2, d3, d4, d5, d6⟩ := K2.out.cells
    obtain ⟨f1, f2, f3, f4, f5, f6⟩ := KG.out.cells
    clear hb
    have hg : g = x := by have := HM.out; rw [if_pos (Or.inl hxb)] at this; exact (Option.some.inj this).symm
    subst hg
    have HXB := Lib.hid hxb
    clear hxb
    go_wp2_with fail
    refine ret_got rfl rfl (K2.out.put _ _ _) rfl ⟨_, by rw [HXB.out], (rdO_put3 HY2.out (fun k hk => Nat.ne_of_gt (Nat.lt_of_lt_of_le K0.out.lt hk))).imp (fun b _ hb' => Nat.le_trans B0.out.size hb'), below_put3 BB2.out _ _ _ _ (Nat.le_refl _)⟩
  | false =>
    have HB := Lib.hid hb
    have HY := Lib.hid hy
    have K1 := Lib.hid (K0.out.below hb)
    have HV1 := Lib.hid (HV0.out.below hb)
    obtain ⟨_, ya, yc, rfl, -⟩ := hy
    have B2 := Lib.hid (below1 w1 (.cells #[.slice ya x.L.length yc, .int .i64 (x.next : Int), .bool false] 49))
    have KG := Lib.hid (Bk.mk w1 (.slice ya x.L.length yc) (.int .i64 (x.next : Int)) (.bool false))
    have K2 := Lib.hid (K1.out.below B2.out)
    have HV2 := Lib.hid (HV1.out.below B2.out)
    have HY2 := Lib.hid (HY.out.below B2.out)
    have BB2 := Lib.hid (B0.out.trans ((hb.trans (B2.out.mono hb.size)).mono B0.out.size))
    have hne : w.heap.size ≠ w1.heap.size := by have := K1.out.lt; omega
    obtain ⟨d1, d2, d3, d4, d5, d6⟩ := K2.out.cells
    obtain ⟨f1, f2, f3, f4, f5, f6⟩ := KG.out.cells
    clear hb
    obtain ⟨kk, hkk⟩ : ∃ kk, kd (tkn ts) x.next = kk := ⟨_, rfl⟩
    have HKK := Lib.hid hkk
    by_cases h9 : kk = 9
    · have HM2 := Lib.hid (by have := HM.out; rw [if_neg (by rw [hxb, hkk, h9]; simp)] at this; exact this)
      obtain ⟨z, hz, hzz⟩ := Option.map_eq_some_iff.1 HM2.out
      have hlt : x.next < ts.length := by
        apply Nat.lt_of_not_le
        intro hle
        rw [kd_out (by rw [tkn_len]; exact hle)] at hkk
        omega
      have IZ := Lib.hid (fun w' v' hv' => IH.out (x.next + 1) z w' v' (by omega) hz hv')
      obtain ⟨r1, r2, r3⟩ := (few f).2.2.2 _ _ _ (by rw [tkn_len]; omega) hz
      rw [tkn_len] at r2
      subst h9
      subst hzz
      clear hxb hkk hz
      go_wp2_with fail
      refine (hkind.out x.next _ HV2.out).mono ?_
      rw [HKK.out]
      rintro e w' ⟨rfl, rfl⟩
      go_wp2_with fail
      refine (IZ.out _ _ HV2.out).mono ?_
      rintro e w3 ⟨yz, rfl, hyz, hb3⟩
      have HZ := Lib.hid hyz
      have K3 := Lib.hid (K2.out.below hb3)
      have KG3 := Lib.hid (KG.out.below hb3)
      have HY3 := Lib.hid (HY2.out.below hb3)
      have BB3 := Lib.hid (BB2.out.trans (hb3.mono BB2.out.size))
      obtain ⟨_, za, zc, rfl, -⟩ := hyz
      have B4 := Lib.hid (below1 w3 (.cells #[.slice za z.L.length zc, .int .i64 (z.next : Int), .bool z.bad] 49))
      have KH := Lib.hid (Bk.mk w3 (.slice za z.L.length zc) (.int .i64 (z.next : Int)) (.bool z.bad))
      have K4 := Lib.hid (K3.out.below B4.out)
      have KG4 := Lib.hid (KG3.out.below B4.out)
      have HY4 := Lib.hid (HY3.out.below B4.out)
      have HZ4 := Lib.hid (HZ.out.below B4.out)
      have BB4 := Lib.hid (BB3.out.trans (B4.out.mono BB3.out.size))
      clear d1 d2 d3 d4 d5 d6 f1 f2 f3 f4 f5 f6 hb3
      obtain ⟨f1, f2, f3, f4, f5, f6⟩ := KG4.out.cells
      obtain ⟨g1, g2, g3, g4, g5, g6⟩ := KH.out.cells
      go_wp2_with fail
      refine (twoR_own (nOf 10) _ _ x.L z.L _ HY4.out.rd HZ4.out.rd (by omega) (by omega)).mono ?_
      rintro e w5 ⟨u, rfl, hu, hb5⟩
      obtain ⟨N, hN⟩ : ∃ N, (nOf 10 :: (x.L ++ z.L)).length = N := ⟨_, rfl⟩
      rw [hN] at hu
      have HNN := Lib.hid hN
      clear hN
      have HU := Lib.hid ((Ap.RdO.fresh hu).imp (ok' := fun b => w3.heap.size + 1 ≤ b) fun b _ hb' => by simpa using hb')
      have KH5 := Lib.hid (KH.out.below hb5)
      have K5 := Lib.hid (K4.out.below hb5)
      have BB5 := Lib.hid (BB4.out.trans (hb5.mono BB4.out.size))
      have hlt0 := K0.out.lt
      have hlt3 := K3.out.lt
      have K6 : Hid (Bk (w5.setCell ⟨w3.heap.size, 0, none⟩ u) w.heap.size _ _ _) := Lib.hid ((heap_set w5 w3.heap.size 0 u w.heap.size (by omega)).trans K5.out)
      have HU6 := Lib.hid (rdO_set (g := w3.heap.size) (o := 0) (x := u) HU.out (fun k hk => by omega))
      have BB6 := Lib.hid (below_set BB5.out w3.heap.size 0 u (by omega))
      obtain ⟨_, ua, uc, rfl, -⟩ := HU.out
      clear f1 f2 f3 f4 f5 f6 g1 g2 g3 g4 g5 g6
      obtain ⟨d1, d2, d3, d4, d5, d6⟩ := K5.out.cells
      obtain ⟨g1, g2, g3, g4, g5, g6⟩ := KH5.out.cells
      clear hu hb5
      go_wp2_with fail
      exact ret_got rfl rfl (K6.out.put _ _ _) rfl ⟨_, rfl, by rw [show (two 10 x z).L.length = N from HNN.out]; exact (rdO_put3 HU6.out (fun k hk => by omega)).imp (fun b _ hb' => by omega), below_put3 BB6.out _ _ _ _ (Nat.le_refl _)⟩
    · have hg : g = x := by have := HM.out; rw [if_pos (Or.inr (by rw [hkk]; exact h9))] at this; exact (Option.some.inj this).symm
      subst hg
      have gk : (kk != 9) = true := by rw [bne_iff_ne]; exact h9
      have HXB := Lib.hid hxb
      clear hxb hkk h9
      go_wp2_with fail
      refine (hkind.out g.next _ HV2.out).mono ?_
      rw [HKK.out]
      rintro e w' ⟨rfl, rfl⟩
      go_wp2_with fail
      refine ret_got rfl rfl (K2.out.put _ _ _) rfl ⟨_, by rw [HXB.out], (rdO_put3 HY2.out (fun k hk => Nat.ne_of_gt (Nat.lt_of_lt_of_le K0.out.lt hk))).imp (fun b _ hb' => Nat.le_trans B0.out.size hb'), below_put3 BB2.out _ _ _ _ (Nat.le_refl _)⟩
end Go.Proofs.Ytdhaghabhdeakaa.Pa

namespace Go.Proofs.Ytdhaghabhdeakaa.So
open Go Go.RowKit Go.Proofs.Ytdhaghabhdeakaa.Rw
set_option maxRecDepth 20000

set_option maxHeartbeats 1000000 in
theorem is_1 (l : List Nd) (v : Value) (w : World) (ht : Tre l) (hv : Nds w v l) (hl : l.length ≤ 1000000) (ih : IsC l.length) : Calls Try.prog 53 #[v, .int .i64 1] w fun e w' => e = .returned (.bool (Is 1 l)) ∧ Below w.heap.size w w' := by
  have HR := Lib.hid (Is_one l)
  have HV := Lib.hid hv
  obtain ⟨_, a, cap, rfl, -⟩ := hv
  go_enter Try.func53, Try.ntmps53
  go_wp2_with fail
  refine (kidsR_any _ l _ HV.out hl).mono ?_
  rintro e w1 ⟨y, rfl, hy, hb⟩
  have HY := Lib.hid hy
  have HB := Lib.hid hb
  replace HV := Lib.hid (HV.out.below hb)
  clear hy hb
  go_wp2_with fail
  refine (plain_any l _ _ _ ht HV.out HY.out ih).mono ?_
  rintro e w2 ⟨rfl, hb⟩
  go_wp2_with fail
  go_ret
  exact ⟨ret_bool HR.out.symm, HB.out.trans (hb.mono HB.out.size)⟩
set_option maxHeartbeats 1000000 in
theorem is_2 (l : List Nd) (v : Value) (w : World) (ht : Tre l) (hv : Nds w v l) (hl : l.length ≤ 1000000) (ih : IsC l.length) : Calls Try.prog 53 #[v, .int .i64 2] w fun e w' => e = .returned (.bool (Is 2 l)) ∧ Below w.heap.size w w' := by
  have HR := Lib.hid (Is_two l)
  have HV := Lib.hid hv
  obtain ⟨_, a, cap, rfl, -⟩ := hv
  go_enter Try.func53, Try.ntmps53
  go_wp2_with fail
  refine (kidsR_any _ l _ HV.out hl).mono ?_
  rintro e w1 ⟨y, rfl, hy, hb⟩
  have HY := Lib.hid hy
  have HB := Lib.hid hb
  replace HV := Lib.hid (HV.out.below hb)
  clear hy hb
  go_wp2_with fail
  refine (paired_any l _ _ _ ht HV.out HY.out ih).mono ?_
  rintro e w2 ⟨rfl, hb⟩
  go_wp2_with fail
  go_ret
  exact ⟨ret_bool HR.out.symm, HB.out.trans (hb.mono HB.out.size)⟩
set_option maxHeartbeats 1000000 in
theorem is_3 (l : List Nd) (v : Value) (w : World) (ht : Tre l) (hv : Nds w v l) (hl : l.length ≤ 1000000) (ih : IsC l.length) : Calls Try.prog 53 #[v, .int .i64 3] w fun e w' => e = .returned (.bool (Is 3 l)) ∧ Below w.heap.size w w' := by
  have HR := Lib.hid (Is_three l)
  have HV := Lib.hid hv
  obtain ⟨_, a, cap, rfl, -⟩ := hv
  go_enter Try.func53, Try.ntmps53
  go_wp2_with fail
  refine (kidsR_any _ l _ HV.out hl).mono ?_
  rintro e w1 ⟨y, rfl, hy, hb⟩
  have HY := Lib.hid hy
  have HB := Lib.hid hb
  replace HV := Lib.hid (HV.out.below hb)
  clear hy hb
  go_wp2_with fail
  refine (plain_any l _ _ _ ht HV.out HY.out ih).mono ?_
  cases h0 : plainB Is l with
  | true =>
    rw [h0, Bool.true_or] at HR
    rintro e w2 ⟨rfl, hb⟩
    go_wp2_with fail
    go_ret
    exact ⟨ret_bool HR.out.symm, HB.out.trans (hb.mono HB.out.size)⟩
  | false =>
    rw [h0, Bool.false_or] at HR
    rintro e w2 ⟨rfl, hb⟩
    replace HB := Lib.hid (HB.out.trans (hb.mono HB.out.size))
    replace HV := Lib.hid (HV.out.below hb)
    replace HY := Lib.hid (HY.out.below hb)
    clear hb h0
    go_wp2_with fail
    refine (plainOn_any l _ _ _ ht HV.out HY.out ih).mono ?_
    rintro e w3 ⟨rfl, hb⟩
    go_wp2_with fail
    go_ret
    exact ⟨ret_bool HR.out.symm, HB.out.trans (hb.mono HB.out.size)⟩
set_option maxHeartbeats 1000000 in
theorem is_4 (l : List Nd) (v : Value) (w : World) (ht : Tre l) (hv : Nds w v l) (hl : l.length ≤ 1000000) (ih : IsC l.length) : Calls Try.prog 53 #[v, .int .i64 4] w fun e w' => e = .returned (.bool (Is 4 l)) ∧ Below w.heap.size w w' := by
  have HR := Lib.hid (Is_four l)
  have HV := Lib.hid hv
  obtain ⟨_, a, cap, rfl, -⟩ := hv
  go_enter Try.func53, Try.ntmps53
  go_wp2_with fail
  refine (kidsR_any _ l _ HV.out hl).mono ?_
  rintro e w1 ⟨y, rfl, hy, hb⟩
  have HY := Lib.hid hy
  have HB := Lib.hid hb
  replace HV := Lib.hid (HV.out.below hb)
  clear hy hb
  go_wp2_with fail
  refine (paired_any l _ _ _ ht HV.out HY.out ih).mono ?_
  cases h0 : pairedB Is l with
  | true =>
    rw [h0, Bool.true_or] at HR
    rintro e w2 ⟨rfl, hb⟩
    go_wp2_with fail
    go_ret
    exact ⟨ret_bool HR.out.symm, HB.out.trans (hb.mono HB.out.size)⟩
  | false =>
    rw [h0, Bool.false_or] at HR
    rintro e w2 ⟨rfl, hb⟩
    replace HB := Lib.hid (HB.out.trans (hb.mono HB.out.size))
    replace HV := Lib.hid (HV.out.below hb)
    replace HY := Lib.hid (HY.out.below hb)
    clear hb h0
    go_wp2_with fail
    refine (pairedOn_any l _ _ _ ht HV.out HY.out ih).mono ?_
    rintro e w3 ⟨rfl, hb⟩
    go_wp2_with fail
    go_ret
    exact ⟨ret_bool HR.out.symm, HB.out.trans (hb.mono HB.out.size)⟩
theorem is_all : ∀ n, n ≤ 1000000 → IsC n
  | 0, _ => fun r _ _ _ h => absurd h (Nat.not_lt_zero _)
  | n + 1, hn => by
    intro r s w v hr ht hv h1 h4
    have ih : IsC r.length := by
      rcases Nat.lt_or_ge r.length n with h | h
      · intro r' s' w' v' hr'
        exact is_all n (by omega) r' s' w' v' (by omega)
      · have : r.length = n := by omega
        rw [this]
        exact is_all n (by omega)
    have hl : r.length ≤ 1000000 := by omega
    have hs : s = 1 ∨ s = 2 ∨ s = 3 ∨ s = 4 := by omega
    rcases hs with rfl | rfl | rfl | rfl
    · exact is_1 r v w ht hv hl ih
    · exact is_2 r v w ht hv hl ih
    · exact is_3 r v w ht hv hl ih
    · exact is_4 r v w ht hv hl ih
theorem isR_any (l : List Nd) (s : Nat) (v : Value) (w : World) (ht : Tre l) (hv : Nds w v l) (hl : l.length ≤ 999999) (h1 : 1 ≤ s) (h4 : s ≤ 4) : Calls Try.prog 53 #[v, .int .i64 s] w fun e w' => e = .returned (.bool (Is s l)) ∧ Below w.heap.size w w' :=
  is_all (l.length + 1) (by omega) l s w v (by omega) ht hv h1 h4

theorem whole_tre {l : List Nd} (h : whole l = true) : Tre l := by
  unfold whole at h
  simp only [Bool.and_eq_true, decide_eq_true_eq] at h
  exact Tre.of_size h.2 (fun e => by rw [e] at h; exact absurd h.1.2.1 (by decide))
theorem whole_len {l : List Nd} (h : whole l = true) : l.length ≤ 200 := by
  unfold whole at h
  simp only [Bool.and_eq_true, decide_eq_true_eq] at h
  exact h.1.2.2
/-- No sort below s. -/
def Not (l : List Nd) (s : Nat) : Prop := ∀ i, 1 ≤ i → i < s → Is i l = false
theorem first_yes {l : List Nd} {s : Nat} (h : Not l s) (h1 : 1 ≤ s) (h4 : s ≤ 4) (hs : Is s l = true) : first l = s := by
  have n1 : 1 < s → Is 1 l = false := fun h' => h 1 (by omega) h'
  have n2 : 2 < s → Is 2 l = false := fun h' => h 2 (by omega) h'
  have n3 : 3 < s → Is 3 l = false := fun h' => h 3 (by omega) h'
  unfold first
  have hc : s = 1 ∨ s = 2 ∨ s = 3 ∨ s = 4 := by omega
  rcases hc with rfl | rfl | rfl | rfl
  · simp [hs]
  · simp [n1 (by omega), hs]
  · simp [n1 (by omega), n2 (by omega), hs]
  · simp [n1 (by omega), n2 (by omega), n3 (by omega), hs]
theorem first_no {l : List Nd} (h : Not l 5) : first l = 0 := by
  unfold first
  simp [h 1 (by omega) (by omega), h 2 (by omega) (by omega), h 3 (by omega) (by omega), h 4 (by omega) (by omega)]
theorem Not.next {l : List Nd} {s : Nat} (h : Not l s) (hs : Is s l = false) : Not l (s + 1) := fun i h1 h2 => by
  rcases Nat.lt_or_ge i s with h' | h'
  · exact h i h1 h'
  · rw [show i = s by omega]
    exact hs

set_option maxHeartbeats 2000000 in
theorem ofR_any (l : List Nd) (v : Value) (w : World) (hv : Nds w v l) (hl : l.length ≤ 1000) (hm : Nms l) : Calls Try.prog 31 #[v] w fun e w' => e = .returned (.int .i64 (of l)) ∧ Below w.heap.size w w' := by
  have HV := Lib.hid hv
  have HM := Lib.hid hm
  obtain ⟨_, a, cap, rfl, -⟩ := hv
  clear hm
  go_enter Try.func31, Try.ntmps31
  go_wp2_with fail
  refine (wholeR_any _ l _ HV.out (by omega) HM.out).mono ?_
  cases hw : whole l with
  | false =>
    have HR : Hid (of l = 0) := by
      show _ = _
      unfold of
      rw [hw]
      rfl
    clear hw
    rintro e w1 ⟨rfl, hb⟩
    go_wp2_with fail
    go_ret
    exact ⟨ret_int (by rw [HR.out]; rfl), hb⟩
  | true =>
    have HT := Lib.hid (whole_tre hw)
    have HR : Hid (of l = first l) := by
      show _ = _
      unfold of
      rw [hw]
      rfl
    clear hw
    rintro e w1 ⟨rfl, hb⟩
    replace HV := Lib.hid (HV.out.below hb)
    have HB := Lib.hid hb
    clear hb
    go_wp2_with fail
    go_loopw [3] (fun i wr => ∃ s : Nat, 1 ≤ s ∧ s ≤ 5 ∧ i = .int .i64 s ∧ Hid (Not l s) ∧ Hid (Nds wr (.slice a l.length cap) l) ∧ Hid (Below w.heap.size w wr)) (fun i _ => (5 - intOf i).toNat)
    case atStart => exact ⟨1, by omega, by omega, rfl, Lib.hid (fun i h1 h2 => by omega), HV, HB⟩
    case round =>
      clear HV HB
      obtain ⟨s, h1, h5, rfl, HN, HV, HB⟩ := hrel
      by_cases h4 : s ≤ 4
      · have IH := Lib.hid (isR_any l s _ _ HT.out HV.out (by omega) h1 h4)
        cases hs : Is s l with
        | true =>
          have HF := Lib.hid (HR.out.trans (first_yes HN.out h1 h4 hs))
          rw [hs] at IH
          clear hs
          go_wp2_with fail
          refine IH.out.mono ?_
          rintro e w2 ⟨rfl, hb⟩
          go_wp2_with fail
          go_ret
          exact ⟨ret_int (by rw [HF.out]), HB.out.trans (hb.mono HB.out.size)⟩
        | false =>
          have HN' := Lib.hid (HN.out.next hs)
          rw [hs] at IH
          clear hs
          go_wp2_with fail
          refine IH.out.mono ?_
          rintro e w2 ⟨rfl, hb⟩
          replace HV := Lib.hid (HV.out.below hb)
          replace HB := Lib.hid (HB.out.trans (hb.mono HB.out.size))
          clear hb
          go_wp2_with fail
          go_roundw
          case rel => exact ⟨s + 1, by omega, by omega, by go_num, HN', HV, HB⟩
          case measure => simp [intOf]; omega
      · obtain rfl : s = 5 := by omega
        have HF := Lib.hid (HR.out.trans (first_no HN.out))
        go_wp2_with fail
        go_ret
        exact ⟨ret_int (by rw [HF.out]; rfl), HB.out⟩
end Go.Proofs.Ytdhaghabhdeakaa.So
