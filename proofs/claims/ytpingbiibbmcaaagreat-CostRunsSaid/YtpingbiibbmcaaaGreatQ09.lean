/- The program's Kids: slices.Clone over nodes. Plain: the sort of a tree out of those of its kids, as the program makes it. The program's Whole: IndexFunc, ContainsFunc over Right. The program's Depth. Where the nodes of a tree stand: plain. Which nodes are above any one, how many leaves come ahead of it; no two at one point, all within the box. The statements' own first look at package row, from its contracts. The document's Cat: two rows of actions as one of the call's own. -/
import Derived.Test.YtpingbiibbmcaaaGreatQ07
import Derived.Test.YtpingbiibbmcaaaGreatQ05
import Derived.Test.YtpingbiibbmcaaaGreatQ06
import Derived.Lib.SliceRun

namespace Go.Proofs.YtpingbiibbmcaaaGreat.Rx
open Go Go.RowKit Rw
set_option maxRecDepth 20000

theorem heap_newK (w : World) (o : Obj) : (w.alloc o).heap[w.heap.size]? = some o := by
  show (w.heap.push o)[w.heap.size]? = some o
  simp
theorem own_madeK (w : World) : (w.alloc (.cells #[] 39)).ownsRow w.heap.size 39 3 (.slice (some ⟨w.heap.size, 0, none⟩) 0 0) 0 [] :=
  ⟨rfl, .inr ⟨w.heap.size, 0, #[], rfl, Nat.le_refl _, heap_newK w _, Nat.le_refl _, Nat.zero_le _, rfl, rfl⟩⟩

set_option maxHeartbeats 800000 in
theorem clone_any (x : Value) (l : List Nd) (w : World) (hx : Nds w x l) (hlen : l.length ≤ 1000000) :
    Calls Tryz.prog 17 #[x] w fun e w' => ∃ v, e = .returned v ∧ w'.ownsRow w.heap.size 39 3 v l.length (cls l) ∧ Below w.heap.size w w' := by
  have q : ∀ (w : World) (a : Option Addr) (n c n' c' : Nat), (binOp .eql 22 (.slice a n c) (.slice none n' c')).run Tryz.prog w = .ok (.bool a.isNone) w := fun w a n c n' c' => Lib.run_eql_slice_nil w _ _ a n c n' c' Tryz.underlying22
  have hb0 : Below w.heap.size w (w.alloc (.cells #[] 39)) := below1 w _
  obtain ⟨v1, w1, hrun, hown, _, hb, _⟩ := run_append_nds (l := []) (own_madeK w) hb0.size (hx.below hb0) (by simp; omega)
  rw [List.nil_append] at hown
  obtain ⟨hl, a, c, rfl, _, hn, _⟩ := hx
  cases a with
  | none =>
    obtain ⟨h0, rfl⟩ := hn rfl
    obtain rfl : l = [] := List.eq_nil_of_length_eq_zero h0
    clear hrun hown hb hb0 hl hn h0
    go_enter Tryz.func17, Tryz.ntmps17
    go_wp2_with fail
    go_ret
    exact ⟨_, rfl, ⟨rfl, .inl ⟨rfl, rfl⟩⟩, Below.refl _ _⟩
  | some ad =>
    have R := Lib.hid hrun
    have O := Lib.hid hown
    have B := Lib.hid (hb0.trans hb)
    clear hrun hown hb hb0 hn hl
    go_enter Tryz.func17, Tryz.ntmps17
    go_wp2_with (at_builtin; refine Ap.wpList_append_run (by rfl) _ _ _ _ rfl _ _ rfl rfl v1 w1 R.out ?_)
    go_ret
    exact ⟨_, rfl, O.out, B.out⟩

/-- Rows of the call's own, none in a given block. -/
def OwnK (base : Nat) (out : Option Nat) (w : World) : List Value → List (List Nd) → Prop
  | [], [] => True
  | a :: cs, r :: rs => (w.ownsRow base 39 3 a r.length (cls r) ∧ ∀ g, a.ownBlock = some g → some g ≠ out) ∧ OwnK base out w cs rs
  | _, _ => False
theorem OwnK.below {base : Nat} {out : Option Nat} {w w' : World} (hb : Below w.heap.size w w') : ∀ {cs : List Value} {ls : List (List Nd)}, OwnK base out w cs ls → OwnK base out w' cs ls
  | [], [], _ => trivial
  | _ :: _, _ :: _, h => ⟨⟨Ap.own_below h.1.1 hb, h.1.2⟩, OwnK.below hb h.2⟩
  | [], _ :: _, h => h.elim
  | _ :: _, [], h => h.elim
theorem OwnK.snoc {base : Nat} {out : Option Nat} {w : World} {a : Value} {r : List Nd} (ha : w.ownsRow base 39 3 a r.length (cls r)) (hn : ∀ g, a.ownBlock = some g → some g ≠ out) : ∀ {cs : List Value} {ls : List (List Nd)}, OwnK base out w cs ls → OwnK base out w (cs ++ [a]) (ls ++ [r])
  | [], [], _ => ⟨⟨ha, hn⟩, trivial⟩
  | _ :: _, _ :: _, h => ⟨h.1, OwnK.snoc ha hn h.2⟩
  | [], _ :: _, h => h.elim
  | _ :: _, [], h => h.elim
theorem own_grown {w w' : World} {base size n : Nat} {e : TypeId} {v : Value} {xs : List Value} {r : Option Nat} (h : w.ownsRow base e size v n xs) (hg : w.grownBy w' r) (hr : ∀ g, v.ownBlock = some g → some g ≠ r) : w'.ownsRow base e size v n xs := by
  obtain ⟨hl, h | ⟨g, cap, cur, rfl, hb, hh, h1, h2, h3, h4⟩⟩ := h
  · exact ⟨hl, .inl h⟩
  · refine ⟨hl, .inr ⟨g, cap, cur, rfl, hb, ?_, h1, h2, h3, h4⟩⟩
    rw [hg.block g (Nat.lt_of_not_le fun hle => by rw [Array.getElem?_eq_none hle] at hh; cases hh) (hr g rfl)]
    exact hh
theorem OwnK.grow {base : Nat} {w w' : World} {v v' : Value} (hg : w.grownBy w' v.ownBlock) (hf : Ap.Fresh w v v') : ∀ {cs : List Value} {ls : List (List Nd)}, OwnK base v.ownBlock w cs ls → OwnK base v'.ownBlock w' cs ls
  | [], [], _ => trivial
  | a :: _, r :: _, h => by
    refine ⟨⟨own_grown h.1.1 hg h.1.2, fun g hgo => ?_⟩, OwnK.grow hg hf h.2⟩
    have hlt := Ap.own_lt h.1.1 g hgo
    rcases hf with e | ⟨k, e, hk⟩
    · rw [e]; exact h.1.2 g hgo
    · rw [e]
      intro e2
      cases e2
      omega
  | [], _ :: _, h => h.elim
  | _ :: _, [], h => h.elim
theorem own_rdO {base : Nat} {out : Option Nat} {w : World} {a : Value} {r : List Nd} (h : w.ownsRow base 39 3 a r.length (cls r)) (hn : ∀ g, a.ownBlock = some g → some g ≠ out) : Own1 base out w a r := by
  obtain ⟨hl, ⟨rfl, h0⟩ | ⟨g, cap, cur, rfl, hb, hh, hnc, hcm, hcs, ht⟩⟩ := h
  · refine ⟨⟨hl, none, 0, by rw [h0], by omega, fun _ => ⟨h0, rfl⟩, fun h => by omega⟩, ?_⟩
    intro b off cap e
    rw [h0] at e
    cases e
  · refine ⟨⟨hl, some ⟨g, 0, none⟩, cap, rfl, hnc, fun h => (by cases h), fun _ => ⟨g, 0, rfl, ⟨hb, hn g rfl⟩, ?_, fun j u hu => ?_⟩⟩, ?_⟩
    · exact Nat.lt_of_not_le fun hle => by
        rw [Array.getElem?_eq_none hle] at hh
        cases hh
    · have hj : j < r.length * 3 := by
        rw [← hl]
        exact (List.getElem?_eq_some_iff.1 hu).1
      rw [← ht, List.getElem?_take_of_lt hj] at hu
      simp only [World.cell?, hh, Nat.zero_add]
      simpa using hu
    · intro b off cap' e j _
      cases e
      simp [World.frozen?, hh]
theorem OwnK.ownC {base : Nat} {out : Option Nat} {w : World} : ∀ {cs : List Value} {ls : List (List Nd)}, OwnK base out w cs ls → OwnC base out w cs ls
  | [], [], _ => trivial
  | _ :: _, _ :: _, h => ⟨own_rdO h.1.1 h.1.2, OwnK.ownC h.2⟩
  | [], _ :: _, h => h.elim
  | _ :: _, [], h => h.elim
/-- What the loop has made: the first k kids, in a row of its own, each in a block of its own. -/
def MadeK (w wr : World) (v : Value) (l : List Nd) (k p : Nat) : Prop := ∃ cs d, Far l 0 k p d ∧ wr.ownsRow w.heap.size 22 1 v k cs ∧ OwnK w.heap.size v.ownBlock wr cs (kidsN k (l.drop 1)) ∧ Below w.heap.size w wr
theorem MadeK.start (w : World) (l : List Nd) : MadeK w w (.slice none 0 0) l 0 1 := ⟨[], 0, Far.start l 0, ⟨rfl, .inl ⟨rfl, rfl⟩⟩, trivial, Below.refl _ _⟩
theorem MadeK.below {w wr wr' : World} {v : Value} {l : List Nd} {k p : Nat} (h : MadeK w wr v l k p) (hb : Below wr.heap.size wr wr') : MadeK w wr' v l k p := by
  obtain ⟨cs, d, h1, h2, h3, h4⟩ := h
  exact ⟨cs, d, h1, Ap.own_below h2 hb, h3.below hb, h4.trans (hb.mono h4.size)⟩
theorem MadeK.next {w wr w1 : World} {v a : Value} {l : List Nd} {k p c' d' : Nat} (h : MadeK w wr v l k p) (ht : T (l.drop p) = some (c', d')) (hk : k ≤ 2) (ha : w1.ownsRow wr.heap.size 39 3 a ((l.drop p).take c').length (cls ((l.drop p).take c'))) (hb1 : Below wr.heap.size wr w1) (h1a : a.oneCell' = true) :
    ∃ v' w', (Builtin.append_ #[56, 56] 56 #[v, .slice (some ⟨w1.heap.size, 0, none⟩) 1 1]).run Tryz.prog (w1.alloc (.cells #[a] 22)) = .ok v' w' ∧ MadeK w w' v' l (k + 1) (p + c') := by
  have h' := h.below hb1
  obtain ⟨cs, d, hfar, hown, hrw, hb⟩ := h'
  have hb0 : w.heap.size ≤ wr.heap.size := by obtain ⟨_, _, _, _, _, hb⟩ := h; exact hb.size
  obtain ⟨i0, hi, hz, hs1, hb8⟩ := info_parts infoR
  obtain ⟨v', w', h1, h2, h3, h4, h5⟩ := Ap.run_append_one (P := Tryz.prog) (ty := 56) Tryz.underlying56 hi hz hs1 hb8 (by rfl) (by omega) hown hb.size #[a] rfl
    (by intro u hu; simp at hu; subst hu; exact h1a) (by unfold maxLen; omega) (by omega)
  have hne : ∀ g, a.ownBlock = some g → some g ≠ v.ownBlock := by
    intro g hg e
    obtain ⟨_, _, _, hown0, _⟩ := h
    have h1 := Ap.own_lt hown0 g e.symm
    obtain ⟨_, ⟨rfl, _⟩ | ⟨g', _, _, rfl, hg', _⟩⟩ := ha
    · cases hg
    · have : g' = g := Option.some.inj hg
      omega
  refine ⟨v', w', h1, cs ++ [a], max d d', hfar.next ht, h2, ?_, hb.trans h4⟩
  rw [kids_next hfar ht]
  exact (hrw.snoc (Ap.own_base ha hb0) hne).grow h3 h5
theorem blk_own (v : Value) : blk v = v.ownBlock := by
  unfold blk Value.ownBlock
  rfl
/-- The kids in a row of the call's own, each in a row of the call's own, which lies in another block. -/
def KidsOwn (ls : List (List Nd)) (w : World) (e : Ending) (w' : World) : Prop :=
  ∃ v cs, e = .returned v ∧ w'.ownsRow w.heap.size 22 1 v ls.length cs ∧ OwnK w.heap.size v.ownBlock w' cs ls ∧ Below w.heap.size w w'
theorem KidsOwn.post {ls : List (List Nd)} {w : World} {e : Ending} {w' : World} (h : KidsOwn ls w e w') : KidsPost ls w e w' := by
  obtain ⟨v, cs, rfl, hown, hrw, hb⟩ := h
  exact ⟨v, cs, rfl, Ap.RdO.fresh hown, by rw [blk_own]; exact hrw.ownC, hb⟩
theorem MadeK.done {w wr : World} {v : Value} {l : List Nd} {k p : Nat} (h : MadeK w wr v l k p) (hk : kids l = kidsN k (l.drop 1)) : KidsOwn (kids l) w (.returned v) wr := by
  obtain ⟨cs, d, _, hown, hrw, hb⟩ := h
  refine ⟨v, cs, rfl, ?_, ?_, hb⟩
  · rw [hk, kidsN_len]
    exact hown
  · rw [hk]
    exact hrw
theorem own_sliceK {w : World} {base size n : Nat} {e : TypeId} {v : Value} {xs : List Value} (h : w.ownsRow base e size v n xs) : ∃ a c, v = .slice a n c := by
  obtain ⟨_, ⟨rfl, rfl⟩ | ⟨g, cap, cur, rfl, _⟩⟩ := h
  · exact ⟨none, 0, rfl⟩
  · exact ⟨_, _, rfl⟩

set_option maxHeartbeats 400000 in
theorem kidsP_none (v : Value) (l : List Nd) (w : World) (hv : Nds w v l) (hl : l.length ≤ 1000000) (hs : size l = 0) :
    Calls Tryz.prog 64 #[v] w (KidsOwn (kids l) w) := by
  have HV := Lib.hid hv
  have HS := Lib.hid hs
  have HK : Hid (kids l = []) := by
    show _ = _
    unfold kids
    rw [if_pos hs]
  obtain ⟨_, a, cap, rfl, -⟩ := hv
  clear hs
  rw [HK.out]
  go_enter Tryz.func64, Tryz.ntmps64
  go_wp2_with fail
  refine (sizeP_any _ l _ HV.out hl).mono ?_
  rw [HS.out]
  rintro e w' ⟨rfl, hb⟩
  have HB := Lib.hid hb
  clear hb
  go_wp2_with fail
  go_ret
  exact ⟨_, [], rfl, ⟨rfl, .inl ⟨rfl, rfl⟩⟩, trivial, HB.out⟩

set_option maxHeartbeats 800000 in
theorem kidsP_leaf (b off : Nat) (l : List Nd) (w : World) (hn : Nds w (.slice (some ⟨b, off, none⟩) l.length 1) l) (hat : At w b off l) (hl : l.length ≤ 1000000) (hcap : l.length ≤ 1) (hs : size l ≠ 0) :
    Calls Tryz.prog 64 #[.slice (some ⟨b, off, none⟩) l.length 1] w (KidsOwn (kids l) w) := by
  have h0 : 0 < l.length := by have := size_le l; omega
  have HN := Lib.hid hn
  have HA := Lib.hid hat
  have hz := size_le l
  have HM := Lib.hid (fun k p d => kids_more (k := k) (p := p) (d := d) h0 hs)
  have HK := Lib.hid (kids_of h0 hs)
  have hbd := ar_le l[0].k
  obtain ⟨e1, e2, e3⟩ := hat 0 h0
  rw [Nat.zero_mul, Nat.add_zero] at e1 e2 e3
  obtain ⟨z, hzz⟩ : ∃ z, size l = z := ⟨_, rfl⟩
  have HZ := Lib.hid hzz
  rw [hzz] at hs hz
  have gz : ((z : Int) == 0) = false := by rw [beq_eq_false_iff_ne]; omega
  obtain ⟨y, hy⟩ : ∃ y, l[0] = y := ⟨_, rfl⟩
  rw [hy] at hbd e1 e2 e3 HM HK
  obtain ⟨x, hx⟩ : ∃ x, ar y.k = x := ⟨_, rfl⟩
  have HX := Lib.hid hx
  rw [hx] at hbd HM HK
  have E1 := Lib.hid e1
  have E2 := Lib.hid e2
  have E3 := Lib.hid e3
  have HBD := Lib.hid hbd
  clear hn hat hx hzz e1 e2 e3 hy hbd
  go_enter Tryz.func64, Tryz.ntmps64
  go_wp2_with fail
  refine (sizeP_any _ l _ HN.out hl).mono ?_
  rw [HZ.out]
  rintro e w0 ⟨rfl, hb⟩
  have HB0 := Lib.hid hb
  have c1 : w0.cell? ⟨b, off, none⟩ = some (.int .i64 y.k) := by rw [hb.cell (Ap.cell_lt E1.out)]; exact E1.out
  have c2 : w0.cell? ⟨b, off + 1, none⟩ = some (.string y.n) := by rw [hb.cell (Ap.cell_lt E2.out)]; exact E2.out
  have c3 : w0.cell? ⟨b, off + 2, none⟩ = some (.int .i64 y.s) := by rw [hb.cell (Ap.cell_lt E3.out)]; exact E3.out
  clear hb
  go_wp2_with fail
  refine (arP_eq y.k _).mono ?_
  rw [HX.out]
  rintro e w' ⟨rfl, rfl⟩
  go_wp2_with fail
  have hx0 : x ≤ 0 := by
    by_cases hx : x ≤ 0
    · exact hx
    · exfalso
      obtain ⟨c', d', ht⟩ := HM.out 0 1 0 (Far.start l 0) (by omega)
      rw [List.drop_eq_nil_of_le hcap, T_nil] at ht
      cases ht
  refine Go.wp_loop_rounds 1 ?_
  rw [rounds_succ]
  go_wp2_with fail
  go_ret
  exact ((MadeK.start w l).below HB0.out).done (by rw [HK.out, show x.toNat = 0 by omega])
set_option maxHeartbeats 800000 in
theorem kidsP_cells (b off cap : Nat) (l : List Nd) (w : World) (hn : Nds w (.slice (some ⟨b, off, none⟩) l.length cap) l) (hat : At w b off l) (hl : l.length ≤ 1000000) (hcap : l.length ≤ cap) (hs : size l ≠ 0) (hc1 : ¬ cap = 1) :
    Calls Tryz.prog 64 #[.slice (some ⟨b, off, none⟩) l.length cap] w (KidsOwn (kids l) w) := by
  have h0 : 0 < l.length := by have := size_le l; omega
  have HN := Lib.hid hn
  have HA := Lib.hid hat
  have hz := size_le l
  have HM := Lib.hid (fun k p d => kids_more (k := k) (p := p) (d := d) h0 hs)
  have HK := Lib.hid (kids_of h0 hs)
  have hbd := ar_le l[0].k
  obtain ⟨e1, e2, e3⟩ := hat 0 h0
  rw [Nat.zero_mul, Nat.add_zero] at e1 e2 e3
  obtain ⟨z, hzz⟩ : ∃ z, size l = z := ⟨_, rfl⟩
  have HZ := Lib.hid hzz
  rw [hzz] at hs hz
  have gz : ((z : Int) == 0) = false := by rw [beq_eq_false_iff_ne]; omega
  obtain ⟨y, hy⟩ : ∃ y, l[0] = y := ⟨_, rfl⟩
  rw [hy] at hbd e1 e2 e3 HM HK
  obtain ⟨x, hx⟩ : ∃ x, ar y.k = x := ⟨_, rfl⟩
  have HX := Lib.hid hx
  rw [hx] at hbd HM HK
  have E1 := Lib.hid e1
  have E2 := Lib.hid e2
  have E3 := Lib.hid e3
  have HBD := Lib.hid hbd
  clear hn hat hx hzz e1 e2 e3 hy hbd
  go_enter Tryz.func64, Tryz.ntmps64
  go_wp2_with fail
  refine (sizeP_any _ l _ HN.out hl).mono ?_
  rw [HZ.out]
  rintro e w0 ⟨rfl, hb⟩
  have HB0 := Lib.hid hb
  have c1 : w0.cell? ⟨b, off, none⟩ = some (.int .i64 y.k) := by rw [hb.cell (Ap.cell_lt E1.out)]; exact E1.out
  have c2 : w0.cell? ⟨b, off + 1, none⟩ = some (.string y.n) := by rw [hb.cell (Ap.cell_lt E2.out)]; exact E2.out
  have c3 : w0.cell? ⟨b, off + 2, none⟩ = some (.int .i64 y.s) := by rw [hb.cell (Ap.cell_lt E3.out)]; exact E3.out
  clear hb
  go_wp2_with fail
  refine (arP_eq y.k _).mono ?_
  rw [HX.out]
  rintro e w' ⟨rfl, rfl⟩
  go_wp2_with fail
  go_loopw [3, 4, 16] (fun kv rv iv wr => ∃ k p o : Nat, (k : Int) ≤ max x 0 ∧ p ≤ l.length ∧ rv = .slice (some ⟨b, o, none⟩) (l.length - p) (cap - p) ∧ (p < cap → o = off + p * 3) ∧ iv = .int .i64 k ∧ Hid (MadeK w wr kv l k p)) (fun _ _ i _ => (x - intOf i).toNat)
  case atStart =>
    exact ⟨0, 1, off + 3, by omega, by omega, rfl, fun _ => by omega, rfl, Lib.hid ((MadeK.start w l).below HB0.out)⟩
  case round =>
    have HC1 := Lib.hid hc1; clear hc1
    obtain ⟨k, p, o, hk, hp, rfl, ho, rfl, HD⟩ := hrel
    have HB : Hid (Below w.heap.size w wr) := by obtain ⟨_, _, _, _, _, hb⟩ := HD.out; exact hb
    by_cases hkl : (k : Int) < x
    · obtain ⟨c', d', ht⟩ : ∃ c' d', T (l.drop p) = some (c', d') := by
        obtain ⟨_, d, hfar, _⟩ := HD.out
        exact HM.out k p d hfar hkl
      have hb' := T_bd ht
      rw [List.length_drop] at hb'
      have HSZ : Hid (size (l.drop p) = c') := by show _ = _; unfold size; rw [ht]
      have HT := Lib.hid ht
      obtain rfl := ho (by omega)
      have hNr := part_nds HA.out p (l.length - p) (cap - p) (by omega) (by omega)
      rw [List.take_of_length_le (by rw [List.length_drop]; exact Nat.le_refl _)] at hNr
      have HNr := Lib.hid (hNr.below HB.out)
      have HNp := Lib.hid (part_nds HA.out p c' (cap - p) (by omega) (by omega))
      have i1 : 1 ≤ c' := by omega
      have i2 : c' ≤ l.length - p := by omega
      have i3 : c' ≤ cap - p := by omega
      have i4 : k ≤ 2 := by have := HBD.out; omega
      have HLP : Hid ((l.drop p).length ≤ 1000000 ∧ ((l.drop p).take c').length ≤ 1000000) := by
        show _ ∧ _
        rw [List.length_take, List.length_drop]
        omega
      clear ht hb' ho hNr
      go_wp2_with fail
      refine (sizeP_any _ (l.drop p) _ HNr.out HLP.out.1).mono ?_
      rw [HSZ.out]
      rintro e w1 ⟨rfl, hb1⟩
      have HB1 := Lib.hid hb1
      clear hb1
      go_wp2_with fail
      refine (clone_any _ ((l.drop p).take c') _ ((HNp.out.below HB.out).below HB1.out) HLP.out.2).mono ?_
      rintro e w2 ⟨a, rfl, hown, hb2⟩
      have hB2 := HB1.out.trans (hb2.mono HB1.out.size)
      obtain ⟨v', w', hrun, hmk⟩ := HD.out.next HT.out i4 (Ap.own_base hown HB1.out.size) hB2 (by obtain ⟨_, _, rfl⟩ := own_sliceK hown; rfl)
      obtain ⟨am, cm, rfl⟩ := own_sliceK hown
      rw [show ((l.drop p).take c').length = c' by rw [List.length_take, List.length_drop]; omega] at hrun ⊢
      have R := Lib.hid hrun
      have HD' := Lib.hid hmk
      clear hown hb2 hrun hmk hB2
      go_wp2_with (at_builtin; refine Ap.wpList_append_run (by rfl) (.tmp 20) (.tmp 25) _ _ rfl _ _ rfl rfl v' w' R.out ?_)
      go_roundw
      case rel =>
        have l1 : l.length - p - c' = l.length - (p + c') := by omega
        have l2 : cap - p - c' = cap - (p + c') := by omega
        rw [l1, l2]
        by_cases hf : cap - p = c'
        · rw [if_pos hf]
          exact ⟨k + 1, p + c', off + p * 3, by omega, by omega, rfl, fun _ => by omega, by go_num, HD'⟩
        · rw [if_neg hf]
          exact ⟨k + 1, p + c', off + p * 3 + c' * 3, by omega, by omega, rfl, fun _ => by omega, by go_num, HD'⟩
      case measure => simp [intOf]; omega
    · go_wp2_with fail
      go_ret
      exact HD.out.done (by rw [HK.out, show x.toNat = k by omega])
/-- The program's Kids. -/
theorem kidsP_own (v : Value) (l : List Nd) (w : World) (hv : Nds w v l) (hl : l.length ≤ 1000000) :
    Calls Tryz.prog 64 #[v] w (KidsOwn (kids l) w) := by
  by_cases hs : size l = 0
  · exact kidsP_none v l w hv hl hs
  · rcases hv.form with ⟨rfl, _, _, rfl⟩ | ⟨b, off, cap, rfl, hc, hat⟩
    · exact absurd rfl hs
    · by_cases hc1 : cap = 1
      · subst hc1
        exact kidsP_leaf b off l w hv hat hl hc hs
      · exact kidsP_cells b off cap l w hv hat hl hc hs hc1
theorem kidsP_any (v : Value) (l : List Nd) (w : World) (hv : Nds w v l) (hl : l.length ≤ 1000000) :
    Calls Tryz.prog 64 #[v] w (KidsPost (kids l) w) := (kidsP_own v l w hv hl).mono fun _ _ h => h.post
end Go.Proofs.YtpingbiibbmcaaaGreat.Rx

namespace Go.Proofs.YtpingbiibbmcaaaGreat.Sx
open Go.Proofs.YtpingbiibbmcaaaGreat.Rw Go.Proofs.YtpingbiibbmcaaaGreat.So

def pl (s : Nat) : Bool := s == 1 || s == 3
def pd (s : Nat) : Bool := s == 2 || s == 4
def on (s : Nat) : Bool := s == 3 || s == 4
/-- May a node of a kind have kids of these sorts? -/
def fit (k : Int) (a b : Nat) : Bool :=
  if k = 9 then pd a else if k = 14 then a == 1 else if k = 13 then pd a && b == 1
  else if k = 10 then !on a && (pl a && b == 1) else if k = 8 ∨ k = 12 then pl a && b == 1
  else if k = 6 then !on a && (!on b && (pl a && pl b || pd a && pd b)) else if k = 5 then !on b && (pl a && pl b || pd a && pd b)
  else if k = 7 then pl a && pl b || pd a && pd b else true
/-- The sort that it then is of. -/
def made (k : Int) (a b : Nat) : Nat :=
  if k = 5 ∨ k = 6 ∨ k = 7 ∨ k = 8 then max a b else if k = 9 then (if a = 4 then 3 else 1) else if k = 11 then 3
  else if k = 10 then 2 else if k = 12 ∨ k = 13 ∨ k = 14 then 4 else 1
def comb (k : Int) (a b : Nat) : Nat := if fit k a b then made k a b else 0
theorem first_le (l : List Nd) : first l ≤ 4 := by
  unfold first
  repeat' split
  all_goals omega
theorem apart_of (l : List Nd) : ¬ (Is 3 l = true ∧ Is 4 l = true) := apart l.length l (Nat.le_refl _)
theorem is_first (l : List Nd) : Is 1 l = (first l == 1) ∧ Is 2 l = (first l == 2) ∧ Is 3 l = pl (first l) ∧ Is 4 l = pd (first l) := by
  have h := apart_of l
  have h1 := @one_three l
  have h2 := @two_four l
  unfold first
  cases e1 : Is 1 l <;> cases e2 : Is 2 l <;> cases e3 : Is 3 l <;> cases e4 : Is 4 l <;> simp [e1, e2, e3, e4, pl, pd] at h h1 h2 ⊢
/-- The document's steps, with the sorts of the kids. -/
def p1 (k : Int) (a b : Nat) : Bool := if k = 1 ∨ k = 2 ∨ k = 3 ∨ k = 4 then true else if k = 5 ∨ k = 6 ∨ k = 7 ∨ k = 8 then a == 1 && b == 1 else if k = 9 then a == 2 else false
def p2 (k : Int) (a b : Nat) : Bool := if k = 10 then a == 1 && b == 1 else if k = 5 ∨ k = 6 ∨ k = 7 then a == 2 && b == 2 else false
def p3 (k : Int) (a b : Nat) : Bool := if k = 11 then true else if k = 5 ∨ k = 8 then pl a && b == 1 else if k = 7 then pl a && pl b else if k = 9 then pd a else false
def p4 (k : Int) (a b : Nat) : Bool := if k = 12 then pl a && b == 1 else if k = 5 then pd a && b == 2 else if k = 7 then pd a && pd b else if k = 13 then pd a && b == 1 else if k = 14 then a == 1 else false
def step (k : Int) (a b : Nat) : Nat := if p1 k a b then 1 else if p2 k a b then 2 else if p1 k a b || p3 k a b then 3 else if p2 k a b || p4 k a b then 4 else 0
theorem first_step (l : List Nd) : first l = step (hd l) (first (k0 l)) (first (k1 l)) := by
  obtain ⟨a1, a2, a3, a4⟩ := is_first (k0 l)
  obtain ⟨b1, b2, b3, b4⟩ := is_first (k1 l)
  have h1 : Is 1 l = p1 (hd l) (first (k0 l)) (first (k1 l)) := by
    rw [Is_one]; unfold plainB p1; rw [a1, a2, b1]
  have h2 : Is 2 l = p2 (hd l) (first (k0 l)) (first (k1 l)) := by
    rw [Is_two]; unfold pairedB p2; rw [a1, a2, b1, b2]
  have h3 : Is 3 l = (p1 (hd l) (first (k0 l)) (first (k1 l)) || p3 (hd l) (first (k0 l)) (first (k1 l))) := by
    rw [Is_three, ← Is_one, h1]; unfold plainOnB p3; rw [a3, a4, b1, b3]
  have h4 : Is 4 l = (p2 (hd l) (first (k0 l)) (first (k1 l)) || p4 (hd l) (first (k0 l)) (first (k1 l))) := by
    rw [Is_four, ← Is_two, h2]; unfold pairedOnB p4; rw [a1, a3, a4, b1, b2, b4]
  rw [first, h1, h2, h3, h4]
  rfl
theorem steps : ∀ k ∈ ([1, 2, 3, 4, 5, 6, 7, 8, 9, 10, 11, 12, 13, 14] : List Int), ∀ a ∈ ([0, 1, 2, 3, 4] : List Nat), ∀ b ∈ ([0, 1, 2, 3, 4] : List Nat), step k a b = comb k a b := by decide +kernel
theorem mem5 {a : Nat} (h : a ≤ 4) : a ∈ ([0, 1, 2, 3, 4] : List Nat) := by
  simp only [List.mem_cons, List.not_mem_nil, or_false]
  omega
theorem first_comb {l : List Nd} (h : 0 ≤ Rw.ar (hd l)) : first l = comb (hd l) (first (k0 l)) (first (k1 l)) := by
  rw [first_step]
  refine steps _ ?_ _ (mem5 (first_le _)) _ (mem5 (first_le _))
  simp only [List.mem_cons, List.not_mem_nil, or_false]
  exact kinds h
theorem first_nil : first [] = 0 := by decide +kernel
/-- A tree is its first node and its kids. -/
theorem parts {l : List Nd} (h : Tre l) : ∃ n, hd l = n.k ∧ l = n :: (kids l).flatten := by
  have hs : Rw.size l ≠ 0 := by rw [h.size]; have := h.pos; omega
  cases l with
  | nil => exact absurd h.pos (Nat.lt_irrefl 0)
  | cons n r =>
    have := kids_flat hs
    rw [h.size, List.take_length] at this
    exact ⟨n, rfl, this.symm⟩
theorem parts0 {l : List Nd} (h : Tre l) (h0 : Rw.ar (hd l) = 0) : ∃ n, hd l = n.k ∧ l = [n] ∧ first l = comb n.k 0 0 := by
  obtain ⟨n, hn, hl⟩ := parts h
  have hk : kids l = [] := by
    have := h.kids.1
    rw [h0] at this
    exact List.eq_nil_of_length_eq_zero this
  refine ⟨n, hn, by rw [hl, hk]; rfl, ?_⟩
  rw [first_comb (by omega), hn, show k0 l = [] by unfold k0; rw [hk]; rfl, show k1 l = [] by unfold k1; rw [hk]; rfl, first_nil]
theorem parts1 {l : List Nd} (h : Tre l) (h0 : Rw.ar (hd l) = 1) : ∃ n a, hd l = n.k ∧ l = n :: a ∧ Tre a ∧ first l = comb n.k (first a) 0 := by
  obtain ⟨n, hn, hl⟩ := parts h
  obtain ⟨a, hk, ha, _⟩ := h.one h0
  refine ⟨n, a, hn, by rw [hl, hk]; simp, ha, ?_⟩
  rw [first_comb (by omega), hn, show k0 l = a by unfold k0; rw [hk]; rfl, show k1 l = [] by unfold k1; rw [hk]; rfl, first_nil]
theorem parts2 {l : List Nd} (h : Tre l) (h0 : Rw.ar (hd l) = 2) : ∃ n a b, hd l = n.k ∧ l = n :: (a ++ b) ∧ Tre a ∧ Tre b ∧ first l = comb n.k (first a) (first b) := by
  obtain ⟨n, hn, hl⟩ := parts h
  obtain ⟨a, b, hk, ha, hb, _⟩ := h.two h0
  refine ⟨n, a, b, hn, by rw [hl, hk]; simp, ha, hb, ?_⟩
  rw [first_comb (by omega), hn, show k0 l = a by unfold k0; rw [hk]; rfl, show k1 l = b by unfold k1; rw [hk]; rfl]
end Go.Proofs.YtpingbiibbmcaaaGreat.Sx

namespace Go.Proofs.YtpingbiibbmcaaaGreat.Rx
open Go Go.RowKit Rw
set_option maxRecDepth 20000

set_option maxHeartbeats 400000 in
theorem not_any (x : Nd) (w : World) (hn : x.n.size ≤ 140737488355328) : Calls Tryz.prog 81 #[.agg #[.int .i64 x.k, .string x.n, .int .i64 x.s]] w fun e w' => e = .returned (.bool (!rgt x)) ∧ Below w.heap.size w w' := by
  obtain ⟨r, hr⟩ : ∃ r, rgt x = r := ⟨_, rfl⟩
  have HR := Lib.hid hr
  rw [hr]
  clear hr
  go_enter Tryz.func81, Tryz.ntmps81
  go_wp2_with fail
  refine (rgtP_any x _ hn).mono ?_
  rw [HR.out]
  rintro e w' ⟨rfl, hb⟩
  have HB := Lib.hid hb
  clear hb
  go_wp2_with fail
  go_ret
  exact ⟨rfl, (below_any w _).trans (HB.out.mono (below_any w _).size)⟩
/-- Where the first node stands that may not be. -/
def badAt : List Nd → Nat → Int
  | [], _ => -1
  | x :: l, k => if rgt x then badAt l (k + 1) else k
theorem badAt_neg (l : List Nd) (k : Nat) : decide (0 ≤ badAt l k) = !l.all rgt := by
  induction l generalizing k with
  | nil => rfl
  | cons x l ih =>
    unfold badAt
    cases hr : rgt x with
    | true => simp only [if_true, ih, List.all_cons, hr, Bool.true_and]
    | false => simp only [List.all_cons, hr, Bool.false_and]; simp
theorem badAt_end {l : List Nd} {k : Nat} (h : ¬ k < l.length) : badAt (l.drop k) k = -1 := by rw [List.drop_eq_nil_of_le (by omega)]; rfl
theorem badAt_at {l : List Nd} {k : Nat} (h : k < l.length) : badAt (l.drop k) k = if rgt l[k] then badAt (l.drop (k + 1)) (k + 1) else (k : Int) := by
  rw [List.drop_eq_getElem_cons h, badAt]

set_option maxHeartbeats 800000 in
theorem index_empty (a : Option Addr) (cap : Nat) (w : World) :
    Calls Tryz.prog 98 #[.slice a 0 cap, .func (.func 81) #[] #[]] w fun e w' => e = .returned (.int .i64 (-1)) ∧ Below w.heap.size w w' := by
  go_enter Tryz.func98, Tryz.ntmps98
  go_wp2_with fail
  refine Go.wp_loop_rounds 1 ?_
  rw [rounds_succ]
  go_wp2_with fail
  go_ret
  exact ⟨rfl, Below.refl _ _⟩
set_option maxHeartbeats 800000 in
theorem index_cells (b off cap : Nat) (l : List Nd) (w : World) (hat : At w b off l) (hl : l.length ≤ 1000000) (hm : Nms l) :
    Calls Tryz.prog 98 #[.slice (some ⟨b, off, none⟩) l.length cap, .func (.func 81) #[] #[]] w fun e w' => e = .returned (.int .i64 (badAt l 0)) ∧ Below w.heap.size w w' := by
  have HA := Lib.hid hat
  have HM := Lib.hid hm
  clear hat hm
  go_enter Tryz.func98, Tryz.ntmps98
  go_wp2_with fail
  go_loopw [8] (fun i wr => ∃ k : Nat, k ≤ l.length ∧ i = .int .i64 k ∧ Below w.heap.size w wr ∧ Hid (badAt l 0 = badAt (l.drop k) k)) (fun i _ => l.length - (intOf i).toNat)
  case atStart => exact ⟨0, Nat.zero_le _, rfl, Below.refl _ _, Lib.hid rfl⟩
  case round =>
    obtain ⟨k, hk, rfl, hb, HK⟩ := hrel
    have HB := Lib.hid hb
    clear hb
    by_cases hlt : k < l.length
    · obtain ⟨e1, e2, e3⟩ := HA.out k hlt
      have c1 : wr.cell? ⟨b, off + k * 3, none⟩ = some (.int .i64 l[k].k) := by rw [HB.out.cell (Ap.cell_lt e1)]; exact e1
      have c2 : wr.cell? ⟨b, off + k * 3 + 1, none⟩ = some (.string l[k].n) := by rw [HB.out.cell (Ap.cell_lt e2)]; exact e2
      have c3 : wr.cell? ⟨b, off + k * 3 + 2, none⟩ = some (.int .i64 l[k].s) := by rw [HB.out.cell (Ap.cell_lt e3)]; exact e3
      have HX := Lib.hid (HK.out.trans (badAt_at hlt))
      have hxm : (l[k]).n.size ≤ 140737488355328 := HM.out _ (List.getElem_mem hlt)
      obtain ⟨x, hx⟩ : ∃ x, l[k] = x := ⟨_, rfl⟩
      rw [hx] at c1 c2 c3 HX hxm
      have HXM := Lib.hid hxm
      clear hx e1 e2 e3 hxm
      cases hr : rgt x with
      | false =>
        rw [hr] at HX
        have HR := Lib.hid hr
        clear hr
        go_wp2_with fail
        refine (not_any x _ HXM.out).mono ?_
        rw [HR.out]
        rintro e w' ⟨rfl, hb'⟩
        have HB' := Lib.hid hb'
        clear hb'
        go_wp2_with fail
        go_ret
        exact ⟨ret_int HX.out.symm, HB.out.trans (HB'.out.mono HB.out.size)⟩
      | true =>
        rw [hr] at HX
        have HR := Lib.hid hr
        clear hr
        go_wp2_with fail
        refine (not_any x _ HXM.out).mono ?_
        rw [HR.out]
        rintro e w' ⟨rfl, hb'⟩
        have HB' := Lib.hid hb'
        clear hb'
        go_wp2_with fail
        go_roundw
        case rel => exact ⟨k + 1, by omega, by go_num, HB.out.trans (HB'.out.mono HB.out.size), HX⟩
        case measure => simp [intOf]; omega
    · go_wp2_with fail
      go_ret
      exact ⟨ret_int (by rw [HK.out, badAt_end hlt]), HB.out⟩
theorem index_any (v : Value) (l : List Nd) (w : World) (h : Nds w v l) (hl : l.length ≤ 1000000) (hm : Nms l) :
    Calls Tryz.prog 98 #[v, .func (.func 81) #[] #[]] w fun e w' => e = .returned (.int .i64 (badAt l 0)) ∧ Below w.heap.size w w' := by
  rcases h.form with ⟨rfl, a, cap, rfl⟩ | ⟨b, off, cap, rfl, _, hat⟩
  · exact index_empty a cap w
  · exact index_cells b off cap l w hat hl hm
set_option maxHeartbeats 400000 in
theorem contains_any (v : Value) (l : List Nd) (w : World) (h : Nds w v l) (hl : l.length ≤ 1000000) (hm : Nms l) :
    Calls Tryz.prog 80 #[v, .func (.func 81) #[] #[]] w fun e w' => e = .returned (.bool (!l.all rgt)) ∧ Below w.heap.size w w' := by
  have H := Lib.hid h
  have HM := Lib.hid hm
  have HQ := Lib.hid (badAt_neg l 0)
  obtain ⟨q, hq⟩ : ∃ q, badAt l 0 = q := ⟨_, rfl⟩
  rw [hq] at HQ
  have HC := Lib.hid hq
  clear h hm hq
  go_enter Tryz.func80, Tryz.ntmps80
  go_wp2_with fail
  refine (index_any v l _ H.out hl HM.out).mono ?_
  rw [HC.out]
  rintro e w' ⟨rfl, hb⟩
  have HB := Lib.hid hb
  clear hb
  go_wp2_with fail
  go_ret
  exact ⟨ret_bool HQ.out, HB.out⟩

set_option maxHeartbeats 2000000 in
/-- The program's Whole. -/
theorem wholeP_any (v : Value) (l : List Nd) (w : World) (h : Nds w v l) (hl : l.length ≤ 1000) (hm : Nms l) :
    Calls Tryz.prog 61 #[v] w fun e w' => e = .returned (.bool (whole l)) ∧ Below w.heap.size w w' := by
  have H := Lib.hid h
  have HM := Lib.hid hm
  obtain ⟨_, a, cap, rfl, -⟩ := h
  clear hm
  by_cases q1 : 1 ≤ l.length
  · by_cases q2 : l.length ≤ 200
    · have hz := size_le l
      obtain ⟨z, hzz⟩ : ∃ z, size l = z := ⟨_, rfl⟩
      have HZ := Lib.hid hzz
      rw [hzz] at hz
      by_cases q3 : z = l.length
      · have HW : Hid (whole l = l.all rgt) := by
          show _ = _
          unfold whole
          rw [decide_eq_true q1, decide_eq_true q2, hzz, decide_eq_true q3]
          simp
        have g0 : ((z : Int) != (l.length : Int)) = false := by rw [bne_eq_false_iff_eq]; omega
        have g1 : ((l.length : Int) == 0) = false := by rw [beq_eq_false_iff_ne]; omega
        obtain ⟨r, hr⟩ : ∃ r, l.all rgt = r := ⟨_, rfl⟩
        rw [hr] at HW
        have HR := Lib.hid hr
        have HQ3 := Lib.hid q3
        clear hzz hr q3
        go_enter Tryz.func61, Tryz.ntmps61
        go_wp2_with fail
        refine (sizeP_any _ l _ H.out (by omega)).mono ?_
        rw [HZ.out]
        rintro e w' ⟨rfl, hb⟩
        have HB := Lib.hid hb
        clear hb
        go_wp2_with fail
        refine (contains_any _ l _ (H.out.below HB.out) (by omega) HM.out).mono ?_
        rw [HR.out]
        rintro e w'' ⟨rfl, hb⟩
        have HB2 := Lib.hid hb
        clear hb
        go_wp2_with fail
        go_ret
        exact ⟨ret_bool HW.out.symm, HB.out.trans (HB2.out.mono HB.out.size)⟩
      · have HW : Hid (whole l = false) := by
          show _ = _
          unfold whole
          rw [hzz, decide_eq_false q3, Bool.and_false]
        have g0 : ((z : Int) != (l.length : Int)) = true := by rw [bne_iff_ne]; omega
        have g1 : ((l.length : Int) == 0) = false := by rw [beq_eq_false_iff_ne]; omega
        clear hzz q3
        go_enter Tryz.func61, Tryz.ntmps61
        go_wp2_with fail
        refine (sizeP_any _ l _ H.out (by omega)).mono ?_
        rw [HZ.out]
        rintro e w' ⟨rfl, hb⟩
        have HB := Lib.hid hb
        clear hb
        go_wp2_with fail
        go_ret
        exact ⟨ret_bool HW.out.symm, HB.out⟩
    · have HW : Hid (whole l = false) := by
        show _ = _
        unfold whole
        rw [decide_eq_false q2, Bool.and_false, Bool.and_false]
        rfl
      have g1 : ((l.length : Int) == 0) = false := by rw [beq_eq_false_iff_ne]; omega
      go_enter Tryz.func61, Tryz.ntmps61
      go_wp2_with fail
      go_ret
      exact ⟨ret_bool HW.out.symm, Below.refl _ _⟩
  · have HW : Hid (whole l = false) := by
      show _ = _
      unfold whole
      rw [decide_eq_false q1, Bool.false_and, Bool.and_false]
      rfl
    have g1 : ((l.length : Int) == 0) = true := by rw [beq_iff_eq]; omega
    go_enter Tryz.func61, Tryz.ntmps61
    go_wp2_with fail
    go_ret
    exact ⟨ret_bool HW.out.symm, Below.refl _ _⟩
end Go.Proofs.YtpingbiibbmcaaaGreat.Rx

namespace Go.Proofs.YtpingbiibbmcaaaGreat.Rx
open Go Go.RowKit Rw
set_option maxRecDepth 20000
end Go.Proofs.YtpingbiibbmcaaaGreat.Rx

namespace Go.Proofs.YtpingbiibbmcaaaGreat.Pl
open Go Rw Go.Proofs.YtpingbiibbmcaaaGreat.So

/-- All trees within a tree: where they end, and how deep they are. -/
theorem inner : ∀ (m : Nat) (l : List Nd), l.length ≤ m → ∀ c d, T l = some (c, d) → ∀ i, i < c → ∃ c' d', T (l.drop i) = some (c', d') ∧ i + c' ≤ c ∧ (0 < i → d' + 1 ≤ d)
  | 0, l, h, c, d, e, _, _ => by
    have : l = [] := List.eq_nil_of_length_eq_zero (by omega)
    subst this
    rw [T_nil] at e
    cases e
  | m + 1, [], h, c, d, e, _, _ => by rw [T_nil] at e; cases e
  | m + 1, n :: r, h, c, d, e, 0, _ => ⟨c, d, e, by omega, fun h => absurd h (Nat.lt_irrefl 0)⟩
  | m + 1, n :: r, h, c, d, e, i + 1, hi => by
    rw [T_cons] at e
    split at e
    · cases e
    · cases hs : S (Rw.ar n.k).toNat r with
      | none => rw [hs] at e; cases e
      | some x =>
        obtain ⟨c1, d1⟩ := x
        rw [hs] at e
        simp only [Option.some.injEq, Prod.mk.injEq] at e
        obtain ⟨rfl, rfl⟩ := e
        have hr : r.length ≤ m := by simpa using h
        have key : ∀ j c d, S j r = some (c, d) → ∀ i, i < c → ∃ c' d', T (r.drop i) = some (c', d') ∧ i + c' ≤ c ∧ d' ≤ d := by
          intro j
          induction j with
          | zero => intro c d e i hi; rw [S_zero] at e; cases e; exact absurd hi (Nat.not_lt_zero _)
          | succ j ih =>
            intro c d e i hi
            rw [S_succ] at e
            cases h1 : S j r with
            | none => rw [h1] at e; cases e
            | some x =>
              obtain ⟨c1, d1⟩ := x
              rw [h1] at e
              simp only at e
              cases h2 : T (r.drop c1) with
              | none => rw [h2] at e; cases e
              | some y =>
                obtain ⟨c2, d2⟩ := y
                rw [h2] at e
                simp only [Option.some.injEq, Prod.mk.injEq] at e
                obtain ⟨rfl, rfl⟩ := e
                by_cases hic : i < c1
                · obtain ⟨c', d', g1, g2, g3⟩ := ih c1 d1 h1 i hic
                  exact ⟨c', d', g1, by omega, by omega⟩
                · obtain ⟨c', d', g1, g2, g3⟩ := inner m (r.drop c1) (by rw [List.length_drop]; omega) c2 d2 h2 (i - c1) (by omega)
                  rw [List.drop_drop, show c1 + (i - c1) = i by omega] at g1
                  refine ⟨c', d', g1, by omega, ?_⟩
                  by_cases h0 : 0 < i - c1
                  · have := g3 h0
                    omega
                  · rw [show c1 = i by omega, g1] at h2
                    simp only [Option.some.injEq, Prod.mk.injEq] at h2
                    omega
        obtain ⟨c', d', h1, h2, h3⟩ := key _ c1 d1 hs i (by omega)
        exact ⟨c', d', by rw [List.drop_succ_cons]; exact h1, by omega, fun _ => by omega⟩

/-- How many nodes the tree at a place has. -/
def zz (l : List Nd) (j : Nat) : Nat := Rw.size (l.drop j)
def dd (l : List Nd) (j : Nat) : Nat := Rw.depth (l.drop j)
theorem zz_some {l : List Nd} {j c d : Nat} (h : T (l.drop j) = some (c, d)) : zz l j = c ∧ dd l j = d := by
  unfold zz dd Rw.size Rw.depth
  rw [h]
  exact ⟨rfl, rfl⟩
/-- In a tree each place has a tree, which ends within it. -/
theorem in_tree {l : List Nd} (h : Tre l) {j : Nat} (hj : j < l.length) : T (l.drop j) = some (zz l j, dd l j) ∧ 1 ≤ zz l j ∧ j + zz l j ≤ l.length := by
  obtain ⟨d, hd⟩ := h
  obtain ⟨c', d', h1, h2, _⟩ := inner _ l (Nat.le_refl _) _ d hd j hj
  obtain ⟨e1, e2⟩ := zz_some h1
  rw [e1, e2]
  exact ⟨h1, (T_bd h1).1, h2⟩
/-- A tree that begins within another one ends within it, and is less deep. -/
theorem nest {l : List Nd} (h : Tre l) {i j : Nat} (hi : i < j) (hj : j < i + zz l i) (hjl : j < l.length) : j + zz l j ≤ i + zz l i ∧ dd l j + 1 ≤ dd l i := by
  obtain ⟨h1, h2, h3⟩ := in_tree h (j := i) (by omega)
  obtain ⟨c', d', g1, g2, g3⟩ := inner _ (l.drop i) (Nat.le_refl _) _ _ h1 (j - i) (by omega)
  rw [List.drop_drop, show i + (j - i) = j by omega] at g1
  obtain ⟨e1, e2⟩ := zz_some g1
  rw [e1, e2]
  exact ⟨by omega, g3 (by omega)⟩
/-- A node has no others behind it in its tree just if it has arity 0. -/
theorem leaf_iff {l : List Nd} (h : Tre l) {j : Nat} (hj : j < l.length) : zz l j = 1 ↔ Rw.ar l[j].k = 0 := by
  obtain ⟨h1, h2, h3⟩ := in_tree h hj
  rw [List.drop_eq_getElem_cons hj, T_cons] at h1
  split at h1
  · cases h1
  · rename_i hneg
    cases hs : S (Rw.ar l[j].k).toNat (l.drop (j + 1)) with
    | none => rw [hs] at h1; cases h1
    | some x =>
      obtain ⟨c, d⟩ := x
      rw [hs] at h1
      simp only [Option.some.injEq, Prod.mk.injEq] at h1
      constructor
      · intro hz
        have hc : c = 0 := by omega
        have hpos : ∀ a c d, S (a + 1) (l.drop (j + 1)) = some (c, d) → 1 ≤ c := by
          intro a c d e
          rw [S_succ] at e
          cases h1 : S a (l.drop (j + 1)) with
          | none => rw [h1] at e; cases e
          | some x =>
            obtain ⟨c1, d1⟩ := x
            rw [h1] at e
            simp only at e
            cases h2 : T ((l.drop (j + 1)).drop c1) with
            | none => rw [h2] at e; cases e
            | some y =>
              obtain ⟨c2, d2⟩ := y
              rw [h2] at e
              simp only [Option.some.injEq, Prod.mk.injEq] at e
              have := (T_bd h2).1
              omega
        by_cases ha : (Rw.ar l[j].k).toNat = 0
        · omega
        · obtain ⟨a, hae⟩ : ∃ a, (Rw.ar l[j].k).toNat = a + 1 := ⟨(Rw.ar l[j].k).toNat - 1, by omega⟩
          rw [hae] at hs
          have := hpos a c d hs
          omega
      · intro ha
        rw [ha] at hs
        rw [show ((0 : Int).toNat) = 0 from rfl, S_zero] at hs
        cases hs
        omega

/-- The places of the nodes above one. -/
def ov (l : List Nd) (k : Nat) : List Nat := (List.range k).filter fun j => decide (k < j + zz l j)
theorem mem_ov {l : List Nd} {k j : Nat} : j ∈ ov l k ↔ j < k ∧ k < j + zz l j := by
  unfold ov
  rw [List.mem_filter, List.mem_range, decide_eq_true_eq]
theorem ov_zero (l : List Nd) : ov l 0 = [] := rfl
/-- How many leaves come ahead of a place. -/
def xl (l : List Nd) (k : Nat) : Nat := (l.take k).countP fun x => decide (Rw.ar x.k = 0)
theorem xl_succ {l : List Nd} {k : Nat} (h : k < l.length) : xl l (k + 1) = xl l k + if Rw.ar l[k].k = 0 then 1 else 0 := by
  unfold xl
  rw [List.take_succ_eq_append_getElem h, List.countP_append]
  congr 1
  by_cases h0 : Rw.ar l[k].k = 0 <;> simp [h0]
theorem xl_mono {l : List Nd} {j k : Nat} (h : j ≤ k) : xl l j ≤ xl l k := by
  unfold xl
  exact ((List.take_sublist_take_left h).countP_le)
/-- One that has others behind it is above the next one. -/
theorem ov_next {l : List Nd} (h : Tre l) {k : Nat} (hk : k + 1 < l.length) (ha : Rw.ar l[k].k ≠ 0) : ov l (k + 1) = ov l k ++ [k] := by
  obtain ⟨_, h2, _⟩ := in_tree h (j := k) (by omega)
  have hz : 2 ≤ zz l k := by
    have : zz l k ≠ 1 := fun e => ha ((leaf_iff h (by omega)).1 e)
    omega
  unfold ov
  rw [List.range_succ, List.filter_append]
  congr 1
  · refine List.filter_congr fun j hj => decide_eq_decide.2 ?_
    have hjk := List.mem_range.1 hj
    constructor
    · intro h; omega
    · intro hlt
      have := (nest h hjk hlt (by omega)).1
      omega
  · simp
    omega
end Go.Proofs.YtpingbiibbmcaaaGreat.Pl

namespace Go.Proofs.YtpingbiibbmcaaaGreat.Rw
open Go Go.RowKit
set_option maxRecDepth 20000

/-- The tree, in the block of number B. -/
structure Al (w0 : World) (B : Nat) (w : World) : Prop where
  bel : Below w0.heap.size w0 w
  lt : B < w.heap.size
  at' : At w B 0 aL
/-- The tree, and its kids. -/
structure Al2 (w0 : World) (B b o c : Nat) (b0 : Option Addr) (c0 : Nat) (b1 : Option Addr) (c1 : Nat) (w : World) : Prop where
  al : Al w0 B w
  rws : Rws w (.slice (some ⟨b, o, none⟩) 2 c) [[n1], [n2, n3, n4]]
  k0 : w.cell? ⟨b, o, none⟩ = some (.slice b0 1 c0)
  k1 : w.cell? ⟨b, o + 1, none⟩ = some (.slice b1 3 c1)
end Go.Proofs.YtpingbiibbmcaaaGreat.Rw

namespace Go.Proofs.YtpingbiibbmcaaaGreat.Tr
open Go Go.RowKit
set_option maxRecDepth 20000

theorem infoS : (Tryz.prog.info? 9).map (fun i => (i.zero, i.size, i.bytes)) = some (some (.string ⟨#[]⟩), 1, 16) := by kernel_rfl

/-- Texts of any slice appended to a row that the call owns. -/
theorem run_append_strs {w : World} {base : Nat} {v x : Value} {l m : List ByteArray} (hown : w.ownsRow base 9 1 v l.length (l.map .string)) (hbase : base ≤ w.heap.size) (hx : Strs w x m) (hlen : l.length + m.length ≤ 2000000000000) :
    ∃ v' w', (Builtin.append_ #[27, 27] 27 #[v, x]).run Tryz.prog w = .ok v' w' ∧ w'.ownsRow base 9 1 v' (l ++ m).length ((l ++ m).map .string) ∧ w.grownBy w' v.ownBlock ∧ Below base w w' ∧ Ap.Fresh w v v' := by
  obtain ⟨i0, hi, hz, hs1, hb8⟩ := info_parts infoS
  obtain ⟨v', w', h1, h2, h3, h4, h5⟩ := Ap.run_append_rd (P := Tryz.prog) (ty := 27) Tryz.underlying27 hi hz hs1 hb8 (by rfl) (by omega) hown hbase hx
    (fun u hu => by obtain ⟨b, _, rfl⟩ := List.mem_map.1 hu; rfl) (by unfold maxLen; omega) (by omega)
  exact ⟨v', w', h1, by simpa using h2, h3, h4, h5⟩

end Go.Proofs.YtpingbiibbmcaaaGreat.Tr
