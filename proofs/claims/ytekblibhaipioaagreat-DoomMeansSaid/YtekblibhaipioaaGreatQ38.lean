/- The program's Par: its traces lie in blocks of their own; all that package mean asks of package trace. The program's set of pairs: what sorting and compacting make of a row; the walk. The program's method beside of a pair, and pairedOfTwo: the walks. The program's set of pairs: the walk. The program's pairedOfTwo: the walks. -/
import Derived.Test.YtekblibhaipioaaGreatQ27
import Derived.Test.YtekblibhaipioaaGreatQ37
import Derived.Test.YtekblibhaipioaaGreatQ28
import Derived.Test.YtekblibhaipioaaGreatQ33

namespace Go.Proofs.YtekblibhaipioaaGreat.Mn
open Go Go.RowKit Tr
set_option maxRecDepth 20000
theorem rwsf_val {base : Nat} {w : World} {v : Value} {rs : List (List ByteArray)} (h : RwsF base w v rs) : ∃ a cap, v = .slice a rs.length cap ∧ rs.length ≤ cap ∧
    ∀ k, (hk : k < rs.length) → ∃ b off x, a = some ⟨b, off, none⟩ ∧ w.cell? ⟨b, off + k, none⟩ = some x ∧ StrsO (fun b => base ≤ b) w x rs[k] := by
  obtain ⟨cs, ⟨_, a, cap, rfl, hcap, _, hcell⟩, hc⟩ := h
  refine ⟨a, cap, rfl, hcap, fun k hk => ?_⟩
  obtain ⟨b, off, rfl, hj⟩ := hcell (by omega)
  obtain ⟨x, h1, h2⟩ := hc.at k hk
  exact ⟨b, off, x, rfl, hj _ _ h1, h2⟩
set_option maxHeartbeats 4000000 in
theorem parF_any (v1 v2 : Value) (p q : Tr) (w : World) (h1 : Strs w v1 p.a) (h2 : Strs w v2 q.a) (hlen : p.a.length + q.a.length ≤ 9) :
    Calls Tryz.prog 116 #[.agg #[v1, .int .i64 p.e], .agg #[v2, .int .i64 q.e]] w (OutT none' (pr p q) w) := by
  have HB := Lib.hid (below2 w)
  have MT := Lib.hid (fun x y => mixF_any v1 v2 p.a q.a ((w.alloc x).alloc y) (h1.below (HB.out x y)) (h2.below (HB.out x y)) hlen)
  obtain ⟨_, a1, c1, rfl, -⟩ := h1
  obtain ⟨_, a2, c2, rfl, -⟩ := h2
  have hpr := mix_pr p q (by omega)
  have hml := mix_len p.a q.a
  obtain ⟨b, hbb⟩ : ∃ b, Sg.both p.e q.e = b := ⟨_, rfl⟩
  obtain ⟨rs, hrs⟩ : ∃ rs, mix p.a q.a = rs := ⟨_, rfl⟩
  rw [hbb, hrs] at hpr
  rw [hrs] at MT hml
  unfold OutT
  rw [← hpr]
  have BT := Lib.hid (Sg.both_any p.e q.e)
  rw [hbb] at BT
  clear hbb hrs hpr
  go_enter Tryz.func116, Tryz.ntmps116
  go_wp2_with (go_at_call 144; refine (BT.out _).mono ?_; rintro e w' ⟨rfl, rfl⟩)
  refine (MT.out _ _).mono ?_
  rintro e wm ⟨vm, rfl, hrm, hbm⟩
  have BM := Lib.hid ((HB.out _ _).trans (hbm.mono (HB.out _ _).size))
  obtain ⟨am, cm, rfl, _, hm⟩ := rwsf_val hrm
  have HM := Lib.hid hm
  clear hm hbm hrm
  go_wp2_with fail
  go_loopw [6, 20] (fun v i wr => ∃ (k : Nat) (cs : List Value), k ≤ rs.length ∧ i = .int .i64 k ∧ Below wm.heap.size wm wr ∧ wr.ownsRow wm.heap.size 32 2 v ((rs.take k).map fun r => (⟨r, b⟩ : Tr)).length cs ∧ Cl (ET (fun b => w.heap.size ≤ b) wm) 2 ((rs.take k).map fun r => (⟨r, b⟩ : Tr)) cs) (fun _ i _ => rs.length - (intOf i).toNat)
  case atStart => exact ⟨0, [], Nat.zero_le _, rfl, Below.refl _ _, ⟨rfl, .inl ⟨rfl, rfl⟩⟩, rfl⟩
  case round =>
    obtain ⟨k, cs, hk, rfl, hb, hown, hcs⟩ := hrel
    have WB := Lib.hid hb
    have WO := Lib.hid hown
    have WC := Lib.hid hcs
    clear hb hown hcs
    by_cases hlt : k < rs.length
    · obtain ⟨b1, o1, a, rfl, e1, hs⟩ := HM.out k hlt
      have c1 : wr.cell? ⟨b1, o1 + k, none⟩ = some a := by rw [WB.out.cell (Ap.cell_lt e1)]; exact e1
      have HS := Lib.hid hs
      have HMS := Lib.hid (map_snoc (fun r => (⟨r, b⟩ : Tr)) rs k hlt)
      generalize rs[k] = r at *
      have hs' := HS.out
      obtain ⟨_, av, cv, rfl, _⟩ := hs'
      obtain ⟨v2', w2, hrun, ho2, hg2, hb2, hf2⟩ := run_append_news (wr := wr) (t := ⟨r, b⟩) WO.out WB.out.size (so_strs HS.out) (by simp; omega)
      have RUN := Lib.hid hrun
      have O2 := Lib.hid ho2
      have B2 : Hid (Below wm.heap.size wm w2) := WB.out.trans hb2
      clear hrun ho2 hg2 hb2 hf2 e1 hs
      go_wp2_with (at_builtin; refine Ap.wpList_append_run (by rfl) _ _ _ _ rfl _ _ rfl rfl v2' w2 RUN.out ?_)
      go_roundw
      case rel => exact ⟨k + 1, _, by omega, by go_num, B2.out, by rw [HMS.out]; exact O2.out, by rw [HMS.out]; exact Cl.append ET.len (Cl.one ⟨_, rfl, so_imp HS.out fun b _ h => Nat.le_trans (HB.out _ _).size h⟩ rfl) WC.out⟩
      case measure => simp [intOf]; omega
    · go_wp2_with fail
      go_ret
      have h1 := WO.out
      have h2 := WC.out
      rw [List.take_of_length_le (by omega)] at h1 h2
      have h3 := Ap.RdO.fresh h1
      obtain ⟨_, a6, n6, rfl, _⟩ := id h3
      exact ⟨_, _, rfl, ⟨cs, Ap.RdO.imp h3 fun b _ h => .inr (Nat.le_trans BM.out.size h), Cl.imp (ET.map fun _ _ h => so_below (so_imp h fun _ _ h => .inr h) WB.out) h2⟩, BM.out.trans (WB.out.mono BM.out.size)⟩
theorem tcon : TCon where
  cCmp v1 v2 p q w h1 h2 hl hm := compareG v1 v2 p q w h1 h2 hl hm
  cSet x l w hx hlen hl := setT_any x l w hx hlen fun t ht => by have := hl t ht; omega
  cOr x y l m w hx hy hlen hl := orT_any x y l m w hx hy hlen fun t ht => by have := hl t ht; omega
  cThn v1 v2 p q w h1 h2 hlen := thenT_any v1 v2 p q w h1 h2 (by omega)
  cPar v1 v2 p q w h1 h2 hlen := parF_any v1 v2 p q w h1 h2 hlen
end Go.Proofs.YtekblibhaipioaaGreat.Mn

namespace Go.Proofs.YtekblibhaipioaaGreat.Mn
open Go Go.RowKit Go.Sort Tr
set_option maxRecDepth 20000
structure ElP (w : World) (g : Nat) where
  v : Value
  v' : Value
  t : Pr
  hs : StrsO (fun b => b ≠ g) w v t.p.a
  hs' : StrsO (fun b => b ≠ g) w v' t.q.a
  hl : t.p.a.length ≤ 1000000
  hl' : t.q.a.length ≤ 1000000
instance (w : World) (g : Nat) : Inhabited (ElP w g) := ⟨⟨.slice none 0 0, .slice none 0 0, ⟨⟨[], 0⟩, ⟨[], 0⟩⟩, so_nil _ _, so_nil _ _, by simp, by simp⟩⟩
def ElP.qd {w : World} {g : Nat} (x : ElP w g) : Qd := ⟨x.v, .int .i64 x.t.p.e, x.v', .int .i64 x.t.q.e⟩
def encP {w : World} {g : Nat} (x : ElP w g) : List Value := [x.v, .int .i64 x.t.p.e, x.v', .int .i64 x.t.q.e]
def cfP {w : World} {g : Nat} (x y : ElP w g) : Int := pcmp x.t y.t
theorem strs_sort4 {w : World} {g : Nat} {v : Value} {l : List ByteArray} (h : StrsO (fun b => b ≠ g) w v l) (m : Nat) (dk : Array (ElP w g)) (os : Array Obj) : Strs (sortWorldK encP 4 w g 0 m dk os) v l := by
  obtain ⟨hl, a, cap, hv, hc, hn, hcell⟩ := h
  refine ⟨hl, a, cap, hv, hc, hn, fun h0 => ?_⟩
  obtain ⟨b, off, ha, hne, hlt, hj⟩ := hcell h0
  refine ⟨b, off, ha, fun j u hu => ?_⟩
  unfold sortWorldK
  rw [cell?_grow _ _ _ (by rw [size_putRowK]; exact hlt), cell?_putRowK_other _ _ _ _ _ _ _ hne]
  exact hj j u hu
theorem swoP (w : World) (g : Nat) : SWO (ltOf (cfP (w := w) (g := g))) where
  irrefl x := by simp [ltOf, cfP, pcmp_self]
  trans x y z h1 h2 := decide_eq_true (pcmp_trans (of_decide_eq_true h1) (of_decide_eq_true h2))
  ntrans x y z h1 h2 := by
    refine decide_eq_false fun h => ?_
    replace h : pcmp x.t z.t < 0 := h
    replace h1 : ¬ pcmp x.t y.t < 0 := of_decide_eq_false h1
    replace h2 : ¬ pcmp y.t z.t < 0 := of_decide_eq_false h2
    rcases Int.lt_trichotomy (pcmp x.t y.t) 0 with h3 | h3 | h3
    · exact h1 h3
    · rw [pcmp_eq0 h3] at h
      exact h2 h
    · have h4 : pcmp y.t x.t < 0 := by have := pcmp_anti x.t y.t; omega
      exact h2 (pcmp_trans h4 h)
theorem cmpLaysP (w : World) (g n : Nat) : CmpLays Tryz.prog 70 #[] (encP (w := w) (g := g)) 4 cfP g 0 n w :=
  fun m os dk _ x y => pagainst_any x.v x.v' y.v y.v' x.t y.t _ (strs_sort4 x.hs m dk os) (strs_sort4 x.hs' m dk os) (strs_sort4 y.hs m dk os) (strs_sort4 y.hs' m dk os) x.hl x.hl' y.hl y.hl'
theorem encP_one {w : World} {g : Nat} (x : ElP w g) : ∀ v ∈ encP x, v.oneCell' = true := by
  intro v hv
  simp only [encP, List.mem_cons, List.mem_nil_iff, or_false] at hv
  rcases hv with rfl | rfl | rfl | rfl
  · exact strsO_one x.hs
  · rfl
  · exact strsO_one x.hs'
  · rfl
theorem holdsP {w : World} {g cap : Nat} {e : TypeId} (d : Array (ElP w g)) (h : Own4 w g e cap (d.toList.map ElP.qd)) : HoldsK encP 4 w g 0 d := by
  intro j hj
  rw [size_flatK] at hj
  refine ⟨?_, ?_⟩
  · rw [get_flatK encP 4 d j hj]
    have hj2 : j / 4 < d.size := by omega
    have hl : j / 4 < (d.toList.map ElP.qd).length := by simpa using hj2
    obtain ⟨h0, h1, h2, h3⟩ := h.cell (j / 4) hl
    have e : d[j / 4]! = d[j / 4] := getElem!_pos d (j / 4) hj2
    simp only [List.getElem_map, Array.getElem_toList] at h0 h1 h2 h3
    rw [e, Nat.zero_add]
    have hm : j % 4 = 0 ∨ j % 4 = 1 ∨ j % 4 = 2 ∨ j % 4 = 3 := by omega
    rcases hm with hm | hm | hm | hm
    · rw [show j / 4 * 4 = j by omega] at h0
      rw [hm, h0]
      rfl
    · rw [show j / 4 * 4 + 1 = j by omega] at h1
      rw [hm, h1]
      rfl
    · rw [show j / 4 * 4 + 2 = j by omega] at h2
      rw [hm, h2]
      rfl
    · rw [show j / 4 * 4 + 3 = j by omega] at h3
      rw [hm, h3]
      rfl
  · exact h.soft _
theorem ownP {w : World} {g cap n : Nat} {e : TypeId} {d d' : Array (ElP w g)} {os : Array Obj} (h : Own4 w g e cap (d.toList.map ElP.qd)) (hs : d'.size = d.size) : Own4 (sortWorldK encP 4 w g 0 n d' os) g e cap (d'.toList.map ElP.qd) := by
  have hlt := h.lt
  obtain ⟨cur, hg, hsz, hl, hc⟩ := h
  have hl' : d.size ≤ cap := by simpa using hl
  refine ⟨putCells id 0 (flatK encP 4 d') cur, ?_, by simpa [putCells] using hsz, by simpa [hs] using hl', fun j hj => ?_⟩
  · unfold sortWorldK
    show ((putRowK encP 4 (Sort.ahead w n) g 0 d').heap ++ os)[g]? = _
    rw [Array.getElem?_append_left (by rw [size_putRowK]; exact hlt)]
    simp [putRowK, putRow, mapBlock, Sort.ahead, Array.getElem?_modify, hg, onCells]
  · have hj' : j < d'.size := by simpa using hj
    have e : d'[j]! = d'[j] := getElem!_pos d' j hj'
    simp only [List.getElem_map, Array.getElem_toList]
    refine ⟨?_, ?_, ?_, ?_⟩
    · rw [putCells, Array.getElem?_mapIdx, Array.getElem?_eq_getElem (by omega), Option.map_some, if_pos (by simp; omega)]
      rw [Nat.sub_zero, get_flatK encP 4 d' _ (by omega), show j * 4 / 4 = j by omega, show j * 4 % 4 = 0 by omega, e]
      rfl
    · rw [putCells, Array.getElem?_mapIdx, Array.getElem?_eq_getElem (by omega), Option.map_some, if_pos (by simp; omega)]
      rw [Nat.sub_zero, get_flatK encP 4 d' _ (by omega), show (j * 4 + 1) / 4 = j by omega, show (j * 4 + 1) % 4 = 1 by omega, e]
      rfl
    · rw [putCells, Array.getElem?_mapIdx, Array.getElem?_eq_getElem (by omega), Option.map_some, if_pos (by simp; omega)]
      rw [Nat.sub_zero, get_flatK encP 4 d' _ (by omega), show (j * 4 + 2) / 4 = j by omega, show (j * 4 + 2) % 4 = 2 by omega, e]
      rfl
    · rw [putCells, Array.getElem?_mapIdx, Array.getElem?_eq_getElem (by omega), Option.map_some, if_pos (by simp; omega)]
      rw [Nat.sub_zero, get_flatK encP 4 d' _ (by omega), show (j * 4 + 3) / 4 = j by omega, show (j * 4 + 3) % 4 = 3 by omega, e]
      rfl
theorem gbP {w : World} {g n : Nat} {d' : Array (ElP w g)} {os : Array Obj} : w.grownBy (sortWorldK encP 4 w g 0 n d' os) (some g) :=
  ⟨rfl, rfl, rfl, by
    show w.heap.size ≤ ((putRowK encP 4 (Sort.ahead w n) g 0 d').heap ++ os).size
    rw [Array.size_append, size_putRowK]
    exact Nat.le_add_right _ _, fun k hk hr => by
    show ((putRowK encP 4 (Sort.ahead w n) g 0 d').heap ++ os)[k]? = _
    rw [Array.getElem?_append_left (by rw [size_putRowK]; exact hk)]
    have hne : g ≠ k := fun e => hr (by rw [e])
    simp [putRowK, putRow, mapBlock, Sort.ahead, Array.getElem?_modify, hne]⟩
theorem sortP_any (g cap : Nat) (w : World) (d : Array (ElP w g)) (h : Own4 w g 34 cap (d.toList.map ElP.qd)) (hlen : d.size ≤ 1000000000000) :
    Calls Tryz.prog 69 #[.slice (some ⟨g, 0, none⟩) d.size cap, .func (.func 70) #[] #[]] w fun e w' =>
      e = .returned (.tuple #[]) ∧ ∃ d' : Array (ElP w g), d'.toList.Perm d.toList ∧ (d'.toList.Pairwise fun x y => ¬ pcmp y.t x.t < 0) ∧ Own4 w' g 34 cap (d'.toList.map ElP.qd) ∧ w.grownBy w' (some g) := by
  have eg : ∀ args w, (callFunc 70 args).run Tryz.prog w = .ok (.enter 70 args) w := enters_of Tryz.func70 (by kernel_rfl) rfl
  have hcon := AnyQ.slices_SortFunc Tryz.laysSoP 4 Tryz.isAgg34 Tryz.sizeOf34 encP (fun _ => rfl) encP_one cfP (swoP w g) 70 #[] g 0 cap d w eg (cmpLaysP w g d.size) (holdsP d h) h.lt (by omega)
  change Calls Tryz.prog 69 _ _ _ at hcon
  refine hcon.mono fun e w' ⟨he, d', n, os, hp, hs, hw⟩ => ⟨he, d', ?_, ?_, ?_, ?_⟩
  · obtain ⟨hsz, _, hperm⟩ := hp
    have e1 : d'.extract 0 d.size = d' := by rw [← hsz]; exact Array.extract_size
    rw [e1, Array.extract_size] at hperm
    exact hperm
  · rw [List.pairwise_iff_getElem]
    intro i j hi hj hij
    have hi' : i < d'.size := by simpa using hi
    have hj' : j < d'.size := by simpa using hj
    have := hs i j (Nat.zero_le _) hij (by rw [← hp.1]; exact hj')
    rw [getElem!_pos d' i hi', getElem!_pos d' j hj'] at this
    show ¬ pcmp d'[j].t d'[i].t < 0
    exact of_decide_eq_false this
  · rw [hw]; exact ownP h hp.1
  · rw [hw]; exact gbP
theorem tr_ext {p q : Tr} (h1 : p.a = q.a) (h2 : p.e = q.e) : p = q := by
  cases p; cases q
  simp only at h1 h2
  rw [h1, h2]
theorem ElP.t_of {w : World} {g : Nat} {x y : ElP w g} (h : x.qd = y.qd) : x.t = y.t := by
  have h1 : x.v = y.v := congrArg Qd.a h
  have h2 : (Value.int .i64 x.t.p.e) = .int .i64 y.t.p.e := congrArg Qd.b h
  have h3 : x.v' = y.v' := congrArg Qd.c h
  have h4 : (Value.int .i64 x.t.q.e) = .int .i64 y.t.q.e := congrArg Qd.d h
  have e1 : x.t.p.a = y.t.p.a := Strs.inj (Ap.RdO.rd x.hs) (by rw [h1]; exact Ap.RdO.rd y.hs)
  have e2 : x.t.q.a = y.t.q.a := Strs.inj (Ap.RdO.rd x.hs') (by rw [h3]; exact Ap.RdO.rd y.hs')
  have e3 : x.t.p = y.t.p := tr_ext e1 (by injection h2)
  have e4 : x.t.q = y.t.q := tr_ext e2 (by injection h4)
  cases hx : x.t; cases hy : y.t
  rw [hx, hy] at e3 e4
  simp only at e3 e4
  rw [e3, e4]
theorem elsP_of {ok : Nat → Prop} {w w1 : World} {g : Nat} (hb : Below w.heap.size w w1) (hg : w.heap.size ≤ g) : ∀ {l : List Pr} {cs : List Value}, Cl (EP ok w) 4 l cs → (∀ t ∈ l, t.p.a.length ≤ 1000000 ∧ t.q.a.length ≤ 1000000) → ∃ els : List (ElP w1 g), els.map (·.t) = l ∧ flat4 (els.map ElP.qd) = cs
  | [], cs, h, _ => ⟨[], rfl, (show cs = [] from h).symm⟩
  | t :: l, cs, h, hl => by
    obtain ⟨els, h1, h2⟩ := elsP_of hb hg h.2 fun u hu => hl u (by simp [hu])
    obtain ⟨a, b, h3, h4, h5⟩ := h.1
    refine ⟨⟨a, b, t, Ap.RdO.below (Ap.RdO.imp h4 fun b hlt _ => by omega) hb, Ap.RdO.below (Ap.RdO.imp h5 fun b hlt _ => by omega) hb, (hl t (by simp)).1, (hl t (by simp)).2⟩ :: els, by simp [h1], ?_⟩
    have e := List.take_append_drop 4 cs
    rw [h3, ← h2] at e
    rw [← e]
    rfl
theorem eq_qds (w : World) (g : Nat) : ∃ q : Qd → Qd → Bool, ∀ x y : ElP w g, q x.qd y.qd = (pcmp x.t y.t == 0) := by
  refine ⟨fun a b => @decide (∃ x y : ElP w g, x.qd = a ∧ y.qd = b ∧ pcmp x.t y.t = 0) (Classical.propDecidable _), fun x y => ?_⟩
  rw [Bool.eq_iff_iff]
  simp only [decide_eq_true_eq, beq_iff_eq]
  constructor
  · rintro ⟨x', y', h1, h2, h3⟩
    rw [← ElP.t_of h1, ← ElP.t_of h2]
    exact h3
  · intro h
    exact ⟨x, y, rfl, rfl, h⟩
theorem cptF_pup : ∀ (p : Pr) (l : List Pr), (p :: l).Pairwise (fun x y => ¬ pcmp y x < 0) → PUp (p :: cptF (fun x y => pcmp x y == 0) p l) ∧ ∀ t, (t ∈ p :: cptF (fun x y => pcmp x y == 0) p l ↔ t ∈ p :: l)
  | p, [], _ => ⟨List.pairwise_singleton _ _, fun t => Iff.rfl⟩
  | p, x :: l, h => by
    obtain ⟨h1, h2⟩ := List.pairwise_cons.1 h
    obtain ⟨u1, u2⟩ := cptF_pup x l h2
    have hxp := h1 x (by simp)
    rw [cptF]
    by_cases hc : pcmp x p = 0
    · have e := pcmp_eq0 hc
      subst e
      rw [if_pos (by simpa using hc)]
      refine ⟨u1, fun t => ?_⟩
      rw [u2 t]
      simp
    · rw [if_neg (by simpa using hc)]
      have hpx : pcmp p x < 0 := by have := pcmp_anti p x; omega
      refine ⟨?_, fun t => ?_⟩
      · refine List.pairwise_cons.2 ⟨fun y hy => ?_, u1⟩
        obtain ⟨v1, _⟩ := List.pairwise_cons.1 u1
        rcases List.mem_cons.1 hy with rfl | hy
        · exact hpx
        · exact pcmp_trans hpx (v1 y hy)
      · rw [List.mem_cons, u2 t, ← List.mem_cons]
theorem cpt_pnorm (l : List Pr) (h : l.Pairwise fun x y => ¬ pcmp y x < 0) : cpt (fun x y => pcmp x y == 0) l = pnorm l := by
  cases l with
  | nil => rfl
  | cons p l =>
    obtain ⟨u1, u2⟩ := cptF_pup p l h
    exact pnorm_eq u1 u2
def PP (w : World) (g : Nat) (ys : List Qd) (ts : List Pr) : Prop :=
  ys.length = ts.length ∧ ∀ j (h : j < ts.length) (h' : j < ys.length), StrsO (fun b => b ≠ g) w ys[j].a ts[j].p.a ∧ ys[j].b = .int .i64 ts[j].p.e ∧ StrsO (fun b => b ≠ g) w ys[j].c ts[j].q.a ∧ ys[j].d = .int .i64 ts[j].q.e
theorem PP.cells {w : World} {g : Nat} : ∀ {ys : List Qd} {ts : List Pr}, PP w g ys ts → Cl (EP any w) 4 ts (flat4 ys)
  | [], [], _ => rfl
  | [], _ :: _, h => by have := h.1; simp at this
  | _ :: _, [], h => by have := h.1; simp at this
  | y :: ys, t :: ts, h => by
    obtain ⟨h1, h2, h3, h4⟩ := h.2 0 (by simp) (by simp)
    refine ⟨⟨y.a, y.c, ?_, so_imp h1 fun _ _ _ => trivial, so_imp h3 fun _ _ _ => trivial⟩, ?_⟩
    · show [y.a, y.b, y.c, y.d] = _
      simp only [List.getElem_cons_zero] at h2 h4
      rw [h2, h4]
    · refine PP.cells (g := g) ⟨by have := h.1; simpa using this, fun j h1 h2 => ?_⟩
      have := h.2 (j + 1) (by simpa using h1) (by simpa using h2)
      simpa using this
theorem so_gb1 {w w' : World} {g : Nat} {v : Value} {l : List ByteArray} (h : StrsO (fun b => b ≠ g) w v l) (hg : w.grownBy w' (some g)) : StrsO (fun b => b ≠ g) w' v l :=
  so_imp (so_gb (ok := any) (so_imp h fun _ _ h => ⟨trivial, h⟩) hg) fun _ _ h => h.2
theorem PP.gb {w w' : World} {g : Nat} {ys : List Qd} {ts : List Pr} (h : PP w g ys ts) (hg : w.grownBy w' (some g)) : PP w' g ys ts :=
  ⟨h.1, fun j h1 h2 => by
    obtain ⟨a, b, c, d⟩ := h.2 j h1 h2
    exact ⟨so_gb1 a hg, b, so_gb1 c hg, d⟩⟩
theorem PP.els {w : World} {g : Nat} (els : List (ElP w g)) : PP w g (els.map ElP.qd) (els.map (·.t)) :=
  ⟨by simp, fun j h1 h2 => by
    simp only [List.getElem_map]
    exact ⟨(els[j]'(by simpa using h1)).hs, rfl, (els[j]'(by simpa using h1)).hs', rfl⟩⟩
theorem PP.set {w : World} {g : Nat} {ys : List Qd} {ts : List Pr} (h : PP w g ys ts) (k : Nat) (hk : k < ts.length) (v v' : Value) (hv : StrsO (fun b => b ≠ g) w v ts[k].p.a) (hv' : StrsO (fun b => b ≠ g) w v' ts[k].q.a) : PP w g (ys.set k ⟨v, .int .i64 ts[k].p.e, v', .int .i64 ts[k].q.e⟩) ts := by
  refine ⟨by simpa using h.1, fun j h1 h2 => ?_⟩
  by_cases hjk : k = j
  · subst hjk
    simp only [List.getElem_set_self]
    exact ⟨hv, trivial, hv', trivial⟩
  · rw [List.getElem_set_ne hjk]
    exact h.2 j h1 (by simpa using h2)
end Go.Proofs.YtekblibhaipioaaGreat.Mn

namespace Go.Proofs.YtekblibhaipioaaGreat.Mn
open Go Go.RowKit Tr
set_option maxRecDepth 20000
set_option maxHeartbeats 1000000 in
theorem bes11_any (ok : Nat → Prop) (bx : Nat) (a y : Value) (t : Tr) (l : List Tr) (w : World) (hb : w.cell? ⟨bx, 0, none⟩ = some y) (hs : StrsO ok w a t.a) (hl : TsO ok w y l) (hlen : l.length ≤ 1000000000000) :
    Calls Tryz.prog 117 #[.agg #[a, .int .i64 t.e], .pointer (some ⟨bx, 0, none⟩)] w (OutP ok (l.map (Pr.mk t)) w) := by
  have HB := Lib.hid (fun o => bel1 w o)
  have C := Lib.hid (fun w1 (hb : Below w.heap.size w w1) => with_any ok a y t l w1 (so_below hs hb) (hl.below hb) hlen)
  have hlt := Ap.cell_lt hb
  generalize l.map (Pr.mk t) = L at C ⊢
  obtain ⟨_, a1, k1, rfl, _⟩ := hs
  obtain ⟨_, ⟨_, a2, k2, rfl, _⟩, _⟩ := hl
  go_enter Tryz.func117, Tryz.ntmps117
  go_wp2_with fail
  refine (C.out _ (HB.out _)).mono ?_
  intro e w2 ho
  have HO := Lib.hid (ho.up (HB.out _) fun b h => .inl h)
  obtain ⟨a4, k4, rfl, _, _⟩ := ho
  go_wp2_with fail
  go_ret
  exact HO.out
set_option maxHeartbeats 2000000 in
theorem bes1_any (T : TCon) (ok : Nat → Prop) (bx : Nat) (v1 v2 u1 u2 : Value) (x y : Pr) (w : World) (hb : BoxP w bx v1 x.p.e v2 x.q.e) (h1 : StrsO ok w v1 x.p.a) (h2 : StrsO ok w v2 x.q.a) (h3 : StrsO ok w u1 y.p.a) (h4 : StrsO ok w u2 y.q.a)
    (l1 : x.p.a.length + y.p.a.length ≤ 9) (l2 : x.q.a.length + y.q.a.length ≤ 9) (hout : (par1 x y).length ≤ 1000000000000) (hp : (pr x.p y.p).length ≤ 1000000000000) (hq : (pr x.q y.q).length ≤ 1000000000000) :
    Calls Tryz.prog 115 #[.agg #[u1, .int .i64 y.p.e, u2, .int .i64 y.q.e], .pointer (some ⟨bx, 0, none⟩)] w (OutP ok (par1 x y) w) := by
  have eg : ∀ args w, (callFunc 117 args).run Tryz.prog w = .ok (.enter 117 args) w := enters_of Tryz.func117 (by kernel_rfl) rfl
  have HB := Lib.hid (fun o => bel1 w o)
  have T1 := Lib.hid (fun w1 (hb : Below w.heap.size w w1) => T.cPar v2 u2 x.q y.q w1 (so_strs (so_below h2 hb)) (so_strs (so_below h4 hb)) l2)
  have T2 := Lib.hid (fun w1 (hb : Below w.heap.size w w1) => T.cPar v1 u1 x.p y.p w1 (so_strs (so_below h1 hb)) (so_strs (so_below h3 hb)) l1)
  have hlt := Ap.cell_lt hb.1
  have HX := Lib.hid (fun w1 (hb1 : Below w.heap.size w w1) => hb.below hb1)
  unfold par1 at hout ⊢
  obtain ⟨_, a1, k1, rfl, _⟩ := h1
  obtain ⟨_, a2, k2, rfl, _⟩ := h2
  obtain ⟨_, b1, m1, rfl, _⟩ := h3
  obtain ⟨_, b2, m2, rfl, _⟩ := h4
  generalize pr x.p y.p = s at *
  generalize pr x.q y.q = t at *
  obtain ⟨c0, c1, c2, c3⟩ := hb
  obtain ⟨L, hL⟩ : ∃ L, (s.flatMap fun p => t.map (Pr.mk p)) = L := ⟨_, rfl⟩
  rw [hL] at hout ⊢
  have HL := Lib.hid hL
  clear hL
  go_enter Tryz.func115, Tryz.ntmps115
  go_wp2_with fail
  refine (T1.out _ (HB.out _)).mono ?_
  rintro e w1 ⟨a3, k3, rfl, ht1, hb1⟩
  have kz : BoxP w1 w.heap.size (.slice b1 y.p.a.length m1) y.p.e (.slice b2 y.q.a.length m2) y.q.e := BoxP.below ⟨by simp [go_sem], by simp [go_sem], by simp [go_sem], by simp [go_sem]⟩ hb1
  have B1 := Lib.hid ((HB.out _).trans (hb1.mono (HB.out _).size))
  have x1 := HX.out _ B1.out
  have TB := Lib.hid (ht1.imp (ok' := fun b => ok b ∨ w.heap.size ≤ b) fun b _ h => h.elim (fun h => h.elim) fun h => .inr (Nat.le_trans (HB.out _).size h))
  clear ht1 hb1 c0 c1 c2 c3
  have hw1 : w.heap.size < w1.heap.size := Ap.cell_lt kz.1
  have hbx1 : bx < w1.heap.size := Ap.cell_lt x1.1
  obtain ⟨z0, z1, z2, z3⟩ := id kz
  obtain ⟨q0, q1, q2, q3⟩ := id x1
  go_wp2_with fail
  refine (T2.out _ (B1.out.alloc B1.out.size _)).mono ?_
  rintro e w2 ⟨a4, k4, rfl, ht2, hb2⟩
  have hc2 : w2.cell? ⟨w1.heap.size, 0, none⟩ = some (.slice a3 t.length k3) := by rw [hb2.cell (p := ⟨w1.heap.size, 0, none⟩) (by simp)]; exact box1_new _ _ _
  have B2 := Lib.hid ((B1.out.alloc B1.out.size _).trans (hb2.mono (B1.out.alloc B1.out.size _).size))
  have TB2 := Lib.hid ((TB.out.below (bel1 _ _)).below hb2)
  have TA2 := Lib.hid (ht2.imp (ok' := fun b => ok b ∨ w.heap.size ≤ b) fun b _ h => h.elim (fun h => h.elim) fun h => .inr (Nat.le_trans (B1.out.alloc B1.out.size _).size h))
  have C := Lib.hid (eachTP 117 #[.pointer (some ⟨w1.heap.size, 0, none⟩)] eg (fun b => ok b ∨ w.heap.size ≤ b) _ s (fun p => t.map (Pr.mk p)) w2 TA2.out
    (fun wr hb u hu a ha => by
      have hc : wr.cell? ⟨w1.heap.size, 0, none⟩ = some (.slice a3 t.length k3) := by rw [hb.cell (p := ⟨w1.heap.size, 0, none⟩) (Ap.cell_lt hc2)]; exact hc2
      have hY := (TB2.out.imp (ok' := fun b => (ok b ∨ w.heap.size ≤ b) ∧ b < w2.heap.size) fun b hlt h => ⟨h, hlt⟩).below hb
      exact bes11_any _ w1.heap.size a _ u t wr hc ha hY hq) hp (by rw [HL.out]; exact hout))
  rw [HL.out] at C
  clear ht2 hb2 hc2
  go_wp2_with fail
  refine C.out.mono ?_
  intro e w3 ho
  have HO := Lib.hid (ho.up (ok := ok) B2.out fun b h => h)
  obtain ⟨a5, k5, rfl, _, _⟩ := ho
  go_wp2_with fail
  go_ret
  exact HO.out
set_option maxHeartbeats 2000000 in
theorem pbes_any (T : TCon) (ok : Nat → Prop) (v1 v2 y : Value) (x : Pr) (Y : List Pr) (w : World) (h1 : StrsO ok w v1 x.p.a) (h2 : StrsO ok w v2 x.q.a) (hy : PsO ok w y Y) (hlen : Y.length ≤ 1000000000000) (hrow : ∀ t ∈ Y, x.p.a.length + t.p.a.length ≤ 9 ∧ x.q.a.length + t.q.a.length ≤ 9) (hout : (Y.flatMap (par1 x)).length ≤ 1000000000000)
    (hin : ∀ t ∈ Y, (pr x.p t.p).length ≤ 1000000000000 ∧ (pr x.q t.q).length ≤ 1000000000000) :
    Calls Tryz.prog 83 #[.agg #[v1, .int .i64 x.p.e, v2, .int .i64 x.q.e], y] w (OutP ok (Y.flatMap (par1 x)) w) := by
  have eg : ∀ args w, (callFunc 115 args).run Tryz.prog w = .ok (.enter 115 args) w := enters_of Tryz.func115 (by kernel_rfl) rfl
  have C := Lib.hid (fun ty => eachPP 115 #[.pointer (some ⟨w.heap.size, 0, none⟩)] eg ok y Y (par1 x) (w.alloc (.cells #[v1, .int .i64 x.p.e, v2, .int .i64 x.q.e] ty)) (hy.below (bel1 _ _))
    (fun wr hb t ht a a' ha ha' => bes1_any T _ w.heap.size v1 v2 a a' x t wr (BoxP.below (boxP_new _ _ _ _ _ _) hb) (so_below (so_below (so_imp h1 fun b hlt h => ⟨h, by simp; omega⟩) (bel1 _ _)) hb) (so_below (so_below (so_imp h2 fun b hlt h => ⟨h, by simp; omega⟩) (bel1 _ _)) hb) ha ha' (hrow t ht).1 (hrow t ht).2 (Nat.le_trans (flat_one (par1 x) ht) hout) (hin t ht).1 (hin t ht).2) hlen hout)
  generalize Y.flatMap (par1 x) = L at C ⊢
  obtain ⟨_, a1, k1, rfl, _⟩ := h1
  obtain ⟨_, a2, k2, rfl, _⟩ := h2
  obtain ⟨_, ⟨_, a3, k3, rfl, _⟩, _⟩ := hy
  go_enter Tryz.func83, Tryz.ntmps83
  go_wp2_with fail
  refine (C.out _).mono ?_
  intro e w2 ho
  have HO := Lib.hid (ho.up (bel1 w _) fun b h => .inl h)
  obtain ⟨a4, k4, rfl, _, _⟩ := ho
  go_wp2_with fail
  go_ret
  exact HO.out
set_option maxHeartbeats 1000000 in
theorem ppot1_any (T : TCon) (ok : Nat → Prop) (bx : Nat) (v1 v2 y : Value) (x : Pr) (Y : List Pr) (w : World) (hb : w.cell? ⟨bx, 0, none⟩ = some y) (h1 : StrsO ok w v1 x.p.a) (h2 : StrsO ok w v2 x.q.a) (hy : PsO ok w y Y) (hlen : Y.length ≤ 1000000000000) (hrow : ∀ t ∈ Y, x.p.a.length + t.p.a.length ≤ 1000000 ∧ t.q.a.length + x.q.a.length ≤ 1000000) :
    Calls Tryz.prog 80 #[.agg #[v1, .int .i64 x.p.e, v2, .int .i64 x.q.e], .pointer (some ⟨bx, 0, none⟩)] w (OutP ok (seq1 Y x) w) := by
  have HB := Lib.hid (fun o => bel1 w o)
  have C := Lib.hid (fun w1 (hb : Below w.heap.size w w1) => pthen_any T ok v1 v2 y x Y w1 (so_below h1 hb) (so_below h2 hb) (hy.below hb) hlen hrow)
  have hlt := Ap.cell_lt hb
  generalize seq1 Y x = L at C ⊢
  obtain ⟨_, a1, k1, rfl, _⟩ := h1
  obtain ⟨_, a2, k2, rfl, _⟩ := h2
  obtain ⟨_, ⟨_, a3, k3, rfl, _⟩, _⟩ := hy
  go_enter Tryz.func80, Tryz.ntmps80
  go_wp2_with fail
  refine (C.out _ (HB.out _)).mono ?_
  intro e w2 ho
  have HO := Lib.hid (ho.up (HB.out _) fun b h => .inl h)
  obtain ⟨a4, k4, rfl, _, _⟩ := ho
  go_wp2_with fail
  go_ret
  exact HO.out
set_option maxHeartbeats 1000000 in
theorem ppot2_any (T : TCon) (ok : Nat → Prop) (bx : Nat) (v1 v2 y : Value) (x : Pr) (Y : List Pr) (w : World) (hb : w.cell? ⟨bx, 0, none⟩ = some y) (h1 : StrsO ok w v1 x.p.a) (h2 : StrsO ok w v2 x.q.a) (hy : PsO ok w y Y) (hlen : Y.length ≤ 1000000000000) (hrow : ∀ t ∈ Y, x.p.a.length + t.p.a.length ≤ 9 ∧ x.q.a.length + t.q.a.length ≤ 9) (hout : (Y.flatMap (par1 x)).length ≤ 1000000000000)
    (hin : ∀ t ∈ Y, (pr x.p t.p).length ≤ 1000000000000 ∧ (pr x.q t.q).length ≤ 1000000000000) :
    Calls Tryz.prog 82 #[.agg #[v1, .int .i64 x.p.e, v2, .int .i64 x.q.e], .pointer (some ⟨bx, 0, none⟩)] w (OutP ok (Y.flatMap (par1 x)) w) := by
  have HB := Lib.hid (fun o => bel1 w o)
  have C := Lib.hid (fun w1 (hb : Below w.heap.size w w1) => pbes_any T ok v1 v2 y x Y w1 (so_below h1 hb) (so_below h2 hb) (hy.below hb) hlen hrow hout hin)
  have hlt := Ap.cell_lt hb
  generalize Y.flatMap (par1 x) = L at C ⊢
  obtain ⟨_, a1, k1, rfl, _⟩ := h1
  obtain ⟨_, a2, k2, rfl, _⟩ := h2
  obtain ⟨_, ⟨_, a3, k3, rfl, _⟩, _⟩ := hy
  go_enter Tryz.func82, Tryz.ntmps82
  go_wp2_with fail
  refine (C.out _ (HB.out _)).mono ?_
  intro e w2 ho
  have HO := Lib.hid (ho.up (HB.out _) fun b h => .inl h)
  obtain ⟨a4, k4, rfl, _, _⟩ := ho
  go_wp2_with fail
  go_ret
  exact HO.out
end Go.Proofs.YtekblibhaipioaaGreat.Mn

namespace Go.Proofs.YtekblibhaipioaaGreat.Mn
open Go Go.RowKit Go.Sort Tr
set_option maxRecDepth 20000
set_option maxHeartbeats 1000000 in
theorem set1P_any (v1 v1' v2 v2' : Value) (x y : Pr) (w : World) (h1 : Strs w v1 x.p.a) (h1' : Strs w v1' x.q.a) (h2 : Strs w v2 y.p.a) (h2' : Strs w v2' y.q.a)
    (l1 : x.p.a.length ≤ 1000000) (l1' : x.q.a.length ≤ 1000000) (l2 : y.p.a.length ≤ 1000000) (l2' : y.q.a.length ≤ 1000000) :
    Calls Tryz.prog 72 #[.agg #[v1, .int .i64 x.p.e, v1', .int .i64 x.q.e], .agg #[v2, .int .i64 y.p.e, v2', .int .i64 y.q.e]] w fun e w' => e = .returned (.bool (pcmp x y == 0)) ∧ Below w.heap.size w w' := by
  have HB := Lib.hid (fun o o' => bel2 w o o')
  have A := Lib.hid (fun w1 (hb : Below w.heap.size w w1) => pagainst_any v1 v1' v2 v2' x y w1 (h1.below hb) (h1'.below hb) (h2.below hb) (h2'.below hb) l1 l1' l2 l2')
  obtain ⟨_, a1, c1, rfl, -⟩ := h1
  obtain ⟨_, a1', c1', rfl, -⟩ := h1'
  obtain ⟨_, a2, c2, rfl, -⟩ := h2
  obtain ⟨_, a2', c2', rfl, -⟩ := h2'
  cases hc : pcmp x y == 0 with
  | true =>
    have hc' : pcmp x y = 0 := by simpa using hc
    rw [hc'] at A
    clear hc hc'
    go_enter Tryz.func72, Tryz.ntmps72
    go_wp2_with fail
    refine (A.out _ (HB.out _ _)).mono ?_
    rintro e w' ⟨rfl, hg⟩
    have B := Lib.hid ((HB.out _ _).trans (hg.below.mono (HB.out _ _).size))
    clear hg
    go_wp2_with fail
    go_ret
    exact ⟨rfl, B.out⟩
  | false =>
    have hc' : pcmp x y ≠ 0 := by simpa using hc
    generalize pcmp x y = c at A hc' ⊢
    clear hc
    go_enter Tryz.func72, Tryz.ntmps72
    go_wp2_with fail
    refine (A.out _ (HB.out _ _)).mono ?_
    rintro e w' ⟨rfl, hg⟩
    have B := Lib.hid ((HB.out _ _).trans (hg.below.mono (HB.out _ _).size))
    clear hg
    go_wp2_with fail
    go_ret
    exact ⟨by simp [hc'], B.out⟩
set_option maxHeartbeats 400000 in
theorem compactP_nil (c : Nat) (w : World) : Calls Tryz.prog 71 #[.slice none 0 c, .func (.func 72) #[] #[]] w fun e w' => e = .returned (.slice none 0 c) ∧ w' = w := by
  go_enter Tryz.func71, Tryz.ntmps71
  go_wp2_with fail
  go_ret
  exact ⟨rfl, rfl⟩
theorem sortP_nil (c : Nat) (fv : Value) (w : World) : Calls Tryz.prog 69 #[.slice none 0 c, fv] w fun e w' => e = .returned (.tuple #[]) ∧ w' = w := by
  have hcon := AnyF.slices_SortFunc_none Tryz.laysSoP none c fv w
  change Calls Tryz.prog 69 _ _ _ at hcon
  exact hcon
theorem compactP_els {w : World} {g cap : Nat} (d : Array (ElP w g)) (w1 : World) (hs : d.toList.Pairwise fun x y => ¬ pcmp y.t x.t < 0) (ho : Own4 w1 g 34 cap (d.toList.map ElP.qd)) (hg : w.grownBy w1 (some g)) (hlen : d.size ≤ 1000000000000) :
    Calls Tryz.prog 71 #[.slice (some ⟨g, 0, none⟩) d.size cap, .func (.func 72) #[] #[]] w1 fun e w' =>
      ∃ ys, e = .returned (.slice (some ⟨g, 0, none⟩) (pnorm (d.toList.map (·.t))).length cap) ∧ Own4 w' g 34 cap ys ∧ PP w' g ys (pnorm (d.toList.map (·.t))) ∧ w1.grownBy w' (some g) := by
  obtain ⟨q, hq⟩ := eq_qds w g
  have hcon := compactP g cap q (d.toList.map ElP.qd) w1 ho (by simpa using hlen)
    (fun x hx => by
      obtain ⟨el, _, rfl⟩ := List.mem_map.1 hx
      obtain ⟨_, a, c, hv, _⟩ := el.hs
      obtain ⟨_, a', c', hv', _⟩ := el.hs'
      exact ⟨a, _, c, _, a', _, c', _, hv, rfl, hv', rfl⟩)
    (fun W hW x hx y hy => by
      obtain ⟨ex, _, rfl⟩ := List.mem_map.1 hx
      obtain ⟨ey, _, rfl⟩ := List.mem_map.1 hy
      have k := (PP.els [ex, ey]).gb (gb_trans hg hW)
      have k0 := k.2 0 (by simp) (by simp)
      have k1 := k.2 1 (by simp) (by simp)
      have hc := set1P_any ex.v ex.v' ey.v ey.v' ex.t ey.t W (Ap.RdO.rd k0.1) (Ap.RdO.rd k0.2.2.1) (Ap.RdO.rd k1.1) (Ap.RdO.rd k1.2.2.1) ex.hl ex.hl' ey.hl ey.hl'
      rw [← hq] at hc
      exact hc)
  have e1 : cpt q (d.toList.map ElP.qd) = (cpt (fun x y : ElP w g => pcmp x.t y.t == 0) d.toList).map ElP.qd := cpt_map ElP.qd q _ hq _
  have e2 : (cpt (fun x y : ElP w g => pcmp x.t y.t == 0) d.toList).map (·.t) = pnorm (d.toList.map (·.t)) := by
    rw [← cpt_pnorm (d.toList.map (·.t)) (by rw [List.pairwise_map]; exact hs)]
    exact (cpt_map (fun x : ElP w g => x.t) (fun x y => pcmp x y == 0) _ (fun _ _ => rfl) _).symm
  rw [List.length_map, Array.length_toList] at hcon
  refine hcon.mono fun e w' ⟨he, ho', hg'⟩ => ⟨_, ?_, ho', ?_, hg'⟩
  · rw [he, e1, ← e2, List.length_map, List.length_map]
  · rw [e1, ← e2]
    exact (PP.els _).gb (gb_trans hg hg')
end Go.Proofs.YtekblibhaipioaaGreat.Mn

namespace Go.Proofs.YtekblibhaipioaaGreat.Mn
open Go Go.RowKit Tr
set_option maxRecDepth 20000
set_option maxHeartbeats 2000000 in
theorem paired5_any (T : TCon) (x y : Value) (X Y : List Pr) (w : World) (hx : PsO any w x X) (hy : PsO any w y Y) (hX : X.length ≤ 1000000000000) (hY : Y.length ≤ 1000000000000) (hrow : ∀ x ∈ X, ∀ t ∈ Y, x.p.a.length + t.p.a.length ≤ 1000000 ∧ t.q.a.length + x.q.a.length ≤ 1000000)
    (hout : (seq X Y).length ≤ 1000000000000) :
    Calls Tryz.prog 46 #[.int .i64 5, x, y] w (OutP any (seq X Y) w) := by
  have eg : ∀ args w, (callFunc 80 args).run Tryz.prog w = .ok (.enter 80 args) w := enters_of Tryz.func80 (by kernel_rfl) rfl
  have C := Lib.hid (fun ty => eachPP 80 #[.pointer (some ⟨w.heap.size, 0, none⟩)] eg any x X (seq1 Y) (w.alloc (.cells #[y] ty)) (hx.below (bel1 _ _))
    (fun wr hb t ht a a' ha ha' => by
      have hc : wr.cell? ⟨w.heap.size, 0, none⟩ = some y := by rw [hb.cell (p := ⟨w.heap.size, 0, none⟩) (by simp)]; exact box1_new _ _ _
      have hYY := (((hy.imp (ok' := fun b => any b ∧ b < (w.alloc (.cells #[y] ty)).heap.size) fun b hlt h => ⟨h, by simp; omega⟩).below (bel1 w (.cells #[y] ty))).below hb)
      exact ppot1_any T _ w.heap.size a a' y t Y wr hc ha ha' hYY hY (hrow t ht)) hX hout)
  change Hid (∀ ty, Calls _ _ _ _ (OutP any (seq X Y) _)) at C
  generalize seq X Y = L at C ⊢
  obtain ⟨_, ⟨_, a1, k1, rfl, _⟩, _⟩ := hx
  obtain ⟨_, ⟨_, a2, k2, rfl, _⟩, _⟩ := hy
  go_enter Tryz.func46, Tryz.ntmps46
  go_wp2_with fail
  refine (C.out _).mono ?_
  intro e w2 ho
  have HO := Lib.hid (ho.up (bel1 w _) fun b h => .inl h)
  obtain ⟨a4, k4, rfl, _, _⟩ := ho
  go_wp2_with fail
  go_ret
  exact HO.out
set_option maxHeartbeats 2000000 in
theorem paired7_any (T : TCon) (x y : Value) (X Y : List Pr) (w : World) (hx : PsO any w x X) (hy : PsO any w y Y) (hX : X.length ≤ 1000000000000) (hY : Y.length ≤ 1000000000000) (hrow : ∀ x ∈ X, ∀ t ∈ Y, x.p.a.length + t.p.a.length ≤ 9 ∧ x.q.a.length + t.q.a.length ≤ 9)
    (hout : (par X Y).length ≤ 1000000000000) (hin : ∀ x ∈ X, ∀ t ∈ Y, (pr x.p t.p).length ≤ 1000000000000 ∧ (pr x.q t.q).length ≤ 1000000000000) :
    Calls Tryz.prog 46 #[.int .i64 7, x, y] w (OutP any (par X Y) w) := by
  have eg : ∀ args w, (callFunc 82 args).run Tryz.prog w = .ok (.enter 82 args) w := enters_of Tryz.func82 (by kernel_rfl) rfl
  have C := Lib.hid (fun ty => eachPP 82 #[.pointer (some ⟨w.heap.size, 0, none⟩)] eg any x X (fun x => Y.flatMap (par1 x)) (w.alloc (.cells #[y] ty)) (hx.below (bel1 _ _))
    (fun wr hb t ht a a' ha ha' => by
      have hc : wr.cell? ⟨w.heap.size, 0, none⟩ = some y := by rw [hb.cell (p := ⟨w.heap.size, 0, none⟩) (by simp)]; exact box1_new _ _ _
      have hYY := (((hy.imp (ok' := fun b => any b ∧ b < (w.alloc (.cells #[y] ty)).heap.size) fun b hlt h => ⟨h, by simp; omega⟩).below (bel1 w (.cells #[y] ty))).below hb)
      exact ppot2_any T _ w.heap.size a a' y t Y wr hc ha ha' hYY hY (hrow t ht) (Nat.le_trans (flat_one (fun x => Y.flatMap (par1 x)) ht) hout) (hin t ht)) hX hout)
  change Hid (∀ ty, Calls _ _ _ _ (OutP any (par X Y) _)) at C
  generalize par X Y = L at C ⊢
  obtain ⟨_, ⟨_, a1, k1, rfl, _⟩, _⟩ := hx
  obtain ⟨_, ⟨_, a2, k2, rfl, _⟩, _⟩ := hy
  go_enter Tryz.func46, Tryz.ntmps46
  go_wp2_with fail
  refine (C.out _).mono ?_
  intro e w2 ho
  have HO := Lib.hid (ho.up (bel1 w _) fun b h => .inl h)
  obtain ⟨a4, k4, rfl, _, _⟩ := ho
  go_wp2_with fail
  go_ret
  exact HO.out
set_option maxHeartbeats 2000000 in
theorem paired6_any (x y : Value) (X Y : List Pr) (w : World) (hx : PsO any w x X) (hy : PsO any w y Y) (hXY : X.length + Y.length ≤ 1000000000000) :
    Calls Tryz.prog 46 #[.int .i64 6, x, y] w (OutP any (X ++ Y) w) := by
  have hx' := hx
  have hy' := hy
  obtain ⟨cs, hr, hc⟩ := hx
  obtain ⟨ds, hr', hc'⟩ := hy
  have HXY := Lib.hid (Cl.append EP.len hc' hc)
  have HCC := Lib.hid (fun b w1 e0 e1 (hb : Below w.heap.size w w1) => concatP_any b x y X.length Y.length cs ds w1 e0 e1 ((Ap.RdO.rd hr).below hb) ((Ap.RdO.rd hr').below hb) (Cl.cells _ EP.one hc) (Cl.cells _ EP.one hc') hXY)
  have HB := Lib.hid (fun o o' => bel2 w o o')
  obtain ⟨_, a1, k1, rfl, _⟩ := Ap.RdO.rd hr
  obtain ⟨_, a2, k2, rfl, _⟩ := Ap.RdO.rd hr'
  have hll : (X ++ Y).length = X.length + Y.length := List.length_append
  unfold OutP
  rw [hll]
  have HLL := Lib.hid hll
  clear hx' hy' hr hr' hc hc' hll
  go_enter Tryz.func46, Tryz.ntmps46
  go_wp2_with fail
  refine (HCC.out _ _ (by simp [go_sem]) (by simp [go_sem]) (HB.out _ _)).mono ?_
  rintro e w2 ⟨v, rfl, hown, hb2⟩
  have B2 := Lib.hid ((HB.out _ _).trans (hb2.mono (HB.out _ _).size))
  have HX2 := Lib.hid (Cl.imp (EP.map fun _ _ h => so_below (so_imp h (ok' := fun b => any b ∨ w.heap.size ≤ b) fun _ _ h => .inl h) B2.out) HXY.out)
  have R := Lib.hid (Ap.RdO.fresh hown)
  obtain ⟨_, a3, k3, rfl, _⟩ := Ap.Rd.owned hown
  clear hown hb2
  go_wp2_with fail
  go_ret
  refine ⟨_, _, rfl, ⟨cs ++ ds, ?_, HX2.out⟩, B2.out⟩
  rw [HLL.out]
  exact Ap.RdO.imp R.out fun _ _ _ => .inl trivial
theorem par1_in {x t : Pr} (h : x.p.a.length + t.p.a.length ≤ 9 ∧ x.q.a.length + t.q.a.length ≤ 9) : (pr x.p t.p).length ≤ 1000000000000 ∧ (pr x.q t.q).length ≤ 1000000000000 := by
  have k : ∀ i j, i + j ≤ 9 → bin i j ≤ 1000000000000 := fun i j h => by
    have h1 := fac_bin i j
    have h2 := fac_pos i
    have h3 := fac_pos j
    have h4 : fac (i + j) ≤ fac 9 := by
      obtain ⟨d, hd⟩ := Nat.exists_eq_add_of_le h
      rw [hd]
      exact fac_l _ _
    have h5 : bin i j ≤ fac i * fac j * bin i j := Nat.le_mul_of_pos_left _ (Nat.mul_pos h2 h3)
    have h6 : fac 9 ≤ 1000000000000 := by decide
    omega
  exact ⟨Nat.le_trans (pr_bin _ _) (k _ _ h.1), Nat.le_trans (pr_bin _ _) (k _ _ h.2)⟩
theorem pairedTwo_any (T : TCon) (k : Int) (hk : k = 5 ∨ k = 6 ∨ k = 7) (x y : Value) (X Y : List Pr) (w : World) (hx : PsO any w x X) (hy : PsO any w y Y) (hXY : X.length + Y.length ≤ 1000000000000) (hrow : ∀ x ∈ X, ∀ t ∈ Y, x.p.a.length + t.p.a.length ≤ 9 ∧ x.q.a.length + t.q.a.length ≤ 9)
    (hout : (twoP k X Y).length ≤ 1000000000000) : Calls Tryz.prog 46 #[.int .i64 k, x, y] w (OutP any (twoP k X Y) w) := by
  rcases hk with rfl | rfl | rfl
  · exact paired5_any T x y X Y w hx hy (by omega) (by omega) (fun x hx t ht => by have := hrow x hx t ht; omega) hout
  · exact paired6_any x y X Y w hx hy hXY
  · exact paired7_any T x y X Y w hx hy (by omega) (by omega) hrow hout (fun x hx t ht => par1_in (hrow x hx t ht))
end Go.Proofs.YtekblibhaipioaaGreat.Mn
