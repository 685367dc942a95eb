/- The program's Mark and Rewrite. -/
import Derived.Test.YtpkbpooiaddcaaaRfh
namespace Go.Proofs.Ytpkbpooiaddcaaa.Rf
open Go Go.RowKit Go.Maps Go.WideMaps Go.Proofs.Ytpkbpooiaddcaaa.Rw Go.Proofs.Ytpkbpooiaddcaaa.Sx
set_option maxRecDepth 20000

theorem box_at (w : World) (v : Value) (t : TypeId) {wx : World} (hb : Below (w.alloc (.cells #[v] t)).heap.size (w.alloc (.cells #[v] t)) wx) : wx.cell? ⟨w.heap.size, 0, none⟩ = some v := by
  have h : (w.alloc (.cells #[v] t)).cell? ⟨w.heap.size, 0, none⟩ = some v := by simp
  rw [hb.cell (Ap.cell_lt h)]
  exact h
set_option maxHeartbeats 2000000 in
/-- The program's Mark. -/
theorem markP_any (v : Value) (l : List Nd) (at_ : Int) (w : World) (hv : Nds w v l) (hl : l.length ≤ 300000) :
    Calls Try.prog 15 #[v, .int .i64 at_] w fun e w' => ∃ y, e = .returned y ∧ Nds w' y (mark at_ l) ∧ Below w.heap.size w w' := by
  have hmf : ∀ (fn : Fn) (first cap : Array Value) (w : World), (Instr.makeFunc fn first cap).run Try.prog w = .ok (.func fn first cap) w := fun _ _ _ _ => rfl
  have HW := Lib.hid (wrt_mrk (at_ := at_) (l := l) l.length (Nat.le_refl _))
  have HC := Lib.hid (written_any 27 #[.pointer (some ⟨w.heap.size, 0, none⟩)] (fun _ _ => by simp [go_sem]) (fun k => decide ((k : Int) = at_)) v l (w.alloc (.cells #[.int .i64 at_] 3)) (hv.below (below1 _ _)) hl
    (fun k _ wr hb => mark1_any k at_ w.heap.size wr (box_at w _ _ hb)))
  have HB := Lib.hid (below1 w (.cells #[.int .i64 at_] 3))
  obtain ⟨_, a, cap, rfl, -⟩ := hv
  go_enter Try.func15, Try.ntmps15
  go_wp2_with fail
  refine HC.out.mono ?_
  rintro e w1 ⟨y, rfl, hy, hb1⟩
  have HY := Lib.hid hy
  have HB1 := Lib.hid (HB.out.trans (hb1.mono HB.out.size))
  obtain ⟨_, ya, yc, rfl, -⟩ := hy
  clear hb1
  go_wp2_with fail
  go_ret
  exact ⟨_, rfl, by rw [show mark at_ l = _ from HW.out.symm]; exact HY.out, HB1.out⟩

theorem mkMap (n : Int) (w : World) : (Instr.makeMap 40 (some (.int .i64 n))).run Try.prog w = .ok (.map (some w.heap.size)) (w.alloc (.map #[] 0)) := by
  simp [Instr.makeMap, go_sem]
theorem map_below {w w' : World} {B n : Nat} {D : DataW Unit} (h : w.ownsMap Try.prog 9 (plainElem Try.prog 4) B n D) (hb : Below w.heap.size w w') : w'.ownsMap Try.prog 9 (plainElem Try.prog 4) B n D := by
  have hlt := h.lt
  obtain ⟨es, clock, m1, m2, m3, m4⟩ := h
  exact ⟨es, clock, by rw [hb.block B hlt]; exact m1, m2, m3, m4⟩
/-- The row in a box, and the map of the first names, in a box. -/
structure RwE (w0 : World) (a : Option Addr) (L cap k : Nat) (os : List ByteArray) (w : World) : Prop where
  bel : Below w0.heap.size w0 w
  box : w.cell? ⟨w0.heap.size, 0, none⟩ = some (.slice a L cap)
  mb : w.cell? ⟨w0.heap.size + 1 + 1, 0, none⟩ = some (.map (some (w0.heap.size + 1)))
  map : ∃ D, w.ownsMap Try.prog 9 (plainElem Try.prog 4) (w0.heap.size + 1) k D ∧ TD os D
theorem RwE.below {w0 w w' : World} {a : Option Addr} {L cap k : Nat} {os : List ByteArray} (h : RwE w0 a L cap k os w) (hb : Below w.heap.size w w') : RwE w0 a L cap k os w' := by
  obtain ⟨D, h1, h2⟩ := h.map
  exact ⟨h.bel.trans (hb.mono h.bel.size), by rw [hb.cell (Ap.cell_lt h.box)]; exact h.box, by rw [hb.cell (Ap.cell_lt h.mb)]; exact h.mb, D, map_below h1 hb, h2⟩
theorem RwE.start (w : World) (a : Option Addr) (L cap : Nat) (t t' : TypeId) : RwE w a L cap 0 [] (((w.alloc (.cells #[.slice a L cap] t)).alloc (.map #[] 0)).alloc (.cells #[.map (some (w.heap.size + 1))] t')) := by
  have hs : (w.alloc (.cells #[.slice a L cap] t)).heap.size = w.heap.size + 1 := by simp
  have h1 : (w.alloc (.cells #[.slice a L cap] t)).cell? ⟨w.heap.size, 0, none⟩ = some (.slice a L cap) := by simp
  have b1 := below1 (w.alloc (.cells #[.slice a L cap] t)) (.map #[] 0)
  have b2 := below1 ((w.alloc (.cells #[.slice a L cap] t)).alloc (.map #[] 0)) (.cells #[.map (some (w.heap.size + 1))] t')
  have b3 := b1.trans (b2.mono b1.size)
  have b0 := below1 w (.cells #[.slice a L cap] t)
  refine ⟨b0.trans (b3.mono b0.size), ?_, ?_, ?_⟩
  · rw [b3.cell (Ap.cell_lt h1)]
    exact h1
  · have : ((w.alloc (.cells #[.slice a L cap] t)).alloc (.map #[] 0)).heap.size = w.heap.size + 1 + 1 := by simp
    rw [← this, World.cell?_alloc_new]
    rfl
  · have := World.ownsMap_made (H := Unit) (w.alloc (.cells #[.slice a L cap] t)) Try.prog 9 (plainElem Try.prog 4)
    rw [hs] at this
    exact ⟨_, this.alloc _, TD.none⟩
theorem RwE.put {w0 w w' : World} {a : Option Addr} {L cap k : Nat} {os : List ByteArray} (h : RwE w0 a L cap k os w) {D' : DataW Unit} (h1 : w'.ownsMap Try.prog 9 (plainElem Try.prog 4) (w0.heap.size + 1) (k + 1) D') {s : ByteArray} (h2 : TD (os ++ [s]) D') (hg : w.grownBy w' (some (w0.heap.size + 1))) : RwE w0 a L cap (k + 1) (os ++ [s]) w' :=
  ⟨h.bel.grown hg h.bel.size (fun k hk => by injection hk with hk; omega), hg.cell h.box (fun e => by injection e with e; simp at e), hg.cell h.mb (fun e => by injection e with e; simp at e), D', h1, h2⟩
theorem any_take (names : List ByteArray) (k : Nat) (h : k < names.length) : names.take (k + 1) = names.take k ++ [names[k]] := List.take_succ_eq_append_getElem h
set_option maxHeartbeats 4000000 in
/-- The program's Rewrite. -/
theorem rewP_any (v vn : Value) (l : List Nd) (names : List ByteArray) (w : World) (hv : Nds w v l) (hl : l.length ≤ 300000) (hm : Nms l) (hn : Strs w vn names) (hnl : names.length ≤ 1000000) (hns : ∀ s ∈ names, s.size ≤ maxLen) :
    Calls Try.prog 10 #[v, vn] w fun e w' => ∃ y, e = .returned y ∧ Nds w' y (sub (inN names) l) ∧ Below w.heap.size w w' := by
  have hmf : ∀ (fn : Fn) (first cap : Array Value) (w : World), (Instr.makeFunc fn first cap).run Try.prog w = .ok (.func fn first cap) w := fun _ _ _ _ => rfl
  have hmm := mkMap
  have HV := Lib.hid hv
  have HN := Lib.hid hn
  have HM := Lib.hid hm
  have HNS := Lib.hid hns
  obtain ⟨_, a, cap, rfl, -⟩ := hv
  obtain ⟨_, na, nc, rfl, -⟩ := hn
  have HS := Lib.hid (RwE.start w a l.length cap 22 40)
  clear hm hns
  go_enter Try.func10, Try.ntmps10
  go_wp2_with fail
  go_loopw [13] (fun i wr => ∃ k : Nat, k ≤ names.length ∧ i = .int .i64 k ∧ Hid (RwE w a l.length cap k (names.take k) wr)) (fun i _ => names.length - (intOf i).toNat)
  case atStart => exact ⟨0, Nat.zero_le _, rfl, HS⟩
  case round =>
    obtain ⟨k, hk, rfl, HE⟩ := hrel
    by_cases hlt : k < names.length
    · rcases (HN.out.below HE.out.bel).form with ⟨h0, _⟩ | ⟨nb_, no, nc', he, hat⟩
      · rw [h0] at hlt
        exact absurd hlt (Nat.not_lt_zero _)
      have hna : na = some ⟨nb_, no, none⟩ := by injection he
      have c1 := hat k hlt
      have HT := Lib.hid (any_take names k hlt)
      have HSM := Lib.hid (HNS.out _ (List.getElem_mem hlt))
      obtain ⟨s, hs⟩ : ∃ s, names[k] = s := ⟨_, rfl⟩
      rw [hs] at c1 HT HSM
      clear hs hat he
      subst hna
      obtain ⟨D, m1, m2⟩ := HE.out.map
      have HD := Lib.hid m2
      have HMM := Lib.hid m1
      have c2 := HE.out.mb
      clear m1 m2
      go_wp2_with (at_mapUpdate; refine wpList_mapUpdate_own _ rfl _ _ _ 40 rfl 9 4 lawS Try.underlying40 (plainElem (H := Unit) Try.prog 4) (w.heap.size + 1) k D rfl HMM.out (by unfold maxLen; omega) _ _ _ rfl rfl (keyOf_string_mk Try.underlying9 HSM.out) _ [] (plainElem_bool Try.underlying4 true) ?_; intro w1 hown1 hgrow1)
      have HE' : Hid (RwE w a l.length cap (k + 1) (names.take (k + 1)) w1) := Lib.hid (by rw [HT.out]; exact HE.out.put hown1 (HD.out.put s) hgrow1)
      clear hown1 hgrow1
      go_wp2_with fail
      go_roundw
      case rel => exact ⟨k + 1, by omega, by go_num, HE'⟩
      case measure => simp [intOf]; omega
    · have HZ : Hid (names.take k = names) := Lib.hid (List.take_of_length_le (by omega))
      rw [HZ.out] at HE
      have c1 := HE.out.box
      have HC := Lib.hid (written_any 23 #[.pointer (some ⟨w.heap.size + 1 + 1, 0, none⟩), .pointer (some ⟨w.heap.size, 0, none⟩)] (fun _ _ => by simp [go_sem]) (fun k => (l[k]?).any fun x => inN names x.n) _ l wr (HV.out.below HE.out.bel) hl
        (fun j hj wx hb => by
          have E := HE.out.below hb
          rcases (HV.out.below E.bel).form with ⟨h0, _⟩ | ⟨b, off, c, he, _, hat⟩
          · rw [h0] at hj
            exact absurd hj (Nat.not_lt_zero _)
          · injection he with e1 e2 e3
            subst e1 e3
            obtain ⟨D, m1, m2⟩ := E.map
            rw [List.getElem?_eq_getElem hj]
            exact rew1_any b off cap w.heap.size (w.heap.size + 1 + 1) (w.heap.size + 1) l j (inN names l[j].n) wx hj hat E.box E.mb (Sx.look m1.drew m2 _ (by have := HM.out _ (List.getElem_mem hj); unfold maxLen; omega))))
      have HW := Lib.hid (wrt_sub (g := fun k => (l[k]?).any fun x => inN names x.n) (f := inN names) (l := l) (fun k hk => by simp only [List.getElem?_eq_getElem hk]; rfl) l.length (Nat.le_refl _))
      go_wp2_with fail
      refine HC.out.mono ?_
      rintro e w1 ⟨y, rfl, hy, hb1⟩
      have HB1 := Lib.hid (HE.out.bel.trans (hb1.mono HE.out.bel.size))
      rw [HW.out, List.take_length] at hy
      have HY := Lib.hid hy
      obtain ⟨_, ya, yc, rfl, -⟩ := hy
      clear hb1
      go_wp2_with fail
      go_ret
      exact ⟨_, rfl, HY.out, HB1.out⟩
end Go.Proofs.Ytpkbpooiaddcaaa.Rf
