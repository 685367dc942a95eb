/- The document's Lines of layer 9. The statements' own first look at package plot. -/
import Derived.Test.YtlipkhmidgogdaaQ08
import Derived.Test.YtlipkhmidgogdaaQ11
import Derived.ChangeKeysEq
import Derived.Laws.StructEq

namespace Go.Proofs.Ytlipkhmidgogdaa.Pl
open Go Go.RowKit Go.Proofs.Ytlipkhmidgogdaa.Rw Go.Proofs.Ytlipkhmidgogdaa.So Go.Proofs.Ytlipkhmidgogdaa.Ro
set_option maxRecDepth 20000

def M3 (vm : Value) (i t : Nat) : Prop := i = 16 ∧ vm.ownBlock = some t
def R3 (q : Nat) (A : World) (vm vp va : Value) (ab ao pb po n o k : Nat) (p1 p2 : Pnt) (P : List (Pnt × Pnt)) (i : Nat) (v : Value) (w : World) : Prop := match i with
  | 0 => v = vm
  | 1 => v = vp
  | 2 => v = va
  | 3 => v = va
  | 4 => v = .int .i64 (n + 1 : Nat)
  | 5 => v = .int .i64 (n : Nat)
  | 6 => v = .pointer (some ⟨ab, ao + n, none⟩)
  | 7 => v = .int .i64 (o : Nat)
  | 8 => v = .pointer (some ⟨pb, po + o, none⟩)
  | 9 => v = .complex .f64 (fo p1.1) (fo p1.2)
  | 10 => v = vp
  | 11 => v = .int .i64 (k : Nat)
  | 12 => v = .pointer (some ⟨pb, po + k, none⟩)
  | 13 => v = .complex .f64 (fo p2.1) (fo p2.2)
  | 14 => v = .agg #[.complex .f64 (fo p1.1) (fo p1.2), .complex .f64 (fo p2.1) (fo p2.2)]
  | 15 => New2 A v (cx p1) (cx p2) w
  | 16 => OwL q w v (P ++ [(p1, p2)])
  | 17 => OwL q w v (P ++ [(p1, p2)])
  | _ => True
def N3 (A : World) (i : Nat) (w : World) : Prop := i < 17 → Below A.heap.size A w
section
variable {q : Nat} {A : World} {vm vp va : Value} {ab ao pb po n o k : Nat} {p1 p2 : Pnt} {P : List (Pnt × Pnt)}
theorem B3.turn (i : Nat) (w w' : World) (h : Turn (fun t => vm.ownBlock = some t) A w) (ht : Turn (M3 vm i) w w') : Turn (fun t => vm.ownBlock = some t) A w' :=
  h.trans (ht.imp fun _ h => h.2)
theorem R3.turn (hm : ∀ g, vm.ownBlock = some g → g < A.heap.size) (i j : Nat) (v : Value) (w w' : World) (hij : i ≠ j) (hlt : i < 18) (hp : Rq.tab tabK j i = false) (h : R3 q A vm vp va ab ao pb po n o k p1 p2 P j v w) (ht : Turn (M3 vm i) w w') : R3 q A vm vp va ab ao pb po n o k p1 p2 P j v w' := by
  unfold R3 at h ⊢
  split at h
  case h_16 => exact h.turn ht fun g hg hx => by have := hm g hx.2; omega
  case h_17 => exact h.turn ht fun g _ hx => hij hx.1
  case h_18 =>
    exfalso
    have : ∀ i, i < 18 → i ≠ 17 → Rq.tab tabK 17 i = true := by decide
    rw [this i hlt hij] at hp
    cases hp
  all_goals exact h
theorem N3.turn (i j : Nat) (w w' : World) (hij : i ≠ j) (hp : Rq.tab tabK i j = false) (h : N3 A j w) (ht : Turn (M3 vm i) w w') : N3 A j w' := fun hj => by
  have h16 : ∀ j, j < 16 → Rq.tab tabK 16 j = true := by decide
  have hb := h hj
  refine hb.trans (ht.below hb.size fun t hx => ?_)
  exfalso
  obtain ⟨rfl, _⟩ := hx
  rw [h16 j (by omega)] at hp
  cases hp
end

set_option maxHeartbeats 400000 in
theorem linesR_any (v : Value) (l : List Nd) (w : World) (hv : Nds w v l) (hl : l.length ≤ 1000000) :
    Calls Try.prog 16 #[v] w fun e w' => ∃ y, e = .returned y ∧ Lns w' y (lns l) ∧ Below w.heap.size w w' := by
  have HN := Lib.hid hv
  obtain ⟨_, a, cap, rfl, -⟩ := hv
  go_enter Try.func16, Try.ntmps16
  go_wp2_with fail
  refine (pointsR_any _ l _ HN.out hl).mono ?_
  rintro e w1 ⟨vp, rfl, hvp, hb1⟩
  obtain ⟨np, hnp⟩ : ∃ np, (pts l).length = np := ⟨_, rfl⟩
  have hrd : rounds l = np := by rw [← hnp]; unfold pts; rw [ptsN_len]
  have HRD := Lib.hid hrd
  have hnl : np ≤ l.length := by rw [← hrd]; exact rounds_le l
  obtain ⟨ap, cp, rfl⟩ : ∃ ap cp, vp = .slice ap np cp := by
    obtain ⟨_, ap, cp, e, -⟩ := id hvp
    exact ⟨ap, cp, by rw [e, hnp]⟩
  have HVP := Lib.hid hvp
  have HB1 := Lib.hid hb1
  have HNP := Lib.hid hnp
  clear hvp hb1 hnp hrd
  go_wp2_with fail
  go_loopw [4, 5] (fun mv kv wr => ∃ (k n : Nat) (b : Option Addr) (c : Nat), Hid (k = n + 1) ∧ Hid (k ≤ np ∨ n = 0) ∧ kv = .int .i64 k ∧ mv = .slice b n c ∧ Hid (OwL w1.heap.size wr (.slice b n c) (lnsN l k)) ∧ Hid (Below w1.heap.size w1 wr)) (fun _ kv _ => np - (intOf kv).toNat)
  case atStart => exact ⟨1, 0, none, 0, Lib.hid rfl, Lib.hid (.inr rfl), rfl, rfl, Lib.hid ⟨rfl, .inl ⟨rfl, rfl⟩⟩, Lib.hid (Below.refl _ _)⟩
  case round =>
    obtain ⟨k, nn, b, c, HKN, HK, rfl, rfl, HO, HB⟩ := hrel
    by_cases hlt : k < np
    · have h1 : one l = true := by
        cases h : one l with
        | true => rfl
        | false =>
          have := HRD.out
          unfold rounds at this
          rw [h] at this
          have h0 : (0 : Nat) = np := this
          omega
      have hrl : np = l.length := by rw [← HRD.out]; unfold rounds; rw [h1]; rfl
      have hlt2 : k < l.length := by omega
      have hwb : w.heap.size ≤ w1.heap.size := HB1.out.size
      have hNr := HN.out.below (HB1.out.trans (HB.out.mono hwb))
      have HC := Lib.hid (overR_any (.slice a l.length cap) l (k : Int) wr hNr hl)
      have he : ovI l (k : Int) = ov l k := by
        rw [ovI_in h1 (by omega) (by omega), Int.toNat_natCast]
        rfl
      rw [he] at HC
      obtain ⟨hpa, hn0, hlast, -, -⟩ := par_is (one_tre.1 h1) (k := k) (by have := HKN.out; omega) hlt2
      obtain ⟨n, hn⟩ : ∃ n, (ov l k).length = n + 1 := ⟨(ov l k).length - 1, by omega⟩
      rw [hn, Nat.add_sub_cancel] at hlast
      obtain ⟨o, ho⟩ : ∃ o, par l k = o := ⟨_, rfl⟩
      rw [ho] at hpa hlast
      have hln : lnsN l (k + 1) = lnsN l k ++ [(pt l o, pt l k)] := by
        have hkn := HKN.out
        rw [hkn, lnsN_succ]
        unfold ln
        rw [← hkn, ho]
      have hlc : (lnsN l k).length = nn := by rw [lnsN_len]; have := HKN.out; omega
      have HLC := Lib.hid hlc
      have HLN := Lib.hid hln
      have HNO := Lib.hid hn
      have HLA := Lib.hid hlast
      have hnb : n ≤ 4398046511104 := by
        have : (ov l k).length ≤ k := by unfold ov; exact Nat.le_trans (List.length_filter_le _ _) (by simp)
        omega
      have HRL := Lib.hid hrl
      clear hNr he hln hlast hn0 ho hn hrl hlc
      go_wp2_with fail
      refine HC.out.mono ?_
      rintro e A ⟨va, rfl, hva, hbA⟩
      obtain ⟨ab, ao, ca, rfl, hca⟩ : ∃ ab ao ca, va = .slice (some ⟨ab, ao, none⟩) (n + 1) ca ∧ A.cell? ⟨ab, ao + n, none⟩ = some (.int .i64 (o : Nat)) := by
        obtain ⟨_, aa', ca', e, _, _, hc⟩ := id hva
        obtain ⟨ab, ao, e', hj⟩ := hc (by rw [HNO.out]; omega)
        refine ⟨ab, ao, ca', by rw [e, e', HNO.out], hj n _ (by rw [List.getElem?_map, HLA.out]; rfl)⟩
      have hbW : Below w1.heap.size w1 A := HB.out.trans (hbA.mono HB.out.size)
      have hvA : Cxs A (.slice ap np cp) (pts l) := HVP.out.below hbW
      obtain ⟨pb, po, rfl, hpc⟩ : ∃ pb po, ap = some ⟨pb, po, none⟩ ∧ ∀ j, j < l.length → A.cell? ⟨pb, po + j, none⟩ = some (cx (pt l j)) := by
        obtain ⟨_, ap', cp', e, _, _, hc⟩ := id hvA
        simp only [Value.slice.injEq] at e
        obtain ⟨rfl, _, _⟩ := e
        obtain ⟨pb, po, e, hj⟩ := hc (by rw [HNP.out]; omega)
        refine ⟨pb, po, e, fun j hj' => hj j _ ?_⟩
        unfold pts ptsN
        rw [List.getElem?_map, List.getElem?_map, HRD.out, List.getElem?_range (by rw [HRL.out]; exact hj')]
        rfl
      have hq1 := hpc o (by omega)
      have hq2 := hpc k hlt2
      obtain ⟨p1, hp1⟩ : ∃ p, pt l o = p := ⟨_, rfl⟩
      obtain ⟨p2, hp2⟩ : ∃ p, pt l k = p := ⟨_, rfl⟩
      rw [hp1] at hq1 HLN
      rw [hp2] at hq2 HLN
      have HCA : Hid (∀ wx, Below A.heap.size A wx → wx.cell? ⟨ab, ao + n, none⟩ = some (.int .i64 (o : Nat)) ∧ wx.cell? ⟨pb, po + o, none⟩ = some (.complex .f64 (fo p1.1) (fo p1.2)) ∧ wx.cell? ⟨pb, po + k, none⟩ = some (.complex .f64 (fo p2.1) (fo p2.2))) := Lib.hid fun wx hb =>
        ⟨by rw [hb.cell (Ap.cell_lt hca)]; exact hca, by rw [hb.cell (Ap.cell_lt hq1)]; exact hq1, by rw [hb.cell (Ap.cell_lt hq2)]; exact hq2⟩
      have hoA : OwL w1.heap.size A (.slice b nn c) (lnsN l k) := Ap.own_below HO.out hbA
      have HOA := Lib.hid hoA
      have HBW := Lib.hid hbW
      have HM : Hid (∀ g, (Value.slice b nn c).ownBlock = some g → g < A.heap.size) := Lib.hid fun g hg => (hoA.ge g hg).2
      have HOW : Hid (∀ g, (Value.slice b nn c).ownBlock = some g → w1.heap.size ≤ g) := Lib.hid fun g hg => (hoA.ge g hg).1
      have HSZ : Hid (w1.heap.size ≤ A.heap.size) := Lib.hid hbW.size
      have HLEN : Hid ((lnsN l k).length ≤ 2199023255552) := Lib.hid (by rw [lnsN_len]; omega)
      have i1 : (o : Int) < (np : Int) := by have := HRL.out; omega
      have i2 : (k : Int) < (np : Int) := by omega
      clear hva hbA hca hvA hpc hq1 hq2 hp1 hp2 hoA hbW
      go_upto_region 7 with fail
      refine Rq.wp_region_steps (by kernel_rfl) [(0, some 18), (1, some 19), (2, some 20), (3, some 21), (4, some 22), (5, some 23), (6, some 24), (7, some 25), (8, some 26), (9, some 27), (10, some 28), (11, some 29), (12, some 30), (13, some 31), (14, some 32), (15, some 33), (16, some 34), (17, some 4)] (by rfl) (by kernel_rfl) (by kernel_rfl) tabK (by kernel_rfl) (by kernel_rfl) (M3 (.slice b nn c)) (Turn (fun t => (Value.slice b nn c).ownBlock = some t) A) (R3 w1.heap.size A (.slice b nn c) (.slice (some ⟨pb, po, none⟩) np cp) (.slice (some ⟨ab, ao, none⟩) (n + 1) ca) ab ao pb po n o k p1 p2 (lnsN l k)) (N3 A) (fun _ _ _ _ => True) (fun i w w' h ht => B3.turn i w w' h ht) (fun i j v w w' h1 h2 h3 _ h4 h5 => R3.turn HM.out i j v w w' h1 h2 h3 h4 h5) (fun i j w w' h1 h2 _ h4 h5 => N3.turn i j w w' h1 h2 h4 h5) (Turn.of_below (Below.refl _ _).drew) (fun i v w hi => ?_) (fun i hi _ => (Below.refl _ _).drew) ⟨⟨⟨⟨⟨⟨⟨⟨⟨⟨⟨⟨⟨⟨⟨⟨⟨⟨True.intro, ?_⟩, ?_⟩, ?_⟩, ?_⟩, ?_⟩, ?_⟩, ?_⟩, ?_⟩, ?_⟩, ?_⟩, ?_⟩, ?_⟩, ?_⟩, ?_⟩, ?_⟩, ?_⟩, ?_⟩, ?_⟩ ?_
      · unfold R3
        split
        case h_19 => trivial
        all_goals exact absurd hi (by decide)
      · intro oo hoo us wl al ha hB hN hdep hslot K hKf
        obtain rfl := Option.some.inj hoo
        have e4 : al.tmps[4]?.getD undef = .slice b nn c := by rw [← Rg.eval_getD, ha, Rg.puts_eval _ _ _ (by rfl) (show (17, some 4) ∈ [(0, some 18), (1, some 19), (2, some 20), (3, some 21), (4, some 22), (5, some 23), (6, some 24), (7, some 25), (8, some 26), (9, some 27), (10, some 28), (11, some 29), (12, some 30), (13, some 31), (14, some 32), (15, some 33), (16, some 34), (17, some 4)] by simp) (by simp)]; exact (hslot 17 4 (.inr (by decide)) (by simp) (by simp)).trans rfl
        clear ha hdep hslot
        refine Rg.wpOp_of rfl rfl ?_
        go_simp
        exact hKf _ _ (rfl) (Turn.refl _ _) (fun _ _ _ _ _ _ => ⟨trivial, trivial⟩)
      · intro oo hoo us wl al ha hB hN hdep hslot K hKf
        obtain rfl := Option.some.inj hoo
        have e3 : al.tmps[3]?.getD undef = .slice (some ⟨pb, po, none⟩) np cp := by rw [← Rg.eval_getD, ha]; exact (Rg.puts_eval_ne _ _ _ (by rfl)).trans rfl
        clear ha hdep hslot
        refine Rg.wpOp_of rfl rfl ?_
        go_simp
        exact hKf _ _ (rfl) (Turn.refl _ _) (fun _ _ _ _ _ _ => ⟨trivial, trivial⟩)
      · intro oo hoo us wl al ha hB hN hdep hslot K hKf
        obtain rfl := Option.some.inj hoo
        have e6 : al.tmps[6]?.getD undef = .slice (some ⟨ab, ao, none⟩) (n + 1) ca := by rw [← Rg.eval_getD, ha]; exact (Rg.puts_eval_ne _ _ _ (by rfl)).trans rfl
        clear ha hdep hslot
        refine Rg.wpOp_of rfl rfl ?_
        go_simp
        exact hKf _ _ (rfl) (Turn.refl _ _) (fun _ _ _ _ _ _ => ⟨trivial, trivial⟩)
      · intro oo hoo us wl al ha hB hN hdep hslot K hKf
        obtain rfl := Option.some.inj hoo
        have e6 : al.tmps[6]?.getD undef = .slice (some ⟨ab, ao, none⟩) (n + 1) ca := by rw [← Rg.eval_getD, ha]; exact (Rg.puts_eval_ne _ _ _ (by rfl)).trans rfl
        clear ha hdep hslot
        refine Rg.wpOp_of rfl rfl ?_
        go_simp
        exact hKf _ _ (rfl) (Turn.refl _ _) (fun _ _ _ _ _ _ => ⟨trivial, trivial⟩)
      · intro oo hoo us wl al ha hB hN hdep hslot K hKf
        obtain rfl := Option.some.inj hoo
        have d3 : (R3 w1.heap.size A (.slice b nn c) (.slice (some ⟨pb, po, none⟩) np cp) (.slice (some ⟨ab, ao, none⟩) (n + 1) ca) ab ao pb po n o k p1 p2 (lnsN l k)) 3 (us 3) wl := hdep ⟨3, .data⟩ (by simp) rfl
        have e21 : al.tmps[21]?.getD undef = us 3 := by rw [← Rg.eval_getD, ha]; exact Rg.puts_eval _ _ _ (by rfl) (by simp) (by simp)
        clear ha hdep hslot
        have f3 : us 3 = .slice (some ⟨ab, ao, none⟩) (n + 1) ca := d3
        clear d3
        refine Rg.wpOp_of rfl rfl ?_
        go_simp
        exact hKf _ _ (rfl) (Turn.refl _ _) (fun _ _ _ _ _ _ => ⟨trivial, trivial⟩)
      · intro oo hoo us wl al ha hB hN hdep hslot K hKf
        obtain rfl := Option.some.inj hoo
        have d4 : (R3 w1.heap.size A (.slice b nn c) (.slice (some ⟨pb, po, none⟩) np cp) (.slice (some ⟨ab, ao, none⟩) (n + 1) ca) ab ao pb po n o k p1 p2 (lnsN l k)) 4 (us 4) wl := hdep ⟨4, .data⟩ (by simp) rfl
        have e22 : al.tmps[22]?.getD undef = us 4 := by rw [← Rg.eval_getD, ha]; exact Rg.puts_eval _ _ _ (by rfl) (by simp) (by simp)
        clear ha hdep hslot
        have f4 : us 4 = .int .i64 (n + 1 : Nat) := d4
        clear d4
        refine Rg.wpOp_of rfl rfl ?_
        go_simp
        exact hKf _ _ (congrArg (Value.int .i64) (by rw [IntKind.wrap_i64]; omega)) (Turn.refl _ _) (fun _ _ _ _ _ _ => ⟨trivial, trivial⟩)
      · intro oo hoo us wl al ha hB hN hdep hslot K hKf
        obtain rfl := Option.some.inj hoo
        have d2 : (R3 w1.heap.size A (.slice b nn c) (.slice (some ⟨pb, po, none⟩) np cp) (.slice (some ⟨ab, ao, none⟩) (n + 1) ca) ab ao pb po n o k p1 p2 (lnsN l k)) 2 (us 2) wl := hdep ⟨2, .data⟩ (by simp) rfl
        have e20 : al.tmps[20]?.getD undef = us 2 := by rw [← Rg.eval_getD, ha]; exact Rg.puts_eval _ _ _ (by rfl) (by simp) (by simp)
        have d5 : (R3 w1.heap.size A (.slice b nn c) (.slice (some ⟨pb, po, none⟩) np cp) (.slice (some ⟨ab, ao, none⟩) (n + 1) ca) ab ao pb po n o k p1 p2 (lnsN l k)) 5 (us 5) wl := hdep ⟨5, .data⟩ (by simp) rfl
        have e23 : al.tmps[23]?.getD undef = us 5 := by rw [← Rg.eval_getD, ha]; exact Rg.puts_eval _ _ _ (by rfl) (by simp) (by simp)
        clear ha hdep hslot
        have f2 : us 2 = .slice (some ⟨ab, ao, none⟩) (n + 1) ca := d2
        clear d2
        have f5 : us 5 = .int .i64 (n : Nat) := d5
        clear d5
        have i3 : (n : Int) < (n : Int) + 1 := by omega
        refine Rg.wpOp_of rfl rfl ?_
        go_simp
        exact hKf _ _ (rfl) (Turn.refl _ _) (fun _ _ _ _ _ _ => ⟨trivial, trivial⟩)
      · intro oo hoo us wl al ha hB hN hdep hslot K hKf
        obtain rfl := Option.some.inj hoo
        have d6 : (R3 w1.heap.size A (.slice b nn c) (.slice (some ⟨pb, po, none⟩) np cp) (.slice (some ⟨ab, ao, none⟩) (n + 1) ca) ab ao pb po n o k p1 p2 (lnsN l k)) 6 (us 6) wl := hdep ⟨6, .data⟩ (by simp) rfl
        have e24 : al.tmps[24]?.getD undef = us 6 := by rw [← Rg.eval_getD, ha]; exact Rg.puts_eval _ _ _ (by rfl) (by simp) (by simp)
        clear ha hdep hslot
        have f6 : us 6 = .pointer (some ⟨ab, ao + n, none⟩) := d6
        clear d6
        obtain ⟨q1, q2, q3⟩ := HCA.out wl (hN (by decide))
        refine Rg.wpOp_of rfl rfl ?_
        go_simp
        exact hKf _ _ (rfl) (Turn.refl _ _) (fun _ _ _ _ _ _ => ⟨trivial, trivial⟩)
      · intro oo hoo us wl al ha hB hN hdep hslot K hKf
        obtain rfl := Option.some.inj hoo
        have d1 : (R3 w1.heap.size A (.slice b nn c) (.slice (some ⟨pb, po, none⟩) np cp) (.slice (some ⟨ab, ao, none⟩) (n + 1) ca) ab ao pb po n o k p1 p2 (lnsN l k)) 1 (us 1) wl := hdep ⟨1, .data⟩ (by simp) rfl
        have e19 : al.tmps[19]?.getD undef = us 1 := by rw [← Rg.eval_getD, ha]; exact Rg.puts_eval _ _ _ (by rfl) (by simp) (by simp)
        have d7 : (R3 w1.heap.size A (.slice b nn c) (.slice (some ⟨pb, po, none⟩) np cp) (.slice (some ⟨ab, ao, none⟩) (n + 1) ca) ab ao pb po n o k p1 p2 (lnsN l k)) 7 (us 7) wl := hdep ⟨7, .data⟩ (by simp) rfl
        have e25 : al.tmps[25]?.getD undef = us 7 := by rw [← Rg.eval_getD, ha]; exact Rg.puts_eval _ _ _ (by rfl) (by simp) (by simp)
        clear ha hdep hslot
        have f1 : us 1 = .slice (some ⟨pb, po, none⟩) np cp := d1
        clear d1
        have f7 : us 7 = .int .i64 (o : Nat) := d7
        clear d7
        refine Rg.wpOp_of rfl rfl ?_
        go_simp
        exact hKf _ _ (rfl) (Turn.refl _ _) (fun _ _ _ _ _ _ => ⟨trivial, trivial⟩)
      · intro oo hoo us wl al ha hB hN hdep hslot K hKf
        obtain rfl := Option.some.inj hoo
        have d8 : (R3 w1.heap.size A (.slice b nn c) (.slice (some ⟨pb, po, none⟩) np cp) (.slice (some ⟨ab, ao, none⟩) (n + 1) ca) ab ao pb po n o k p1 p2 (lnsN l k)) 8 (us 8) wl := hdep ⟨8, .data⟩ (by simp) rfl
        have e26 : al.tmps[26]?.getD undef = us 8 := by rw [← Rg.eval_getD, ha]; exact Rg.puts_eval _ _ _ (by rfl) (by simp) (by simp)
        clear ha hdep hslot
        have f8 : us 8 = .pointer (some ⟨pb, po + o, none⟩) := d8
        clear d8
        obtain ⟨q1, q2, q3⟩ := HCA.out wl (hN (by decide))
        refine Rg.wpOp_of rfl rfl ?_
        go_simp
        exact hKf _ _ (rfl) (Turn.refl _ _) (fun _ _ _ _ _ _ => ⟨trivial, trivial⟩)
      · intro oo hoo us wl al ha hB hN hdep hslot K hKf
        obtain rfl := Option.some.inj hoo
        have e3 : al.tmps[3]?.getD undef = .slice (some ⟨pb, po, none⟩) np cp := by rw [← Rg.eval_getD, ha]; exact (Rg.puts_eval_ne _ _ _ (by rfl)).trans rfl
        clear ha hdep hslot
        refine Rg.wpOp_of rfl rfl ?_
        go_simp
        exact hKf _ _ (rfl) (Turn.refl _ _) (fun _ _ _ _ _ _ => ⟨trivial, trivial⟩)
      · intro oo hoo us wl al ha hB hN hdep hslot K hKf
        obtain rfl := Option.some.inj hoo
        have e5 : al.tmps[5]?.getD undef = .int .i64 (k : Nat) := by rw [← Rg.eval_getD, ha]; exact (Rg.puts_eval_ne _ _ _ (by rfl)).trans rfl
        clear ha hdep hslot
        refine Rg.wpOp_of rfl rfl ?_
        go_simp
        exact hKf _ _ (rfl) (Turn.refl _ _) (fun _ _ _ _ _ _ => ⟨trivial, trivial⟩)
      · intro oo hoo us wl al ha hB hN hdep hslot K hKf
        obtain rfl := Option.some.inj hoo
        have d10 : (R3 w1.heap.size A (.slice b nn c) (.slice (some ⟨pb, po, none⟩) np cp) (.slice (some ⟨ab, ao, none⟩) (n + 1) ca) ab ao pb po n o k p1 p2 (lnsN l k)) 10 (us 10) wl := hdep ⟨10, .data⟩ (by simp) rfl
        have e28 : al.tmps[28]?.getD undef = us 10 := by rw [← Rg.eval_getD, ha]; exact Rg.puts_eval _ _ _ (by rfl) (by simp) (by simp)
        have d11 : (R3 w1.heap.size A (.slice b nn c) (.slice (some ⟨pb, po, none⟩) np cp) (.slice (some ⟨ab, ao, none⟩) (n + 1) ca) ab ao pb po n o k p1 p2 (lnsN l k)) 11 (us 11) wl := hdep ⟨11, .data⟩ (by simp) rfl
        have e29 : al.tmps[29]?.getD undef = us 11 := by rw [← Rg.eval_getD, ha]; exact Rg.puts_eval _ _ _ (by rfl) (by simp) (by simp)
        clear ha hdep hslot
        have f10 : us 10 = .slice (some ⟨pb, po, none⟩) np cp := d10
        clear d10
        have f11 : us 11 = .int .i64 (k : Nat) := d11
        clear d11
        refine Rg.wpOp_of rfl rfl ?_
        go_simp
        exact hKf _ _ (rfl) (Turn.refl _ _) (fun _ _ _ _ _ _ => ⟨trivial, trivial⟩)
      · intro oo hoo us wl al ha hB hN hdep hslot K hKf
        obtain rfl := Option.some.inj hoo
        have d12 : (R3 w1.heap.size A (.slice b nn c) (.slice (some ⟨pb, po, none⟩) np cp) (.slice (some ⟨ab, ao, none⟩) (n + 1) ca) ab ao pb po n o k p1 p2 (lnsN l k)) 12 (us 12) wl := hdep ⟨12, .data⟩ (by simp) rfl
        have e30 : al.tmps[30]?.getD undef = us 12 := by rw [← Rg.eval_getD, ha]; exact Rg.puts_eval _ _ _ (by rfl) (by simp) (by simp)
        clear ha hdep hslot
        have f12 : us 12 = .pointer (some ⟨pb, po + k, none⟩) := d12
        clear d12
        obtain ⟨q1, q2, q3⟩ := HCA.out wl (hN (by decide))
        refine Rg.wpOp_of rfl rfl ?_
        go_simp
        exact hKf _ _ (rfl) (Turn.refl _ _) (fun _ _ _ _ _ _ => ⟨trivial, trivial⟩)
      · intro oo hoo us wl al ha hB hN hdep hslot K hKf
        obtain rfl := Option.some.inj hoo
        have d9 : (R3 w1.heap.size A (.slice b nn c) (.slice (some ⟨pb, po, none⟩) np cp) (.slice (some ⟨ab, ao, none⟩) (n + 1) ca) ab ao pb po n o k p1 p2 (lnsN l k)) 9 (us 9) wl := hdep ⟨9, .data⟩ (by simp) rfl
        have e27 : al.tmps[27]?.getD undef = us 9 := by rw [← Rg.eval_getD, ha]; exact Rg.puts_eval _ _ _ (by rfl) (by simp) (by simp)
        have d13 : (R3 w1.heap.size A (.slice b nn c) (.slice (some ⟨pb, po, none⟩) np cp) (.slice (some ⟨ab, ao, none⟩) (n + 1) ca) ab ao pb po n o k p1 p2 (lnsN l k)) 13 (us 13) wl := hdep ⟨13, .data⟩ (by simp) rfl
        have e31 : al.tmps[31]?.getD undef = us 13 := by rw [← Rg.eval_getD, ha]; exact Rg.puts_eval _ _ _ (by rfl) (by simp) (by simp)
        clear ha hdep hslot
        have f9 : us 9 = .complex .f64 (fo p1.1) (fo p1.2) := d9
        clear d9
        have f13 : us 13 = .complex .f64 (fo p2.1) (fo p2.2) := d13
        clear d13
        refine Rg.wpOp_of rfl rfl ?_
        go_simp
        exact hKf _ _ (rfl) (Turn.refl _ _) (fun _ _ _ _ _ _ => ⟨trivial, trivial⟩)
      · intro oo hoo us wl al ha hB hN hdep hslot K hKf
        obtain rfl := Option.some.inj hoo
        have d14 : (R3 w1.heap.size A (.slice b nn c) (.slice (some ⟨pb, po, none⟩) np cp) (.slice (some ⟨ab, ao, none⟩) (n + 1) ca) ab ao pb po n o k p1 p2 (lnsN l k)) 14 (us 14) wl := hdep ⟨14, .data⟩ (by simp) rfl
        have e32 : al.tmps[32]?.getD undef = us 14 := by rw [← Rg.eval_getD, ha]; exact Rg.puts_eval _ _ _ (by rfl) (by simp) (by simp)
        clear ha hdep hslot
        have f14 : us 14 = .agg #[.complex .f64 (fo p1.1) (fo p1.2), .complex .f64 (fo p2.1) (fo p2.2)] := d14
        clear d14
        have hszA : A.heap.size ≤ wl.heap.size := hB.size
        refine Rg.wpOp_of rfl rfl ?_
        go_simp
        exact hKf _ _ (New2.new hszA) (Turn.of_below (below1 wl _)) (fun _ _ _ _ _ _ => ⟨trivial, trivial⟩)
      · intro oo hoo us wl al ha hB hN hdep hslot K hKf
        obtain rfl := Option.some.inj hoo
        have d0 : (R3 w1.heap.size A (.slice b nn c) (.slice (some ⟨pb, po, none⟩) np cp) (.slice (some ⟨ab, ao, none⟩) (n + 1) ca) ab ao pb po n o k p1 p2 (lnsN l k)) 0 (us 0) wl := hdep ⟨0, .data⟩ (by simp) rfl
        have e18 : al.tmps[18]?.getD undef = us 0 := by rw [← Rg.eval_getD, ha]; exact Rg.puts_eval _ _ _ (by rfl) (by simp) (by simp)
        have d15 : (R3 w1.heap.size A (.slice b nn c) (.slice (some ⟨pb, po, none⟩) np cp) (.slice (some ⟨ab, ao, none⟩) (n + 1) ca) ab ao pb po n o k p1 p2 (lnsN l k)) 15 (us 15) wl := hdep ⟨15, .data⟩ (by simp) rfl
        have e33 : al.tmps[33]?.getD undef = us 15 := by rw [← Rg.eval_getD, ha]; exact Rg.puts_eval _ _ _ (by rfl) (by simp) (by simp)
        clear ha hdep hslot
        have f0 : us 0 = .slice b nn c := d0
        clear d0
        have hszA : A.heap.size ≤ wl.heap.size := hB.size
        obtain ⟨v', w', hrun, hown, hg, hf⟩ := (show OwL w1.heap.size wl (.slice b nn c) (lnsN l k) from Ap.own_below HOA.out (hN (by decide))).push (Nat.le_trans HSZ.out hszA) (show New2 A (us 15) (cx p1) (cx p2) wl from d15).rd HLEN.out
        refine Rg.wpOp_of rfl rfl ?_
        exact Rq.append_run _ _ _ _ rfl _ _ (by rw [Rg.eval_getD]; exact e18.trans f0) (by rw [Rg.eval_getD]; exact e33) _ w' hrun (hKf _ _ (hown) (Turn.of_grownBy hg fun t h => ⟨rfl, h⟩) (fun _ _ _ _ _ _ => ⟨trivial, trivial⟩))
      · intro oo hoo us wl al ha hB hN hdep hslot K hKf
        obtain rfl := Option.some.inj hoo
        have d16 : (R3 w1.heap.size A (.slice b nn c) (.slice (some ⟨pb, po, none⟩) np cp) (.slice (some ⟨ab, ao, none⟩) (n + 1) ca) ab ao pb po n o k p1 p2 (lnsN l k)) 16 (us 16) wl := hdep ⟨16, .data⟩ (by simp) rfl
        have e34 : al.tmps[34]?.getD undef = us 16 := by rw [← Rg.eval_getD, ha]; exact Rg.puts_eval _ _ _ (by rfl) (by simp) (by simp)
        clear ha hdep hslot
        refine Rg.wpOp_of rfl rfl ?_
        go_simp
        exact hKf _ _ (d16) (Turn.refl _ _) (fun _ _ _ _ _ _ => ⟨trivial, trivial⟩)
      · intro us wz hBz hRz hPz
        have hgr : OwL w1.heap.size wz (us 17) (lnsN l k ++ [(p1, p2)]) := hRz 17
        rw [← HLN.out] at hgr
        obtain ⟨b', c', hu⟩ : ∃ b' c', us 17 = .slice b' (nn + 1) c' := by
          obtain ⟨_, b', c', e, -⟩ := hgr.lns
          exact ⟨b', c', by rw [e, lnsN_len, show k + 1 - 1 = nn + 1 by have := HKN.out; omega]⟩
        rw [hu] at hgr
        have ht : Turn (fun t => (Value.slice b nn c).ownBlock = some t) A wz := hBz
        have HG := Lib.hid hgr
        have HBZ : Hid (Below w1.heap.size w1 wz) := Lib.hid (HBW.out.trans (ht.below HBW.out.size fun t h => HOW.out t h))
        simp only [Rg.puts, Act.put, List.setIfInBounds_toArray, List.set_cons_zero, List.set_cons_succ]
        rw [hu]
        clear hRz hPz hBz ht hgr hu
        go_wp2_with fail
        go_roundw
        case rel => exact ⟨k + 1, nn + 1, b', c', Lib.hid (by have := HKN.out; omega), Lib.hid (.inl (by omega)), by go_num, rfl, HG, HBZ⟩
        case measure => simp [intOf]; omega
    · have HZ : Hid (lns l = lnsN l k) := by
        show _ = _
        unfold lns
        rw [HRD.out]
        have hkn := HKN.out
        rcases HK.out with hk | hk
        · rw [show np = k by omega]
        · rw [show k = 1 by omega]
          have : np = 0 ∨ np = 1 := by omega
          rcases this with rfl | rfl
          · rfl
          · rfl
      go_wp2_with fail
      go_ret
      exact ⟨_, rfl, by rw [HZ.out]; exact HO.out.lns, HB1.out.trans (HB.out.mono HB1.out.size)⟩
end Go.Proofs.Ytlipkhmidgogdaa.Pl

namespace Go.Proofs.Ytlipkhmidgogdaa.Pl
open Go Go.RowKit Go.Proofs.Ytlipkhmidgogdaa.Rw Go.Proofs.Ytlipkhmidgogdaa.So
set_option maxRecDepth 20000

theorem infoC2 : ∃ i, Try.prog.info? 27 = some i := by
  obtain ⟨i, hi, _⟩ := info_parts infoC
  exact ⟨i, hi⟩
theorem cellsC : Try.prog.cellsOf 27 = 1 := by kernel_rfl
theorem order_same {n : Int} (h : n.natAbs < 2 ^ 53) : (FloatKind.f64.format.order (fo n) (fo n) == some .eq) = true := by rw [eq_fo h h]; exact decide_eq_true rfl
theorem eql_c (d : Nat) {f1 f2 : Nat} (w : World) (h1 : (FloatKind.f64.format.order f1 f1 == some .eq) = true) (h2 : (FloatKind.f64.format.order f2 f2 == some .eq) = true) :
    (Op.equalIn (d + 1) 27 (.complex .f64 f1 f2) (.complex .f64 f1 f2)).run Try.prog w = .ok true w := by
  simp only [Op.equalIn, Sem.run_bind, run_underlying Try.underlying27, Result.andThen_ok, if_true, Op.floatEq, h1, h2]
  rfl
theorem eqIn_l (d : Nat) {f1 f2 f3 f4 : Nat} (w : World) (h1 : (FloatKind.f64.format.order f1 f1 == some .eq) = true) (h2 : (FloatKind.f64.format.order f2 f2 == some .eq) = true) (h3 : (FloatKind.f64.format.order f3 f3 == some .eq) = true) (h4 : (FloatKind.f64.format.order f4 f4 == some .eq) = true) :
    (Op.equalIn (d + 2) 31 (.agg #[.complex .f64 f1 f2, .complex .f64 f3 f4]) (.agg #[.complex .f64 f1 f2, .complex .f64 f3 f4])).run Try.prog w = .ok true w := by
  obtain ⟨i, hi⟩ := infoC2
  rw [show d + 2 = (d + 1) + 1 from rfl, run_equalIn_array w (d + 1) _ _ Try.underlying31 hi, cellsC]
  have p0 : ∀ w, (part 27 #[.complex .f64 f1 f2, .complex .f64 f3 f4] (0 * 1)).run Try.prog w = .ok (.complex .f64 f1 f2) w := fun w => by simp [go_sem]
  have p1 : ∀ w, (part 27 #[.complex .f64 f1 f2, .complex .f64 f3 f4] (1 * 1)).run Try.prog w = .ok (.complex .f64 f3 f4) w := fun w => by simp [go_sem]
  show (Op.eqItems (d + 1) _ 1 _ _ [0, 1]).run _ _ = _
  simp only [Op.eqItems, Sem.run_bind, p0, p1, Result.andThen_ok, eql_c d _ h1 h2, eql_c d _ h3 h4, Bool.not_true, Bool.false_eq_true, if_false, Sem.run_pure]
theorem eql_l {f1 f2 f3 f4 : Nat} (w : World) (h1 : (FloatKind.f64.format.order f1 f1 == some .eq) = true) (h2 : (FloatKind.f64.format.order f2 f2 == some .eq) = true) (h3 : (FloatKind.f64.format.order f3 f3 == some .eq) = true) (h4 : (FloatKind.f64.format.order f4 f4 == some .eq) = true) :
    (binOp .eql 31 (.agg #[.complex .f64 f1 f2, .complex .f64 f3 f4]) (.agg #[.complex .f64 f1 f2, .complex .f64 f3 f4])).run Try.prog w = .ok (.bool true) w := by
  rw [run_eql_struct, show (10000 : Nat) = 9998 + 2 from rfl, eqIn_l _ _ h1 h2 h3 h4]
  rfl
theorem neq_l {f1 f2 f3 f4 : Nat} (w : World) (h1 : (FloatKind.f64.format.order f1 f1 == some .eq) = true) (h2 : (FloatKind.f64.format.order f2 f2 == some .eq) = true) (h3 : (FloatKind.f64.format.order f3 f3 == some .eq) = true) (h4 : (FloatKind.f64.format.order f4 f4 == some .eq) = true) :
    (binOp .neq 31 (.agg #[.complex .f64 f1 f2, .complex .f64 f3 f4]) (.agg #[.complex .f64 f1 f2, .complex .f64 f3 f4])).run Try.prog w = .ok (.bool false) w := by
  rw [run_neq_struct, show (10000 : Nat) = 9998 + 2 from rfl, eqIn_l _ _ h1 h2 h3 h4]
  rfl

def fewB (l : List Nd) : Bool := decide (l.length ≤ 210)
set_option maxHeartbeats 1000000 in
theorem few_any (v : Value) (l : List Nd) (w : World) (h : Nds w v l) :
    Calls Try.prog 9 #[v] w fun e w' => e = .returned (.bool (fewB l)) ∧ w = w' := by
  have hr : fewB l = decide (l.length ≤ 210) := rfl
  rw [hr]
  obtain ⟨_, a, cap, rfl, -⟩ := h
  clear hr
  go_enter Try.func9, Try.ntmps9
  go_wp2_with fail
  go_ret
  exact ⟨ret_bool (decide_eq_decide.2 (by omega)), rfl⟩

/-- Five nodes. -/
def nA : Nd := ⟨1, ⟨#[97]⟩, 0⟩
def lA : List Nd := [⟨5, ⟨#[]⟩, 0⟩, nA, ⟨6, ⟨#[]⟩, 0⟩, nA, nA]
theorem al_pts : pts lA = [(0, 0), (0, 1), (1, 1), (1, 2), (2, 2)] := by decide +kernel
theorem al_lns : lns lA = [((0, 0), (0, 1)), ((0, 0), (1, 1)), ((1, 1), (1, 2)), ((1, 1), (2, 2))] := by decide +kernel
theorem al_at : find 1 2 (pts lA) = some 3 := by decide +kernel
theorem al_no : find 2 1 (pts lA) = none := by decide +kernel
theorem al_ov : ovI lA 3 = [0, 2] := by decide +kernel
theorem al_bx : bxs lA = (3, 3) := by decide +kernel
theorem al_drop : pts (lA.drop 1) = [] := by decide +kernel
theorem fo_two : fo 2 = 4611686018427387904 := by decide +kernel
theorem fo_three : fo 3 = 4613937818241073152 := by decide +kernel
/-- The row in memory. -/
structure Alv (w0 w : World) : Prop where
  bel : Below w0.heap.size w0 w
  at' : At w (w0.heap.size + 1) 0 lA
theorem Alv.below {w0 w w' : World} (h : Alv w0 w) (hb : Below w.heap.size w w') : Alv w0 w' := ⟨h.bel.trans (hb.mono h.bel.size), fun k hk => by
  obtain ⟨e1, e2, e3⟩ := h.at' k hk
  exact ⟨by rw [hb.cell (Ap.cell_lt e1)]; exact e1, by rw [hb.cell (Ap.cell_lt e2)]; exact e2, by rw [hb.cell (Ap.cell_lt e3)]; exact e3⟩⟩
theorem Alv.l {w0 w : World} (h : Alv w0 w) : Nds w (.slice (some ⟨w0.heap.size + 1, 0, none⟩) 5 5) lA := by
  exact Rf.drop_nds h.at' (Nat.le_refl _) 0 (Nat.zero_le _)
theorem Alv.d {w0 w : World} (h : Alv w0 w) : Nds w (.slice (some ⟨w0.heap.size + 1, 3, none⟩) 4 4) (lA.drop 1) := by
  exact Rf.drop_nds h.at' (Nat.le_refl _) 1 (by decide)
theorem Alv.start (w : World) : Alv w ((w.alloc (.cells #[.int .i64 1, .string ⟨#[97]⟩, .int .i64 0] 44)).alloc (.cells #[.int .i64 5, .string ⟨#[]⟩, .int .i64 0, .int .i64 1, .string ⟨#[97]⟩, .int .i64 0, .int .i64 6, .string ⟨#[]⟩, .int .i64 0, .int .i64 1, .string ⟨#[97]⟩, .int .i64 0, .int .i64 1, .string ⟨#[97]⟩, .int .i64 0] 44)) := by
  have b1 := below1 w (.cells #[.int .i64 1, .string ⟨#[97]⟩, .int .i64 0] 44)
  have b2 := below1 (w.alloc (.cells #[.int .i64 1, .string ⟨#[97]⟩, .int .i64 0] 44)) (.cells (cls lA).toArray 44)
  have h2 := Rf.nds_new (w.alloc (.cells #[.int .i64 1, .string ⟨#[97]⟩, .int .i64 0] 44)) lA 44
  rw [World.size_alloc] at h2
  refine ⟨b1.trans (b2.mono b1.size), ?_⟩
  rcases h2.form with ⟨h0, _⟩ | ⟨b, off, cap, e, _, hat⟩
  · cases h0
  · cases e
    exact hat

set_option maxHeartbeats 4000000 in
theorem alive_any (w : World) : Calls Try.prog 10 #[] w fun e w' => e = .returned (.bool true) ∧ Below w.heap.size w w' := by
  have I := Lib.hid (Alv.start w)
  have g0 : (FloatKind.f64.format.order 0 0 == some .eq) = true := by have := order_same (n := 0) (by decide); rwa [fo_zero] at this
  have g1 : (FloatKind.f64.format.order 4607182418800017408 4607182418800017408 == some .eq) = true := by have := order_same (n := 1) (by decide); rwa [fo_one] at this
  have g2 : (FloatKind.f64.format.order 4611686018427387904 4611686018427387904 == some .eq) = true := by have := order_same (n := 2) (by decide); rwa [fo_two] at this
  have g3 : (FloatKind.f64.format.order 4613937818241073152 4613937818241073152 == some .eq) = true := by have := order_same (n := 3) (by decide); rwa [fo_three] at this
  have hql : ∀ w, (binOp .eql 31 (.agg #[.complex .f64 4607182418800017408 4607182418800017408, .complex .f64 4611686018427387904 4611686018427387904]) (.agg #[.complex .f64 4607182418800017408 4607182418800017408, .complex .f64 4611686018427387904 4611686018427387904])).run Try.prog w = .ok (.bool true) w := fun w => eql_l w g1 g1 g2 g2
  go_enter Try.func10, Try.ntmps10
  go_wp2_with fail
  refine (pointsP_any _ lA _ I.out.l (by decide)).mono ?_
  rw [al_pts]
  rintro e w1 ⟨p, rfl, hp, hb⟩
  replace I := Lib.hid (I.out.below hb)
  have HP := Lib.hid hp
  rcases hp.form with ⟨h0, _⟩ | ⟨pb, po, pc, rfl, hat⟩
  · cases h0
  clear hb hat
  go_wp2_with fail
  refine (linesP_any _ lA _ I.out.l (by decide)).mono ?_
  rw [al_lns]
  rintro e w2 ⟨m, rfl, hm, hb⟩
  replace I := Lib.hid (I.out.below hb)
  replace HP := Lib.hid (HP.out.below hb)
  have HM := Lib.hid hm
  obtain ⟨_, ma, mc, rfl, -⟩ := hm
  clear hb
  have HAt := Lib.hid (fun w3 (h : Nds w3 (.slice (some ⟨w.heap.size + 1, 0, none⟩) 5 5) lA) => atP_any _ lA 1 2 w3 h (by decide) (by decide) (by decide))
  rw [fo_one, fo_two, al_at] at HAt
  have HNo := Lib.hid (fun w3 (h : Nds w3 (.slice (some ⟨w.heap.size + 1, 0, none⟩) 5 5) lA) => atP_any _ lA 2 1 w3 h (by decide) (by decide) (by decide))
  rw [fo_one, fo_two, al_no] at HNo
  go_wp2_with fail
  refine (HAt.out _ I.out.l).mono ?_
  rintro e w3 ⟨rfl, hb⟩
  replace I := Lib.hid (I.out.below hb)
  replace HP := Lib.hid (HP.out.below hb)
  replace HM := Lib.hid (HM.out.below hb)
  unfold atV
  clear hb
  go_wp2_with fail
  refine (HNo.out _ I.out.l).mono ?_
  rintro e w4 ⟨rfl, hb⟩
  replace I := Lib.hid (I.out.below hb)
  replace HP := Lib.hid (HP.out.below hb)
  replace HM := Lib.hid (HM.out.below hb)
  unfold atV
  clear hb
  go_wp2_with fail
  refine (overP_any _ lA 3 _ I.out.l (by decide)).mono ?_
  rw [al_ov]
  rintro e w5 ⟨o, rfl, ho, hb⟩
  replace I := Lib.hid (I.out.below hb)
  replace HP := Lib.hid (HP.out.below hb)
  replace HM := Lib.hid (HM.out.below hb)
  have HO := Lib.hid ho
  rcases ho.form with ⟨h0, _⟩ | ⟨ob, oo, oc, rfl, hoc⟩
  · cases h0
  have c1 : w5.cell? ⟨ob, oo + 1, none⟩ = some (.int .i64 2) := hoc 1 (by decide)
  rcases HP.out.form with ⟨h0, _⟩ | ⟨pb', po', pc', e, hpc⟩
  · cases h0
  cases e
  have p0 : w5.cell? ⟨pb, po, none⟩ = some (.complex .f64 0 0) := by
    have h : w5.cell? ⟨pb, po, none⟩ = some (.complex .f64 (fo 0) (fo 0)) := hpc 0 (by decide)
    rwa [fo_zero] at h
  have p2 : w5.cell? ⟨pb, po + 2, none⟩ = some (.complex .f64 4607182418800017408 4607182418800017408) := by
    have h : w5.cell? ⟨pb, po + 2, none⟩ = some (.complex .f64 (fo 1) (fo 1)) := hpc 2 (by decide)
    rwa [fo_one] at h
  have p4 : w5.cell? ⟨pb, po + 4, none⟩ = some (.complex .f64 4611686018427387904 4611686018427387904) := by
    have h : w5.cell? ⟨pb, po + 4, none⟩ = some (.complex .f64 (fo 2) (fo 2)) := hpc 4 (by decide)
    rwa [fo_two] at h
  obtain ⟨mb, mo, rfl, m6, m7⟩ : ∃ mb mo, ma = some ⟨mb, mo, none⟩ ∧ w5.cell? ⟨mb, mo + 6, none⟩ = some (.complex .f64 4607182418800017408 4607182418800017408) ∧ w5.cell? ⟨mb, mo + 6 + 1, none⟩ = some (.complex .f64 4611686018427387904 4611686018427387904) := by
    obtain ⟨_, ma', mc', e, _, _, hc⟩ := HM.out
    cases e
    obtain ⟨mb, mo, e, hj⟩ := hc (by decide)
    refine ⟨mb, mo, e, ?_, ?_⟩
    · rw [← fo_one]; exact hj 6 _ rfl
    · rw [← fo_two]; exact hj 7 _ rfl
  clear hoc hpc hb HO HM HP HAt HNo
  go_wp2_with fail
  refine (boxP_any _ lA _ I.out.l (by decide)).mono ?_
  rw [al_bx]
  unfold cx
  rw [show fo ((3 : Nat) : Int) = 4613937818241073152 from fo_three]
  rintro e w6 ⟨rfl, hb⟩
  replace I := Lib.hid (I.out.below hb)
  have c1' : w6.cell? ⟨ob, oo + 1, none⟩ = some (.int .i64 2) := by rw [hb.cell (Ap.cell_lt c1)]; exact c1
  have HTn := Lib.hid (fun w3 => turnP_any 0 1 3 3 w3 (by decide) (by decide))
  rw [fo_zero, fo_one, fo_three, show fo (3 - 1 - 0) = 4611686018427387904 from fo_two] at HTn
  clear hb p0 p2 p4 m6 m7 c1
  go_wp2_with fail
  refine (HTn.out _).mono ?_
  rintro e w7 ⟨rfl, rfl⟩
  clear HTn
  go_wp2_with fail
  refine (pointsP_any _ (lA.drop 1) _ I.out.d (by decide)).mono ?_
  rw [al_drop]
  rintro e w8 ⟨y, rfl, hy, hb⟩
  replace I := Lib.hid (I.out.below hb)
  obtain ⟨_, ya, yc, rfl, -⟩ := hy
  clear hb
  go_wp2_with fail
  go_ret
  exact ⟨rfl, I.out.bel⟩
end Go.Proofs.Ytlipkhmidgogdaa.Pl
