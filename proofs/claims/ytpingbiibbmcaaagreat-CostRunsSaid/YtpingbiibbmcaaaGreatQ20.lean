/- The program's walk through a tree: a tree. Plain: which places wait, what will end by a throw, what is beside a place. The program's settled: the walks (nothing goes on). -/
import Derived.Test.YtpingbiibbmcaaaGreatQ19
import Derived.Deep.Cut
import Derived.BigQuiet
import Derived.Deep.DeepCutAuto

namespace Go.Proofs.YtpingbiibbmcaaaGreat.Pl
open Go Go.RowKit Go.Proofs.YtpingbiibbmcaaaGreat.Rw Go.Proofs.YtpingbiibbmcaaaGreat.So Go.Proofs.YtpingbiibbmcaaaGreat.Ro
set_option maxRecDepth 20000
attribute [local go_sem] Oper.semAt_some

set_option maxHeartbeats 400000 in
theorem nodes1_tree (B l0 b off cap n0 : Nat) (l : List Nd) (W : World) (hc : W.cell? ⟨B, 0, none⟩ = some (.slice (some ⟨b, off, none⟩) l.length cap)) (hv : Nds W (.slice (some ⟨b, off, none⟩) l.length cap) l) (hat : At W b off l) (hl : l.length ≤ 4398046511104) (h0 : one l = true)
    (hn0 : n0 ≤ W.heap.size) (hb0 : b < n0) (J Jx : (Nat → Prop) → Nat → World → Prop)
    (hJ : ∀ T k A B, J T k A → (∀ t, T t → t < A.heap.size) → Turn T A B → J (more T A B) k B)
    (hY : ∀ T k args A, J T k A → k < l.length → (∀ t, T t → W.heap.size ≤ t ∧ t < A.heap.size) → Told l k args A → YieldAt .wide 0 Tryz.prog l0 args A fun e B =>
      (e = .returned (.bool true) ∧ J T (k + 1) B ∧ Keep (fun t => T t ∨ t < n0) A B) ∨ (e = .returned (.bool false) ∧ Jx T (k + 1) B))
    (hJ0 : J (fun _ => False) 0 W) :
    Calls Tryz.prog 128 #[.func (.yield l0) #[] #[], .pointer (some ⟨B, 0, none⟩)] W fun e B => (∃ v, e = .returned v) ∧ ∃ T, (J T l.length B ∨ ∃ k, k ≤ l.length ∧ Jx T k B) := by
  have HN := Lib.hid hv
  have H0 := Lib.hid h0
  have HT := Lib.hid (one_tre.1 h0)
  have HAT : Hid (∀ wr : World, (∀ t, t < n0 → wr.heap[t]? = W.heap[t]?) → At wr b off l) := Lib.hid fun wr hw k hk => by
    obtain ⟨e1, e2, e3⟩ := hat k hk
    have hbb := hw b hb0
    exact ⟨by rw [World.cell?_of_block hbb]; exact e1, by rw [World.cell?_of_block hbb]; exact e2, by rw [World.cell?_of_block hbb]; exact e3⟩
  have HJ := Lib.hid hJ
  have HY := Lib.hid hY
  have HL0 := Lib.hid hn0
  clear hv hat h0 hb0 hn0 hJ hY
  go_enter Tryz.func128, Tryz.ntmps128
  go_wp2_with fail
  refine (isTreeP_any _ l _ HN.out hl).mono ?_
  rw [H0.out]
  rintro e w1 ⟨rfl, hb⟩
  have hc1 : w1.cell? ⟨B, 0, none⟩ = some (.slice (some ⟨b, off, none⟩) l.length cap) := by rw [hb.cell (Ap.cell_lt hc)]; exact hc
  have HJ1 := Lib.hid (HJ.out _ 0 W w1 hJ0 (fun _ h => h.elim) (Turn.of_below hb))
  have HW1 : Hid (W.heap.size ≤ w1.heap.size) := hb.size
  have HLW : Hid (∀ t, t < n0 → w1.heap[t]? = W.heap[t]?) := Lib.hid fun t ht => hb.block t (by have := HL0.out; omega)
  clear hb hc hJ0
  go_wp2_with fail
  go_loopw [3, 4, 13] (fun va vo iv wr => ∃ (T : Nat → Prop) (k : Nat) (ab st : List Nat), k ≤ l.length ∧ iv = .int .i64 k ∧ Hid (J T k wr) ∧ Hid (∀ t, T t → W.heap.size ≤ t ∧ t < wr.heap.size) ∧ Hid (∀ t, t < n0 → wr.heap[t]? = W.heap[t]?) ∧ Hid (Two T wr va vo ab st) ∧ Hid (k < l.length → Op l k ab st) ∧ Hid (W.heap.size ≤ wr.heap.size) ∧ Hid (∀ y ∈ st, y ≤ 2)) (fun _ _ iv _ => l.length - (intOf iv).toNat)
  case atStart =>
    exact ⟨_, 0, [], [], Nat.zero_le _, rfl, HJ1, Lib.hid fun t h => by
      rcases h with h | h
      · exact h.elim
      · exact h, HLW, Lib.hid ⟨⟨rfl, .inl ⟨rfl, rfl⟩⟩, ⟨rfl, .inl ⟨rfl, rfl⟩⟩, fun g h => (by cases h), fun g h => (by cases h), fun g h => (by cases h)⟩, Lib.hid fun _ => Op.start HT.out, HW1, Lib.hid fun y hy => (by cases hy)⟩
  case round =>
    obtain ⟨T, k, ab, st, hk, rfl, HJk, HTb, HLk, HO, HOp, HSz, HY2⟩ := hrel
    by_cases hlt : k < l.length
    · obtain ⟨e1, e2, e3⟩ := HAT.out wr HLk.out k hlt
      have c1 : wr.cell? ⟨b, off + k * 3, none⟩ = some (.int .i64 l[k].k) := e1
      have c2 : wr.cell? ⟨b, off + k * 3 + 1, none⟩ = some (.string l[k].n) := e2
      have c3 : wr.cell? ⟨b, off + k * 3 + 2, none⟩ = some (.int .i64 l[k].s) := e3
      replace HOp := Lib.hid (HOp.out hlt)
      obtain ⟨r, hr⟩ : ∃ r : Nat, Rw.ar l[k].k = (r : Int) := ⟨(Rw.ar l[k].k).toNat, by have := ar_tree HT.out hlt; omega⟩
      have HPP := Lib.hid (HOp.out.push HT.out hlt hr rfl)
      have HLEN := Lib.hid HOp.out.len
      obtain ⟨x, hx⟩ : ∃ x, l[k] = x := ⟨_, rfl⟩
      rw [hx] at c1 c2 c3 hr
      clear hx e1 e2 e3
      have HY3 : Hid (∀ y ∈ st ++ [r], y ≤ 2) := Lib.hid fun y hy => by
        rcases List.mem_append.1 hy with h | h
        · exact HY2.out y h
        · have := (ar_le x.k).2
          rw [List.mem_singleton] at h
          omega
      have HR := Lib.hid hr
      clear hr
      obtain ⟨aa, ca, rfl⟩ := HO.out.a.slice
      obtain ⟨ao, co, rfl⟩ := HO.out.o.slice
      have hbA := below1 wr (nb x)
      have htA : Turn T wr (wr.alloc (nb x)) := Turn.of_below hbA
      have HJA := Lib.hid (HJ.out T k wr (wr.alloc (nb x)) HJk.out (fun t h => (HTb.out t h).2) htA)
      have HE : Hid (Told l k #[.int .i64 (k : Int), .slice aa ab.length ca] (wr.alloc (nb x))) := Lib.hid ⟨_, rfl, by rw [← HOp.out.eq]; exact HO.out.a.plc.below hbA⟩
      have HTA : Hid (∀ t, more T wr (wr.alloc (nb x)) t → W.heap.size ≤ t ∧ t < (wr.alloc (nb x)).heap.size) := Lib.hid fun t h => by
        have hs := HSz.out
        rw [World.size_alloc]
        rcases h with h | h
        · have := HTb.out t h; omega
        · rw [World.size_alloc] at h; omega
      obtain ⟨n, hn⟩ : ∃ n, ab.length = n := ⟨_, rfl⟩
      have hn2 : st.length = n := HLEN.out.trans hn
      have hn3 : n ≤ k := by rw [← hn, HOp.out.eq]; unfold ov; exact Nat.le_trans (List.length_filter_le _ _) (by simp)
      have HLENa := Lib.hid hn
      have HLENo := Lib.hid hn2
      rw [hn] at HO HE HPP
      rw [hn2] at HO
      obtain ⟨fn, tmps, assign, body, hy, hR⟩ := HY.out _ k _ _ HJA.out hlt HTA.out HE.out
      have HRo := Lib.hid hR
      clear hR hbA htA HLEN
      go_upto_region 5 with fail
      refine (wpIn_wide (n := 0)).1 ?_
      gi_wp2
      refine ⟨rfl, HRo.out.mono ?_⟩
      rintro e w3 (⟨rfl, hj3, hk3⟩ | ⟨rfl, hj3⟩)
      · gi_wp2
        have HJ3 := Lib.hid hj3
        obtain ⟨bn, hbn⟩ : ∃ bn, wr.heap.size = bn := ⟨_, rfl⟩
        have hmb : more T wr (wr.alloc (nb x)) bn := .inr ⟨by omega, by rw [World.size_alloc]; omega⟩
        have HCB : Hid (w3.cell? ⟨bn, 0, none⟩ = some (.int .i64 x.k)) := Lib.hid (hk3.cell (by rw [← hbn]; simp) (.inl hmb))
        have hTa : ∀ g, (Value.slice aa n ca).ownBlock = some g → more T wr (wr.alloc (nb x)) g := fun g hg => .inl (HO.out.ta g hg)
        have hTo : ∀ g, (Value.slice ao n co).ownBlock = some g → more T wr (wr.alloc (nb x)) g := fun g hg => .inl (HO.out.tq g hg)
        have hs3 : wr.heap.size + 1 ≤ w3.heap.size := by have := hk3.size; rw [World.size_alloc] at this; exact this
        have HTW : Hid (Two (more T wr (wr.alloc (nb x))) w3 (.slice aa n ca) (.slice ao n co) ab st) := Lib.hid
          ⟨(HO.out.a.turn (Turn.of_below (T := fun _ => False) (below1 wr (nb x))) (fun _ _ h => h)).keep hk3 (fun g hg => .inl (hTa g hg)), (HO.out.o.turn (Turn.of_below (T := fun _ => False) (below1 wr (nb x))) (fun _ _ h => h)).keep hk3 (fun g hg => .inl (hTo g hg)), hTa, hTo, HO.out.ne⟩
        have HSep : Hid (Sep w3 (.slice aa n ca) (.slice ao n co) bn) := Lib.hid
          ⟨fun g hg => by have := HO.out.a.lt g hg; omega, fun g hg => by have := HO.out.o.lt g hg; omega, HO.out.ne, by omega, fun h => by have := HO.out.a.lt _ h; omega, fun h => by have := HO.out.o.lt _ h; omega⟩
        have HTA3 : Hid (∀ t, more T wr (wr.alloc (nb x)) t → W.heap.size ≤ t ∧ t < w3.heap.size) := Lib.hid fun t h => by
          have h1 := HTA.out t h
          have h2 := hk3.size
          omega
        have HL3 : Hid (∀ t, t < n0 → w3.heap[t]? = W.heap[t]?) := Lib.hid fun t ht => by
          have h1 := HL0.out
          have h2 := HSz.out
          rw [hk3.block t (.inr ht), (below1 wr (nb x)).block t (by omega)]
          exact HLk.out t ht
        have HS3 : Hid (W.heap.size ≤ w3.heap.size) := by
          have h2 := HSz.out
          exact Lib.hid (by omega)
        obtain ⟨T1, hT1⟩ : ∃ T1, more T wr (wr.alloc (nb x)) = T1 := ⟨_, rfl⟩
        rw [hT1] at HJ3 HTW HTA3
        rw [hbn]
        clear hj3 hk3 hmb hTa hTo hs3 hT1 HJA HE HTA HRo hy hbn HO HJk HTb HLk HSz c1 c2 c3
        go_upto_region 6 with fail
        refine Rq.wp_region_steps (by kernel_rfl) [(0, some 23), (1, some 24), (2, some 25), (3, some 26), (4, some 27), (5, some 28), (6, some 29), (7, some 30), (8, some 31), (9, some 32), (10, some 3), (11, some 4)] (by rfl) (by kernel_rfl) (by kernel_rfl) tabN (by kernel_rfl) (by kernel_rfl) (Mn (.slice aa n ca) (.slice ao n co)) (Bs w3 (.slice aa n ca) (.slice ao n co) bn x.k) (Rn w3 (.slice aa n ca) (.slice ao n co) bn x.k k r ab st) (Nn (.slice aa n ca) (.slice ao n co) ab st) Pn (Bs.turn HSep.out) (fun i j v w w' h1 h2 h3 _ h4 h5 => Rn.turn HSep.out i j v w w' h1 h2 h3 h4 h5) (fun i j w w' h1 h2 _ h4 h5 => Nn.turn HSep.out i j w w' h1 h2 h4 h5) ?_ ?_ ?_ ⟨⟨⟨⟨⟨⟨⟨⟨⟨⟨⟨⟨True.intro, ?_⟩, ?_⟩, ?_⟩, ?_⟩, ?_⟩, ?_⟩, ?_⟩, ?_⟩, ?_⟩, ?_⟩, ?_⟩, ?_⟩ ?_
        · exact ⟨by simpa using HCB.out, Turn.of_below (Below.refl _ _).drew⟩
        · intro i v w hi
          unfold Rn
          split
          case h_13 => trivial
          all_goals exact absurd hi (by decide)
        · intro i _
          unfold Nn
          split
          case h_1 => exact HTW.out.a.turn (Turn.of_below (T := fun _ => False) (Below.refl _ _).drew) fun _ _ h => h
          case h_2 => exact HTW.out.o.turn (Turn.of_below (T := fun _ => False) (Below.refl _ _).drew) fun _ _ h => h
          all_goals trivial
        · intro o ho us wl al ha hB hN hdep hslot K hKf
          obtain rfl := Option.some.inj ho
          have hsz : w3.heap.size ≤ wl.heap.size := hB.2.size
          have e3 : al.tmps[3]?.getD undef = .slice aa n ca := by rw [← Rg.eval_getD, ha, Rg.puts_eval _ _ _ (by rfl) (show (10, some 3) ∈ [(0, some 23), (1, some 24), (2, some 25), (3, some 26), (4, some 27), (5, some 28), (6, some 29), (7, some 30), (8, some 31), (9, some 32), (10, some 3), (11, some 4)] by simp) (by simp)]; exact (hslot 10 3 (.inr (by decide)) (by simp) (by simp)).trans rfl
          clear ha hdep hslot
          refine Rg.wpOp_of rfl rfl ?_
          go_simp
          exact hKf _ _ rfl (Turn.refl _ _) (fun j u _ _ _ _ => Pn.no (by decide))
        · intro o ho us wl al ha hB hN hdep hslot K hKf
          obtain rfl := Option.some.inj ho
          have hsz : w3.heap.size ≤ wl.heap.size := hB.2.size
          have e5 : al.tmps[5]?.getD undef = .int .i64 (k : Int) := by rw [← Rg.eval_getD, ha]; exact (Rg.puts_eval_ne _ _ _ (by rfl)).trans rfl
          clear ha hdep hslot
          refine Rg.wpOp_of rfl rfl ?_
          go_simp
          exact hKf _ _ rfl (Turn.refl _ _) (fun j u _ _ _ _ => Pn.no (by decide))
        · intro o ho us wl al ha hB hN hdep hslot K hKf
          obtain rfl := Option.some.inj ho
          have hsz : w3.heap.size ≤ wl.heap.size := hB.2.size
          have d1 : (Rn w3 (.slice aa n ca) (.slice ao n co) bn x.k k r ab st) 1 (us 1) wl := hdep ⟨1, .data⟩ (by simp) rfl
          have e24 : al.tmps[24]?.getD undef = us 1 := by rw [← Rg.eval_getD, ha]; exact Rg.puts_eval _ _ _ (by rfl) (by simp) (by simp)
          clear ha hdep hslot
          have f1 : us 1 = .int .i64 (k : Int) := d1
          clear d1
          refine Rg.wpOp_of rfl rfl ?_
          go_simp
          exact hKf _ _ (On1.new k hsz) (Turn.of_below (below1 wl _)) (fun j u _ _ _ _ => Pn.no (by decide))
        · intro o ho us wl al ha hB hN hdep hslot K hKf
          obtain rfl := Option.some.inj ho
          have hsz : w3.heap.size ≤ wl.heap.size := hB.2.size
          have d0 : (Rn w3 (.slice aa n ca) (.slice ao n co) bn x.k k r ab st) 0 (us 0) wl := hdep ⟨0, .data⟩ (by simp) rfl
          have e23 : al.tmps[23]?.getD undef = us 0 := by rw [← Rg.eval_getD, ha]; exact Rg.puts_eval _ _ _ (by rfl) (by simp) (by simp)
          have d2 : (Rn w3 (.slice aa n ca) (.slice ao n co) bn x.k k r ab st) 2 (us 2) wl := hdep ⟨2, .data⟩ (by simp) rfl
          have e25 : al.tmps[25]?.getD undef = us 2 := by rw [← Rg.eval_getD, ha]; exact Rg.puts_eval _ _ _ (by rfl) (by simp) (by simp)
          clear ha hdep hslot
          have f0 : us 0 = .slice aa n ca := d0
          clear d0
          have dq : On1 w3 (us 2) (k : Int) wl := d2
          obtain ⟨v', w', hrun, hown, hg, hf⟩ := Ow.push (show Ow wl (.slice aa n ca) ab from hN) dq.rd (by rw [HLENa.out]; omega)
          refine Rg.wpOp_of rfl rfl ?_
          exact Rq.append_run _ _ _ _ rfl _ _ (by rw [Rg.eval_getD]; exact e23.trans f0) (by rw [Rg.eval_getD]; exact e25) _ w' hrun (hKf _ _ (Gr.grow hown hf hsz) (Turn.of_grownBy hg fun t h => .inl ⟨rfl, h⟩) fun j u hj _ hu _ => Pn.three HSep.out hf hu hj)
        · intro o ho us wl al ha hB hN hdep hslot K hKf
          obtain rfl := Option.some.inj ho
          have hsz : w3.heap.size ≤ wl.heap.size := hB.2.size
          have e4 : al.tmps[4]?.getD undef = .slice ao n co := by rw [← Rg.eval_getD, ha, Rg.puts_eval _ _ _ (by rfl) (show (11, some 4) ∈ [(0, some 23), (1, some 24), (2, some 25), (3, some 26), (4, some 27), (5, some 28), (6, some 29), (7, some 30), (8, some 31), (9, some 32), (10, some 3), (11, some 4)] by simp) (by simp)]; exact (hslot 11 4 (.inr (by decide)) (by simp) (by simp)).trans rfl
          clear ha hdep hslot
          refine Rg.wpOp_of rfl rfl ?_
          go_simp
          exact hKf _ _ rfl (Turn.refl _ _) (fun j u _ _ _ _ => Pn.no (by decide))
        · intro o ho us wl al ha hB hN hdep hslot K hKf
          obtain rfl := Option.some.inj ho
          have hsz : w3.heap.size ≤ wl.heap.size := hB.2.size
          have e6 : al.tmps[6]?.getD undef = .pointer (some ⟨bn, 0, none⟩) := by rw [← Rg.eval_getD, ha]; exact (Rg.puts_eval_ne _ _ _ (by rfl)).trans rfl
          clear ha hdep hslot
          refine Rg.wpOp_of rfl rfl ?_
          go_simp
          exact hKf _ _ rfl (Turn.refl _ _) (fun j u _ _ _ _ => Pn.no (by decide))
        · intro o ho us wl al ha hB hN hdep hslot K hKf
          obtain rfl := Option.some.inj ho
          have hsz : w3.heap.size ≤ wl.heap.size := hB.2.size
          have d5 : (Rn w3 (.slice aa n ca) (.slice ao n co) bn x.k k r ab st) 5 (us 5) wl := hdep ⟨5, .data⟩ (by simp) rfl
          have e28 : al.tmps[28]?.getD undef = us 5 := by rw [← Rg.eval_getD, ha]; exact Rg.puts_eval _ _ _ (by rfl) (by simp) (by simp)
          clear ha hdep hslot
          have f5 : us 5 = .pointer (some ⟨bn, 0, none⟩) := d5
          clear d5
          have hcell := hB.1
          refine Rg.wpOp_of rfl rfl ?_
          go_simp
          exact hKf _ _ rfl (Turn.refl _ _) (fun j u _ _ _ _ => Pn.no (by decide))
        · intro o ho us wl al ha hB hN hdep hslot K hKf
          obtain rfl := Option.some.inj ho
          have hsz : w3.heap.size ≤ wl.heap.size := hB.2.size
          have d6 : (Rn w3 (.slice aa n ca) (.slice ao n co) bn x.k k r ab st) 6 (us 6) wl := hdep ⟨6, .data⟩ (by simp) rfl
          have e29 : al.tmps[29]?.getD undef = us 6 := by rw [← Rg.eval_getD, ha]; exact Rg.puts_eval _ _ _ (by rfl) (by simp) (by simp)
          clear ha hdep hslot
          have f6 : us 6 = .int .i64 x.k := d6
          clear d6
          refine Rg.wpOp_of rfl rfl ?_
          go_simp
          refine (Rx.arP_eq x.k _).mono ?_
          rw [HR.out]
          rintro e w' ⟨rfl, rfl⟩
          exact hKf _ _ rfl (Turn.refl _ _) (fun j u _ _ _ _ => Pn.no (by decide))
        · intro o ho us wl al ha hB hN hdep hslot K hKf
          obtain rfl := Option.some.inj ho
          have hsz : w3.heap.size ≤ wl.heap.size := hB.2.size
          have d7 : (Rn w3 (.slice aa n ca) (.slice ao n co) bn x.k k r ab st) 7 (us 7) wl := hdep ⟨7, .data⟩ (by simp) rfl
          have e30 : al.tmps[30]?.getD undef = us 7 := by rw [← Rg.eval_getD, ha]; exact Rg.puts_eval _ _ _ (by rfl) (by simp) (by simp)
          clear ha hdep hslot
          have f7 : us 7 = .int .i64 (r : Int) := d7
          clear d7
          refine Rg.wpOp_of rfl rfl ?_
          go_simp
          exact hKf _ _ (On1.new r hsz) (Turn.of_below (below1 wl _)) (fun j u _ _ _ _ => Pn.no (by decide))
        · intro o ho us wl al ha hB hN hdep hslot K hKf
          obtain rfl := Option.some.inj ho
          have hsz : w3.heap.size ≤ wl.heap.size := hB.2.size
          have d4 : (Rn w3 (.slice aa n ca) (.slice ao n co) bn x.k k r ab st) 4 (us 4) wl := hdep ⟨4, .data⟩ (by simp) rfl
          have e27 : al.tmps[27]?.getD undef = us 4 := by rw [← Rg.eval_getD, ha]; exact Rg.puts_eval _ _ _ (by rfl) (by simp) (by simp)
          have d8 : (Rn w3 (.slice aa n ca) (.slice ao n co) bn x.k k r ab st) 8 (us 8) wl := hdep ⟨8, .data⟩ (by simp) rfl
          have e31 : al.tmps[31]?.getD undef = us 8 := by rw [← Rg.eval_getD, ha]; exact Rg.puts_eval _ _ _ (by rfl) (by simp) (by simp)
          clear ha hdep hslot
          have f4 : us 4 = .slice ao n co := d4
          clear d4
          have dq : On1 w3 (us 8) (r : Int) wl := d8
          obtain ⟨v', w', hrun, hown, hg, hf⟩ := Ow.push (show Ow wl (.slice ao n co) st from hN) dq.rd (by rw [HLENo.out]; omega)
          refine Rg.wpOp_of rfl rfl ?_
          exact Rq.append_run _ _ _ _ rfl _ _ (by rw [Rg.eval_getD]; exact e27.trans f4) (by rw [Rg.eval_getD]; exact e31) _ w' hrun (hKf _ _ (Gr.grow hown hf hsz) (Turn.of_grownBy hg fun t h => .inr ⟨rfl, h⟩) fun j u hj _ hu _ => Pn.nine HSep.out hf hu hj)
        · intro o ho us wl al ha hB hN hdep hslot K hKf
          obtain rfl := Option.some.inj ho
          have hsz : w3.heap.size ≤ wl.heap.size := hB.2.size
          have d3 : (Rn w3 (.slice aa n ca) (.slice ao n co) bn x.k k r ab st) 3 (us 3) wl := hdep ⟨3, .data⟩ (by simp) rfl
          have e26 : al.tmps[26]?.getD undef = us 3 := by rw [← Rg.eval_getD, ha]; exact Rg.puts_eval _ _ _ (by rfl) (by simp) (by simp)
          clear ha hdep hslot
          refine Rg.wpOp_of rfl rfl ?_
          go_simp
          exact hKf _ _ d3 (Turn.refl _ _) fun j u _ _ _ hd => Pn.ten fun hj => hd ⟨3, .data⟩ (by simp) rfl (Ne.symm hj)
        · intro o ho us wl al ha hB hN hdep hslot K hKf
          obtain rfl := Option.some.inj ho
          have hsz : w3.heap.size ≤ wl.heap.size := hB.2.size
          have d9 : (Rn w3 (.slice aa n ca) (.slice ao n co) bn x.k k r ab st) 9 (us 9) wl := hdep ⟨9, .data⟩ (by simp) rfl
          have e32 : al.tmps[32]?.getD undef = us 9 := by rw [← Rg.eval_getD, ha]; exact Rg.puts_eval _ _ _ (by rfl) (by simp) (by simp)
          clear ha hdep hslot
          refine Rg.wpOp_of rfl rfl ?_
          go_simp
          exact hKf _ _ d9 (Turn.refl _ _) fun j u _ _ _ hd => Pn.eleven fun hj => hd ⟨9, .data⟩ (by simp) rfl (Ne.symm hj)
        · intro us w4 hB4 hR4 hP4
          have g10 : Gr w3 (.slice aa n ca) (us 10) (ab ++ [k]) w4 := hR4 10
          have g11 : Gr w3 (.slice ao n co) (us 11) (st ++ [r]) w4 := hR4 11
          have hne : Pn 10 (us 10) 11 (us 11) := hP4 10 11 (by decide) (by decide) (by decide)
          have ht4 : Turn T1 w3 w4 := hB4.2.imp fun t h => h.elim (HTW.out.ta t) (HTW.out.tq t)
          have HJ4 := Lib.hid (HJ.out T1 (k + 1) w3 w4 HJ3.out (fun t h => (HTA3.out t h).2) ht4)
          have HTA4 : Hid (∀ t, more T1 w3 w4 t → W.heap.size ≤ t ∧ t < w4.heap.size) := Lib.hid fun t h => by
            have h2 := ht4.size
            have h3 := HS3.out
            rcases h with h | h
            · have := HTA3.out t h; omega
            · omega
          have HTW4 : Hid (Two (more T1 w3 w4) w4 (us 10) (us 11) (ab ++ [k]) (st ++ [r])) := Lib.hid
            ⟨g10.1, g11.1, fun g hg => (g10.2 g hg).elim (fun h => .inl (HTW.out.ta g h)) (fun h => .inr ⟨h, g10.1.lt g hg⟩), fun g hg => (g11.2 g hg).elim (fun h => .inl (HTW.out.tq g h)) (fun h => .inr ⟨h, g11.1.lt g hg⟩), fun g hg => hne (by omega) g hg⟩
          have HL4 : Hid (∀ t, t < n0 → w4.heap[t]? = W.heap[t]?) := Lib.hid fun t ht => by
            have h1 := HL0.out
            have h3 := HS3.out
            rw [ht4.block t (by omega) fun h => by have := HTA3.out t h; omega]
            exact HL3.out t ht
          have HS4 : Hid (W.heap.size ≤ w4.heap.size) := by
            have h2 := ht4.size
            have h3 := HS3.out
            exact Lib.hid (by omega)
          have hla : (ab ++ [k]).length = n + 1 := by simp [hn]
          have hlo : (st ++ [r]).length = n + 1 := by simp [hn2]
          obtain ⟨ga, cca, hga, hsa⟩ := g10.1.some (by omega)
          obtain ⟨go, cco, hgo, hso⟩ := g11.1.some (by omega)
          rw [hla] at hga
          rw [hlo] at hgo
          have hcapa := hsa.cap
          have hcapo := hso.cap
          rw [hla] at hcapa
          rw [hlo] at hcapo
          have ia : n + 1 ≤ cca := hcapa.1
          have io : n + 1 ≤ cco := hcapo.1
          have HSA := Lib.hid hsa
          have HSO := Lib.hid hso
          have HLA := Lib.hid hla
          have HLO := Lib.hid hlo
          obtain ⟨T2, hT2⟩ : ∃ T2, more T1 w3 w4 = T2 := ⟨_, rfl⟩
          rw [hT2] at HJ4 HTA4 HTW4
          simp only [Rg.puts, Act.put, List.setIfInBounds_toArray, List.set_cons_zero, List.set_cons_succ]
          rw [hga, hgo] at HTW4 ⊢
          have HALL : Hid (∀ w5, Below w4.heap.size w4 w5 → ∃ T3 : Nat → Prop, J T3 (k + 1) w5 ∧ (∀ t, T3 t → W.heap.size ≤ t ∧ t < w5.heap.size) ∧ (∀ t, t < n0 → w5.heap[t]? = W.heap[t]?) ∧ W.heap.size ≤ w5.heap.size ∧ Rx.Stk 0 w5 ga cca (ab ++ [k]) ∧ Rx.Stk 0 w5 go cco (st ++ [r]) ∧ T3 ga ∧ T3 go ∧ ga ≠ go) := Lib.hid fun w5 hb5 => by
            have h0 := HL0.out
            have h3 := HS4.out
            have h5 := hb5.size
            refine ⟨more T2 w4 w5, HJ.out T2 (k + 1) w4 w5 HJ4.out (fun t h => (HTA4.out t h).2) (Turn.of_below hb5), fun t h => ?_, fun t ht => ?_, by omega, Ap.own_below HSA.out hb5, Ap.own_below HSO.out hb5, .inl (HTW4.out.ta ga rfl), .inl (HTW4.out.tq go rfl), fun e => HTW4.out.ne ga rfl (by rw [e]; rfl)⟩
            · rcases h with h | h
              · have := HTA4.out t h; omega
              · omega
            · rw [hb5.block t (by omega)]
              exact HL4.out t ht
          clear hga hgo hsa hso hcapa hcapo hla hlo hne g10 g11 hR4 hP4 hB4 ht4 hT2 HTW HTA3 HL3 HJ3 HS3 HSep HCB HJ4 HTA4 HL4 HS4 HTW4 HSA
          go_wp2_with fail
          go_loopw [7] (fun lv wy => w4 = wy ∧ ∃ g2 : Nat, g2 ≤ n + 1 ∧ Hid (Pp l k g2 (ab ++ [k]) (st ++ [r])) ∧ ((g2 = 0 ∧ lv = .int .i64 (-1)) ∨ ∃ i : Nat, g2 = i + 1 ∧ lv = .int .i64 i)) (fun lv _ => (intOf lv + 1).toNat)
          case atStart => exact ⟨rfl, n + 1, Nat.le_refl _, HPP, Or.inr ⟨n, rfl, by go_num⟩⟩
          case round =>
            obtain ⟨rfl, g2, hg2, HP, ⟨rfl, rfl⟩ | ⟨i, rfl, rfl⟩⟩ := hrel
            · have HEN := Lib.hid HP.out.none
              go_wp2_with fail
              go_quiet (fail)
              obtain ⟨T3, HJ5, HTA5, HL5, HS5, HSA5, HSO5, hta, hto, hgne⟩ := HALL.out _ (Below.drewN _ _ _)
              have HST : Two T3 (w4.drewN nq) (.slice (some ⟨ga, 0, none⟩) 0 cca) (.slice (some ⟨go, 0, none⟩) 0 cco) [] [] :=
                ⟨stk_cut HSA5 0 (Nat.zero_le _), stk_cut HSO5 0 (Nat.zero_le _), fun g hg => by cases hg; exact hta, fun g hg => by cases hg; exact hto, fun g hg h => by cases hg; cases h; exact hgne rfl⟩
              replace HST := Lib.hid HST
              replace HJ5 := Lib.hid HJ5
              replace HTA5 := Lib.hid HTA5
              replace HL5 := Lib.hid HL5
              replace HS5 := Lib.hid HS5
              clear HSA5 HSO5 hta hto hgne
              go_wp2_with fail
              go_roundw
              case rel => exact ⟨T3, k + 1, [], [], by omega, by go_num, HJ5, HTA5, HL5, HST, Lib.hid fun h => absurd HEN.out (by omega), HS5, Lib.hid fun y hy => (by cases hy)⟩
              case measure => simp [intOf]; omega
            · have hi : i < (st ++ [r]).length := by rw [HLO.out]; omega
              have ci := HSO.out.cell i hi
              have HZ := Lib.hid (HP.out.zero hi)
              have HSm := Lib.hid (fun c => HP.out.some (c := c) hi)
              have HM2 : Hid ((st ++ [r])[i] ≤ 2) := Lib.hid (HY3.out _ (List.getElem_mem hi))
              obtain ⟨y, hy⟩ : ∃ y, (st ++ [r])[i] = y := ⟨_, rfl⟩
              have HYI : Hid (∀ w5, Rx.Stk 0 w5 go cco (st ++ [r]) → w5.cell? ⟨go, i, none⟩ = some (.int .i64 (y : Int))) := Lib.hid fun w5 h5 => by
                have := h5.cell i hi
                rwa [hy] at this
              rw [hy] at ci HZ HSm HM2
              clear hy hi
              cases y with
              | zero =>
                go_wp2_with fail
                go_roundw
                case rel =>
                  refine ⟨trivial, i, by omega, Lib.hid (HZ.out rfl), ?_⟩
                  cases i with
                  | zero => exact Or.inl ⟨rfl, rfl⟩
                  | succ j => exact Or.inr ⟨j, rfl, by go_num⟩
                case measure => simp [intOf]
              | succ c =>
                have hc2 : c ≤ 8 := by have := HM2.out; omega
                have HOP := Lib.hid (HSm.out c rfl)
                have hi1 : i + 1 ≤ cca := by omega
                have hi2 : i + 1 ≤ cco := by omega
                have HLC : Hid (((ab ++ [k]).take (i + 1)).length = i + 1) := by
                  show _ = _
                  rw [List.length_take, HLA.out]
                  omega
                have HLD : Hid (((st ++ [r]).take i ++ [c]).length = i + 1) := by
                  show _ = _
                  rw [List.length_append, List.length_take, HLO.out, List.length_singleton]
                  omega
                have HY5 : Hid (∀ y ∈ (st ++ [r]).take i ++ [c], y ≤ 2) := Lib.hid fun y hy => by
                  rcases List.mem_append.1 hy with h | h
                  · exact HY3.out y (List.mem_of_mem_take h)
                  · have hm := HM2.out
                    rw [List.mem_singleton] at h
                    omega
                have hwc : wrap64 ((c : Nat) : Int) = (c : Int) := by unfold wrap64; omega
                go_wp2_with fail
                go_quiet (fail)
                obtain ⟨T3, HJ5, HTA5, HL5, HS5, HSA5, HSO5, hta, hto, hgne⟩ := HALL.out _ (Below.drewN _ _ _)
                obtain ⟨w5, hw5⟩ : ∃ w5, w4.drewN nq = w5 := ⟨_, rfl⟩
                rw [hw5] at HJ5 HTA5 HL5 HS5 HSA5 HSO5 ⊢
                have c5 := HYI.out w5 HSO5
                have f5 := HSO5.soft i
                have htS : Turn T3 w5 (w5.setCell ⟨go, i, none⟩ (.int .i64 (c : Int))) := Turn.setCell hto
                have hsz5 : (w5.setCell ⟨go, i, none⟩ (.int .i64 (c : Int))).heap.size = w5.heap.size := by simp [World.setCell]
                have HJ6 := Lib.hid (HJ.out T3 (k + 1) w5 _ HJ5 (fun t h => (HTA5 t h).2) htS)
                have HTA6 : Hid (∀ t, more T3 w5 (w5.setCell ⟨go, i, none⟩ (.int .i64 (c : Int))) t → W.heap.size ≤ t ∧ t < (w5.setCell ⟨go, i, none⟩ (.int .i64 (c : Int))).heap.size) := Lib.hid fun t h => by
                  rw [hsz5]
                  rcases h with h | h
                  · exact HTA5 t h
                  · rw [hsz5] at h; omega
                have HL6 : Hid (∀ t, t < n0 → (w5.setCell ⟨go, i, none⟩ (.int .i64 (c : Int))).heap[t]? = W.heap[t]?) := Lib.hid fun t ht => by
                  have h1 := HL0.out
                  rw [htS.block t (by omega) fun h => by have := HTA5 t h; omega]
                  exact HL5 t ht
                have HS6 : Hid (W.heap.size ≤ (w5.setCell ⟨go, i, none⟩ (.int .i64 (c : Int))).heap.size) := Lib.hid (by rw [hsz5]; exact HS5)
                have HTW6 : Hid (Two (more T3 w5 (w5.setCell ⟨go, i, none⟩ (.int .i64 (c : Int)))) (w5.setCell ⟨go, i, none⟩ (.int .i64 (c : Int))) (.slice (some ⟨ga, 0, none⟩) (i + 1) cca) (.slice (some ⟨go, 0, none⟩) (i + 1) cco) ((ab ++ [k]).take (i + 1)) ((st ++ [r]).take i ++ [c])) := by
                  refine Lib.hid ⟨?_, ?_, fun g hg => by cases hg; exact .inl hta, fun g hg => by cases hg; exact .inl hto, fun g hg h => by cases hg; cases h; exact hgne rfl⟩
                  · have h1 : Ow w5 (.slice (some ⟨ga, 0, none⟩) (i + 1) cca) ((ab ++ [k]).take (i + 1)) := by
                      have h2 := stk_cut HSA5 (i + 1) (by rw [HLA.out]; omega)
                      unfold Rx.Stk at h2
                      rw [HLC.out] at h2
                      unfold Ow
                      rw [HLC.out]
                      exact h2
                    exact h1.turn (M := fun t => t = go) (Turn.setCell rfl) (fun g hg e => by cases hg; exact hgne e)
                  · have h2 := HSO5.down i c (by rw [HLO.out]; omega)
                    unfold Rx.Stk at h2
                    rw [HLD.out] at h2
                    unfold Ow
                    rw [HLD.out]
                    exact h2
                clear hgne htS hsz5 hta hto HJ5 HTA5 HL5 HS5 HSA5 HSO5 hw5
                go_wp2_with fail
                go_roundw
                case rel => exact ⟨_, k + 1, _, _, by omega, by go_num, HJ6, HTA6, HL6, HTW6, Lib.hid fun _ => HOP.out.2, HS6, HY5⟩
                case measure => simp [intOf]; omega
      · gi_wp2
        go_wp2_with fail
        refine bodyPost_ret (results_none rfl _ _ _) rfl ?_
        exact ⟨⟨_, rfl⟩, _, .inr ⟨k + 1, by omega, hj3⟩⟩
    · go_wp2_with fail
      refine bodyPost_end (results_none rfl _ _ _) rfl ?_
      exact ⟨⟨_, rfl⟩, T, .inl (by rw [show l.length = k by omega]; exact HJk.out)⟩
end Go.Proofs.YtpingbiibbmcaaaGreat.Pl

namespace Go.Proofs.YtpingbiibbmcaaaGreat.Do
open Go Go.Proofs.YtpingbiibbmcaaaGreat.Rw Go.Proofs.YtpingbiibbmcaaaGreat.So Go.Proofs.YtpingbiibbmcaaaGreat.Se Go.Proofs.YtpingbiibbmcaaaGreat.Tr Go.Proofs.YtpingbiibbmcaaaGreat.Mn

/-- The places that wait, of a tree that stands at a place. -/
def wt : Tm → Nat → List Nat
  | .act _, i => [i]
  | .yield, i => [i]
  | .alt _ _, i => [i]
  | .pair _ _, i => [i]
  | .seq a _, i => wt a (i + 1)
  | .hand a _, i => wt a (i + 1)
  | .going a _, i => wt a (i + 1)
  | .stack a _, i => wt a (i + 1)
  | .block a, i => wt a (i + 1)
  | .par a b, i => wt a (i + 1) ++ wt b (i + 1 + sz a)
  | _, _ => []
/-- Will it end by a throw? -/
def bangT : Tm → Bool
  | .over s => s == 2
  | .fin s _ => s == 2
  | .seq a _ => bangT a
  | .going a _ => bangT a
  | .stack a _ => bangT a
  | .par a b => bangT a || bangT b
  | _ => false
/-- All places that wait lie in the tree, and rise. -/
theorem wt_in : ∀ (t : Tm) (i : Nat), ∀ k ∈ wt t i, i ≤ k ∧ k < i + sz t := by
  intro t
  induction t with
  | par a b ia ib =>
    intro i k hk
    simp only [wt, List.mem_append] at hk
    simp only [sz]
    rcases hk with hk | hk
    · have := ia _ _ hk; omega
    · have := ib _ _ hk; omega
  | seq a b ia ib => intro i k hk; have := ia _ _ (by simpa [wt] using hk); simp only [sz]; omega
  | hand a b ia ib => intro i k hk; have := ia _ _ (by simpa [wt] using hk); simp only [sz]; omega
  | going a b ia ib => intro i k hk; have := ia _ _ (by simpa [wt] using hk); simp only [sz]; omega
  | stack a b ia ib => intro i k hk; have := ia _ _ (by simpa [wt] using hk); simp only [sz]; omega
  | block a ia => intro i k hk; have := ia _ _ (by simpa [wt] using hk); simp only [sz]; omega
  | skip => intro i k hk; simp [wt] at hk
  | throw => intro i k hk; simp [wt] at hk
  | over s => intro i k hk; simp [wt] at hk
  | fin s c => intro i k hk; simp [wt] at hk
  | _ => intro i k hk; simp only [wt, List.mem_singleton] at hk; simp only [sz]; omega
end Go.Proofs.YtpingbiibbmcaaaGreat.Do

namespace Go.Proofs.YtpingbiibbmcaaaGreat.Se
open Go Go.RowKit Go.Proofs.YtpingbiibbmcaaaGreat.Rw Go.Proofs.YtpingbiibbmcaaaGreat.So
set_option maxRecDepth 20000

set_option maxHeartbeats 4000000 in
/-- Where nothing goes on. -/
theorem settled_none (t res : Tm) (kk s : Int) (nm : ByteArray) (ls : List (List Nd)) (hkids : kids (flat t) = ls) (hkd : kd t = kk) (hnm : nmT t = nm) (hsg : sg t = s) (hgo : ∀ w, Calls Tryz.prog 110 #[.int .i64 kk] w fun e w' => e = .returned (.int .i64 0) ∧ w = w') (v : Value) (w : World) (hv : Nds w v (flat t)) (hcm : ∀ y w1, Rws w1 y ls → w.heap.size ≤ w1.heap.size → Calls Tryz.prog 111 #[.agg #[.int .i64 kk, .string nm, .int .i64 s], y] w1 (OutB w.heap.size res w1)) (hl : sz t ≤ 400) :
    Calls Tryz.prog 92 #[v] w (OutB w.heap.size res w) := by
  have HK : Hid (∀ w1, Below w.heap.size w w1 → Calls Tryz.prog 64 #[v] w1 (Rx.KidsOwn ls w1)) := Lib.hid fun w1 hb => by
    have h := Rx.kidsP_own v (flat t) w1 (hv.below hb) (by rw [flat_len]; omega)
    rw [hkids] at h
    exact h
  have GO := Lib.hid hgo
  have HCM := Lib.hid hcm
  obtain ⟨bb, oo, cc, rfl, hc, hlt, hw, hat⟩ := form3 hv
  obtain ⟨nn, hn⟩ : ∃ n, sz t = n + 1 := ⟨sz t - 1, by have := sz_pos t; omega⟩
  rw [hn] at hc HK ⊢
  have g3 : (1 : Int) ≤ (nn : Int) + 1 := by omega
  rw [hkd, hnm, hsg] at hw
  obtain ⟨e0, e1, e2⟩ := hw w (Below.refl _ _)
  unfold OutB
  clear hat hv hl hn hw hcm hgo hkids hkd hnm hsg
  go_enter Tryz.func92, Tryz.ntmps92
  go_upto_region 1 with fail
  go_cut [3, 4] (fun s3 s4 wx => ∃ (B : Nat), s3 = .pointer (some ⟨B, 0, none⟩) ∧ w.heap.size ≤ B ∧ BoxN wx B kk s nm ∧ Kd w.heap.size B wx s4 ls ∧ Below w.heap.size w wx)
  case first =>
    clear GO HCM
    go_region_with (first
      | (go_at_call 64
         (with_reducible refine (HK.out _ (Below.refl _ _).drew).mono ?_)
         rintro e w1 ⟨y, cs, rfl, hown, hk, hb1⟩
         have B1 := Lib.hid ((Below.refl w.heap.size w).drew.trans hb1)
         have K1 : Hid (Kd w.heap.size w1.heap.size w1 y ls) := Lib.hid (kd_of hown hk (.inr (Nat.le_refl _)))
         have c0 : w1.cell? ⟨bb, oo, none⟩ = some (.int .i64 kk) := by rw [B1.out.cell (p := ⟨bb, oo, none⟩) hlt]; exact e0
         have c1 : w1.cell? ⟨bb, oo + 1, none⟩ = some (.string nm) := by rw [B1.out.cell (p := ⟨bb, oo + 1, none⟩) hlt]; exact e1
         have c2 : w1.cell? ⟨bb, oo + 2, none⟩ = some (.int .i64 s) := by rw [B1.out.cell (p := ⟨bb, oo + 2, none⟩) hlt]; exact e2
         have hbl1 : bb < w1.heap.size := Ap.cell_lt c0
         clear hown hk hb1)
      | (go_at_call 64
         (refine (HK.out _ ((Below.refl _ _).alloc (Nat.le_refl _) _).drew).mono ?_)
         rintro e w1 ⟨y, cs, rfl, hown, hk, hb1⟩
         have B1 := Lib.hid (((Below.refl w.heap.size w).alloc (Nat.le_refl _) _).drew.trans (hb1.mono (by simp)))
         have KB : Hid (∀ u1 u2 u3 : Value, Kd w.heap.size w.heap.size (((w1.setCell ⟨w.heap.size, 0, none⟩ u1).setCell ⟨w.heap.size, 1, none⟩ u2).setCell ⟨w.heap.size, 2, none⟩ u3) y ls) := Lib.hid fun u1 u2 u3 => ((Kd.base (base' := w.heap.size) (B' := w.heap.size) (kd_of (B := w.heap.size) hown hk (.inl (by simp))) (by simp) (fun k h1 _ e => by simp at h1; omega)).setB.setB).setB
         have k0 : w1.cell? ⟨w.heap.size, 0, none⟩ = some (.int .i64 0) := by rw [hb1.cell (p := ⟨w.heap.size, 0, none⟩) (by simp)]; simp [go_sem]
         have k1 : w1.cell? ⟨w.heap.size, 1, none⟩ = some (.string ⟨#[]⟩) := by rw [hb1.cell (p := ⟨w.heap.size, 1, none⟩) (by simp)]; simp [go_sem]
         have k2 : w1.cell? ⟨w.heap.size, 2, none⟩ = some (.int .i64 0) := by rw [hb1.cell (p := ⟨w.heap.size, 2, none⟩) (by simp)]; simp [go_sem]
         have f0 : w1.frozen? ⟨w.heap.size, 0, none⟩ = false := by rw [hb1.frozen (p := ⟨w.heap.size, 0, none⟩) (by simp)]; simp [go_sem]
         have f1 : w1.frozen? ⟨w.heap.size, 1, none⟩ = false := by rw [hb1.frozen (p := ⟨w.heap.size, 1, none⟩) (by simp)]; simp [go_sem]
         have f2 : w1.frozen? ⟨w.heap.size, 2, none⟩ = false := by rw [hb1.frozen (p := ⟨w.heap.size, 2, none⟩) (by simp)]; simp [go_sem]
         have c0 : w1.cell? ⟨bb, oo, none⟩ = some (.int .i64 kk) := by rw [B1.out.cell (p := ⟨bb, oo, none⟩) hlt]; exact e0
         have c1 : w1.cell? ⟨bb, oo + 1, none⟩ = some (.string nm) := by rw [B1.out.cell (p := ⟨bb, oo + 1, none⟩) hlt]; exact e1
         have c2 : w1.cell? ⟨bb, oo + 2, none⟩ = some (.int .i64 s) := by rw [B1.out.cell (p := ⟨bb, oo + 2, none⟩) hlt]; exact e2
         have hbl1 : bb < w1.heap.size := Ap.cell_lt c0
         clear hown hk hb1)
      | fail)
    all_goals go_wp2_with fail
    all_goals go_meet
    all_goals first
      | exact ⟨_, rfl, B1.out.size, ⟨by simp, by simp, by simp⟩, K1.out.below (below1 _ _), B1.out.alloc B1.out.size _⟩
      | exact ⟨_, rfl, Nat.le_refl _, box_set k0 k1 k2, KB.out _ _ _, ((B1.out.setCell (Nat.le_refl _) _).setCell (Nat.le_refl _) _).setCell (Nat.le_refl _) _⟩
  case rest =>
    obtain ⟨B, rfl, hB, hbx, hkd, hbel⟩ := hcut
    have BB := Lib.hid hbel
    have BX := Lib.hid hbx
    have KK := Lib.hid hkd
    have HLB := Lib.hid hB
    obtain ⟨x0, x1, x2⟩ := hbx
    clear hbel HK e0 e1 e2 hB
    obtain ⟨_, ak, ck, rfl, -⟩ := id KK.out.1.rws.choose_spec.1
    clear hkd
    go_wp2_with fail
    refine (GO.out _).mono ?_
    rintro e w0 ⟨rfl, rfl⟩
    go_wp2_with fail
    refine Go.wp_loop_rounds 1 ?_
    rw [rounds_succ]
    go_wp2_with fail
    unfold OutB at HCM
    refine (HCM.out _ _ KK.out.1.rws (Nat.le_trans HLB.out (Nat.le_of_lt BX.out.lt))).mono ?_
    rintro e w2 ⟨z, rfl, hn, hb⟩
    have N2 := Lib.hid hn
    have D2 := Lib.hid (BB.out.trans (hb.mono BB.out.size))
    clear hn hb
    go_wp2_with fail
    go_ret
    exact ⟨_, rfl, N2.out, D2.out⟩
theorem settled_act (s : ByteArray) (v : Value) (w : World) (hv : Nds w v (flat (.act s))) (hl : sz (.act s) ≤ 400) :
    Calls Tryz.prog 92 #[v] w (OutB w.heap.size (.act s) w) :=
  settled_none (.act s) (.act s) 1 0 s [] (rfl) rfl rfl rfl (fun w => goOn_any (.act s) w) v w hv (fun _ _ h hb => comes_any w.heap.size 1 0 s [] (.act s) (by simp [flat]) (by decide) _ _ h (by simp) (by omega) hb) hl
theorem settled_yield  (v : Value) (w : World) (hv : Nds w v (flat .yield)) (hl : sz .yield ≤ 400) :
    Calls Tryz.prog 92 #[v] w (OutB w.heap.size (.yield) w) :=
  settled_none .yield (.yield) 4 0 ⟨#[]⟩ [] (rfl) rfl rfl rfl (fun w => goOn_any .yield w) v w hv (fun _ _ h hb => comes_any w.heap.size 4 0 ⟨#[]⟩ [] .yield (by simp [flat, nOf]) (by decide) _ _ h (by simp) (by omega) hb) hl
theorem settled_over (s : Int) (v : Value) (w : World) (hv : Nds w v (flat (.over s))) (hl : sz (.over s) ≤ 400) :
    Calls Tryz.prog 92 #[v] w (OutB w.heap.size (.over s) w) :=
  settled_none (.over s) (.over s) 11 s ⟨#[]⟩ [] (rfl) rfl rfl rfl (fun w => goOn_any (.over s) w) v w hv (fun _ _ h hb => comes_any w.heap.size 11 s ⟨#[]⟩ [] (.over s) (by simp [flat]) (by decide) _ _ h (by simp) (by omega) hb) hl
theorem settled_fin (s : Int) (c : Tm) (v : Value) (w : World) (hv : Nds w v (flat (.fin s c))) (hl : sz (.fin s c) ≤ 400) :
    Calls Tryz.prog 92 #[v] w (OutB w.heap.size (.fin s c) w) :=
  settled_none (.fin s c) (.fin s c) 14 s ⟨#[]⟩ [flat c] (kids_fin s c) rfl rfl rfl (fun w => goOn_any (.fin s c) w) v w hv (fun _ _ h hb => comes_any w.heap.size 14 s ⟨#[]⟩ [flat c] (.fin s c) (by simp [flat]) (by decide) _ _ h (by simp) (by omega) hb) hl
theorem settled_alt (a b : Tm) (v : Value) (w : World) (hv : Nds w v (flat (.alt a b))) (hl : sz (.alt a b) ≤ 400) :
    Calls Tryz.prog 92 #[v] w (OutB w.heap.size (.alt a b) w) :=
  settled_none (.alt a b) (.alt a b) 6 0 ⟨#[]⟩ [flat a, flat b] (kids_alt a b) rfl rfl rfl (fun w => goOn_any (.alt a b) w) v w hv (fun _ _ h hb => comes_any w.heap.size 6 0 ⟨#[]⟩ [flat a, flat b] (.alt a b) (by simp [flat, nOf]) (by decide) _ _ h (by simp) (by omega) hb) hl
theorem settled_pair (a b : Tm) (v : Value) (w : World) (hv : Nds w v (flat (.pair a b))) (hl : sz (.pair a b) ≤ 400) :
    Calls Tryz.prog 92 #[v] w (OutB w.heap.size (.pair a b) w) :=
  settled_none (.pair a b) (.pair a b) 10 0 ⟨#[]⟩ [flat a, flat b] (kids_pair a b) rfl rfl rfl (fun w => goOn_any (.pair a b) w) v w hv (fun _ _ h hb => comes_any w.heap.size 10 0 ⟨#[]⟩ [flat a, flat b] (.pair a b) (by simp [flat, nOf]) (by decide) _ _ h (by simp) (by omega) hb) hl
theorem settled_skip  (v : Value) (w : World) (hv : Nds w v (flat .skip)) (hl : sz .skip ≤ 400) :
    Calls Tryz.prog 92 #[v] w (OutB w.heap.size (.over 1) w) :=
  settled_none .skip (.over 1) 2 0 ⟨#[]⟩ [] (rfl) rfl rfl rfl (fun w => goOn_any .skip w) v w hv (fun _ _ h hb => comes_skip w.heap.size _ _ h hb) hl
theorem settled_throw  (v : Value) (w : World) (hv : Nds w v (flat .throw)) (hl : sz .throw ≤ 400) :
    Calls Tryz.prog 92 #[v] w (OutB w.heap.size (.over 2) w) :=
  settled_none .throw (.over 2) 3 0 ⟨#[]⟩ [] (rfl) rfl rfl rfl (fun w => goOn_any .throw w) v w hv (fun _ _ h hb => comes_throw w.heap.size _ _ h hb) hl
end Go.Proofs.YtpingbiibbmcaaaGreat.Se
