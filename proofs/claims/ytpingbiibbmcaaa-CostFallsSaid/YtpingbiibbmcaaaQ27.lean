/- The program's done and after: the walks. The document's Same and Pick: the walks. The program's Of: the walk. CostNumbers, CostOrder, CostCrashes: the walks. A map whose elements read as themselves; an entry set by a composite literal. The document's Digits, word, Text: the walks. slices.Index and slices.Contains over moves: the walks. The document's Next, Refuse: the walks. The program's tree, Most, Least, Crashed: the walks. -/
import Derived.Test.YtpingbiibbmcaaaQ26
import Derived.Test.YtpingbiibbmcaaaQ24
import Derived.Test.YtpingbiibbmcaaaQ06
import Derived.Laws.ResultCell
import Derived.Laws.Rows
import Derived.Maps.Views
import Derived.Maps.OwnOps
import Derived.Deep.DeepCutAuto
import Derived.Lib.ItoaLen
import Derived.Deep.QuietTactic
import Derived.BigQuiet
import Derived.Test.YtpingbiibbmcaaaQ25
import Derived.Test.YtpingbiibbmcaaaQ03
import Derived.OwnWalk
import Derived.Test.YtpingbiibbmcaaaQ09
import Derived.Test.YtpingbiibbmcaaaQ05
import Derived.Test.YtpingbiibbmcaaaQ21
import Derived.Test.YtpingbiibbmcaaaQ13

namespace Go.Proofs.Ytpingbiibbmcaaa.St
open Go Go.RowKit Go.Proofs.Ytpingbiibbmcaaa.Rw Go.Proofs.Ytpingbiibbmcaaa.So Go.Proofs.Ytpingbiibbmcaaa.Se Go.Proofs.Ytpingbiibbmcaaa.Do Go.Proofs.Ytpingbiibbmcaaa.Sp Go.Proofs.Ytpingbiibbmcaaa.Me
set_option maxRecDepth 20000

/-- What stands in the place of a tree of that kind, told by its kids. -/
def mdK (ls : List (List Nd)) (kk h : Int) : List Nd :=
  if h = 2 then ls.getD 0 [] else if h = 3 then ls.getD 1 [] else if h = 4 ∧ kk = 10 then nOf 12 :: (ls.getD 0 [] ++ ls.getD 1 []) else if h = 5 ∧ kk = 10 then [nEnd 3, nOf 2] else if h = 5 then [⟨11, ⟨#[]⟩, 3⟩] else [⟨11, ⟨#[]⟩, 1⟩]
theorem mdR_K (L : List Nd) (h : Int) : mdR L h = mdK (kids L) (kn L 0) h := rfl
/-- The ways of the kinds. -/
def Way (kk h : Int) : Prop := (kk = 1 ∧ h = 1) ∨ (kk = 4 ∧ h = 4) ∨ (kk = 4 ∧ h = 5) ∨ (kk = 6 ∧ h = 2) ∨ (kk = 6 ∧ h = 3) ∨ (kk = 10 ∧ h = 4) ∨ (kk = 10 ∧ h = 5)
set_option maxHeartbeats 2000000 in
theorem done_kid (kk : Int) (k : Nat) (h : Int) (hh : (h = 2 ∧ k = 0) ∨ (h = 3 ∧ k = 1)) (ls : List (List Nd)) (w : World) (h2 : ls.length = 2) :
    Calls Try.prog 36 #[.int .i64 kk, .int .i64 h] w (OutF w ls (ls.getD k [])) := by
  have HK := Lib.hid (fun w1 => kid_any k ls w1 (by omega))
  unfold OutF at *
  rcases hh with ⟨rfl, rfl⟩ | ⟨rfl, rfl⟩
  all_goals
    clear h2
    go_enter Try.func36, Try.ntmps36
    go_wp2_with fail
    refine (HK.out _).mono ?_
    rintro e w1 ⟨f, rfl, hf, hb⟩
    have D := Lib.hid hb
    have F := Lib.hid hf
    obtain ⟨fn, caps, rfl, -⟩ := id hf
    clear hb hf
    go_wp2_with fail
    go_ret
    exact ⟨_, rfl, F.out, D.out⟩
set_option maxHeartbeats 2000000 in
theorem done_begun (ls : List (List Nd)) (w : World) (h2 : ls.length = 2) (hf : ls.flatten.length ≤ 1000000) :
    Calls Try.prog 36 #[.int .i64 10, .int .i64 4] w (OutF w ls (nOf 12 :: (ls.getD 0 [] ++ ls.getD 1 []))) := by
  have eg : ∀ args w, (callFunc 55 args).run Try.prog w = .ok (.enter 55 args) w := enters_of Try.func55 (by kernel_rfl) rfl
  have e : nOf 12 :: (ls.getD 0 [] ++ ls.getD 1 []) = nOf 12 :: ls.flatten := by
    obtain ⟨a, b, rfl⟩ : ∃ a b, ls = [a, b] := by
      match ls, h2 with
      | [a, b], _ => exact ⟨a, b, rfl⟩
    simp
  rw [e]
  have F : Hid (FnV w (.func (.func 55) #[] #[]) ls (nOf 12 :: ls.flatten)) := Lib.hid ⟨_, _, rfl, eg, fun w1 y _ hy => begun_any y ls w1 hy (by omega) hf⟩
  clear eg e h2 hf
  unfold OutF
  go_enter Try.func36, Try.ntmps36
  go_wp2_with fail
  go_ret
  exact ⟨_, rfl, F.out, Below.refl _ _⟩
set_option maxHeartbeats 2000000 in
theorem done_leaf (kk h sg : Int) (hh : (kk = 1 ∧ h = 1 ∧ sg = 1) ∨ (kk = 4 ∧ h = 4 ∧ sg = 1) ∨ (kk = 4 ∧ h = 5 ∧ sg = 3)) (ls : List (List Nd)) (w : World) :
    Calls Try.prog 36 #[.int .i64 kk, .int .i64 h] w (OutF w ls [⟨11, ⟨#[]⟩, sg⟩]) := by
  have HA := Lib.hid (fun s w1 hs => always_any s [⟨11, ⟨#[]⟩, sg⟩] ls w1 hs)
  have N := Lib.hid (Se.nds_new w [⟨11, ⟨#[]⟩, sg⟩] 37)
  have B := Lib.hid (below1 w (.cells (cls [(⟨11, ⟨#[]⟩, sg⟩ : Nd)]).toArray 37))
  unfold OutF at *
  rcases hh with ⟨rfl, rfl, rfl⟩ | ⟨rfl, rfl, rfl⟩ | ⟨rfl, rfl, rfl⟩
  all_goals
    go_enter Try.func36, Try.ntmps36
    go_wp2_with fail
    refine (HA.out _ _ N.out).mono ?_
    rintro e w1 ⟨f, rfl, hf, hb⟩
    have D := Lib.hid (B.out.trans (hb.mono B.out.size))
    have F := Lib.hid hf
    obtain ⟨fn, caps, rfl, -⟩ := id hf
    clear hb hf
    go_wp2_with fail
    go_ret
    exact ⟨_, rfl, F.out, D.out⟩
set_option maxHeartbeats 2000000 in
theorem done_stop (ls : List (List Nd)) (w : World) :
    Calls Try.prog 36 #[.int .i64 10, .int .i64 5] w (OutF w ls [nEnd 3, nOf 2]) := by
  have HA := Lib.hid (fun s w1 hs => always_any s [nEnd 3, nOf 2] ls w1 hs)
  have N := Lib.hid (Se.nds_new w [nEnd 3, nOf 2] 37)
  have B := Lib.hid (below1 w (.cells (cls [nEnd 3, nOf 2]).toArray 37))
  unfold OutF at *
  go_enter Try.func36, Try.ntmps36
  go_wp2_with fail
  refine (HA.out _ _ N.out).mono ?_
  rintro e w1 ⟨f, rfl, hf, hb⟩
  have D := Lib.hid (B.out.trans (hb.mono B.out.size))
  have F := Lib.hid hf
  obtain ⟨fn, caps, rfl, -⟩ := id hf
  clear hb hf
  go_wp2_with fail
  go_ret
  exact ⟨_, rfl, F.out, D.out⟩
theorem done_any (kk h : Int) (hh : Way kk h) (ls : List (List Nd)) (w : World) (h2 : kk ≠ 1 → kk ≠ 4 → ls.length = 2) (hf : ls.flatten.length ≤ 1000000) :
    Calls Try.prog 36 #[.int .i64 kk, .int .i64 h] w (OutF w ls (mdK ls kk h)) := by
  rcases hh with ⟨rfl, rfl⟩ | ⟨rfl, rfl⟩ | ⟨rfl, rfl⟩ | ⟨rfl, rfl⟩ | ⟨rfl, rfl⟩ | ⟨rfl, rfl⟩ | ⟨rfl, rfl⟩
  · exact done_leaf 1 1 1 (.inl ⟨rfl, rfl, rfl⟩) ls w
  · exact done_leaf 4 4 1 (.inr (.inl ⟨rfl, rfl, rfl⟩)) ls w
  · exact done_leaf 4 5 3 (.inr (.inr ⟨rfl, rfl, rfl⟩)) ls w
  · exact done_kid 6 0 2 (.inl ⟨rfl, rfl⟩) ls w (h2 (by decide) (by decide))
  · exact done_kid 6 1 3 (.inr ⟨rfl, rfl⟩) ls w (h2 (by decide) (by decide))
  · exact done_begun ls w (h2 (by decide) (by decide)) hf
  · exact done_stop ls w
theorem kids_rws (v : Value) (l : List Nd) (w : World) (hv : Nds w v l) (hl : l.length ≤ 1000000) :
    Calls Try.prog 53 #[v] w fun e w' => ∃ y, e = .returned y ∧ Rws w' y (kids l) ∧ Below w.heap.size w w' := by
  refine (Rx.kidsP_any v l w hv hl).mono ?_
  rintro e w' ⟨y, cs, rfl, h1, h2, hb⟩
  exact ⟨y, rfl, ⟨cs, h1.rd, h2.rwc⟩, hb⟩
set_option maxHeartbeats 2000000 in
theorem after_any (v f : Value) (l X : List Nd) (q : Nat) (w : World) (hv : Nds w v l) (hl : l.length ≤ 400) (hX : X.length ≤ 400) (hq : q < l.length) (hf : FnV w f (kids (l.drop q)) X) (hm : Nms (putR l (q : Int) X)) (hp : (putR l (q : Int) X).length ≤ 1000) :
    Calls Try.prog 35 #[v, .int .i64 (q : Int), f] w (OutL (st (putR l (q : Int) X)) w) := by
  unfold OutL
  rcases hv.form with ⟨h0, _⟩ | ⟨b, o, c, rfl, hc, hat⟩
  · rw [h0] at hq; simp at hq
  have HK := Lib.hid (kids_rws _ (l.drop q) w (drop_nds rfl hat q (by omega) hc) (by simp; omega))
  have HP := Lib.hid (fun vx w1 (hb : Below w.heap.size w w1) (hx : Nds w1 vx X) => putP_any _ vx l X (q : Int) w1 (hv.below hb) hx (by omega) (by omega))
  have HS := Lib.hid (fun y w1 (hy : Nds w1 y (putR l (q : Int) X)) => settleP_any y _ w1 hy hp hm)
  unfold OutL at HS
  obtain ⟨fn, caps, rfl, eg, H⟩ := hf
  have HH := Lib.hid H
  obtain ⟨n, hn⟩ : ∃ n, l.length = n := ⟨_, rfl⟩
  rw [hn] at HK HP hq hc ⊢
  have hcap : q < c := by omega
  have hcq : ¬ c = q := by omega
  generalize putR l (q : Int) X = L at HP HS ⊢
  clear hv hat hn hl hX hm hp H
  go_enter Try.func35, Try.ntmps35
  go_wp2_with fail
  refine HK.out.mono ?_
  rintro e w1 ⟨y1, rfl, h1, hb1⟩
  have D1 := Lib.hid hb1
  have R1 := Lib.hid h1
  obtain ⟨a1, n1, c1, rfl⟩ := rws_slice h1
  clear h1 hb1
  go_wp2_with fail
  refine (HH.out _ _ D1.out R1.out).mono ?_
  rintro e w2 ⟨y2, rfl, h2, hb2⟩
  have D2 := Lib.hid (D1.out.trans (hb2.mono D1.out.size))
  have N2 := Lib.hid h2
  obtain ⟨_, a2, c2, rfl, -⟩ := id h2
  clear h2 hb2
  go_wp2_with fail
  refine (HP.out _ _ D2.out N2.out).mono ?_
  rintro e w3 ⟨y3, rfl, h3, hb3⟩
  have D3 := Lib.hid (D2.out.trans (hb3.mono D2.out.size))
  have N3 : Hid (Nds w3 y3 L) := Lib.hid (Ap.Rd.owned h3)
  obtain ⟨_, a3, c3, rfl, -⟩ := id N3.out
  clear h3 hb3
  go_wp2_with fail
  refine (HS.out _ _ N3.out).mono ?_
  rintro e w4 ⟨y4, rfl, h4, hb4⟩
  have D4 := Lib.hid (D3.out.trans (hb4.mono D3.out.size))
  have N4 := Lib.hid h4
  obtain ⟨_, a4, c4, rfl, -⟩ := id h4
  clear h4 hb4
  go_wp2_with fail
  go_ret
  exact ⟨_, rfl, N4.out, D4.out⟩
end Go.Proofs.Ytpingbiibbmcaaa.St

namespace Go.Proofs.Ytpingbiibbmcaaa.Me
open Go Go.RowKit Go.Proofs.Ytpingbiibbmcaaa.Rw Go.Proofs.Ytpingbiibbmcaaa.So Go.Proofs.Ytpingbiibbmcaaa.Se Go.Proofs.Ytpingbiibbmcaaa.Do
set_option maxRecDepth 20000

/-- A move as a value; a block of one. -/
abbrev mvV (m : Mv) : Value := .agg #[.int .i64 m.p, .int .i64 m.h]
def Bm (w : World) (b : Nat) (m : Mv) : Prop := w.heap[b]? = some (.cells #[.int .i64 m.p, .int .i64 m.h] 31 (0, 0))
theorem Bm.new (w : World) (m : Mv) : Bm (w.alloc (.cells #[.int .i64 m.p, .int .i64 m.h] 31)) w.heap.size m := by
  show (w.heap.push _)[w.heap.size]? = some _
  simp
theorem Bm.lt {w : World} {b : Nat} {m : Mv} (h : Bm w b m) : b < w.heap.size := Nat.lt_of_not_le fun hle => by
  unfold Bm at h
  rw [Array.getElem?_eq_none hle] at h
  cases h
theorem Bm.below {w w' : World} {M b : Nat} {m : Mv} (h : Bm w b m) (hb : Below M w w') (hM : b < M) : Bm w' b m := (hb.block b hM).trans h
theorem Bm.cells {w : World} {b : Nat} {m : Mv} (h : Bm w b m) : w.cell? ⟨b, 0, none⟩ = some (.int .i64 m.p) ∧ w.cell? ⟨b, 1, none⟩ = some (.int .i64 m.h) ∧ w.frozen? ⟨b, 0, none⟩ = false ∧ w.frozen? ⟨b, 1, none⟩ = false := by
  unfold Bm at h
  simp [World.cell?, World.frozen?, h]
abbrev put2 (w : World) (b : Nat) (x y : Value) : World := (w.setCell ⟨b, 0, none⟩ x).setCell ⟨b, 1, none⟩ y
end Go.Proofs.Ytpingbiibbmcaaa.Me

namespace Go.Proofs.Ytpingbiibbmcaaa.Co
open Go Go.RowKit Go.Proofs.Ytpingbiibbmcaaa.Rw Go.Proofs.Ytpingbiibbmcaaa.So Go.Proofs.Ytpingbiibbmcaaa.Se Go.Proofs.Ytpingbiibbmcaaa.Do Go.Proofs.Ytpingbiibbmcaaa.Sp
set_option maxRecDepth 20000

theorem ow_one (x : Nd) (l : List Nd) : chR (x :: l) = ow x.k + chR l := by
  unfold chR cnt
  rw [List.countP_cons]
  unfold ow
  simp only [List.mem_cons, List.mem_nil_iff, or_false]
  by_cases h : x.k = 1 ∨ x.k = 4 ∨ x.k = 6 ∨ x.k = 10
  · rw [if_pos h]; simp [h]; omega
  · rw [if_neg h]; simp [h]
theorem ch_take {l : List Nd} {k : Nat} (h : k < l.length) : chR (l.take (k + 1)) = chR (l.take k) + ow l[k].k := by
  have e : ∀ a b : List Nd, chR (a ++ b) = chR a + chR b := fun a b => by unfold chR cnt; rw [List.countP_append]
  rw [List.take_succ_eq_append_getElem h, e]
  congr 1
  rw [ow_one]
  rfl
set_option maxHeartbeats 4000000 in
theorem joinN_any (v : Value) (l : List Nd) (w : World) (hv : Nds w v l) (hl : l.length ≤ 1000) : Calls Try.prog 22 #[v, fnV 23, fnV 24] w (NumP (chR l : Nat) w) := by
  rcases hv.form with ⟨rfl, a, c, rfl⟩ | ⟨b, off, c, rfl, hc, hat⟩
  · go_enter Try.func22, Try.ntmps22
    go_wp2_with fail
    go_ret
    exact ⟨rfl, Below.refl _ _⟩
  · by_cases h0 : l.length = 0
    · have h1 : chR l = 0 := by rw [List.eq_nil_of_length_eq_zero h0]; rfl
      rw [h0, h1]
      clear hat hc hl hv
      go_enter Try.func22, Try.ntmps22
      go_wp2_with fail
      go_ret
      exact ⟨rfl, Below.refl _ _⟩
    have HA := Lib.hid hat
    have HO := Lib.hid (fun k n s w1 => own_any k s n w1)
    unfold NumP at HO
    have HP := Lib.hid (fun a b w1 (h1 : a ≤ 2000) (h2 : b ≤ 2000) => put_any 23 (.inl rfl) a b w1 h1 h2)
    have HT := Lib.hid (fun k (h : k < l.length) => ch_take h)
    have HL := Lib.hid (show chR (l.take l.length) = chR l by rw [List.take_length])
    have HC0 := Lib.hid (show chR (l.take 0) = 0 from rfl)
    obtain ⟨q0, q1, q2⟩ := hat 0 (by omega)
    have HZ := Lib.hid (show chR (l.take 1) = ow l[0].k by rw [ch_take (by omega), HC0.out, Nat.zero_add])
    have HCL := Lib.hid (fun k => Nat.le_trans (chR_len (l.take k)) (by rw [List.length_take]; omega : (l.take k).length ≤ k))
    obtain ⟨n, hn⟩ : ∃ n, l.length = n := ⟨_, rfl⟩
    obtain ⟨x, hx⟩ : ∃ x, l[0] = x := ⟨_, rfl⟩
    rw [hx] at q0 q1 q2 HZ
    simp only [Nat.zero_mul, Nat.add_zero] at q0 q1 q2
    have HN := Lib.hid hn
    have gn : ((n : Int) == 0) = false := beq_eq_false_iff_ne.2 (by omega)
    have gn1 : (1 : Int) ≤ (n : Int) := by omega
    have gn0 : (0 : Int) < (n : Int) := by omega
    rw [hn] at hc hl ⊢
    have HO1 := Lib.hid (own_any x.k x.s x.n w)
    unfold NumP at HO1
    have hno : ow x.k ≤ 1 := by unfold ow; split <;> omega
    generalize ow x.k = z at HZ hno HO1
    clear hat hn hx h0
    go_enter Try.func22, Try.ntmps22
    go_wp2_with fail
    refine HO1.out.mono ?_
    rintro e w1 ⟨rfl, hb1⟩
    have B1 := Lib.hid hb1
    clear hb1 HO1 q0 q1 q2
    by_cases h1 : n = 1
    · subst h1
      have HR : Hid (chR l = z) := Lib.hid (by rw [← HL.out, HN.out, HZ.out])
      clear HA HO HP HT HL HC0 HCL HZ
      go_wp2_with fail
      all_goals
        refine Go.wp_loop_rounds 1 ?_
        rw [rounds_succ]
        go_wp2_with fail
        go_ret
        exact ⟨by rw [HR.out]; rfl, B1.out⟩
    · have gc : ¬ c = 1 := by omega
      have gc1 : (1 : Int) ≤ (c : Int) := by omega
      clear gn gn0
      go_wp2_with fail
      go_loopw [7, 21] (fun s i wr => ∃ k : Nat, k + 1 ≤ n ∧ s = .int .i64 (chR (l.take (k + 1)) : Nat) ∧ i = .int .i64 k ∧ Hid (Below w.heap.size w wr)) (fun _ i _ => n - (intOf i).toNat)
      case atStart => exact ⟨0, by omega, by rw [HZ.out], rfl, B1⟩
      case round =>
        obtain ⟨k, hk, rfl, rfl, HB⟩ := hrel
        by_cases hlt : k + 1 < n
        · obtain ⟨q0, q1, q2⟩ := HA.out (k + 1) (by rw [HN.out]; exact hlt)
          have hT := HT.out (k + 1) (by rw [HN.out]; exact hlt)
          obtain ⟨y, hy⟩ : ∃ y, l[k + 1]'(by rw [HN.out]; exact hlt) = y := ⟨_, rfl⟩
          rw [hy] at q0 q1 q2 hT
          rw [show off + (k + 1) * 3 = off + 3 + k * 3 by omega] at q0 q1 q2
          have r0 : wr.cell? ⟨b, off + 3 + k * 3, none⟩ = some (.int .i64 y.k) := by rw [HB.out.cell (Ap.cell_lt q0)]; exact q0
          have r1 : wr.cell? ⟨b, off + 3 + k * 3 + 1, none⟩ = some (.string y.n) := by rw [HB.out.cell (Ap.cell_lt q1)]; exact q1
          have r2 : wr.cell? ⟨b, off + 3 + k * 3 + 2, none⟩ = some (.int .i64 y.s) := by rw [HB.out.cell (Ap.cell_lt q2)]; exact q2
          have hcl := HCL.out (k + 1)
          have HO1 := Lib.hid (fun w1 => own_any y.k y.s y.n w1)
          unfold NumP at HO1
          have hno : ow y.k ≤ 1 := by unfold ow; split <;> omega
          generalize ow y.k = z2 at HO1 hno hT
          generalize chR (l.take (k + 1)) = s1 at hT hcl
          have HX := Lib.hid hT
          have HQ := Lib.hid (fun w1 => HP.out s1 z2 w1 (by omega) (by omega))
          rw [show pt 23 s1 z2 = s1 + z2 from rfl] at HQ
          have gk : (k : Int) < (n : Int) - 1 := by omega
          have BA := Lib.hid (fun o => HB.out.trans ((below1 wr o).mono HB.out.size))
          clear q0 q1 q2 hy hT
          go_wp2_with fail
          refine (HO1.out _).mono ?_
          rintro e w2 ⟨rfl, hb2⟩
          have B2 := Lib.hid ((BA.out _).trans (hb2.mono (BA.out _).size))
          clear hb2
          go_wp2_with fail
          refine (HQ.out _).mono ?_
          rintro e w3 ⟨rfl, rfl⟩
          go_wp2_with fail
          go_roundw
          case rel => exact ⟨k + 1, by omega, by rw [HX.out, Int.natCast_add], by go_num, B2⟩
          case measure => simp [intOf]; omega
        · have HR : Hid (chR (l.take (k + 1)) = chR l) := Lib.hid (by rw [show k + 1 = l.length by rw [HN.out]; omega]; exact HL.out)
          have gk : ¬ (k : Int) < (n : Int) - 1 := by omega
          rw [HR.out]
          go_wp2_with fail
          go_ret
          exact ⟨rfl, HB.out⟩
set_option maxHeartbeats 1000000 in
theorem ofP_cost (v : Value) (l : List Nd) (w : World) (hv : Nds w v l) (hl : l.length ≤ 1000) : Calls Try.prog 9 #[v] w (NumP (chR l : Nat) w) := by
  have HJ := Lib.hid (joinN_any v l w hv hl)
  unfold NumP at *
  generalize chR l = z at HJ ⊢
  obtain ⟨_, a, c, rfl, -⟩ := hv
  go_enter Try.func9, Try.ntmps9
  go_wp2_with fail
  refine HJ.out.mono ?_
  rintro e w1 ⟨rfl, hb⟩
  have B := Lib.hid hb
  clear hb
  go_wp2_with fail
  go_ret
  exact ⟨rfl, B.out⟩
end Go.Proofs.Ytpingbiibbmcaaa.Co

namespace Go.Proofs.Ytpingbiibbmcaaa.Co
open Go Go.RowKit Go.Proofs.Ytpingbiibbmcaaa.Rw Go.Proofs.Ytpingbiibbmcaaa.So Go.Proofs.Ytpingbiibbmcaaa.Se Go.Proofs.Ytpingbiibbmcaaa.Do Go.Proofs.Ytpingbiibbmcaaa.Sp
set_option maxRecDepth 20000

/-- What a law's walk tells. -/
def Law (w : World) (e : Ending) (w' : World) : Prop := e = .returned (.bool true) ∧ Below w.heap.size w w'
set_option maxHeartbeats 2000000 in
theorem numbers_law (C : Con) (v : Value) (l : List Nd) (n : Int) (w : World) (hv : Nds w v l) (hm : Nms l) : Calls Try.prog 3 #[v, .int .i64 n] w (Law w) := by
  have HF := Lib.hid (fewC_any v l w hv)
  have HA := Lib.hid (alive_of C)
  unfold Alive at HA
  have HV := Lib.hid hv
  unfold Law
  cases hl : fewC l with
  | false =>
    rw [hl] at HF
    obtain ⟨_, a, c, rfl, -⟩ := hv
    clear C hm hl HV
    go_enter Try.func3, Try.ntmps3
    go_wp2_with fail
    refine HF.out.mono ?_
    rintro e w1 ⟨rfl, rfl⟩
    go_wp2_with fail
    refine (HA.out _).mono ?_
    rintro e w2 ⟨rfl, hb⟩
    have T := Lib.hid hb
    clear hb
    go_wp2_with fail
    go_ret
    exact ⟨rfl, T.out⟩
  | true =>
    rw [hl] at HF
    have hlen := fewC_len hl
    clear hl
    have O1 := Lib.hid (fun w1 (hb : Below w.heap.size w w1) => C.of v l w1 (HV.out.below hb) (by omega))
    have O2 := Lib.hid (fun w1 (hb : Below w.heap.size w w1) => costOfR_any v l w1 (HV.out.below hb) (by omega))
    have M1 := Lib.hid (fun w1 (hb : Below w.heap.size w w1) => C.mo v l w1 (HV.out.below hb) (by omega) hm)
    have M2 := Lib.hid (fun w1 (hb : Below w.heap.size w w1) => mostR_any v l w1 (HV.out.below hb) (by omega) hm)
    have L1 := Lib.hid (fun w1 (hb : Below w.heap.size w w1) => C.le v l w1 (HV.out.below hb) (by omega) hm)
    have L2 := Lib.hid (fun w1 (hb : Below w.heap.size w w1) => leastR_any v l w1 (HV.out.below hb) (by omega) hm)
    have K1 := Lib.hid (fun w1 (hb : Below w.heap.size w w1) => C.ch v l n w1 (HV.out.below hb) (by omega))
    have K2 := Lib.hid (fun w1 (hb : Below w.heap.size w w1) => crashR_any v l n w1 (HV.out.below hb) (by omega))
    unfold NumP at *
    generalize chR l = z1 at *
    generalize cr false l = z2 at *
    generalize cr true l = z3 at *
    generalize crash l n = z4 at *
    obtain ⟨_, a, c, rfl, -⟩ := hv
    clear C hm HV
    go_enter Try.func3, Try.ntmps3
    go_wp2_with fail
    refine HF.out.mono ?_
    rintro e w1 ⟨rfl, rfl⟩
    go_wp2_with fail
    refine (HA.out _).mono ?_
    rintro e w2 ⟨rfl, hb⟩
    have T := Lib.hid hb
    clear hb
    go_wp2_with fail
    refine (O1.out _ T.out).mono ?_
    rintro e w3 ⟨rfl, hb⟩
    replace T := Lib.hid (T.out.trans (hb.mono T.out.size))
    clear hb
    go_wp2_with fail
    refine (O2.out _ T.out).mono ?_
    rintro e w3 ⟨rfl, hb⟩
    replace T := Lib.hid (T.out.trans (hb.mono T.out.size))
    clear hb
    go_wp2_with fail
    refine (M1.out _ T.out).mono ?_
    rintro e w3 ⟨rfl, hb⟩
    replace T := Lib.hid (T.out.trans (hb.mono T.out.size))
    clear hb
    go_wp2_with fail
    refine (M2.out _ T.out).mono ?_
    rintro e w3 ⟨rfl, hb⟩
    replace T := Lib.hid (T.out.trans (hb.mono T.out.size))
    clear hb
    go_wp2_with fail
    refine (L1.out _ T.out).mono ?_
    rintro e w3 ⟨rfl, hb⟩
    replace T := Lib.hid (T.out.trans (hb.mono T.out.size))
    clear hb
    go_wp2_with fail
    refine (L2.out _ T.out).mono ?_
    rintro e w3 ⟨rfl, hb⟩
    replace T := Lib.hid (T.out.trans (hb.mono T.out.size))
    clear hb
    go_wp2_with fail
    refine (K1.out _ T.out).mono ?_
    rintro e w3 ⟨rfl, hb⟩
    replace T := Lib.hid (T.out.trans (hb.mono T.out.size))
    clear hb
    go_wp2_with fail
    refine (K2.out _ T.out).mono ?_
    rintro e w3 ⟨rfl, hb⟩
    replace T := Lib.hid (T.out.trans (hb.mono T.out.size))
    clear hb
    go_wp2_with fail
    go_ret
    exact ⟨rfl, T.out⟩
set_option maxHeartbeats 2000000 in
theorem order_law (C : Con) (v : Value) (l : List Nd) (w : World) (hv : Nds w v l) (hm : Nms l) : Calls Try.prog 4 #[v] w (Law w) := by
  have HF := Lib.hid (fewC_any v l w hv)
  have HA := Lib.hid (alive_of C)
  unfold Alive at HA
  have HV := Lib.hid hv
  unfold Law
  cases hl : fewC l with
  | false =>
    rw [hl] at HF
    obtain ⟨_, a, c, rfl, -⟩ := hv
    clear C hm hl HV
    go_enter Try.func4, Try.ntmps4
    go_wp2_with fail
    refine HF.out.mono ?_
    rintro e w1 ⟨rfl, rfl⟩
    go_wp2_with fail
    refine (HA.out _).mono ?_
    rintro e w2 ⟨rfl, hb⟩
    have T := Lib.hid hb
    clear hb
    go_wp2_with fail
    go_ret
    exact ⟨rfl, T.out⟩
  | true =>
    rw [hl] at HF
    have hlen := fewC_len hl
    clear hl
    have O1 := Lib.hid (fun w1 (hb : Below w.heap.size w w1) => C.of v l w1 (HV.out.below hb) (by omega))
    have M1 := Lib.hid (fun w1 (hb : Below w.heap.size w w1) => C.mo v l w1 (HV.out.below hb) (by omega) hm)
    have L1 := Lib.hid (fun w1 (hb : Below w.heap.size w w1) => C.le v l w1 (HV.out.below hb) (by omega) hm)
    unfold NumP at *
    have q := cr_order l
    have q3 := chR_len l
    generalize chR l = z1 at *
    generalize cr false l = z2 at *
    generalize cr true l = z3 at *
    have g1 : (z3 : Int) ≤ z2 := by omega
    have g2 : (z2 : Int) ≤ z1 := by omega
    have g3 : (z1 : Int) ≤ l.length := by omega
    have g4 : (0 : Int) ≤ z3 := by omega
    clear q q3
    obtain ⟨_, a, c, rfl, -⟩ := hv
    clear C hm HV
    go_enter Try.func4, Try.ntmps4
    go_wp2_with fail
    refine HF.out.mono ?_
    rintro e w1 ⟨rfl, rfl⟩
    go_wp2_with fail
    refine (HA.out _).mono ?_
    rintro e w2 ⟨rfl, hb⟩
    have T := Lib.hid hb
    clear hb
    go_wp2_with fail
    refine (L1.out _ T.out).mono ?_
    rintro e w3 ⟨rfl, hb⟩
    replace T := Lib.hid (T.out.trans (hb.mono T.out.size))
    clear hb
    go_wp2_with fail
    refine (M1.out _ T.out).mono ?_
    rintro e w3 ⟨rfl, hb⟩
    replace T := Lib.hid (T.out.trans (hb.mono T.out.size))
    clear hb
    go_wp2_with fail
    refine (M1.out _ T.out).mono ?_
    rintro e w3 ⟨rfl, hb⟩
    replace T := Lib.hid (T.out.trans (hb.mono T.out.size))
    clear hb
    go_wp2_with fail
    refine (O1.out _ T.out).mono ?_
    rintro e w3 ⟨rfl, hb⟩
    replace T := Lib.hid (T.out.trans (hb.mono T.out.size))
    clear hb
    go_wp2_with fail
    refine (O1.out _ T.out).mono ?_
    rintro e w3 ⟨rfl, hb⟩
    replace T := Lib.hid (T.out.trans (hb.mono T.out.size))
    clear hb
    go_wp2_with fail
    refine (L1.out _ T.out).mono ?_
    rintro e w3 ⟨rfl, hb⟩
    replace T := Lib.hid (T.out.trans (hb.mono T.out.size))
    clear hb
    go_wp2_with fail
    go_ret
    exact ⟨rfl, T.out⟩
end Go.Proofs.Ytpingbiibbmcaaa.Co

namespace Go.Proofs.Ytpingbiibbmcaaa.Me
open Go Go.RowKit Go.Maps Go.WideMaps Go.Proofs.Ytpingbiibbmcaaa.Rw Go.Proofs.Ytpingbiibbmcaaa.So Go.Proofs.Ytpingbiibbmcaaa.Se Go.Proofs.Ytpingbiibbmcaaa.Do
set_option maxRecDepth 20000

/-- An element that reads as itself. -/
def hE (v : Value) : Option (DataW Value × List MemPlace) := some (.held v, [])
theorem lawI : Keyed Try.prog 3 := int_keyed Try.underlying3
theorem keyI (k : Int) (h : (Lit.int .i64 k).wf = true) : keyOf Try.prog 3 (.int .i64 k) = some (.int .i64 k) := keyOf_int_mk Try.underlying3 h
theorem zeroW (w : World) : (zeroValue 66).run Try.prog w = .ok (.slice none 0 0) w := by kernel_rfl
/-- A map's datum that gives these rows by kind. -/
def WD (f : Int → Value) (D : DataW Value) : Prop := ∀ k : Int, D.atKey (.int .i64 k) (.held (.slice none 0 0)) = .held (f k)
theorem look {w : World} {b n : Nat} {f : Int → Value} {D : DataW Value} (h : w.ownsMap Try.prog 3 hE b n D) (hd : WD f D) (k : Int) (hk : (Lit.int .i64 k).wf = true) :
    (Instr.lookup 67 (.map (some b)) (.int .i64 k) false).run Try.prog w = .ok (f k) w := by
  obtain ⟨v, ps, hrun, hv⟩ := h.lookup lawI Try.underlying67 (zeroW w) (show hE (.slice none 0 0) = some (.held (.slice none 0 0), []) from rfl) (keyI k hk)
  rw [hd k] at hv
  rw [hrun]
  injection hv with hv
  injection hv with hv
  injection hv with hv
  rw [hv]
end Go.Proofs.Ytpingbiibbmcaaa.Me

namespace Go.Proofs.Ytpingbiibbmcaaa.Me
open Go Go.RowKit Go.Proofs.Ytpingbiibbmcaaa.Rw Go.Proofs.Ytpingbiibbmcaaa.So Go.Proofs.Ytpingbiibbmcaaa.Se Go.Proofs.Ytpingbiibbmcaaa.Do
set_option maxRecDepth 20000

/-- A text of bytes. -/
abbrev tx (L : List UInt8) : ByteArray := ⟨L.toArray⟩
end Go.Proofs.Ytpingbiibbmcaaa.Me

namespace Go.Proofs.Ytpingbiibbmcaaa.Me
open Go Go.RowKit Go.Proofs.Ytpingbiibbmcaaa.Rw Go.Proofs.Ytpingbiibbmcaaa.So Go.Proofs.Ytpingbiibbmcaaa.Se Go.Proofs.Ytpingbiibbmcaaa.Do
set_option maxRecDepth 20000

/-- Where a move stands first. -/
def idxM (x : Mv) : List Mv → Nat → Int
  | [], _ => -1
  | y :: l, k => if x = y then k else idxM x l (k + 1)
theorem idxM_mem (x : Mv) (l : List Mv) (k : Nat) : decide (0 ≤ idxM x l k) = decide (x ∈ l) := by
  induction l generalizing k with
  | nil => simp [idxM]
  | cons y l ih =>
    unfold idxM
    by_cases h : x = y
    · rw [if_pos h, decide_eq_true (show x ∈ y :: l by rw [h]; exact List.mem_cons_self)]
      simp
    · rw [if_neg h, ih (k + 1)]
      simp [h]
theorem idxM_end {x : Mv} {l : List Mv} {k : Nat} (h : ¬ k < l.length) : idxM x (l.drop k) k = -1 := by rw [List.drop_eq_nil_of_le (by omega)]; rfl
theorem idxM_at {x : Mv} {l : List Mv} {k : Nat} (h : k < l.length) : idxM x (l.drop k) k = if x = l[k] then (k : Int) else idxM x (l.drop (k + 1)) (k + 1) := by
  rw [List.drop_eq_getElem_cons h, idxM]
set_option maxHeartbeats 400000 in
theorem idxM_empty (a : Option Addr) (cap : Nat) (xp xh : Int) (w : World) :
    Calls Try.prog 78 #[.slice a 0 cap, .agg #[.int .i64 xp, .int .i64 xh]] w fun e w' => e = .returned (.int .i64 (-1)) ∧ Below w.heap.size w w' := by
  go_enter Try.func78, Try.ntmps78
  go_wp2_with fail
  refine Go.wp_loop_rounds 1 ?_
  rw [rounds_succ]
  go_wp2_with fail
  go_ret
  exact ⟨rfl, below1 _ _⟩
set_option maxHeartbeats 2000000 in
theorem idxM_cells (b off cap : Nat) (l : List Mv) (x : Mv) (w : World) (hat : AtM w b off l) (hl : l.length ≤ 1000000) :
    Calls Try.prog 78 #[.slice (some ⟨b, off, none⟩) l.length cap, mvV x] w fun e w' => e = .returned (.int .i64 (idxM x l 0)) ∧ Below w.heap.size w w' := by
  obtain ⟨xp, xh⟩ := x
  have HA := Lib.hid (hat.below (below1 w (.cells #[.int .i64 xp, .int .i64 xh] 31)))
  have HB0 := Lib.hid (Bm.new w ⟨xp, xh⟩)
  have DB := Lib.hid (below1 w (.cells #[.int .i64 xp, .int .i64 xh] 31))
  obtain ⟨wB, hwB⟩ : ∃ wB, w.alloc (.cells #[.int .i64 xp, .int .i64 xh] 31) = wB := ⟨_, rfl⟩
  obtain ⟨bM, hbM⟩ : ∃ bM, w.heap.size = bM := ⟨_, rfl⟩
  have HS : Hid (w.heap.size ≤ wB.heap.size) := Lib.hid (by rw [← hwB]; simp)
  change Hid (Bm (w.alloc (.cells #[.int .i64 xp, .int .i64 xh] 31)) w.heap.size ⟨xp, xh⟩) at HB0
  rw [hwB] at HA HB0 DB
  rw [hbM] at HB0
  clear hat
  go_enter Try.func78, Try.ntmps78
  go_wp2_with fail
  clear hwB
  go_loopw [8] (fun i wr => ∃ k : Nat, k ≤ l.length ∧ i = .int .i64 k ∧ Hid (Below wB.heap.size wB wr) ∧ Hid (idxM ⟨xp, xh⟩ l 0 = idxM ⟨xp, xh⟩ (l.drop k) k)) (fun i _ => l.length - (intOf i).toNat)
  case atStart => exact ⟨0, Nat.zero_le _, rfl, Lib.hid (Below.refl _ _), Lib.hid rfl⟩
  case round =>
    obtain ⟨k, hk, rfl, HB, HK⟩ := hrel
    by_cases hlt : k < l.length
    · obtain ⟨e1, e2⟩ := (HA.out.below HB.out) k hlt
      obtain ⟨m1, m2, -⟩ := (HB0.out.below HB.out HB0.out.lt).cells
      have HX := Lib.hid (HK.out.trans (idxM_at hlt))
      obtain ⟨y, hy⟩ : ∃ y, l[k] = y := ⟨_, rfl⟩
      rw [hy] at e1 e2 HX
      clear hy
      obtain ⟨yp, yh⟩ := y
      simp only at e1 e2 m1 m2
      have hq : ∀ w, (binOp .eql 31 (.agg #[.int .i64 xp, .int .i64 xh]) (.agg #[.int .i64 yp, .int .i64 yh])).run Try.prog w = .ok (.bool (decide ((⟨xp, xh⟩ : Mv) = ⟨yp, yh⟩))) w := fun w => eq_mv ⟨xp, xh⟩ ⟨yp, yh⟩ w
      by_cases hxy : (⟨xp, xh⟩ : Mv) = ⟨yp, yh⟩
      · rw [if_pos hxy] at HX
        rw [decide_eq_true hxy] at hq
        clear hxy
        go_wp2_with fail
        go_quiet (fail)
        go_wp2_with fail
        go_ret
        exact ⟨ret_int HX.out.symm, DB.out.trans ((HB.out.trans (Below.drewN _ _ _)).mono HS.out)⟩
      · rw [if_neg hxy] at HX
        rw [decide_eq_false hxy] at hq
        clear hxy
        go_wp2_with fail
        go_quiet (fail)
        go_wp2_with fail
        go_roundw
        case rel => exact ⟨k + 1, by omega, by go_num, Lib.hid (HB.out.trans (Below.drewN _ _ _)), HX⟩
        case measure => simp [intOf]; omega
    · have HZ : Hid (idxM ⟨xp, xh⟩ l 0 = -1) := Lib.hid (by rw [HK.out, idxM_end hlt])
      go_wp2_with fail
      go_ret
      exact ⟨ret_int HZ.out.symm, DB.out.trans (HB.out.mono HS.out)⟩
theorem idxM_any (v : Value) (l : List Mv) (x : Mv) (w : World) (h : Mvs w v l) (hl : l.length ≤ 1000000) :
    Calls Try.prog 78 #[v, mvV x] w fun e w' => e = .returned (.int .i64 (idxM x l 0)) ∧ Below w.heap.size w w' := by
  rcases h.form with ⟨rfl, a, cap, rfl⟩ | ⟨b, off, cap, rfl, _, hat⟩
  · exact idxM_empty a cap x.p x.h w
  · exact idxM_cells b off cap l x w hat hl
set_option maxHeartbeats 400000 in
theorem hasM_any (v : Value) (l : List Mv) (x : Mv) (w : World) (h : Mvs w v l) (hl : l.length ≤ 1000000) :
    Calls Try.prog 50 #[v, mvV x] w fun e w' => e = .returned (.bool (decide (x ∈ l))) ∧ Below w.heap.size w w' := by
  obtain ⟨xp, xh⟩ := x
  have H := Lib.hid (h.below (below1 w (.cells #[.int .i64 xp, .int .i64 xh] 31)))
  have D1 := Lib.hid (below1 w (.cells #[.int .i64 xp, .int .i64 xh] 31))
  have HQ := Lib.hid (idxM_mem ⟨xp, xh⟩ l 0)
  obtain ⟨q, hq⟩ : ∃ q, idxM ⟨xp, xh⟩ l 0 = q := ⟨_, rfl⟩
  rw [hq] at HQ
  have HC := Lib.hid hq
  obtain ⟨_, a, cap, rfl, -⟩ := id h
  clear h hq
  go_enter Try.func50, Try.ntmps50
  go_wp2_with fail
  refine (idxM_any _ l ⟨xp, xh⟩ _ H.out hl).mono ?_
  rw [HC.out]
  rintro e w' ⟨rfl, hb⟩
  have HB := Lib.hid (D1.out.trans (hb.mono D1.out.size))
  clear hb
  go_wp2_with fail
  go_ret
  exact ⟨ret_bool HQ.out, HB.out⟩
end Go.Proofs.Ytpingbiibbmcaaa.Me

namespace Go.Proofs.Ytpingbiibbmcaaa.St
open Go Go.RowKit Go.Proofs.Ytpingbiibbmcaaa.Rw Go.Proofs.Ytpingbiibbmcaaa.So Go.Proofs.Ytpingbiibbmcaaa.Se Go.Proofs.Ytpingbiibbmcaaa.Do Go.Proofs.Ytpingbiibbmcaaa.Sp Go.Proofs.Ytpingbiibbmcaaa.Me
set_option maxRecDepth 20000

end Go.Proofs.Ytpingbiibbmcaaa.St

namespace Go.Proofs.Ytpingbiibbmcaaa.Co
open Go Go.RowKit Go.Proofs.Ytpingbiibbmcaaa.Rw Go.Proofs.Ytpingbiibbmcaaa.So Go.Proofs.Ytpingbiibbmcaaa.Se Go.Proofs.Ytpingbiibbmcaaa.Do Go.Proofs.Ytpingbiibbmcaaa.Sp
set_option maxRecDepth 20000

theorem eg_pf (f : Nat) (hf : Pf f) : ∀ args w, (callFunc f args).run Try.prog w = .ok (.enter f args) w := by
  rcases hf with rfl | rfl | rfl <;> exact fun _ _ => by simp [go_sem]
/-- A call of the closure on a row: it tells this number. -/
def Tells (caps : Array Value) (w0 : World) (l : List Nd) (x : Nat) : Prop := ∀ (y : Value) (w1 : World), Below w0.heap.size w0 w1 → Nds w1 y l → Calls Try.prog 66 (#[y] ++ caps) w1 (NumP (x : Nat) w1)
set_option maxHeartbeats 2000000 in
theorem joinT0 (f : Nat) (caps : Array Value) (v : Value) (w : World) (hv : Rws w v []) : Calls Try.prog 65 #[v, fnV f, .func (.func 66) #[] caps] w (NumP 0 w) := by
  rcases Rx.rws_form hv with ⟨_, a, c, rfl⟩ | ⟨b, off, c, rfl, hat⟩
  all_goals
    go_enter Try.func65, Try.ntmps65
    go_wp2_with fail
    go_ret
    exact ⟨rfl, Below.refl _ _⟩
set_option maxHeartbeats 2000000 in
theorem joinT1 (f : Nat) (caps : Array Value) (v : Value) (w : World) (l : List Nd) (x : Nat) (hv : Rws w v [l]) (H : Tells caps w l x) : Calls Try.prog 65 #[v, fnV f, .func (.func 66) #[] caps] w (NumP (x : Nat) w) := by
  rcases Rx.rws_form hv with ⟨h0, _⟩ | ⟨b, off, c, rfl, hat⟩
  · cases h0
  obtain ⟨y, hy, hn⟩ := hat 0 (by simp)
  rw [Nat.add_zero] at hy
  have HC := Lib.hid (H y w (Below.refl _ _) hn)
  unfold NumP at HC
  clear hat hn H hv
  go_enter Try.func65, Try.ntmps65
  go_wp2_with fail
  refine HC.out.mono ?_
  rintro e w1 ⟨rfl, hb1⟩
  have B1 := Lib.hid hb1
  clear hb1 HC hy
  go_wp2_with fail
  all_goals
    refine Go.wp_loop_rounds 1 ?_
    rw [rounds_succ]
    go_wp2_with fail
    go_ret
    exact ⟨rfl, B1.out⟩
set_option maxHeartbeats 4000000 in
theorem joinT2 (f : Nat) (hf : Pf f) (caps : Array Value) (v : Value) (w : World) (l m : List Nd) (x z : Nat) (hx : x ≤ 2000) (hz : z ≤ 2000) (hv : Rws w v [l, m]) (H : Tells caps w l x) (G : Tells caps w m z) : Calls Try.prog 65 #[v, fnV f, .func (.func 66) #[] caps] w (NumP (pt f x z : Nat) w) := by
  have hcap : ∃ b off c, v = .slice (some ⟨b, off, none⟩) 2 c ∧ 2 ≤ c ∧ Rx.AtRs w b off [l, m] := by
    obtain ⟨cs, ⟨_, a, c, rfl, hle, _, hcell⟩, hr⟩ := id hv
    rcases Rx.rws_form hv with ⟨h0, _⟩ | ⟨b, off, c', he, hat⟩
    · cases h0
    · injection he with h1 h2 h3
      subst h1
      subst h3
      exact ⟨b, off, c, rfl, hle, hat⟩
  obtain ⟨b, off, c, rfl, hc, hat⟩ := hcap
  obtain ⟨y, hy, hn⟩ := hat 0 (by simp)
  obtain ⟨y2, hy2, hn2⟩ := hat 1 (by simp)
  rw [Nat.add_zero] at hy
  have HC := Lib.hid (H y w (Below.refl _ _) hn)
  have HD := Lib.hid (fun w1 (hb : Below w.heap.size w w1) => G y2 w1 hb (hn2.below hb))
  have HQ := Lib.hid (fun w1 => put_any f hf x z w1 hx hz)
  have HY := Lib.hid (fun w1 (hb : Below w.heap.size w w1) => show w1.cell? ⟨b, off + 1, none⟩ = some y2 by rw [hb.cell (Ap.cell_lt hy2)]; exact hy2)
  unfold NumP at HC HD
  generalize pt f x z = q at HQ ⊢
  have gc : ¬ c = 1 := by omega
  have gc1 : (1 : Int) ≤ (c : Int) := by omega
  have eg := eg_pf f hf
  clear hat hn hn2 H G hv hx hz hy2 hf
  go_enter Try.func65, Try.ntmps65
  go_wp2_with fail
  refine HC.out.mono ?_
  rintro e w1 ⟨rfl, hb1⟩
  have B1 := Lib.hid hb1
  have p1 := HY.out w1 hb1
  clear hb1 HC hy
  go_wp2_with fail
  refine Go.wp_loop_rounds 2 ?_
  rw [rounds_succ]
  go_wp2_with fail
  refine (HD.out _ B1.out).mono ?_
  rintro e w2 ⟨rfl, hb2⟩
  have B2 := Lib.hid (B1.out.trans (hb2.mono B1.out.size))
  clear hb2 HD p1
  go_wp2_with fail
  refine (HQ.out _).mono ?_
  rintro e w3 ⟨rfl, rfl⟩
  go_wp2_with fail
  rw [rounds_succ]
  go_wp2_with fail
  go_ret
  exact ⟨rfl, B2.out⟩
/-- The program's tree on a tree. -/
abbrev fb (b : Bool) : Nat := if b then 31 else 28
theorem fb_pf (b : Bool) : Pf (fb b) := by cases b <;> simp [Pf, fb]
abbrev Wpt (t : Tm) : Prop := ∀ (v : Value) (w : World) (b : Bool), Nds w v (flat t) → Calls Try.prog 40 #[v, fnV (fb b)] w (NumP (cst b t : Nat) w)
set_option maxHeartbeats 1000000 in
theorem clos_any (t : Tm) (IH : Wpt t) (b : Bool) (B : Nat) (v : Value) (w : World) (hv : Nds w v (flat t)) (hB : w.cell? ⟨B, 0, none⟩ = some (fnV (fb b))) : Calls Try.prog 66 #[v, .pointer (some ⟨B, 0, none⟩)] w (NumP (cst b t : Nat) w) := by
  have HC := Lib.hid (IH v w b hv)
  unfold NumP at *
  generalize cst b t = z at HC ⊢
  generalize fnV (fb b) = g at HC hB
  obtain ⟨_, a, c, rfl, -⟩ := hv
  clear IH
  go_enter Try.func66, Try.ntmps66
  go_wp2_with fail
  refine HC.out.mono ?_
  rintro e w1 ⟨rfl, hb⟩
  have B1 := Lib.hid hb
  clear hb
  go_wp2_with fail
  go_ret
  exact ⟨rfl, B1.out⟩
set_option maxHeartbeats 4000000 in
theorem tree_core (t : Tm) (ks : List (List Nd)) (q : Nat) (b : Bool) (v : Value) (w : World) (hv : Nds w v (flat t)) (hs : sz t ≤ 400) (hk : kids (flat t) = ks) (hq : q ≤ 1000)
    (HJ : ∀ (B : Nat) (y : Value) (w1 : World), Rws w1 y ks → w1.cell? ⟨B, 0, none⟩ = some (fnV (fb b)) → Calls Try.prog 65 #[y, fnV (tg (kd t) (fb b)), .func (.func 66) #[] #[.pointer (some ⟨B, 0, none⟩)]] w1 (NumP (q : Nat) w1)) :
    Calls Try.prog 40 #[v, fnV (fb b)] w (NumP (ow (kd t) + q : Nat) w) := by
  have KK := fun w1 (hb : Below w.heap.size w w1) => (Rx.kidsP_any v (flat t) w1 (hv.below hb) (by rw [Se.flat_len]; omega)).mono fun e w2 (h : Rw.KidsPost (kids (flat t)) w1 e w2) => show ∃ y, e = .returned y ∧ Rws w2 y ks ∧ Below w1.heap.size w1 w2 by
    obtain ⟨y, cs, he, h1, h2, hb⟩ := h
    rw [hk] at h1 h2
    exact ⟨y, he, ⟨cs, h1.rd, h2.rwc⟩, hb⟩
  have HK := Lib.hid KK
  have D0 := Lib.hid (below1 w (.cells #[fnV (fb b)] 41))
  obtain ⟨bA, oA, cA, rfl, hcA, hltA, hwA, hatA⟩ := form hv
  obtain ⟨nA, hnA⟩ : ∃ n, sz t = n + 1 := ⟨sz t - 1, by have := sz_pos t; omega⟩
  rw [hnA] at hcA HK ⊢
  have g3A : (0 : Int) < (nA : Int) + 1 := by omega
  have HP := Lib.hid (fun w1 => priced_any (kd t) (fb b) w1)
  have HJ' := Lib.hid HJ
  have how : ow (kd t) ≤ 1 := by unfold ow; split <;> omega
  have HE0 := Lib.hid (fun w1 (hb : Below w.heap.size w w1) => (hwA w1 hb).1)
  generalize tg (kd t) (fb b) = gg at HP HJ'
  generalize ow (kd t) = z at HP how ⊢
  generalize kd t = kk at HP HE0
  generalize fb b = ff at *
  unfold NumP
  clear hnA hatA hv hwA KK HJ hk hs
  have hmf : ∀ fn first cap w, (Instr.makeFunc fn first cap).run Try.prog w = .ok (.func fn first cap) w := fun _ _ _ _ => rfl
  have e0 := HE0.out _ D0.out
  have y0 : (w.alloc (.cells #[fnV ff] 41)).cell? ⟨w.heap.size, 0, none⟩ = some (fnV ff) := by simp [go_sem]
  go_enter Try.func40, Try.ntmps40
  go_wp2_with fail
  go_quiet (first | exact (HP.out _).mono fun e w1 h => ⟨h.1, _, h.2.symm⟩ | fail)
  have BN := Lib.hid (D0.out.trans (Rw.Below.drewN w.heap.size nq (w.alloc (.cells #[fnV ff] 41))))
  have YN : Hid (((w.alloc (.cells #[fnV ff] 41)).drewN nq).cell? ⟨w.heap.size, 0, none⟩ = some (fnV ff)) := Lib.hid (by
    have h := Rw.Below.drewN (w.alloc (.cells #[fnV ff] 41)).heap.size nq (w.alloc (.cells #[fnV ff] 41))
    rw [h.cell (by simp)]
    exact y0)
  clear e0 y0
  go_wp2_with fail
  refine (HK.out _ BN.out).mono ?_
  rintro e w1 ⟨y, rfl, hy, hb1⟩
  have B1 := Lib.hid (BN.out.trans (hb1.mono BN.out.size))
  have Y1 : w1.cell? ⟨w.heap.size, 0, none⟩ = some (fnV ff) := by rw [hb1.cell (Ap.cell_lt YN.out)]; exact YN.out
  have HR := Lib.hid (HJ'.out w.heap.size y w1 hy Y1)
  unfold NumP at HR
  clear hb1 hy Y1 HJ' HK HP HE0
  go_wp2_with fail
  refine HR.out.mono ?_
  rintro e w2 ⟨rfl, hb2⟩
  have B2 := Lib.hid (B1.out.trans (hb2.mono B1.out.size))
  clear hb2
  go_wp2_with fail
  go_ret
  exact ⟨ret_int (by omega), B2.out⟩
end Go.Proofs.Ytpingbiibbmcaaa.Co
