/- MoveMany: the walk. -/
import Derived.Test.YtdkaoiomndkbjaaDoorQ24
import Derived.Test.YtdkaoiomndkbjaaDoorQ02

namespace Go.Proofs.YtdkaoiomndkbjaaDoor.Me
open Go Go.RowKit Rw So Se Do
set_option maxRecDepth 20000
theorem count_take {α : Type} {p : α → Bool} {l : List α} {k : Nat} (h : k < l.length) : (l.take (k + 1)).countP p = (l.take k).countP p + if p l[k] = true then 1 else 0 := by
  rw [List.take_succ_eq_append_getElem h, List.countP_append, List.countP_cons]
  simp
def RMd (b4 o4 nW cy kq : Nat) (xp up : Int) (k : Nat) (v : Value) (_w' : World) : Prop := match k with
  | 0 => v = .int .i64 ((kq : Int) + 1)
  | 1 => v = .bool true
  | 2 => v = .bool true
  | 3 => v = .slice (some ⟨b4, o4, none⟩) nW cy
  | 4 => v = .int .i64 ((kq : Int) + 1)
  | 5 => v = .pointer (some ⟨b4, o4 + (kq + 1) * 2, none⟩)
  | 6 => v = .pointer (some ⟨b4, o4 + (kq + 1) * 2, none⟩)
  | 7 => v = .int .i64 up
  | 8 => v = .slice (some ⟨b4, o4, none⟩) nW cy
  | 9 => v = .int .i64 ((kq : Int) + 1)
  | 10 => v = .int .i64 (kq : Int)
  | 11 => v = .pointer (some ⟨b4, o4 + kq * 2, none⟩)
  | 12 => v = .pointer (some ⟨b4, o4 + kq * 2, none⟩)
  | 13 => v = .int .i64 xp
  | 14 => v = .bool false
  | 15 => v = .bool false
  | 16 => v = .slice (some ⟨b4, o4, none⟩) nW cy
  | 17 => v = .int .i64 ((kq : Int) + 1)
  | 18 => v = .pointer (some ⟨b4, o4 + (kq + 1) * 2, none⟩)
  | 19 => v = .pointer (some ⟨b4, o4 + (kq + 1) * 2, none⟩)
  | 20 => v = .int .i64 up
  | 21 => v = .slice (some ⟨b4, o4, none⟩) nW cy
  | 22 => v = .int .i64 ((kq : Int) + 1)
  | 23 => v = .int .i64 (kq : Int)
  | 24 => v = .pointer (some ⟨b4, o4 + kq * 2, none⟩)
  | 25 => v = .pointer (some ⟨b4, o4 + kq * 2, none⟩)
  | 26 => v = .int .i64 xp
  | 27 => v = .bool false
  | 28 => v = .bool false
  | 29 => v = undef
  | 30 => v = undef
  | 31 => v = undef
  | 32 => v = undef
  | 33 => v = undef
  | 34 => v = undef
  | 35 => v = undef
  | 36 => v = undef
  | 37 => v = undef
  | 38 => v = undef
  | 39 => v = undef
  | 40 => v = undef
  | 41 => v = .bool false
  | 42 => v = .bool false
  | 43 => v = .bool false
  | _ => True
theorem RMd.below {b4 o4 nW cy kq : Nat} {xp up : Int} {k : Nat} {v : Value} {w w' : World} (h : RMd b4 o4 nW cy kq xp up k v w) (_hb : Below w.heap.size w w') : RMd b4 o4 nW cy kq xp up k v w' := by
  unfold RMd at h ⊢
  split at h
  all_goals exact h
theorem RMd.put {w4 : World} {b4 o4 nW cy kq : Nat} {xp up : Int} {v : Value} {w w' : World} {f : Nat → Bool} {us : Nat → Value} {i : Nat} (g : Rg.Kept (fun w' => Below w4.heap.size w4 w') (RMd b4 o4 nW cy kq xp up) f us w) (hb : Below w.heap.size w w') (hv : RMd b4 o4 nW cy kq xp up i v w') :
    Rg.Kept (fun w' => Below w4.heap.size w4 w') (RMd b4 o4 nW cy kq xp up) (Rg.upd f i true) (Rg.upd us i v) w' :=
  Rg.Kept.put (Base := fun w' => Below w4.heap.size w4 w') (R := RMd b4 o4 nW cy kq xp up) (fun _ _ h hb => h.trans (hb.mono h.size)) (fun _ _ _ _ h hb => RMd.below h hb) g hb hv
def RMs (b4 o4 nW cy kq : Nat) (xp xh uh : Int) (k : Nat) (v : Value) (_w' : World) : Prop := match k with
  | 0 => v = .int .i64 ((kq : Int) + 1)
  | 1 => v = .bool true
  | 2 => v = .bool true
  | 3 => v = .slice (some ⟨b4, o4, none⟩) nW cy
  | 4 => v = .int .i64 ((kq : Int) + 1)
  | 5 => v = .pointer (some ⟨b4, o4 + (kq + 1) * 2, none⟩)
  | 6 => v = .pointer (some ⟨b4, o4 + (kq + 1) * 2, none⟩)
  | 7 => v = .int .i64 xp
  | 8 => v = .slice (some ⟨b4, o4, none⟩) nW cy
  | 9 => v = .int .i64 ((kq : Int) + 1)
  | 10 => v = .int .i64 (kq : Int)
  | 11 => v = .pointer (some ⟨b4, o4 + kq * 2, none⟩)
  | 12 => v = .pointer (some ⟨b4, o4 + kq * 2, none⟩)
  | 13 => v = .int .i64 xp
  | 14 => v = .bool false
  | 15 => v = .bool false
  | 16 => v = .slice (some ⟨b4, o4, none⟩) nW cy
  | 17 => v = .int .i64 ((kq : Int) + 1)
  | 18 => v = .pointer (some ⟨b4, o4 + (kq + 1) * 2, none⟩)
  | 19 => v = .pointer (some ⟨b4, o4 + (kq + 1) * 2, none⟩)
  | 20 => v = .int .i64 xp
  | 21 => v = .slice (some ⟨b4, o4, none⟩) nW cy
  | 22 => v = .int .i64 ((kq : Int) + 1)
  | 23 => v = .int .i64 (kq : Int)
  | 24 => v = .pointer (some ⟨b4, o4 + kq * 2, none⟩)
  | 25 => v = .pointer (some ⟨b4, o4 + kq * 2, none⟩)
  | 26 => v = .int .i64 xp
  | 27 => v = .bool true
  | 28 => v = .bool true
  | 29 => v = .slice (some ⟨b4, o4, none⟩) nW cy
  | 30 => v = .int .i64 ((kq : Int) + 1)
  | 31 => v = .pointer (some ⟨b4, o4 + (kq + 1) * 2, none⟩)
  | 32 => v = .pointer (some ⟨b4, o4 + (kq + 1) * 2 + 1, none⟩)
  | 33 => v = .int .i64 uh
  | 34 => v = .slice (some ⟨b4, o4, none⟩) nW cy
  | 35 => v = .int .i64 ((kq : Int) + 1)
  | 36 => v = .int .i64 (kq : Int)
  | 37 => v = .pointer (some ⟨b4, o4 + kq * 2, none⟩)
  | 38 => v = .pointer (some ⟨b4, o4 + kq * 2 + 1, none⟩)
  | 39 => v = .int .i64 xh
  | 40 => v = .bool false
  | 41 => v = .bool false
  | 42 => v = .bool false
  | 43 => v = .bool false
  | _ => True
theorem RMs.below {b4 o4 nW cy kq : Nat} {xp xh uh : Int} {k : Nat} {v : Value} {w w' : World} (h : RMs b4 o4 nW cy kq xp xh uh k v w) (_hb : Below w.heap.size w w') : RMs b4 o4 nW cy kq xp xh uh k v w' := by
  unfold RMs at h ⊢
  split at h
  all_goals exact h
theorem RMs.put {w4 : World} {b4 o4 nW cy kq : Nat} {xp xh uh : Int} {v : Value} {w w' : World} {f : Nat → Bool} {us : Nat → Value} {i : Nat} (g : Rg.Kept (fun w' => Below w4.heap.size w4 w') (RMs b4 o4 nW cy kq xp xh uh) f us w) (hb : Below w.heap.size w w') (hv : RMs b4 o4 nW cy kq xp xh uh i v w') :
    Rg.Kept (fun w' => Below w4.heap.size w4 w') (RMs b4 o4 nW cy kq xp xh uh) (Rg.upd f i true) (Rg.upd us i v) w' :=
  Rg.Kept.put (Base := fun w' => Below w4.heap.size w4 w') (R := RMs b4 o4 nW cy kq xp xh uh) (fun _ _ h hb => h.trans (hb.mono h.size)) (fun _ _ _ _ h hb => RMs.below h hb) g hb hv
set_option maxHeartbeats 8000000 in
theorem many_law (C : Con) (D : Do.Con) (A : Alive) (v : Value) (l : List Nd) (w0 : World) (hT : Tx w0) (hv : Nds w0 v l) (hm : Nms l) :
    Calls Tryd.prog 5 #[v] w0 fun e w' => e = .returned (.bool true) ∧ Below w0.heap.size w0 w' := by
  have HF := Lib.hid (few_any v l w0 hv)
  have HA := Lib.hid (fun w1 (hb : Below w0.heap.size w0 w1) => A w1 (hT.below hb))
  clear hT
  cases hf : Do.fewB l with
  | false =>
    rw [hf] at HF
    obtain ⟨_, a, c, rfl, -⟩ := id hv
    clear hv hm hf
    go_enter Tryd.func5, Tryd.ntmps5
    go_wp2_with fail
    refine HF.out.mono ?_
    rintro e w1 ⟨rfl, rfl⟩
    go_wp2_with fail
    refine (HA.out _ (Below.refl _ _)).mono ?_
    rintro e w2 ⟨rfl, hb2⟩
    have D2 := Lib.hid hb2
    clear hb2
    go_wp2_with fail
    go_ret
    exact ⟨rfl, D2.out⟩
  | true =>
    rw [hf] at HF
    have hl := Do.few_len hf
    have HC := Lib.hid (C.en v l w0 hv (by omega) hm)
    have HAV := Lib.hid (fun w1 (hb : Below w0.heap.size w0 w1) => D.act v l w1 (hv.below hb) (by omega) hm)
    have HFR := Lib.hid (fun z w1 (hb : Below w0.heap.size w0 w1) => D.free v l z w1 (hv.below hb) (by omega) hm)
    have HV := Lib.hid (fun w1 (hb : Below w0.heap.size w0 w1) => hv.below hb)
    have hwl : (enR l).length ≤ 200 := Nat.le_trans (enR_len l) (by omega)
    have hvl : (av l).length ≤ 100 := Nat.le_trans (av_len l) hl
    obtain ⟨W, hWl⟩ : ∃ W, enR l = W := ⟨_, rfl⟩
    have HUP : Hid (∀ k, (h : k + 1 < W.length) → Up (W[k]'(by omega)) W[k + 1]) := Lib.hid (by subst hWl; exact fun k h => up_at (l := l) h)
    have HTW := Lib.hid (enR_two l)
    have HIN := Lib.hid (fun z (hz : z ∈ av l) => av_in hz)
    have HKN := Lib.hid (fun z (hz : z ∈ av l) => av_kind hz)
    have HKC : Hid (∀ (q : Nat) (h : q < l.length), kn l (q : Int) = l[q].k) := Lib.hid fun q h => by unfold kn; rw [Int.toNat_natCast, List.getElem?_eq_getElem h]
    have HT2 : Hid (∀ z, two l z = (kn l z == 6 || ((kn l z == 4 || kn l z == 10) && fr l z))) := Lib.hid fun z => rfl
    obtain ⟨_, a0, c0, rfl, -⟩ := id hv
    rw [hWl] at HC hwl HTW
    generalize av l = V at HAV hvl HTW HIN HKN
    obtain ⟨tw, htw⟩ : ∃ tw, two l = tw := ⟨_, rfl⟩
    rw [htw] at HTW HT2
    obtain ⟨n0, hn0⟩ : ∃ n0, l.length = n0 := ⟨_, rfl⟩
    have HN0 := Lib.hid hn0
    rw [hn0] at HC HAV HFR HV HF hl ⊢
    clear hv hm hf htw hn0 hWl
    go_enter Tryd.func5, Tryd.ntmps5
    go_wp2_with fail
    refine HF.out.mono ?_
    rintro e w1 ⟨rfl, rfl⟩
    go_wp2_with fail
    refine HC.out.mono ?_
    rintro e w1 ⟨y, rfl, hi, hb1⟩
    have D1 := Lib.hid hb1
    have I1 := Lib.hid hi
    obtain ⟨_, ay, cy, rfl, -⟩ := id hi
    clear hb1 hi
    go_wp2_with fail
    go_loopw [16] (fun i wr => ∃ k : Nat, k ≤ W.length ∧ i = .int .i64 k ∧ Hid (Below w1.heap.size w1 wr)) (fun i _ => W.length - (intOf i).toNat)
    case atStart => exact ⟨0, Nat.zero_le _, rfl, Lib.hid (Below.refl _ _)⟩
    case round =>
      obtain ⟨k, hk, rfl, HB⟩ := hrel
      by_cases hlt : k < W.length
      · cases k with
        | zero =>
          go_wp2_with fail
          go_quiet (fail)
          go_wp2_with fail
          go_roundw
          case rel => exact ⟨1, by omega, by go_num, Lib.hid (HB.out.trans (Below.drewN _ _ _))⟩
          case measure => simp [intOf]; omega
        | succ kq =>
          rcases (I1.out.below HB.out).form with ⟨h0, _⟩ | ⟨b4, o4, c4, e4, _, hat4⟩
          · rw [h0] at hlt; simp at hlt
          injection e4 with e5 _ e6
          subst e5
          subst e6
          obtain ⟨p1, p2⟩ := hat4 (kq + 1) hlt
          obtain ⟨p3, p4⟩ := hat4 kq (by omega)
          have hup := HUP.out kq hlt
          obtain ⟨x, hx⟩ : ∃ x, W[kq]'(by omega) = x := ⟨_, rfl⟩
          obtain ⟨u, hu⟩ : ∃ u, W[kq + 1] = u := ⟨_, rfl⟩
          rw [hx] at p3 p4 hup
          rw [hu] at p1 p2 hup
          obtain ⟨xp, xh⟩ := x
          obtain ⟨up, uh⟩ := u
          unfold Up at hup
          simp only at p1 p2 p3 p4 hup
          have q1 : (kq : Int) + 1 < W.length := by omega
          have q2 : (kq : Int) < W.length := by omega
          have q0 : 0 ≤ (kq : Int) + 1 := by omega
          have q3 : ((kq : Int) + 1).toNat = kq + 1 := by omega
          have q4 : IntKind.i64.wrap (kq : Int) = kq := by rw [IntKind.wrap_i64]; omega
          clear hx hu hat4
          have CP : Hid (∀ w', Below wr.heap.size wr w' → w'.cell? ⟨b4, o4 + (kq + 1) * 2, none⟩ = some (.int .i64 up) ∧ w'.cell? ⟨b4, o4 + (kq + 1) * 2 + 1, none⟩ = some (.int .i64 uh) ∧ w'.cell? ⟨b4, o4 + kq * 2, none⟩ = some (.int .i64 xp) ∧ w'.cell? ⟨b4, o4 + kq * 2 + 1, none⟩ = some (.int .i64 xh)) := Lib.hid fun w' hb => by
            rw [hb.cell (Ap.cell_lt p1), hb.cell (Ap.cell_lt p2), hb.cell (Ap.cell_lt p3), hb.cell (Ap.cell_lt p4)]
            exact ⟨p1, p2, p3, p4⟩
          obtain ⟨w4, hw4⟩ : ∃ w4, w4 = wr := ⟨_, rfl⟩
          subst hw4
          have hk1 : kq + 1 < W.length := hlt
          obtain ⟨nW, hnW⟩ : ∃ nW, W.length = nW := ⟨_, rfl⟩
          rw [hnW] at q1 q2 hlt hk hk1 ⊢
          clear p1 p2 p3 p4 HUP HAV HFR HV HF HA HIN HKN HKC HT2 HTW I1
          rcases hup with hup | ⟨rfl, hup⟩
          · have g1 : ¬ up < xp := by omega
            have g2 : (up == xp) = false := beq_eq_false_iff_ne.2 (by omega)
            clear hup
            go_wp2_with fail
            refine Rg.wp_region_kept (by kernel_rfl) [(0, some 19), (1, some 20), (2, some 21), (3, some 22), (4, some 23), (5, some 24), (6, some 25), (7, some 26), (8, some 27), (9, some 28), (10, some 29), (11, some 30), (12, some 31), (13, some 32), (14, some 33), (15, some 34), (16, some 35), (17, some 36), (18, some 37), (19, some 38), (20, some 39), (21, some 40), (22, some 41), (23, some 42), (24, some 43), (25, some 44), (26, some 45), (27, some 46), (28, some 47), (29, some 48), (30, some 49), (31, some 50), (32, some 51), (33, some 52), (34, some 53), (35, some 54), (36, some 55), (37, some 56), (38, some 57), (39, some 58), (40, some 59), (41, some 60), (42, some 61), (43, some 62)] (by rfl) (by kernel_rfl) (by kernel_rfl) (fun w' => Below w4.heap.size w4 w') (RMd b4 o4 nW cy kq xp up) (Below.refl _ _).drew ?_ ⟨⟨⟨⟨⟨⟨⟨⟨⟨⟨⟨⟨⟨⟨⟨⟨⟨⟨⟨⟨⟨⟨⟨⟨⟨⟨⟨⟨⟨⟨⟨⟨⟨⟨⟨⟨⟨⟨⟨⟨⟨⟨⟨⟨True.intro, ?_⟩, ?_⟩, ?_⟩, ?_⟩, ?_⟩, ?_⟩, ?_⟩, ?_⟩, ?_⟩, ?_⟩, ?_⟩, ?_⟩, ?_⟩, ?_⟩, ?_⟩, ?_⟩, ?_⟩, ?_⟩, ?_⟩, ?_⟩, ?_⟩, ?_⟩, ?_⟩, ?_⟩, ?_⟩, ?_⟩, ?_⟩, ?_⟩, ?_⟩, ?_⟩, ?_⟩, ?_⟩, ?_⟩, ?_⟩, ?_⟩, ?_⟩, ?_⟩, ?_⟩, ?_⟩, ?_⟩, ?_⟩, ?_⟩, ?_⟩, ?_⟩ ?_
            · intro k v w' hk
              unfold RMd
              split
              case h_45 => trivial
              all_goals exact absurd hk (by decide)
            · intro o ho f us wl al ha g hf hdep K hKf
              obtain rfl := Option.some.inj ho
              have hB := g.1
              have hK : ∀ v w', RMd b4 o4 nW cy kq xp up 0 v w' → Below wl.heap.size wl w' → K (al.put (some 19) v) w' := fun v w' hv hb => hKf v w' (RMd.put g hb hv)
              have e4 : al.tmps[4]?.getD undef = .int .i64 ((kq : Int) + 1) := by rw [← Rg.eval_getD, ha]; exact (Rg.puts_eval_ne _ _ _ (by rfl)).trans rfl
              have HB := Lib.hid hB
              clear ha hdep g hf hKf hB
              refine Rg.wpOp_of rfl rfl ?_
              go_simp
              exact hK _ _ rfl (Below.refl _ _)
            · intro o ho f us wl al ha g hf hdep K hKf
              obtain rfl := Option.some.inj ho
              have hB := g.1
              have hK : ∀ v w', RMd b4 o4 nW cy kq xp up 1 v w' → Below wl.heap.size wl w' → K (al.put (some 20) v) w' := fun v w' hv hb => hKf v w' (RMd.put g hb hv)
              have d0 : RMd b4 o4 nW cy kq xp up 0 (us 0) wl := g.2 0 (hdep ⟨0, .data⟩ (by simp) rfl)
              have e19 : al.tmps[19]?.getD undef = us 0 := by rw [← Rg.eval_getD, ha]; exact Rg.puts_eval _ _ _ (by rfl) (by simp) (by simp)
              have f0 : us 0 = .int .i64 ((kq : Int) + 1) := d0
              have q5 : (0 : Int) < (kq : Int) + 1 := by omega
              have HB := Lib.hid hB
              clear ha hdep g hf hKf d0 hB
              refine Rg.wpOp_of rfl rfl ?_
              go_simp
              exact hK _ _ rfl (Below.refl _ _)
            · intro o ho f us wl al ha g hf hdep K hKf
              obtain rfl := Option.some.inj ho
              have hB := g.1
              have hK : ∀ v w', RMd b4 o4 nW cy kq xp up 2 v w' → Below wl.heap.size wl w' → K (al.put (some 21) v) w' := fun v w' hv hb => hKf v w' (RMd.put g hb hv)
              have d1 : RMd b4 o4 nW cy kq xp up 1 (us 1) wl := g.2 1 (hdep ⟨1, .data⟩ (by simp) rfl)
              have e20 : al.tmps[20]?.getD undef = us 1 := by rw [← Rg.eval_getD, ha]; exact Rg.puts_eval _ _ _ (by rfl) (by simp) (by simp)
              have f1 : us 1 = .bool true := d1
              have HB := Lib.hid hB
              clear ha hdep g hf hKf d1 hB
              refine Rg.wpOp_of rfl rfl ?_
              go_simp
              exact hK _ _ rfl (Below.refl _ _)
            · intro o ho f us wl al ha g hf hdep K hKf
              obtain rfl := Option.some.inj ho
              have hB := g.1
              have hK : ∀ v w', RMd b4 o4 nW cy kq xp up 3 v w' → Below wl.heap.size wl w' → K (al.put (some 22) v) w' := fun v w' hv hb => hKf v w' (RMd.put g hb hv)
              have e3 : al.tmps[3]?.getD undef = .slice (some ⟨b4, o4, none⟩) nW cy := by rw [← Rg.eval_getD, ha]; exact (Rg.puts_eval_ne _ _ _ (by rfl)).trans rfl
              have dg : RMd b4 o4 nW cy kq xp up 2 (us 2) wl := g.2 2 (hdep ⟨2, .guard⟩ (by simp) rfl)
              have gg : al.eval (.tmp 21) = .bool true := by rw [ha]; exact (Rg.puts_eval _ _ _ (by rfl) (by simp) (by simp)).trans dg
              have HB := Lib.hid hB
              clear ha hdep g hf hKf hB
              refine Rg.wpOp_of rfl (Rg.wanted_of rfl (Rg.yielded_of (d := 21) (by rfl) gg)) ?_
              go_simp
              exact hK _ _ rfl (Below.refl _ _)
            · intro o ho f us wl al ha g hf hdep K hKf
              obtain rfl := Option.some.inj ho
              have hB := g.1
              have hK : ∀ v w', RMd b4 o4 nW cy kq xp up 4 v w' → Below wl.heap.size wl w' → K (al.put (some 23) v) w' := fun v w' hv hb => hKf v w' (RMd.put g hb hv)
              have e4 : al.tmps[4]?.getD undef = .int .i64 ((kq : Int) + 1) := by rw [← Rg.eval_getD, ha]; exact (Rg.puts_eval_ne _ _ _ (by rfl)).trans rfl
              have dg : RMd b4 o4 nW cy kq xp up 2 (us 2) wl := g.2 2 (hdep ⟨2, .guard⟩ (by simp) rfl)
              have gg : al.eval (.tmp 21) = .bool true := by rw [ha]; exact (Rg.puts_eval _ _ _ (by rfl) (by simp) (by simp)).trans dg
              have HB := Lib.hid hB
              clear ha hdep g hf hKf hB
              refine Rg.wpOp_of rfl (Rg.wanted_of rfl (Rg.yielded_of (d := 21) (by rfl) gg)) ?_
              go_simp
              exact hK _ _ rfl (Below.refl _ _)
            · intro o ho f us wl al ha g hf hdep K hKf
              obtain rfl := Option.some.inj ho
              have hB := g.1
              have hK : ∀ v w', RMd b4 o4 nW cy kq xp up 5 v w' → Below wl.heap.size wl w' → K (al.put (some 24) v) w' := fun v w' hv hb => hKf v w' (RMd.put g hb hv)
              have d3 : RMd b4 o4 nW cy kq xp up 3 (us 3) wl := g.2 3 (hdep ⟨3, .data⟩ (by simp) rfl)
              have e22 : al.tmps[22]?.getD undef = us 3 := by rw [← Rg.eval_getD, ha]; exact Rg.puts_eval _ _ _ (by rfl) (by simp) (by simp)
              have d4 : RMd b4 o4 nW cy kq xp up 4 (us 4) wl := g.2 4 (hdep ⟨4, .data⟩ (by simp) rfl)
              have e23 : al.tmps[23]?.getD undef = us 4 := by rw [← Rg.eval_getD, ha]; exact Rg.puts_eval _ _ _ (by rfl) (by simp) (by simp)
              have dg : RMd b4 o4 nW cy kq xp up 2 (us 2) wl := g.2 2 (hdep ⟨2, .guard⟩ (by simp) rfl)
              have gg : al.eval (.tmp 21) = .bool true := by rw [ha]; exact (Rg.puts_eval _ _ _ (by rfl) (by simp) (by simp)).trans dg
              have f3 : us 3 = .slice (some ⟨b4, o4, none⟩) nW cy := d3
              have f4 : us 4 = .int .i64 ((kq : Int) + 1) := d4
              have HB := Lib.hid hB
              clear ha hdep g hf hKf d3 d4 hB
              refine Rg.wpOp_of rfl (Rg.wanted_of rfl (Rg.yielded_of (d := 21) (by rfl) gg)) ?_
              go_simp
              exact hK _ _ rfl (Below.refl _ _)
            · intro o ho f us wl al ha g hf hdep K hKf
              obtain rfl := Option.some.inj ho
              have hB := g.1
              have hK : ∀ v w', RMd b4 o4 nW cy kq xp up 6 v w' → Below wl.heap.size wl w' → K (al.put (some 25) v) w' := fun v w' hv hb => hKf v w' (RMd.put g hb hv)
              have d5 : RMd b4 o4 nW cy kq xp up 5 (us 5) wl := g.2 5 (hdep ⟨5, .data⟩ (by simp) rfl)
              have e24 : al.tmps[24]?.getD undef = us 5 := by rw [← Rg.eval_getD, ha]; exact Rg.puts_eval _ _ _ (by rfl) (by simp) (by simp)
              have dg : RMd b4 o4 nW cy kq xp up 2 (us 2) wl := g.2 2 (hdep ⟨2, .guard⟩ (by simp) rfl)
              have gg : al.eval (.tmp 21) = .bool true := by rw [ha]; exact (Rg.puts_eval _ _ _ (by rfl) (by simp) (by simp)).trans dg
              have f5 : us 5 = .pointer (some ⟨b4, o4 + (kq + 1) * 2, none⟩) := d5
              have HB := Lib.hid hB
              clear ha hdep g hf hKf d5 hB
              refine Rg.wpOp_of rfl (Rg.wanted_of rfl (Rg.yielded_of (d := 21) (by rfl) gg)) ?_
              go_simp
              exact hK _ _ rfl (Below.refl _ _)
            · intro o ho f us wl al ha g hf hdep K hKf
              obtain rfl := Option.some.inj ho
              have hB := g.1
              have hK : ∀ v w', RMd b4 o4 nW cy kq xp up 7 v w' → Below wl.heap.size wl w' → K (al.put (some 26) v) w' := fun v w' hv hb => hKf v w' (RMd.put g hb hv)
              have d6 : RMd b4 o4 nW cy kq xp up 6 (us 6) wl := g.2 6 (hdep ⟨6, .data⟩ (by simp) rfl)
              have e25 : al.tmps[25]?.getD undef = us 6 := by rw [← Rg.eval_getD, ha]; exact Rg.puts_eval _ _ _ (by rfl) (by simp) (by simp)
              have dg : RMd b4 o4 nW cy kq xp up 2 (us 2) wl := g.2 2 (hdep ⟨2, .guard⟩ (by simp) rfl)
              have gg : al.eval (.tmp 21) = .bool true := by rw [ha]; exact (Rg.puts_eval _ _ _ (by rfl) (by simp) (by simp)).trans dg
              have f6 : us 6 = .pointer (some ⟨b4, o4 + (kq + 1) * 2, none⟩) := d6
              obtain ⟨c1, c2, c3, c4⟩ := CP.out _ hB
              have HB := Lib.hid hB
              clear ha hdep g hf hKf d6 hB
              refine Rg.wpOp_of rfl (Rg.wanted_of rfl (Rg.yielded_of (d := 21) (by rfl) gg)) ?_
              go_simp
              exact hK _ _ rfl (Below.refl _ _)
            · intro o ho f us wl al ha g hf hdep K hKf
              obtain rfl := Option.some.inj ho
              have hB := g.1
              have hK : ∀ v w', RMd b4 o4 nW cy kq xp up 8 v w' → Below wl.heap.size wl w' → K (al.put (some 27) v) w' := fun v w' hv hb => hKf v w' (RMd.put g hb hv)
              have e3 : al.tmps[3]?.getD undef = .slice (some ⟨b4, o4, none⟩) nW cy := by rw [← Rg.eval_getD, ha]; exact (Rg.puts_eval_ne _ _ _ (by rfl)).trans rfl
              have dg : RMd b4 o4 nW cy kq xp up 2 (us 2) wl := g.2 2 (hdep ⟨2, .guard⟩ (by simp) rfl)
              have gg : al.eval (.tmp 21) = .bool true := by rw [ha]; exact (Rg.puts_eval _ _ _ (by rfl) (by simp) (by simp)).trans dg
              have HB := Lib.hid hB
              clear ha hdep g hf hKf hB
              refine Rg.wpOp_of rfl (Rg.wanted_of rfl (Rg.yielded_of (d := 21) (by rfl) gg)) ?_
              go_simp
              exact hK _ _ rfl (Below.refl _ _)
            · intro o ho f us wl al ha g hf hdep K hKf
              obtain rfl := Option.some.inj ho
              have hB := g.1
              have hK : ∀ v w', RMd b4 o4 nW cy kq xp up 9 v w' → Below wl.heap.size wl w' → K (al.put (some 28) v) w' := fun v w' hv hb => hKf v w' (RMd.put g hb hv)
              have e4 : al.tmps[4]?.getD undef = .int .i64 ((kq : Int) + 1) := by rw [← Rg.eval_getD, ha]; exact (Rg.puts_eval_ne _ _ _ (by rfl)).trans rfl
              have dg : RMd b4 o4 nW cy kq xp up 2 (us 2) wl := g.2 2 (hdep ⟨2, .guard⟩ (by simp) rfl)
              have gg : al.eval (.tmp 21) = .bool true := by rw [ha]; exact (Rg.puts_eval _ _ _ (by rfl) (by simp) (by simp)).trans dg
              have HB := Lib.hid hB
              clear ha hdep g hf hKf hB
              refine Rg.wpOp_of rfl (Rg.wanted_of rfl (Rg.yielded_of (d := 21) (by rfl) gg)) ?_
              go_simp
              exact hK _ _ rfl (Below.refl _ _)
            · intro o ho f us wl al ha g hf hdep K hKf
              obtain rfl := Option.some.inj ho
              have hB := g.1
              have hK : ∀ v w', RMd b4 o4 nW cy kq xp up 10 v w' → Below wl.heap.size wl w' → K (al.put (some 29) v) w' := fun v w' hv hb => hKf v w' (RMd.put g hb hv)
              have d9 : RMd b4 o4 nW cy kq xp up 9 (us 9) wl := g.2 9 (hdep ⟨9, .data⟩ (by simp) rfl)
              have e28 : al.tmps[28]?.getD undef = us 9 := by rw [← Rg.eval_getD, ha]; exact Rg.puts_eval _ _ _ (by rfl) (by simp) (by simp)
              have dg : RMd b4 o4 nW cy kq xp up 2 (us 2) wl := g.2 2 (hdep ⟨2, .guard⟩ (by simp) rfl)
              have gg : al.eval (.tmp 21) = .bool true := by rw [ha]; exact (Rg.puts_eval _ _ _ (by rfl) (by simp) (by simp)).trans dg
              have f9 : us 9 = .int .i64 ((kq : Int) + 1) := d9
              have HB := Lib.hid hB
              clear ha hdep g hf hKf d9 hB
              refine Rg.wpOp_of rfl (Rg.wanted_of rfl (Rg.yielded_of (d := 21) (by rfl) gg)) ?_
              go_simp
              exact hK _ _ rfl (Below.refl _ _)
            · intro o ho f us wl al ha g hf hdep K hKf
              obtain rfl := Option.some.inj ho
              have hB := g.1
              have hK : ∀ v w', RMd b4 o4 nW cy kq xp up 11 v w' → Below wl.heap.size wl w' → K (al.put (some 30) v) w' := fun v w' hv hb => hKf v w' (RMd.put g hb hv)
              have d8 : RMd b4 o4 nW cy kq xp up 8 (us 8) wl := g.2 8 (hdep ⟨8, .data⟩ (by simp) rfl)
              have e27 : al.tmps[27]?.getD undef = us 8 := by rw [← Rg.eval_getD, ha]; exact Rg.puts_eval _ _ _ (by rfl) (by simp) (by simp)
              have d10 : RMd b4 o4 nW cy kq xp up 10 (us 10) wl := g.2 10 (hdep ⟨10, .data⟩ (by simp) rfl)
              have e29 : al.tmps[29]?.getD undef = us 10 := by rw [← Rg.eval_getD, ha]; exact Rg.puts_eval _ _ _ (by rfl) (by simp) (by simp)
              have dg : RMd b4 o4 nW cy kq xp up 2 (us 2) wl := g.2 2 (hdep ⟨2, .guard⟩ (by simp) rfl)
              have gg : al.eval (.tmp 21) = .bool true := by rw [ha]; exact (Rg.puts_eval _ _ _ (by rfl) (by simp) (by simp)).trans dg
              have f8 : us 8 = .slice (some ⟨b4, o4, none⟩) nW cy := d8
              have f10 : us 10 = .int .i64 (kq : Int) := d10
              have HB := Lib.hid hB
              clear ha hdep g hf hKf d8 d10 hB
              refine Rg.wpOp_of rfl (Rg.wanted_of rfl (Rg.yielded_of (d := 21) (by rfl) gg)) ?_
              go_simp
              exact hK _ _ rfl (Below.refl _ _)
            · intro o ho f us wl al ha g hf hdep K hKf
              obtain rfl := Option.some.inj ho
              have hB := g.1
              have hK : ∀ v w', RMd b4 o4 nW cy kq xp up 12 v w' → Below wl.heap.size wl w' → K (al.put (some 31) v) w' := fun v w' hv hb => hKf v w' (RMd.put g hb hv)
              have d11 : RMd b4 o4 nW cy kq xp up 11 (us 11) wl := g.2 11 (hdep ⟨11, .data⟩ (by simp) rfl)
              have e30 : al.tmps[30]?.getD undef = us 11 := by rw [← Rg.eval_getD, ha]; exact Rg.puts_eval _ _ _ (by rfl) (by simp) (by simp)
              have dg : RMd b4 o4 nW cy kq xp up 2 (us 2) wl := g.2 2 (hdep ⟨2, .guard⟩ (by simp) rfl)
              have gg : al.eval (.tmp 21) = .bool true := by rw [ha]; exact (Rg.puts_eval _ _ _ (by rfl) (by simp) (by simp)).trans dg
              have f11 : us 11 = .pointer (some ⟨b4, o4 + kq * 2, none⟩) := d11
              have HB := Lib.hid hB
              clear ha hdep g hf hKf d11 hB
              refine Rg.wpOp_of rfl (Rg.wanted_of rfl (Rg.yielded_of (d := 21) (by rfl) gg)) ?_
              go_simp
              exact hK _ _ rfl (Below.refl _ _)
            · intro o ho f us wl al ha g hf hdep K hKf
              obtain rfl := Option.some.inj ho
              have hB := g.1
              have hK : ∀ v w', RMd b4 o4 nW cy kq xp up 13 v w' → Below wl.heap.size wl w' → K (al.put (some 32) v) w' := fun v w' hv hb => hKf v w' (RMd.put g hb hv)
              have d12 : RMd b4 o4 nW cy kq xp up 12 (us 12) wl := g.2 12 (hdep ⟨12, .data⟩ (by simp) rfl)
              have e31 : al.tmps[31]?.getD undef = us 12 := by rw [← Rg.eval_getD, ha]; exact Rg.puts_eval _ _ _ (by rfl) (by simp) (by simp)
              have dg : RMd b4 o4 nW cy kq xp up 2 (us 2) wl := g.2 2 (hdep ⟨2, .guard⟩ (by simp) rfl)
              have gg : al.eval (.tmp 21) = .bool true := by rw [ha]; exact (Rg.puts_eval _ _ _ (by rfl) (by simp) (by simp)).trans dg
              have f12 : us 12 = .pointer (some ⟨b4, o4 + kq * 2, none⟩) := d12
              obtain ⟨c1, c2, c3, c4⟩ := CP.out _ hB
              have HB := Lib.hid hB
              clear ha hdep g hf hKf d12 hB
              refine Rg.wpOp_of rfl (Rg.wanted_of rfl (Rg.yielded_of (d := 21) (by rfl) gg)) ?_
              go_simp
              exact hK _ _ rfl (Below.refl _ _)
            · intro o ho f us wl al ha g hf hdep K hKf
              obtain rfl := Option.some.inj ho
              have hB := g.1
              have hK : ∀ v w', RMd b4 o4 nW cy kq xp up 14 v w' → Below wl.heap.size wl w' → K (al.put (some 33) v) w' := fun v w' hv hb => hKf v w' (RMd.put g hb hv)
              have d7 : RMd b4 o4 nW cy kq xp up 7 (us 7) wl := g.2 7 (hdep ⟨7, .data⟩ (by simp) rfl)
              have e26 : al.tmps[26]?.getD undef = us 7 := by rw [← Rg.eval_getD, ha]; exact Rg.puts_eval _ _ _ (by rfl) (by simp) (by simp)
              have d13 : RMd b4 o4 nW cy kq xp up 13 (us 13) wl := g.2 13 (hdep ⟨13, .data⟩ (by simp) rfl)
              have e32 : al.tmps[32]?.getD undef = us 13 := by rw [← Rg.eval_getD, ha]; exact Rg.puts_eval _ _ _ (by rfl) (by simp) (by simp)
              have dg : RMd b4 o4 nW cy kq xp up 2 (us 2) wl := g.2 2 (hdep ⟨2, .guard⟩ (by simp) rfl)
              have gg : al.eval (.tmp 21) = .bool true := by rw [ha]; exact (Rg.puts_eval _ _ _ (by rfl) (by simp) (by simp)).trans dg
              have f7 : us 7 = .int .i64 up := d7
              have f13 : us 13 = .int .i64 xp := d13
              have HB := Lib.hid hB
              clear ha hdep g hf hKf d7 d13 hB
              refine Rg.wpOp_of rfl (Rg.wanted_of rfl (Rg.yielded_of (d := 21) (by rfl) gg)) ?_
              go_simp
              first
              | exact hK _ _ rfl (Below.refl _ _)
              | exact hK _ _ (congrArg Value.bool (decide_eq_false (Int.not_lt.2 g1))) (Below.refl _ _)
            · intro o ho f us wl al ha g hf hdep K hKf
              obtain rfl := Option.some.inj ho
              have hB := g.1
              have hK : ∀ v w', RMd b4 o4 nW cy kq xp up 15 v w' → Below wl.heap.size wl w' → K (al.put (some 34) v) w' := fun v w' hv hb => hKf v w' (RMd.put g hb hv)
              have d14 : RMd b4 o4 nW cy kq xp up 14 (us 14) wl := g.2 14 (hdep ⟨14, .data⟩ (by simp) rfl)
              have e33 : al.tmps[33]?.getD undef = us 14 := by rw [← Rg.eval_getD, ha]; exact Rg.puts_eval _ _ _ (by rfl) (by simp) (by simp)
              have dg : RMd b4 o4 nW cy kq xp up 2 (us 2) wl := g.2 2 (hdep ⟨2, .guard⟩ (by simp) rfl)
              have gg : al.eval (.tmp 21) = .bool true := by rw [ha]; exact (Rg.puts_eval _ _ _ (by rfl) (by simp) (by simp)).trans dg
              have f14 : us 14 = .bool false := d14
              have HB := Lib.hid hB
              clear ha hdep g hf hKf d14 hB
              refine Rg.wpOp_of rfl (Rg.wanted_of rfl (Rg.yielded_of (d := 21) (by rfl) gg)) ?_
              go_simp
              exact hK _ _ rfl (Below.refl _ _)
            · intro o ho f us wl al ha g hf hdep K hKf
              obtain rfl := Option.some.inj ho
              have hB := g.1
              have hK : ∀ v w', RMd b4 o4 nW cy kq xp up 16 v w' → Below wl.heap.size wl w' → K (al.put (some 35) v) w' := fun v w' hv hb => hKf v w' (RMd.put g hb hv)
              have e3 : al.tmps[3]?.getD undef = .slice (some ⟨b4, o4, none⟩) nW cy := by rw [← Rg.eval_getD, ha]; exact (Rg.puts_eval_ne _ _ _ (by rfl)).trans rfl
              have dg : RMd b4 o4 nW cy kq xp up 15 (us 15) wl := g.2 15 (hdep ⟨15, .guard⟩ (by simp) rfl)
              have gg : al.eval (.tmp 34) = .bool false := by rw [ha]; exact (Rg.puts_eval _ _ _ (by rfl) (by simp) (by simp)).trans dg
              have HB := Lib.hid hB
              clear ha hdep g hf hKf hB
              refine Rg.wpOp_of rfl (Rg.wanted_of rfl (Rg.yielded_of (d := 34) (by rfl) gg)) ?_
              go_simp
              exact hK _ _ rfl (Below.refl _ _)
            · intro o ho f us wl al ha g hf hdep K hKf
              obtain rfl := Option.some.inj ho
              have hB := g.1
              have hK : ∀ v w', RMd b4 o4 nW cy kq xp up 17 v w' → Below wl.heap.size wl w' → K (al.put (some 36) v) w' := fun v w' hv hb => hKf v w' (RMd.put g hb hv)
              have e4 : al.tmps[4]?.getD undef = .int .i64 ((kq : Int) + 1) := by rw [← Rg.eval_getD, ha]; exact (Rg.puts_eval_ne _ _ _ (by rfl)).trans rfl
              have dg : RMd b4 o4 nW cy kq xp up 15 (us 15) wl := g.2 15 (hdep ⟨15, .guard⟩ (by simp) rfl)
              have gg : al.eval (.tmp 34) = .bool false := by rw [ha]; exact (Rg.puts_eval _ _ _ (by rfl) (by simp) (by simp)).trans dg
              have HB := Lib.hid hB
              clear ha hdep g hf hKf hB
              refine Rg.wpOp_of rfl (Rg.wanted_of rfl (Rg.yielded_of (d := 34) (by rfl) gg)) ?_
              go_simp
              exact hK _ _ rfl (Below.refl _ _)
            · intro o ho f us wl al ha g hf hdep K hKf
              obtain rfl := Option.some.inj ho
              have hB := g.1
              have hK : ∀ v w', RMd b4 o4 nW cy kq xp up 18 v w' → Below wl.heap.size wl w' → K (al.put (some 37) v) w' := fun v w' hv hb => hKf v w' (RMd.put g hb hv)
              have d16 : RMd b4 o4 nW cy kq xp up 16 (us 16) wl := g.2 16 (hdep ⟨16, .data⟩ (by simp) rfl)
              have e35 : al.tmps[35]?.getD undef = us 16 := by rw [← Rg.eval_getD, ha]; exact Rg.puts_eval _ _ _ (by rfl) (by simp) (by simp)
              have d17 : RMd b4 o4 nW cy kq xp up 17 (us 17) wl := g.2 17 (hdep ⟨17, .data⟩ (by simp) rfl)
              have e36 : al.tmps[36]?.getD undef = us 17 := by rw [← Rg.eval_getD, ha]; exact Rg.puts_eval _ _ _ (by rfl) (by simp) (by simp)
              have dg : RMd b4 o4 nW cy kq xp up 15 (us 15) wl := g.2 15 (hdep ⟨15, .guard⟩ (by simp) rfl)
              have gg : al.eval (.tmp 34) = .bool false := by rw [ha]; exact (Rg.puts_eval _ _ _ (by rfl) (by simp) (by simp)).trans dg
              have f16 : us 16 = .slice (some ⟨b4, o4, none⟩) nW cy := d16
              have f17 : us 17 = .int .i64 ((kq : Int) + 1) := d17
              have HB := Lib.hid hB
              clear ha hdep g hf hKf d16 d17 hB
              refine Rg.wpOp_of rfl (Rg.wanted_of rfl (Rg.yielded_of (d := 34) (by rfl) gg)) ?_
              go_simp
              exact hK _ _ rfl (Below.refl _ _)
            · intro o ho f us wl al ha g hf hdep K hKf
              obtain rfl := Option.some.inj ho
              have hB := g.1
              have hK : ∀ v w', RMd b4 o4 nW cy kq xp up 19 v w' → Below wl.heap.size wl w' → K (al.put (some 38) v) w' := fun v w' hv hb => hKf v w' (RMd.put g hb hv)
              have d18 : RMd b4 o4 nW cy kq xp up 18 (us 18) wl := g.2 18 (hdep ⟨18, .data⟩ (by simp) rfl)
              have e37 : al.tmps[37]?.getD undef = us 18 := by rw [← Rg.eval_getD, ha]; exact Rg.puts_eval _ _ _ (by rfl) (by simp) (by simp)
              have dg : RMd b4 o4 nW cy kq xp up 15 (us 15) wl := g.2 15 (hdep ⟨15, .guard⟩ (by simp) rfl)
              have gg : al.eval (.tmp 34) = .bool false := by rw [ha]; exact (Rg.puts_eval _ _ _ (by rfl) (by simp) (by simp)).trans dg
              have f18 : us 18 = .pointer (some ⟨b4, o4 + (kq + 1) * 2, none⟩) := d18
              have HB := Lib.hid hB
              clear ha hdep g hf hKf d18 hB
              refine Rg.wpOp_of rfl (Rg.wanted_of rfl (Rg.yielded_of (d := 34) (by rfl) gg)) ?_
              go_simp
              exact hK _ _ rfl (Below.refl _ _)
            · intro o ho f us wl al ha g hf hdep K hKf
              obtain rfl := Option.some.inj ho
              have hB := g.1
              have hK : ∀ v w', RMd b4 o4 nW cy kq xp up 20 v w' → Below wl.heap.size wl w' → K (al.put (some 39) v) w' := fun v w' hv hb => hKf v w' (RMd.put g hb hv)
              have d19 : RMd b4 o4 nW cy kq xp up 19 (us 19) wl := g.2 19 (hdep ⟨19, .data⟩ (by simp) rfl)
              have e38 : al.tmps[38]?.getD undef = us 19 := by rw [← Rg.eval_getD, ha]; exact Rg.puts_eval _ _ _ (by rfl) (by simp) (by simp)
              have dg : RMd b4 o4 nW cy kq xp up 15 (us 15) wl := g.2 15 (hdep ⟨15, .guard⟩ (by simp) rfl)
              have gg : al.eval (.tmp 34) = .bool false := by rw [ha]; exact (Rg.puts_eval _ _ _ (by rfl) (by simp) (by simp)).trans dg
              have f19 : us 19 = .pointer (some ⟨b4, o4 + (kq + 1) * 2, none⟩) := d19
              obtain ⟨c1, c2, c3, c4⟩ := CP.out _ hB
              have HB := Lib.hid hB
              clear ha hdep g hf hKf d19 hB
              refine Rg.wpOp_of rfl (Rg.wanted_of rfl (Rg.yielded_of (d := 34) (by rfl) gg)) ?_
              go_simp
              exact hK _ _ rfl (Below.refl _ _)
            · intro o ho f us wl al ha g hf hdep K hKf
              obtain rfl := Option.some.inj ho
              have hB := g.1
              have hK : ∀ v w', RMd b4 o4 nW cy kq xp up 21 v w' → Below wl.heap.size wl w' → K (al.put (some 40) v) w' := fun v w' hv hb => hKf v w' (RMd.put g hb hv)
              have e3 : al.tmps[3]?.getD undef = .slice (some ⟨b4, o4, none⟩) nW cy := by rw [← Rg.eval_getD, ha]; exact (Rg.puts_eval_ne _ _ _ (by rfl)).trans rfl
              have dg : RMd b4 o4 nW cy kq xp up 15 (us 15) wl := g.2 15 (hdep ⟨15, .guard⟩ (by simp) rfl)
              have gg : al.eval (.tmp 34) = .bool false := by rw [ha]; exact (Rg.puts_eval _ _ _ (by rfl) (by simp) (by simp)).trans dg
              have HB := Lib.hid hB
              clear ha hdep g hf hKf hB
              refine Rg.wpOp_of rfl (Rg.wanted_of rfl (Rg.yielded_of (d := 34) (by rfl) gg)) ?_
              go_simp
              exact hK _ _ rfl (Below.refl _ _)
            · intro o ho f us wl al ha g hf hdep K hKf
              obtain rfl := Option.some.inj ho
              have hB := g.1
              have hK : ∀ v w', RMd b4 o4 nW cy kq xp up 22 v w' → Below wl.heap.size wl w' → K (al.put (some 41) v) w' := fun v w' hv hb => hKf v w' (RMd.put g hb hv)
              have e4 : al.tmps[4]?.getD undef = .int .i64 ((kq : Int) + 1) := by rw [← Rg.eval_getD, ha]; exact (Rg.puts_eval_ne _ _ _ (by rfl)).trans rfl
              have dg : RMd b4 o4 nW cy kq xp up 15 (us 15) wl := g.2 15 (hdep ⟨15, .guard⟩ (by simp) rfl)
              have gg : al.eval (.tmp 34) = .bool false := by rw [ha]; exact (Rg.puts_eval _ _ _ (by rfl) (by simp) (by simp)).trans dg
              have HB := Lib.hid hB
              clear ha hdep g hf hKf hB
              refine Rg.wpOp_of rfl (Rg.wanted_of rfl (Rg.yielded_of (d := 34) (by rfl) gg)) ?_
              go_simp
              exact hK _ _ rfl (Below.refl _ _)
            · intro o ho f us wl al ha g hf hdep K hKf
              obtain rfl := Option.some.inj ho
              have hB := g.1
              have hK : ∀ v w', RMd b4 o4 nW cy kq xp up 23 v w' → Below wl.heap.size wl w' → K (al.put (some 42) v) w' := fun v w' hv hb => hKf v w' (RMd.put g hb hv)
              have d22 : RMd b4 o4 nW cy kq xp up 22 (us 22) wl := g.2 22 (hdep ⟨22, .data⟩ (by simp) rfl)
              have e41 : al.tmps[41]?.getD undef = us 22 := by rw [← Rg.eval_getD, ha]; exact Rg.puts_eval _ _ _ (by rfl) (by simp) (by simp)
              have dg : RMd b4 o4 nW cy kq xp up 15 (us 15) wl := g.2 15 (hdep ⟨15, .guard⟩ (by simp) rfl)
              have gg : al.eval (.tmp 34) = .bool false := by rw [ha]; exact (Rg.puts_eval _ _ _ (by rfl) (by simp) (by simp)).trans dg
              have f22 : us 22 = .int .i64 ((kq : Int) + 1) := d22
              have HB := Lib.hid hB
              clear ha hdep g hf hKf d22 hB
              refine Rg.wpOp_of rfl (Rg.wanted_of rfl (Rg.yielded_of (d := 34) (by rfl) gg)) ?_
              go_simp
              exact hK _ _ rfl (Below.refl _ _)
            · intro o ho f us wl al ha g hf hdep K hKf
              obtain rfl := Option.some.inj ho
              have hB := g.1
              have hK : ∀ v w', RMd b4 o4 nW cy kq xp up 24 v w' → Below wl.heap.size wl w' → K (al.put (some 43) v) w' := fun v w' hv hb => hKf v w' (RMd.put g hb hv)
              have d21 : RMd b4 o4 nW cy kq xp up 21 (us 21) wl := g.2 21 (hdep ⟨21, .data⟩ (by simp) rfl)
              have e40 : al.tmps[40]?.getD undef = us 21 := by rw [← Rg.eval_getD, ha]; exact Rg.puts_eval _ _ _ (by rfl) (by simp) (by simp)
              have d23 : RMd b4 o4 nW cy kq xp up 23 (us 23) wl := g.2 23 (hdep ⟨23, .data⟩ (by simp) rfl)
              have e42 : al.tmps[42]?.getD undef = us 23 := by rw [← Rg.eval_getD, ha]; exact Rg.puts_eval _ _ _ (by rfl) (by simp) (by simp)
              have dg : RMd b4 o4 nW cy kq xp up 15 (us 15) wl := g.2 15 (hdep ⟨15, .guard⟩ (by simp) rfl)
              have gg : al.eval (.tmp 34) = .bool false := by rw [ha]; exact (Rg.puts_eval _ _ _ (by rfl) (by simp) (by simp)).trans dg
              have f21 : us 21 = .slice (some ⟨b4, o4, none⟩) nW cy := d21
              have f23 : us 23 = .int .i64 (kq : Int) := d23
              have HB := Lib.hid hB
              clear ha hdep g hf hKf d21 d23 hB
              refine Rg.wpOp_of rfl (Rg.wanted_of rfl (Rg.yielded_of (d := 34) (by rfl) gg)) ?_
              go_simp
              exact hK _ _ rfl (Below.refl _ _)
            · intro o ho f us wl al ha g hf hdep K hKf
              obtain rfl := Option.some.inj ho
              have hB := g.1
              have hK : ∀ v w', RMd b4 o4 nW cy kq xp up 25 v w' → Below wl.heap.size wl w' → K (al.put (some 44) v) w' := fun v w' hv hb => hKf v w' (RMd.put g hb hv)
              have d24 : RMd b4 o4 nW cy kq xp up 24 (us 24) wl := g.2 24 (hdep ⟨24, .data⟩ (by simp) rfl)
              have e43 : al.tmps[43]?.getD undef = us 24 := by rw [← Rg.eval_getD, ha]; exact Rg.puts_eval _ _ _ (by rfl) (by simp) (by simp)
              have dg : RMd b4 o4 nW cy kq xp up 15 (us 15) wl := g.2 15 (hdep ⟨15, .guard⟩ (by simp) rfl)
              have gg : al.eval (.tmp 34) = .bool false := by rw [ha]; exact (Rg.puts_eval _ _ _ (by rfl) (by simp) (by simp)).trans dg
              have f24 : us 24 = .pointer (some ⟨b4, o4 + kq * 2, none⟩) := d24
              have HB := Lib.hid hB
              clear ha hdep g hf hKf d24 hB
              refine Rg.wpOp_of rfl (Rg.wanted_of rfl (Rg.yielded_of (d := 34) (by rfl) gg)) ?_
              go_simp
              exact hK _ _ rfl (Below.refl _ _)
            · intro o ho f us wl al ha g hf hdep K hKf
              obtain rfl := Option.some.inj ho
              have hB := g.1
              have hK : ∀ v w', RMd b4 o4 nW cy kq xp up 26 v w' → Below wl.heap.size wl w' → K (al.put (some 45) v) w' := fun v w' hv hb => hKf v w' (RMd.put g hb hv)
              have d25 : RMd b4 o4 nW cy kq xp up 25 (us 25) wl := g.2 25 (hdep ⟨25, .data⟩ (by simp) rfl)
              have e44 : al.tmps[44]?.getD undef = us 25 := by rw [← Rg.eval_getD, ha]; exact Rg.puts_eval _ _ _ (by rfl) (by simp) (by simp)
              have dg : RMd b4 o4 nW cy kq xp up 15 (us 15) wl := g.2 15 (hdep ⟨15, .guard⟩ (by simp) rfl)
              have gg : al.eval (.tmp 34) = .bool false := by rw [ha]; exact (Rg.puts_eval _ _ _ (by rfl) (by simp) (by simp)).trans dg
              have f25 : us 25 = .pointer (some ⟨b4, o4 + kq * 2, none⟩) := d25
              obtain ⟨c1, c2, c3, c4⟩ := CP.out _ hB
              have HB := Lib.hid hB
              clear ha hdep g hf hKf d25 hB
              refine Rg.wpOp_of rfl (Rg.wanted_of rfl (Rg.yielded_of (d := 34) (by rfl) gg)) ?_
              go_simp
              exact hK _ _ rfl (Below.refl _ _)
            · intro o ho f us wl al ha g hf hdep K hKf
              obtain rfl := Option.some.inj ho
              have hB := g.1
              have hK : ∀ v w', RMd b4 o4 nW cy kq xp up 27 v w' → Below wl.heap.size wl w' → K (al.put (some 46) v) w' := fun v w' hv hb => hKf v w' (RMd.put g hb hv)
              have d20 : RMd b4 o4 nW cy kq xp up 20 (us 20) wl := g.2 20 (hdep ⟨20, .data⟩ (by simp) rfl)
              have e39 : al.tmps[39]?.getD undef = us 20 := by rw [← Rg.eval_getD, ha]; exact Rg.puts_eval _ _ _ (by rfl) (by simp) (by simp)
              have d26 : RMd b4 o4 nW cy kq xp up 26 (us 26) wl := g.2 26 (hdep ⟨26, .data⟩ (by simp) rfl)
              have e45 : al.tmps[45]?.getD undef = us 26 := by rw [← Rg.eval_getD, ha]; exact Rg.puts_eval _ _ _ (by rfl) (by simp) (by simp)
              have dg : RMd b4 o4 nW cy kq xp up 15 (us 15) wl := g.2 15 (hdep ⟨15, .guard⟩ (by simp) rfl)
              have gg : al.eval (.tmp 34) = .bool false := by rw [ha]; exact (Rg.puts_eval _ _ _ (by rfl) (by simp) (by simp)).trans dg
              have f20 : us 20 = .int .i64 up := d20
              have f26 : us 26 = .int .i64 xp := d26
              have HB := Lib.hid hB
              clear ha hdep g hf hKf d20 d26 hB
              refine Rg.wpOp_of rfl (Rg.wanted_of rfl (Rg.yielded_of (d := 34) (by rfl) gg)) ?_
              go_simp
              exact hK _ _ rfl (Below.refl _ _)
            · intro o ho f us wl al ha g hf hdep K hKf
              obtain rfl := Option.some.inj ho
              have hB := g.1
              have hK : ∀ v w', RMd b4 o4 nW cy kq xp up 28 v w' → Below wl.heap.size wl w' → K (al.put (some 47) v) w' := fun v w' hv hb => hKf v w' (RMd.put g hb hv)
              have d27 : RMd b4 o4 nW cy kq xp up 27 (us 27) wl := g.2 27 (hdep ⟨27, .data⟩ (by simp) rfl)
              have e46 : al.tmps[46]?.getD undef = us 27 := by rw [← Rg.eval_getD, ha]; exact Rg.puts_eval _ _ _ (by rfl) (by simp) (by simp)
              have dg : RMd b4 o4 nW cy kq xp up 15 (us 15) wl := g.2 15 (hdep ⟨15, .guard⟩ (by simp) rfl)
              have gg : al.eval (.tmp 34) = .bool false := by rw [ha]; exact (Rg.puts_eval _ _ _ (by rfl) (by simp) (by simp)).trans dg
              have f27 : us 27 = .bool false := d27
              have HB := Lib.hid hB
              clear ha hdep g hf hKf d27 hB
              refine Rg.wpOp_of rfl (Rg.wanted_of rfl (Rg.yielded_of (d := 34) (by rfl) gg)) ?_
              go_simp
              exact hK _ _ rfl (Below.refl _ _)
            · intro o ho f us wl al ha g hf hdep K hKf
              obtain rfl := Option.some.inj ho
              have hB := g.1
              have hK : ∀ v w', RMd b4 o4 nW cy kq xp up 29 v w' → Below wl.heap.size wl w' → K (al.put (some 48) v) w' := fun v w' hv hb => hKf v w' (RMd.put g hb hv)
              have dg : RMd b4 o4 nW cy kq xp up 28 (us 28) wl := g.2 28 (hdep ⟨28, .guard⟩ (by simp) rfl)
              have gg : al.eval (.tmp 47) = .bool false := by rw [ha]; exact (Rg.puts_eval _ _ _ (by rfl) (by simp) (by simp)).trans dg
              refine Rg.wpOp_off rfl (Rg.unwanted_of (b := true) rfl (Rg.yielded_of (d := 47) (by rfl) gg)) ?_
              exact hK _ _ rfl (Below.refl _ _)
            · intro o ho f us wl al ha g hf hdep K hKf
              obtain rfl := Option.some.inj ho
              have hB := g.1
              have hK : ∀ v w', RMd b4 o4 nW cy kq xp up 30 v w' → Below wl.heap.size wl w' → K (al.put (some 49) v) w' := fun v w' hv hb => hKf v w' (RMd.put g hb hv)
              have dg : RMd b4 o4 nW cy kq xp up 28 (us 28) wl := g.2 28 (hdep ⟨28, .guard⟩ (by simp) rfl)
              have gg : al.eval (.tmp 47) = .bool false := by rw [ha]; exact (Rg.puts_eval _ _ _ (by rfl) (by simp) (by simp)).trans dg
              refine Rg.wpOp_off rfl (Rg.unwanted_of (b := true) rfl (Rg.yielded_of (d := 47) (by rfl) gg)) ?_
              exact hK _ _ rfl (Below.refl _ _)
            · intro o ho f us wl al ha g hf hdep K hKf
              obtain rfl := Option.some.inj ho
              have hB := g.1
              have hK : ∀ v w', RMd b4 o4 nW cy kq xp up 31 v w' → Below wl.heap.size wl w' → K (al.put (some 50) v) w' := fun v w' hv hb => hKf v w' (RMd.put g hb hv)
              have dg : RMd b4 o4 nW cy kq xp up 28 (us 28) wl := g.2 28 (hdep ⟨28, .guard⟩ (by simp) rfl)
              have gg : al.eval (.tmp 47) = .bool false := by rw [ha]; exact (Rg.puts_eval _ _ _ (by rfl) (by simp) (by simp)).trans dg
              refine Rg.wpOp_off rfl (Rg.unwanted_of (b := true) rfl (Rg.yielded_of (d := 47) (by rfl) gg)) ?_
              exact hK _ _ rfl (Below.refl _ _)
            · intro o ho f us wl al ha g hf hdep K hKf
              obtain rfl := Option.some.inj ho
              have hB := g.1
              have hK : ∀ v w', RMd b4 o4 nW cy kq xp up 32 v w' → Below wl.heap.size wl w' → K (al.put (some 51) v) w' := fun v w' hv hb => hKf v w' (RMd.put g hb hv)
              have dg : RMd b4 o4 nW cy kq xp up 28 (us 28) wl := g.2 28 (hdep ⟨28, .guard⟩ (by simp) rfl)
              have gg : al.eval (.tmp 47) = .bool false := by rw [ha]; exact (Rg.puts_eval _ _ _ (by rfl) (by simp) (by simp)).trans dg
              refine Rg.wpOp_off rfl (Rg.unwanted_of (b := true) rfl (Rg.yielded_of (d := 47) (by rfl) gg)) ?_
              exact hK _ _ rfl (Below.refl _ _)
            · intro o ho f us wl al ha g hf hdep K hKf
              obtain rfl := Option.some.inj ho
              have hB := g.1
              have hK : ∀ v w', RMd b4 o4 nW cy kq xp up 33 v w' → Below wl.heap.size wl w' → K (al.put (some 52) v) w' := fun v w' hv hb => hKf v w' (RMd.put g hb hv)
              have dg : RMd b4 o4 nW cy kq xp up 28 (us 28) wl := g.2 28 (hdep ⟨28, .guard⟩ (by simp) rfl)
              have gg : al.eval (.tmp 47) = .bool false := by rw [ha]; exact (Rg.puts_eval _ _ _ (by rfl) (by simp) (by simp)).trans dg
              refine Rg.wpOp_off rfl (Rg.unwanted_of (b := true) rfl (Rg.yielded_of (d := 47) (by rfl) gg)) ?_
              exact hK _ _ rfl (Below.refl _ _)
            · intro o ho f us wl al ha g hf hdep K hKf
              obtain rfl := Option.some.inj ho
              have hB := g.1
              have hK : ∀ v w', RMd b4 o4 nW cy kq xp up 34 v w' → Below wl.heap.size wl w' → K (al.put (some 53) v) w' := fun v w' hv hb => hKf v w' (RMd.put g hb hv)
              have dg : RMd b4 o4 nW cy kq xp up 28 (us 28) wl := g.2 28 (hdep ⟨28, .guard⟩ (by simp) rfl)
              have gg : al.eval (.tmp 47) = .bool false := by rw [ha]; exact (Rg.puts_eval _ _ _ (by rfl) (by simp) (by simp)).trans dg
              refine Rg.wpOp_off rfl (Rg.unwanted_of (b := true) rfl (Rg.yielded_of (d := 47) (by rfl) gg)) ?_
              exact hK _ _ rfl (Below.refl _ _)
            · intro o ho f us wl al ha g hf hdep K hKf
              obtain rfl := Option.some.inj ho
              have hB := g.1
              have hK : ∀ v w', RMd b4 o4 nW cy kq xp up 35 v w' → Below wl.heap.size wl w' → K (al.put (some 54) v) w' := fun v w' hv hb => hKf v w' (RMd.put g hb hv)
              have dg : RMd b4 o4 nW cy kq xp up 28 (us 28) wl := g.2 28 (hdep ⟨28, .guard⟩ (by simp) rfl)
              have gg : al.eval (.tmp 47) = .bool false := by rw [ha]; exact (Rg.puts_eval _ _ _ (by rfl) (by simp) (by simp)).trans dg
              refine Rg.wpOp_off rfl (Rg.unwanted_of (b := true) rfl (Rg.yielded_of (d := 47) (by rfl) gg)) ?_
              exact hK _ _ rfl (Below.refl _ _)
            · intro o ho f us wl al ha g hf hdep K hKf
              obtain rfl := Option.some.inj ho
              have hB := g.1
              have hK : ∀ v w', RMd b4 o4 nW cy kq xp up 36 v w' → Below wl.heap.size wl w' → K (al.put (some 55) v) w' := fun v w' hv hb => hKf v w' (RMd.put g hb hv)
              have dg : RMd b4 o4 nW cy kq xp up 28 (us 28) wl := g.2 28 (hdep ⟨28, .guard⟩ (by simp) rfl)
              have gg : al.eval (.tmp 47) = .bool false := by rw [ha]; exact (Rg.puts_eval _ _ _ (by rfl) (by simp) (by simp)).trans dg
              refine Rg.wpOp_off rfl (Rg.unwanted_of (b := true) rfl (Rg.yielded_of (d := 47) (by rfl) gg)) ?_
              exact hK _ _ rfl (Below.refl _ _)
            · intro o ho f us wl al ha g hf hdep K hKf
              obtain rfl := Option.some.inj ho
              have hB := g.1
              have hK : ∀ v w', RMd b4 o4 nW cy kq xp up 37 v w' → Below wl.heap.size wl w' → K (al.put (some 56) v) w' := fun v w' hv hb => hKf v w' (RMd.put g hb hv)
              have dg : RMd b4 o4 nW cy kq xp up 28 (us 28) wl := g.2 28 (hdep ⟨28, .guard⟩ (by simp) rfl)
              have gg : al.eval (.tmp 47) = .bool false := by rw [ha]; exact (Rg.puts_eval _ _ _ (by rfl) (by simp) (by simp)).trans dg
              refine Rg.wpOp_off rfl (Rg.unwanted_of (b := true) rfl (Rg.yielded_of (d := 47) (by rfl) gg)) ?_
              exact hK _ _ rfl (Below.refl _ _)
            · intro o ho f us wl al ha g hf hdep K hKf
              obtain rfl := Option.some.inj ho
              have hB := g.1
              have hK : ∀ v w', RMd b4 o4 nW cy kq xp up 38 v w' → Below wl.heap.size wl w' → K (al.put (some 57) v) w' := fun v w' hv hb => hKf v w' (RMd.put g hb hv)
              have dg : RMd b4 o4 nW cy kq xp up 28 (us 28) wl := g.2 28 (hdep ⟨28, .guard⟩ (by simp) rfl)
              have gg : al.eval (.tmp 47) = .bool false := by rw [ha]; exact (Rg.puts_eval _ _ _ (by rfl) (by simp) (by simp)).trans dg
              refine Rg.wpOp_off rfl (Rg.unwanted_of (b := true) rfl (Rg.yielded_of (d := 47) (by rfl) gg)) ?_
              exact hK _ _ rfl (Below.refl _ _)
            · intro o ho f us wl al ha g hf hdep K hKf
              obtain rfl := Option.some.inj ho
              have hB := g.1
              have hK : ∀ v w', RMd b4 o4 nW cy kq xp up 39 v w' → Below wl.heap.size wl w' → K (al.put (some 58) v) w' := fun v w' hv hb => hKf v w' (RMd.put g hb hv)
              have dg : RMd b4 o4 nW cy kq xp up 28 (us 28) wl := g.2 28 (hdep ⟨28, .guard⟩ (by simp) rfl)
              have gg : al.eval (.tmp 47) = .bool false := by rw [ha]; exact (Rg.puts_eval _ _ _ (by rfl) (by simp) (by simp)).trans dg
              refine Rg.wpOp_off rfl (Rg.unwanted_of (b := true) rfl (Rg.yielded_of (d := 47) (by rfl) gg)) ?_
              exact hK _ _ rfl (Below.refl _ _)
            · intro o ho f us wl al ha g hf hdep K hKf
              obtain rfl := Option.some.inj ho
              have hB := g.1
              have hK : ∀ v w', RMd b4 o4 nW cy kq xp up 40 v w' → Below wl.heap.size wl w' → K (al.put (some 59) v) w' := fun v w' hv hb => hKf v w' (RMd.put g hb hv)
              have dg : RMd b4 o4 nW cy kq xp up 28 (us 28) wl := g.2 28 (hdep ⟨28, .guard⟩ (by simp) rfl)
              have gg : al.eval (.tmp 47) = .bool false := by rw [ha]; exact (Rg.puts_eval _ _ _ (by rfl) (by simp) (by simp)).trans dg
              refine Rg.wpOp_off rfl (Rg.unwanted_of (b := true) rfl (Rg.yielded_of (d := 47) (by rfl) gg)) ?_
              exact hK _ _ rfl (Below.refl _ _)
            · intro o ho f us wl al ha g hf hdep K hKf
              obtain rfl := Option.some.inj ho
              have hB := g.1
              have hK : ∀ v w', RMd b4 o4 nW cy kq xp up 41 v w' → Below wl.heap.size wl w' → K (al.put (some 60) v) w' := fun v w' hv hb => hKf v w' (RMd.put g hb hv)
              have d28 : RMd b4 o4 nW cy kq xp up 28 (us 28) wl := g.2 28 (hdep ⟨28, .data⟩ (by simp) rfl)
              have e47 : al.tmps[47]?.getD undef = us 28 := by rw [← Rg.eval_getD, ha]; exact Rg.puts_eval _ _ _ (by rfl) (by simp) (by simp)
              have d40 : RMd b4 o4 nW cy kq xp up 40 (us 40) wl := g.2 40 (hdep ⟨40, .data⟩ (by simp) rfl)
              have e59 : al.tmps[59]?.getD undef = us 40 := by rw [← Rg.eval_getD, ha]; exact Rg.puts_eval _ _ _ (by rfl) (by simp) (by simp)
              have dg : RMd b4 o4 nW cy kq xp up 15 (us 15) wl := g.2 15 (hdep ⟨15, .guard⟩ (by simp) rfl)
              have gg : al.eval (.tmp 34) = .bool false := by rw [ha]; exact (Rg.puts_eval _ _ _ (by rfl) (by simp) (by simp)).trans dg
              have f28 : us 28 = .bool false := d28
              have f40 : us 40 = undef := d40
              have HB := Lib.hid hB
              clear ha hdep g hf hKf d28 d40 hB
              refine Rg.wpOp_of rfl (Rg.wanted_of rfl (Rg.yielded_of (d := 34) (by rfl) gg)) ?_
              go_simp
              exact hK _ _ rfl (Below.refl _ _)
            · intro o ho f us wl al ha g hf hdep K hKf
              obtain rfl := Option.some.inj ho
              have hB := g.1
              have hK : ∀ v w', RMd b4 o4 nW cy kq xp up 42 v w' → Below wl.heap.size wl w' → K (al.put (some 61) v) w' := fun v w' hv hb => hKf v w' (RMd.put g hb hv)
              have d15 : RMd b4 o4 nW cy kq xp up 15 (us 15) wl := g.2 15 (hdep ⟨15, .data⟩ (by simp) rfl)
              have e34 : al.tmps[34]?.getD undef = us 15 := by rw [← Rg.eval_getD, ha]; exact Rg.puts_eval _ _ _ (by rfl) (by simp) (by simp)
              have d41 : RMd b4 o4 nW cy kq xp up 41 (us 41) wl := g.2 41 (hdep ⟨41, .data⟩ (by simp) rfl)
              have e60 : al.tmps[60]?.getD undef = us 41 := by rw [← Rg.eval_getD, ha]; exact Rg.puts_eval _ _ _ (by rfl) (by simp) (by simp)
              have dg : RMd b4 o4 nW cy kq xp up 2 (us 2) wl := g.2 2 (hdep ⟨2, .guard⟩ (by simp) rfl)
              have gg : al.eval (.tmp 21) = .bool true := by rw [ha]; exact (Rg.puts_eval _ _ _ (by rfl) (by simp) (by simp)).trans dg
              have f15 : us 15 = .bool false := d15
              have f41 : us 41 = .bool false := d41
              have HB := Lib.hid hB
              clear ha hdep g hf hKf d15 d41 hB
              refine Rg.wpOp_of rfl (Rg.wanted_of rfl (Rg.yielded_of (d := 21) (by rfl) gg)) ?_
              go_simp
              exact hK _ _ rfl (Below.refl _ _)
            · intro o ho f us wl al ha g hf hdep K hKf
              obtain rfl := Option.some.inj ho
              have hB := g.1
              have hK : ∀ v w', RMd b4 o4 nW cy kq xp up 43 v w' → Below wl.heap.size wl w' → K (al.put (some 62) v) w' := fun v w' hv hb => hKf v w' (RMd.put g hb hv)
              have d2 : RMd b4 o4 nW cy kq xp up 2 (us 2) wl := g.2 2 (hdep ⟨2, .data⟩ (by simp) rfl)
              have e21 : al.tmps[21]?.getD undef = us 2 := by rw [← Rg.eval_getD, ha]; exact Rg.puts_eval _ _ _ (by rfl) (by simp) (by simp)
              have d42 : RMd b4 o4 nW cy kq xp up 42 (us 42) wl := g.2 42 (hdep ⟨42, .data⟩ (by simp) rfl)
              have e61 : al.tmps[61]?.getD undef = us 42 := by rw [← Rg.eval_getD, ha]; exact Rg.puts_eval _ _ _ (by rfl) (by simp) (by simp)
              have f2 : us 2 = .bool true := d2
              have f42 : us 42 = .bool false := d42
              have HB := Lib.hid hB
              clear ha hdep g hf hKf d2 d42 hB
              refine Rg.wpOp_of rfl rfl ?_
              go_simp
              exact hK _ _ rfl (Below.refl _ _)
            · intro us wz hB hR
              have fz : us 43 = .bool false := hR 43
              have DZ := Lib.hid (HB.out.trans (hB.mono HB.out.size))
              clear hB hR
              simp only [Rg.puts, Act.put, List.setIfInBounds_toArray, List.set_cons_zero, List.set_cons_succ, fz]
              go_wp2_with fail
              go_roundw
              case rel => exact ⟨kq + 1 + 1, by omega, by go_num, DZ⟩
              case measure => simp [intOf]; omega
          · have g1 : ¬ xp < xp := by omega
            have g2 : ¬ uh ≤ xh := by omega
            clear hup
            go_wp2_with fail
            refine Rg.wp_region_kept (by kernel_rfl) [(0, some 19), (1, some 20), (2, some 21), (3, some 22), (4, some 23), (5, some 24), (6, some 25), (7, some 26), (8, some 27), (9, some 28), (10, some 29), (11, some 30), (12, some 31), (13, some 32), (14, some 33), (15, some 34), (16, some 35), (17, some 36), (18, some 37), (19, some 38), (20, some 39), (21, some 40), (22, some 41), (23, some 42), (24, some 43), (25, some 44), (26, some 45), (27, some 46), (28, some 47), (29, some 48), (30, some 49), (31, some 50), (32, some 51), (33, some 52), (34, some 53), (35, some 54), (36, some 55), (37, some 56), (38, some 57), (39, some 58), (40, some 59), (41, some 60), (42, some 61), (43, some 62)] (by rfl) (by kernel_rfl) (by kernel_rfl) (fun w' => Below w4.heap.size w4 w') (RMs b4 o4 nW cy kq xp xh uh) (Below.refl _ _).drew ?_ ⟨⟨⟨⟨⟨⟨⟨⟨⟨⟨⟨⟨⟨⟨⟨⟨⟨⟨⟨⟨⟨⟨⟨⟨⟨⟨⟨⟨⟨⟨⟨⟨⟨⟨⟨⟨⟨⟨⟨⟨⟨⟨⟨⟨True.intro, ?_⟩, ?_⟩, ?_⟩, ?_⟩, ?_⟩, ?_⟩, ?_⟩, ?_⟩, ?_⟩, ?_⟩, ?_⟩, ?_⟩, ?_⟩, ?_⟩, ?_⟩, ?_⟩, ?_⟩, ?_⟩, ?_⟩, ?_⟩, ?_⟩, ?_⟩, ?_⟩, ?_⟩, ?_⟩, ?_⟩, ?_⟩, ?_⟩, ?_⟩, ?_⟩, ?_⟩, ?_⟩, ?_⟩, ?_⟩, ?_⟩, ?_⟩, ?_⟩, ?_⟩, ?_⟩, ?_⟩, ?_⟩, ?_⟩, ?_⟩, ?_⟩ ?_
            · intro k v w' hk
              unfold RMs
              split
              case h_45 => trivial
              all_goals exact absurd hk (by decide)
            · intro o ho f us wl al ha g hf hdep K hKf
              obtain rfl := Option.some.inj ho
              have hB := g.1
              have hK : ∀ v w', RMs b4 o4 nW cy kq xp xh uh 0 v w' → Below wl.heap.size wl w' → K (al.put (some 19) v) w' := fun v w' hv hb => hKf v w' (RMs.put g hb hv)
              have e4 : al.tmps[4]?.getD undef = .int .i64 ((kq : Int) + 1) := by rw [← Rg.eval_getD, ha]; exact (Rg.puts_eval_ne _ _ _ (by rfl)).trans rfl
              have HB := Lib.hid hB
              clear ha hdep g hf hKf hB
              refine Rg.wpOp_of rfl rfl ?_
              go_simp
              exact hK _ _ rfl (Below.refl _ _)
            · intro o ho f us wl al ha g hf hdep K hKf
              obtain rfl := Option.some.inj ho
              have hB := g.1
              have hK : ∀ v w', RMs b4 o4 nW cy kq xp xh uh 1 v w' → Below wl.heap.size wl w' → K (al.put (some 20) v) w' := fun v w' hv hb => hKf v w' (RMs.put g hb hv)
              have d0 : RMs b4 o4 nW cy kq xp xh uh 0 (us 0) wl := g.2 0 (hdep ⟨0, .data⟩ (by simp) rfl)
              have e19 : al.tmps[19]?.getD undef = us 0 := by rw [← Rg.eval_getD, ha]; exact Rg.puts_eval _ _ _ (by rfl) (by simp) (by simp)
              have f0 : us 0 = .int .i64 ((kq : Int) + 1) := d0
              have q5 : (0 : Int) < (kq : Int) + 1 := by omega
              have HB := Lib.hid hB
              clear ha hdep g hf hKf d0 hB
              refine Rg.wpOp_of rfl rfl ?_
              go_simp
              exact hK _ _ rfl (Below.refl _ _)
            · intro o ho f us wl al ha g hf hdep K hKf
              obtain rfl := Option.some.inj ho
              have hB := g.1
              have hK : ∀ v w', RMs b4 o4 nW cy kq xp xh uh 2 v w' → Below wl.heap.size wl w' → K (al.put (some 21) v) w' := fun v w' hv hb => hKf v w' (RMs.put g hb hv)
              have d1 : RMs b4 o4 nW cy kq xp xh uh 1 (us 1) wl := g.2 1 (hdep ⟨1, .data⟩ (by simp) rfl)
              have e20 : al.tmps[20]?.getD undef = us 1 := by rw [← Rg.eval_getD, ha]; exact Rg.puts_eval _ _ _ (by rfl) (by simp) (by simp)
              have f1 : us 1 = .bool true := d1
              have HB := Lib.hid hB
              clear ha hdep g hf hKf d1 hB
              refine Rg.wpOp_of rfl rfl ?_
              go_simp
              exact hK _ _ rfl (Below.refl _ _)
            · intro o ho f us wl al ha g hf hdep K hKf
              obtain rfl := Option.some.inj ho
              have hB := g.1
              have hK : ∀ v w', RMs b4 o4 nW cy kq xp xh uh 3 v w' → Below wl.heap.size wl w' → K (al.put (some 22) v) w' := fun v w' hv hb => hKf v w' (RMs.put g hb hv)
              have e3 : al.tmps[3]?.getD undef = .slice (some ⟨b4, o4, none⟩) nW cy := by rw [← Rg.eval_getD, ha]; exact (Rg.puts_eval_ne _ _ _ (by rfl)).trans rfl
              have dg : RMs b4 o4 nW cy kq xp xh uh 2 (us 2) wl := g.2 2 (hdep ⟨2, .guard⟩ (by simp) rfl)
              have gg : al.eval (.tmp 21) = .bool true := by rw [ha]; exact (Rg.puts_eval _ _ _ (by rfl) (by simp) (by simp)).trans dg
              have HB := Lib.hid hB
              clear ha hdep g hf hKf hB
              refine Rg.wpOp_of rfl (Rg.wanted_of rfl (Rg.yielded_of (d := 21) (by rfl) gg)) ?_
              go_simp
              exact hK _ _ rfl (Below.refl _ _)
            · intro o ho f us wl al ha g hf hdep K hKf
              obtain rfl := Option.some.inj ho
              have hB := g.1
              have hK : ∀ v w', RMs b4 o4 nW cy kq xp xh uh 4 v w' → Below wl.heap.size wl w' → K (al.put (some 23) v) w' := fun v w' hv hb => hKf v w' (RMs.put g hb hv)
              have e4 : al.tmps[4]?.getD undef = .int .i64 ((kq : Int) + 1) := by rw [← Rg.eval_getD, ha]; exact (Rg.puts_eval_ne _ _ _ (by rfl)).trans rfl
              have dg : RMs b4 o4 nW cy kq xp xh uh 2 (us 2) wl := g.2 2 (hdep ⟨2, .guard⟩ (by simp) rfl)
              have gg : al.eval (.tmp 21) = .bool true := by rw [ha]; exact (Rg.puts_eval _ _ _ (by rfl) (by simp) (by simp)).trans dg
              have HB := Lib.hid hB
              clear ha hdep g hf hKf hB
              refine Rg.wpOp_of rfl (Rg.wanted_of rfl (Rg.yielded_of (d := 21) (by rfl) gg)) ?_
              go_simp
              exact hK _ _ rfl (Below.refl _ _)
            · intro o ho f us wl al ha g hf hdep K hKf
              obtain rfl := Option.some.inj ho
              have hB := g.1
              have hK : ∀ v w', RMs b4 o4 nW cy kq xp xh uh 5 v w' → Below wl.heap.size wl w' → K (al.put (some 24) v) w' := fun v w' hv hb => hKf v w' (RMs.put g hb hv)
              have d3 : RMs b4 o4 nW cy kq xp xh uh 3 (us 3) wl := g.2 3 (hdep ⟨3, .data⟩ (by simp) rfl)
              have e22 : al.tmps[22]?.getD undef = us 3 := by rw [← Rg.eval_getD, ha]; exact Rg.puts_eval _ _ _ (by rfl) (by simp) (by simp)
              have d4 : RMs b4 o4 nW cy kq xp xh uh 4 (us 4) wl := g.2 4 (hdep ⟨4, .data⟩ (by simp) rfl)
              have e23 : al.tmps[23]?.getD undef = us 4 := by rw [← Rg.eval_getD, ha]; exact Rg.puts_eval _ _ _ (by rfl) (by simp) (by simp)
              have dg : RMs b4 o4 nW cy kq xp xh uh 2 (us 2) wl := g.2 2 (hdep ⟨2, .guard⟩ (by simp) rfl)
              have gg : al.eval (.tmp 21) = .bool true := by rw [ha]; exact (Rg.puts_eval _ _ _ (by rfl) (by simp) (by simp)).trans dg
              have f3 : us 3 = .slice (some ⟨b4, o4, none⟩) nW cy := d3
              have f4 : us 4 = .int .i64 ((kq : Int) + 1) := d4
              have HB := Lib.hid hB
              clear ha hdep g hf hKf d3 d4 hB
              refine Rg.wpOp_of rfl (Rg.wanted_of rfl (Rg.yielded_of (d := 21) (by rfl) gg)) ?_
              go_simp
              exact hK _ _ rfl (Below.refl _ _)
            · intro o ho f us wl al ha g hf hdep K hKf
              obtain rfl := Option.some.inj ho
              have hB := g.1
              have hK : ∀ v w', RMs b4 o4 nW cy kq xp xh uh 6 v w' → Below wl.heap.size wl w' → K (al.put (some 25) v) w' := fun v w' hv hb => hKf v w' (RMs.put g hb hv)
              have d5 : RMs b4 o4 nW cy kq xp xh uh 5 (us 5) wl := g.2 5 (hdep ⟨5, .data⟩ (by simp) rfl)
              have e24 : al.tmps[24]?.getD undef = us 5 := by rw [← Rg.eval_getD, ha]; exact Rg.puts_eval _ _ _ (by rfl) (by simp) (by simp)
              have dg : RMs b4 o4 nW cy kq xp xh uh 2 (us 2) wl := g.2 2 (hdep ⟨2, .guard⟩ (by simp) rfl)
              have gg : al.eval (.tmp 21) = .bool true := by rw [ha]; exact (Rg.puts_eval _ _ _ (by rfl) (by simp) (by simp)).trans dg
              have f5 : us 5 = .pointer (some ⟨b4, o4 + (kq + 1) * 2, none⟩) := d5
              have HB := Lib.hid hB
              clear ha hdep g hf hKf d5 hB
              refine Rg.wpOp_of rfl (Rg.wanted_of rfl (Rg.yielded_of (d := 21) (by rfl) gg)) ?_
              go_simp
              exact hK _ _ rfl (Below.refl _ _)
            · intro o ho f us wl al ha g hf hdep K hKf
              obtain rfl := Option.some.inj ho
              have hB := g.1
              have hK : ∀ v w', RMs b4 o4 nW cy kq xp xh uh 7 v w' → Below wl.heap.size wl w' → K (al.put (some 26) v) w' := fun v w' hv hb => hKf v w' (RMs.put g hb hv)
              have d6 : RMs b4 o4 nW cy kq xp xh uh 6 (us 6) wl := g.2 6 (hdep ⟨6, .data⟩ (by simp) rfl)
              have e25 : al.tmps[25]?.getD undef = us 6 := by rw [← Rg.eval_getD, ha]; exact Rg.puts_eval _ _ _ (by rfl) (by simp) (by simp)
              have dg : RMs b4 o4 nW cy kq xp xh uh 2 (us 2) wl := g.2 2 (hdep ⟨2, .guard⟩ (by simp) rfl)
              have gg : al.eval (.tmp 21) = .bool true := by rw [ha]; exact (Rg.puts_eval _ _ _ (by rfl) (by simp) (by simp)).trans dg
              have f6 : us 6 = .pointer (some ⟨b4, o4 + (kq + 1) * 2, none⟩) := d6
              obtain ⟨c1, c2, c3, c4⟩ := CP.out _ hB
              have HB := Lib.hid hB
              clear ha hdep g hf hKf d6 hB
              refine Rg.wpOp_of rfl (Rg.wanted_of rfl (Rg.yielded_of (d := 21) (by rfl) gg)) ?_
              go_simp
              exact hK _ _ rfl (Below.refl _ _)
            · intro o ho f us wl al ha g hf hdep K hKf
              obtain rfl := Option.some.inj ho
              have hB := g.1
              have hK : ∀ v w', RMs b4 o4 nW cy kq xp xh uh 8 v w' → Below wl.heap.size wl w' → K (al.put (some 27) v) w' := fun v w' hv hb => hKf v w' (RMs.put g hb hv)
              have e3 : al.tmps[3]?.getD undef = .slice (some ⟨b4, o4, none⟩) nW cy := by rw [← Rg.eval_getD, ha]; exact (Rg.puts_eval_ne _ _ _ (by rfl)).trans rfl
              have dg : RMs b4 o4 nW cy kq xp xh uh 2 (us 2) wl := g.2 2 (hdep ⟨2, .guard⟩ (by simp) rfl)
              have gg : al.eval (.tmp 21) = .bool true := by rw [ha]; exact (Rg.puts_eval _ _ _ (by rfl) (by simp) (by simp)).trans dg
              have HB := Lib.hid hB
              clear ha hdep g hf hKf hB
              refine Rg.wpOp_of rfl (Rg.wanted_of rfl (Rg.yielded_of (d := 21) (by rfl) gg)) ?_
              go_simp
              exact hK _ _ rfl (Below.refl _ _)
            · intro o ho f us wl al ha g hf hdep K hKf
              obtain rfl := Option.some.inj ho
              have hB := g.1
              have hK : ∀ v w', RMs b4 o4 nW cy kq xp xh uh 9 v w' → Below wl.heap.size wl w' → K (al.put (some 28) v) w' := fun v w' hv hb => hKf v w' (RMs.put g hb hv)
              have e4 : al.tmps[4]?.getD undef = .int .i64 ((kq : Int) + 1) := by rw [← Rg.eval_getD, ha]; exact (Rg.puts_eval_ne _ _ _ (by rfl)).trans rfl
              have dg : RMs b4 o4 nW cy kq xp xh uh 2 (us 2) wl := g.2 2 (hdep ⟨2, .guard⟩ (by simp) rfl)
              have gg : al.eval (.tmp 21) = .bool true := by rw [ha]; exact (Rg.puts_eval _ _ _ (by rfl) (by simp) (by simp)).trans dg
              have HB := Lib.hid hB
              clear ha hdep g hf hKf hB
              refine Rg.wpOp_of rfl (Rg.wanted_of rfl (Rg.yielded_of (d := 21) (by rfl) gg)) ?_
              go_simp
              exact hK _ _ rfl (Below.refl _ _)
            · intro o ho f us wl al ha g hf hdep K hKf
              obtain rfl := Option.some.inj ho
              have hB := g.1
              have hK : ∀ v w', RMs b4 o4 nW cy kq xp xh uh 10 v w' → Below wl.heap.size wl w' → K (al.put (some 29) v) w' := fun v w' hv hb => hKf v w' (RMs.put g hb hv)
              have d9 : RMs b4 o4 nW cy kq xp xh uh 9 (us 9) wl := g.2 9 (hdep ⟨9, .data⟩ (by simp) rfl)
              have e28 : al.tmps[28]?.getD undef = us 9 := by rw [← Rg.eval_getD, ha]; exact Rg.puts_eval _ _ _ (by rfl) (by simp) (by simp)
              have dg : RMs b4 o4 nW cy kq xp xh uh 2 (us 2) wl := g.2 2 (hdep ⟨2, .guard⟩ (by simp) rfl)
              have gg : al.eval (.tmp 21) = .bool true := by rw [ha]; exact (Rg.puts_eval _ _ _ (by rfl) (by simp) (by simp)).trans dg
              have f9 : us 9 = .int .i64 ((kq : Int) + 1) := d9
              have HB := Lib.hid hB
              clear ha hdep g hf hKf d9 hB
              refine Rg.wpOp_of rfl (Rg.wanted_of rfl (Rg.yielded_of (d := 21) (by rfl) gg)) ?_
              go_simp
              exact hK _ _ rfl (Below.refl _ _)
            · intro o ho f us wl al ha g hf hdep K hKf
              obtain rfl := Option.some.inj ho
              have hB := g.1
              have hK : ∀ v w', RMs b4 o4 nW cy kq xp xh uh 11 v w' → Below wl.heap.size wl w' → K (al.put (some 30) v) w' := fun v w' hv hb => hKf v w' (RMs.put g hb hv)
              have d8 : RMs b4 o4 nW cy kq xp xh uh 8 (us 8) wl := g.2 8 (hdep ⟨8, .data⟩ (by simp) rfl)
              have e27 : al.tmps[27]?.getD undef = us 8 := by rw [← Rg.eval_getD, ha]; exact Rg.puts_eval _ _ _ (by rfl) (by simp) (by simp)
              have d10 : RMs b4 o4 nW cy kq xp xh uh 10 (us 10) wl := g.2 10 (hdep ⟨10, .data⟩ (by simp) rfl)
              have e29 : al.tmps[29]?.getD undef = us 10 := by rw [← Rg.eval_getD, ha]; exact Rg.puts_eval _ _ _ (by rfl) (by simp) (by simp)
              have dg : RMs b4 o4 nW cy kq xp xh uh 2 (us 2) wl := g.2 2 (hdep ⟨2, .guard⟩ (by simp) rfl)
              have gg : al.eval (.tmp 21) = .bool true := by rw [ha]; exact (Rg.puts_eval _ _ _ (by rfl) (by simp) (by simp)).trans dg
              have f8 : us 8 = .slice (some ⟨b4, o4, none⟩) nW cy := d8
              have f10 : us 10 = .int .i64 (kq : Int) := d10
              have HB := Lib.hid hB
              clear ha hdep g hf hKf d8 d10 hB
              refine Rg.wpOp_of rfl (Rg.wanted_of rfl (Rg.yielded_of (d := 21) (by rfl) gg)) ?_
              go_simp
              exact hK _ _ rfl (Below.refl _ _)
            · intro o ho f us wl al ha g hf hdep K hKf
              obtain rfl := Option.some.inj ho
              have hB := g.1
              have hK : ∀ v w', RMs b4 o4 nW cy kq xp xh uh 12 v w' → Below wl.heap.size wl w' → K (al.put (some 31) v) w' := fun v w' hv hb => hKf v w' (RMs.put g hb hv)
              have d11 : RMs b4 o4 nW cy kq xp xh uh 11 (us 11) wl := g.2 11 (hdep ⟨11, .data⟩ (by simp) rfl)
              have e30 : al.tmps[30]?.getD undef = us 11 := by rw [← Rg.eval_getD, ha]; exact Rg.puts_eval _ _ _ (by rfl) (by simp) (by simp)
              have dg : RMs b4 o4 nW cy kq xp xh uh 2 (us 2) wl := g.2 2 (hdep ⟨2, .guard⟩ (by simp) rfl)
              have gg : al.eval (.tmp 21) = .bool true := by rw [ha]; exact (Rg.puts_eval _ _ _ (by rfl) (by simp) (by simp)).trans dg
              have f11 : us 11 = .pointer (some ⟨b4, o4 + kq * 2, none⟩) := d11
              have HB := Lib.hid hB
              clear ha hdep g hf hKf d11 hB
              refine Rg.wpOp_of rfl (Rg.wanted_of rfl (Rg.yielded_of (d := 21) (by rfl) gg)) ?_
              go_simp
              exact hK _ _ rfl (Below.refl _ _)
            · intro o ho f us wl al ha g hf hdep K hKf
              obtain rfl := Option.some.inj ho
              have hB := g.1
              have hK : ∀ v w', RMs b4 o4 nW cy kq xp xh uh 13 v w' → Below wl.heap.size wl w' → K (al.put (some 32) v) w' := fun v w' hv hb => hKf v w' (RMs.put g hb hv)
              have d12 : RMs b4 o4 nW cy kq xp xh uh 12 (us 12) wl := g.2 12 (hdep ⟨12, .data⟩ (by simp) rfl)
              have e31 : al.tmps[31]?.getD undef = us 12 := by rw [← Rg.eval_getD, ha]; exact Rg.puts_eval _ _ _ (by rfl) (by simp) (by simp)
              have dg : RMs b4 o4 nW cy kq xp xh uh 2 (us 2) wl := g.2 2 (hdep ⟨2, .guard⟩ (by simp) rfl)
              have gg : al.eval (.tmp 21) = .bool true := by rw [ha]; exact (Rg.puts_eval _ _ _ (by rfl) (by simp) (by simp)).trans dg
              have f12 : us 12 = .pointer (some ⟨b4, o4 + kq * 2, none⟩) := d12
              obtain ⟨c1, c2, c3, c4⟩ := CP.out _ hB
              have HB := Lib.hid hB
              clear ha hdep g hf hKf d12 hB
              refine Rg.wpOp_of rfl (Rg.wanted_of rfl (Rg.yielded_of (d := 21) (by rfl) gg)) ?_
              go_simp
              exact hK _ _ rfl (Below.refl _ _)
            · intro o ho f us wl al ha g hf hdep K hKf
              obtain rfl := Option.some.inj ho
              have hB := g.1
              have hK : ∀ v w', RMs b4 o4 nW cy kq xp xh uh 14 v w' → Below wl.heap.size wl w' → K (al.put (some 33) v) w' := fun v w' hv hb => hKf v w' (RMs.put g hb hv)
              have d7 : RMs b4 o4 nW cy kq xp xh uh 7 (us 7) wl := g.2 7 (hdep ⟨7, .data⟩ (by simp) rfl)
              have e26 : al.tmps[26]?.getD undef = us 7 := by rw [← Rg.eval_getD, ha]; exact Rg.puts_eval _ _ _ (by rfl) (by simp) (by simp)
              have d13 : RMs b4 o4 nW cy kq xp xh uh 13 (us 13) wl := g.2 13 (hdep ⟨13, .data⟩ (by simp) rfl)
              have e32 : al.tmps[32]?.getD undef = us 13 := by rw [← Rg.eval_getD, ha]; exact Rg.puts_eval _ _ _ (by rfl) (by simp) (by simp)
              have dg : RMs b4 o4 nW cy kq xp xh uh 2 (us 2) wl := g.2 2 (hdep ⟨2, .guard⟩ (by simp) rfl)
              have gg : al.eval (.tmp 21) = .bool true := by rw [ha]; exact (Rg.puts_eval _ _ _ (by rfl) (by simp) (by simp)).trans dg
              have f7 : us 7 = .int .i64 xp := d7
              have f13 : us 13 = .int .i64 xp := d13
              have HB := Lib.hid hB
              clear ha hdep g hf hKf d7 d13 hB
              refine Rg.wpOp_of rfl (Rg.wanted_of rfl (Rg.yielded_of (d := 21) (by rfl) gg)) ?_
              go_simp
              first
              | exact hK _ _ rfl (Below.refl _ _)
              | exact hK _ _ (congrArg Value.bool (decide_eq_false (Int.not_lt.2 g1))) (Below.refl _ _)
            · intro o ho f us wl al ha g hf hdep K hKf
              obtain rfl := Option.some.inj ho
              have hB := g.1
              have hK : ∀ v w', RMs b4 o4 nW cy kq xp xh uh 15 v w' → Below wl.heap.size wl w' → K (al.put (some 34) v) w' := fun v w' hv hb => hKf v w' (RMs.put g hb hv)
              have d14 : RMs b4 o4 nW cy kq xp xh uh 14 (us 14) wl := g.2 14 (hdep ⟨14, .data⟩ (by simp) rfl)
              have e33 : al.tmps[33]?.getD undef = us 14 := by rw [← Rg.eval_getD, ha]; exact Rg.puts_eval _ _ _ (by rfl) (by simp) (by simp)
              have dg : RMs b4 o4 nW cy kq xp xh uh 2 (us 2) wl := g.2 2 (hdep ⟨2, .guard⟩ (by simp) rfl)
              have gg : al.eval (.tmp 21) = .bool true := by rw [ha]; exact (Rg.puts_eval _ _ _ (by rfl) (by simp) (by simp)).trans dg
              have f14 : us 14 = .bool false := d14
              have HB := Lib.hid hB
              clear ha hdep g hf hKf d14 hB
              refine Rg.wpOp_of rfl (Rg.wanted_of rfl (Rg.yielded_of (d := 21) (by rfl) gg)) ?_
              go_simp
              exact hK _ _ rfl (Below.refl _ _)
            · intro o ho f us wl al ha g hf hdep K hKf
              obtain rfl := Option.some.inj ho
              have hB := g.1
              have hK : ∀ v w', RMs b4 o4 nW cy kq xp xh uh 16 v w' → Below wl.heap.size wl w' → K (al.put (some 35) v) w' := fun v w' hv hb => hKf v w' (RMs.put g hb hv)
              have e3 : al.tmps[3]?.getD undef = .slice (some ⟨b4, o4, none⟩) nW cy := by rw [← Rg.eval_getD, ha]; exact (Rg.puts_eval_ne _ _ _ (by rfl)).trans rfl
              have dg : RMs b4 o4 nW cy kq xp xh uh 15 (us 15) wl := g.2 15 (hdep ⟨15, .guard⟩ (by simp) rfl)
              have gg : al.eval (.tmp 34) = .bool false := by rw [ha]; exact (Rg.puts_eval _ _ _ (by rfl) (by simp) (by simp)).trans dg
              have HB := Lib.hid hB
              clear ha hdep g hf hKf hB
              refine Rg.wpOp_of rfl (Rg.wanted_of rfl (Rg.yielded_of (d := 34) (by rfl) gg)) ?_
              go_simp
              exact hK _ _ rfl (Below.refl _ _)
            · intro o ho f us wl al ha g hf hdep K hKf
              obtain rfl := Option.some.inj ho
              have hB := g.1
              have hK : ∀ v w', RMs b4 o4 nW cy kq xp xh uh 17 v w' → Below wl.heap.size wl w' → K (al.put (some 36) v) w' := fun v w' hv hb => hKf v w' (RMs.put g hb hv)
              have e4 : al.tmps[4]?.getD undef = .int .i64 ((kq : Int) + 1) := by rw [← Rg.eval_getD, ha]; exact (Rg.puts_eval_ne _ _ _ (by rfl)).trans rfl
              have dg : RMs b4 o4 nW cy kq xp xh uh 15 (us 15) wl := g.2 15 (hdep ⟨15, .guard⟩ (by simp) rfl)
              have gg : al.eval (.tmp 34) = .bool false := by rw [ha]; exact (Rg.puts_eval _ _ _ (by rfl) (by simp) (by simp)).trans dg
              have HB := Lib.hid hB
              clear ha hdep g hf hKf hB
              refine Rg.wpOp_of rfl (Rg.wanted_of rfl (Rg.yielded_of (d := 34) (by rfl) gg)) ?_
              go_simp
              exact hK _ _ rfl (Below.refl _ _)
            · intro o ho f us wl al ha g hf hdep K hKf
              obtain rfl := Option.some.inj ho
              have hB := g.1
              have hK : ∀ v w', RMs b4 o4 nW cy kq xp xh uh 18 v w' → Below wl.heap.size wl w' → K (al.put (some 37) v) w' := fun v w' hv hb => hKf v w' (RMs.put g hb hv)
              have d16 : RMs b4 o4 nW cy kq xp xh uh 16 (us 16) wl := g.2 16 (hdep ⟨16, .data⟩ (by simp) rfl)
              have e35 : al.tmps[35]?.getD undef = us 16 := by rw [← Rg.eval_getD, ha]; exact Rg.puts_eval _ _ _ (by rfl) (by simp) (by simp)
              have d17 : RMs b4 o4 nW cy kq xp xh uh 17 (us 17) wl := g.2 17 (hdep ⟨17, .data⟩ (by simp) rfl)
              have e36 : al.tmps[36]?.getD undef = us 17 := by rw [← Rg.eval_getD, ha]; exact Rg.puts_eval _ _ _ (by rfl) (by simp) (by simp)
              have dg : RMs b4 o4 nW cy kq xp xh uh 15 (us 15) wl := g.2 15 (hdep ⟨15, .guard⟩ (by simp) rfl)
              have gg : al.eval (.tmp 34) = .bool false := by rw [ha]; exact (Rg.puts_eval _ _ _ (by rfl) (by simp) (by simp)).trans dg
              have f16 : us 16 = .slice (some ⟨b4, o4, none⟩) nW cy := d16
              have f17 : us 17 = .int .i64 ((kq : Int) + 1) := d17
              have HB := Lib.hid hB
              clear ha hdep g hf hKf d16 d17 hB
              refine Rg.wpOp_of rfl (Rg.wanted_of rfl (Rg.yielded_of (d := 34) (by rfl) gg)) ?_
              go_simp
              exact hK _ _ rfl (Below.refl _ _)
            · intro o ho f us wl al ha g hf hdep K hKf
              obtain rfl := Option.some.inj ho
              have hB := g.1
              have hK : ∀ v w', RMs b4 o4 nW cy kq xp xh uh 19 v w' → Below wl.heap.size wl w' → K (al.put (some 38) v) w' := fun v w' hv hb => hKf v w' (RMs.put g hb hv)
              have d18 : RMs b4 o4 nW cy kq xp xh uh 18 (us 18) wl := g.2 18 (hdep ⟨18, .data⟩ (by simp) rfl)
              have e37 : al.tmps[37]?.getD undef = us 18 := by rw [← Rg.eval_getD, ha]; exact Rg.puts_eval _ _ _ (by rfl) (by simp) (by simp)
              have dg : RMs b4 o4 nW cy kq xp xh uh 15 (us 15) wl := g.2 15 (hdep ⟨15, .guard⟩ (by simp) rfl)
              have gg : al.eval (.tmp 34) = .bool false := by rw [ha]; exact (Rg.puts_eval _ _ _ (by rfl) (by simp) (by simp)).trans dg
              have f18 : us 18 = .pointer (some ⟨b4, o4 + (kq + 1) * 2, none⟩) := d18
              have HB := Lib.hid hB
              clear ha hdep g hf hKf d18 hB
              refine Rg.wpOp_of rfl (Rg.wanted_of rfl (Rg.yielded_of (d := 34) (by rfl) gg)) ?_
              go_simp
              exact hK _ _ rfl (Below.refl _ _)
            · intro o ho f us wl al ha g hf hdep K hKf
              obtain rfl := Option.some.inj ho
              have hB := g.1
              have hK : ∀ v w', RMs b4 o4 nW cy kq xp xh uh 20 v w' → Below wl.heap.size wl w' → K (al.put (some 39) v) w' := fun v w' hv hb => hKf v w' (RMs.put g hb hv)
              have d19 : RMs b4 o4 nW cy kq xp xh uh 19 (us 19) wl := g.2 19 (hdep ⟨19, .data⟩ (by simp) rfl)
              have e38 : al.tmps[38]?.getD undef = us 19 := by rw [← Rg.eval_getD, ha]; exact Rg.puts_eval _ _ _ (by rfl) (by simp) (by simp)
              have dg : RMs b4 o4 nW cy kq xp xh uh 15 (us 15) wl := g.2 15 (hdep ⟨15, .guard⟩ (by simp) rfl)
              have gg : al.eval (.tmp 34) = .bool false := by rw [ha]; exact (Rg.puts_eval _ _ _ (by rfl) (by simp) (by simp)).trans dg
              have f19 : us 19 = .pointer (some ⟨b4, o4 + (kq + 1) * 2, none⟩) := d19
              obtain ⟨c1, c2, c3, c4⟩ := CP.out _ hB
              have HB := Lib.hid hB
              clear ha hdep g hf hKf d19 hB
              refine Rg.wpOp_of rfl (Rg.wanted_of rfl (Rg.yielded_of (d := 34) (by rfl) gg)) ?_
              go_simp
              exact hK _ _ rfl (Below.refl _ _)
            · intro o ho f us wl al ha g hf hdep K hKf
              obtain rfl := Option.some.inj ho
              have hB := g.1
              have hK : ∀ v w', RMs b4 o4 nW cy kq xp xh uh 21 v w' → Below wl.heap.size wl w' → K (al.put (some 40) v) w' := fun v w' hv hb => hKf v w' (RMs.put g hb hv)
              have e3 : al.tmps[3]?.getD undef = .slice (some ⟨b4, o4, none⟩) nW cy := by rw [← Rg.eval_getD, ha]; exact (Rg.puts_eval_ne _ _ _ (by rfl)).trans rfl
              have dg : RMs b4 o4 nW cy kq xp xh uh 15 (us 15) wl := g.2 15 (hdep ⟨15, .guard⟩ (by simp) rfl)
              have gg : al.eval (.tmp 34) = .bool false := by rw [ha]; exact (Rg.puts_eval _ _ _ (by rfl) (by simp) (by simp)).trans dg
              have HB := Lib.hid hB
              clear ha hdep g hf hKf hB
              refine Rg.wpOp_of rfl (Rg.wanted_of rfl (Rg.yielded_of (d := 34) (by rfl) gg)) ?_
              go_simp
              exact hK _ _ rfl (Below.refl _ _)
            · intro o ho f us wl al ha g hf hdep K hKf
              obtain rfl := Option.some.inj ho
              have hB := g.1
              have hK : ∀ v w', RMs b4 o4 nW cy kq xp xh uh 22 v w' → Below wl.heap.size wl w' → K (al.put (some 41) v) w' := fun v w' hv hb => hKf v w' (RMs.put g hb hv)
              have e4 : al.tmps[4]?.getD undef = .int .i64 ((kq : Int) + 1) := by rw [← Rg.eval_getD, ha]; exact (Rg.puts_eval_ne _ _ _ (by rfl)).trans rfl
              have dg : RMs b4 o4 nW cy kq xp xh uh 15 (us 15) wl := g.2 15 (hdep ⟨15, .guard⟩ (by simp) rfl)
              have gg : al.eval (.tmp 34) = .bool false := by rw [ha]; exact (Rg.puts_eval _ _ _ (by rfl) (by simp) (by simp)).trans dg
              have HB := Lib.hid hB
              clear ha hdep g hf hKf hB
              refine Rg.wpOp_of rfl (Rg.wanted_of rfl (Rg.yielded_of (d := 34) (by rfl) gg)) ?_
              go_simp
              exact hK _ _ rfl (Below.refl _ _)
            · intro o ho f us wl al ha g hf hdep K hKf
              obtain rfl := Option.some.inj ho
              have hB := g.1
              have hK : ∀ v w', RMs b4 o4 nW cy kq xp xh uh 23 v w' → Below wl.heap.size wl w' → K (al.put (some 42) v) w' := fun v w' hv hb => hKf v w' (RMs.put g hb hv)
              have d22 : RMs b4 o4 nW cy kq xp xh uh 22 (us 22) wl := g.2 22 (hdep ⟨22, .data⟩ (by simp) rfl)
              have e41 : al.tmps[41]?.getD undef = us 22 := by rw [← Rg.eval_getD, ha]; exact Rg.puts_eval _ _ _ (by rfl) (by simp) (by simp)
              have dg : RMs b4 o4 nW cy kq xp xh uh 15 (us 15) wl := g.2 15 (hdep ⟨15, .guard⟩ (by simp) rfl)
              have gg : al.eval (.tmp 34) = .bool false := by rw [ha]; exact (Rg.puts_eval _ _ _ (by rfl) (by simp) (by simp)).trans dg
              have f22 : us 22 = .int .i64 ((kq : Int) + 1) := d22
              have HB := Lib.hid hB
              clear ha hdep g hf hKf d22 hB
              refine Rg.wpOp_of rfl (Rg.wanted_of rfl (Rg.yielded_of (d := 34) (by rfl) gg)) ?_
              go_simp
              exact hK _ _ rfl (Below.refl _ _)
            · intro o ho f us wl al ha g hf hdep K hKf
              obtain rfl := Option.some.inj ho
              have hB := g.1
              have hK : ∀ v w', RMs b4 o4 nW cy kq xp xh uh 24 v w' → Below wl.heap.size wl w' → K (al.put (some 43) v) w' := fun v w' hv hb => hKf v w' (RMs.put g hb hv)
              have d21 : RMs b4 o4 nW cy kq xp xh uh 21 (us 21) wl := g.2 21 (hdep ⟨21, .data⟩ (by simp) rfl)
              have e40 : al.tmps[40]?.getD undef = us 21 := by rw [← Rg.eval_getD, ha]; exact Rg.puts_eval _ _ _ (by rfl) (by simp) (by simp)
              have d23 : RMs b4 o4 nW cy kq xp xh uh 23 (us 23) wl := g.2 23 (hdep ⟨23, .data⟩ (by simp) rfl)
              have e42 : al.tmps[42]?.getD undef = us 23 := by rw [← Rg.eval_getD, ha]; exact Rg.puts_eval _ _ _ (by rfl) (by simp) (by simp)
              have dg : RMs b4 o4 nW cy kq xp xh uh 15 (us 15) wl := g.2 15 (hdep ⟨15, .guard⟩ (by simp) rfl)
              have gg : al.eval (.tmp 34) = .bool false := by rw [ha]; exact (Rg.puts_eval _ _ _ (by rfl) (by simp) (by simp)).trans dg
              have f21 : us 21 = .slice (some ⟨b4, o4, none⟩) nW cy := d21
              have f23 : us 23 = .int .i64 (kq : Int) := d23
              have HB := Lib.hid hB
              clear ha hdep g hf hKf d21 d23 hB
              refine Rg.wpOp_of rfl (Rg.wanted_of rfl (Rg.yielded_of (d := 34) (by rfl) gg)) ?_
              go_simp
              exact hK _ _ rfl (Below.refl _ _)
            · intro o ho f us wl al ha g hf hdep K hKf
              obtain rfl := Option.some.inj ho
              have hB := g.1
              have hK : ∀ v w', RMs b4 o4 nW cy kq xp xh uh 25 v w' → Below wl.heap.size wl w' → K (al.put (some 44) v) w' := fun v w' hv hb => hKf v w' (RMs.put g hb hv)
              have d24 : RMs b4 o4 nW cy kq xp xh uh 24 (us 24) wl := g.2 24 (hdep ⟨24, .data⟩ (by simp) rfl)
              have e43 : al.tmps[43]?.getD undef = us 24 := by rw [← Rg.eval_getD, ha]; exact Rg.puts_eval _ _ _ (by rfl) (by simp) (by simp)
              have dg : RMs b4 o4 nW cy kq xp xh uh 15 (us 15) wl := g.2 15 (hdep ⟨15, .guard⟩ (by simp) rfl)
              have gg : al.eval (.tmp 34) = .bool false := by rw [ha]; exact (Rg.puts_eval _ _ _ (by rfl) (by simp) (by simp)).trans dg
              have f24 : us 24 = .pointer (some ⟨b4, o4 + kq * 2, none⟩) := d24
              have HB := Lib.hid hB
              clear ha hdep g hf hKf d24 hB
              refine Rg.wpOp_of rfl (Rg.wanted_of rfl (Rg.yielded_of (d := 34) (by rfl) gg)) ?_
              go_simp
              exact hK _ _ rfl (Below.refl _ _)
            · intro o ho f us wl al ha g hf hdep K hKf
              obtain rfl := Option.some.inj ho
              have hB := g.1
              have hK : ∀ v w', RMs b4 o4 nW cy kq xp xh uh 26 v w' → Below wl.heap.size wl w' → K (al.put (some 45) v) w' := fun v w' hv hb => hKf v w' (RMs.put g hb hv)
              have d25 : RMs b4 o4 nW cy kq xp xh uh 25 (us 25) wl := g.2 25 (hdep ⟨25, .data⟩ (by simp) rfl)
              have e44 : al.tmps[44]?.getD undef = us 25 := by rw [← Rg.eval_getD, ha]; exact Rg.puts_eval _ _ _ (by rfl) (by simp) (by simp)
              have dg : RMs b4 o4 nW cy kq xp xh uh 15 (us 15) wl := g.2 15 (hdep ⟨15, .guard⟩ (by simp) rfl)
              have gg : al.eval (.tmp 34) = .bool false := by rw [ha]; exact (Rg.puts_eval _ _ _ (by rfl) (by simp) (by simp)).trans dg
              have f25 : us 25 = .pointer (some ⟨b4, o4 + kq * 2, none⟩) := d25
              obtain ⟨c1, c2, c3, c4⟩ := CP.out _ hB
              have HB := Lib.hid hB
              clear ha hdep g hf hKf d25 hB
              refine Rg.wpOp_of rfl (Rg.wanted_of rfl (Rg.yielded_of (d := 34) (by rfl) gg)) ?_
              go_simp
              exact hK _ _ rfl (Below.refl _ _)
            · intro o ho f us wl al ha g hf hdep K hKf
              obtain rfl := Option.some.inj ho
              have hB := g.1
              have hK : ∀ v w', RMs b4 o4 nW cy kq xp xh uh 27 v w' → Below wl.heap.size wl w' → K (al.put (some 46) v) w' := fun v w' hv hb => hKf v w' (RMs.put g hb hv)
              have d20 : RMs b4 o4 nW cy kq xp xh uh 20 (us 20) wl := g.2 20 (hdep ⟨20, .data⟩ (by simp) rfl)
              have e39 : al.tmps[39]?.getD undef = us 20 := by rw [← Rg.eval_getD, ha]; exact Rg.puts_eval _ _ _ (by rfl) (by simp) (by simp)
              have d26 : RMs b4 o4 nW cy kq xp xh uh 26 (us 26) wl := g.2 26 (hdep ⟨26, .data⟩ (by simp) rfl)
              have e45 : al.tmps[45]?.getD undef = us 26 := by rw [← Rg.eval_getD, ha]; exact Rg.puts_eval _ _ _ (by rfl) (by simp) (by simp)
              have dg : RMs b4 o4 nW cy kq xp xh uh 15 (us 15) wl := g.2 15 (hdep ⟨15, .guard⟩ (by simp) rfl)
              have gg : al.eval (.tmp 34) = .bool false := by rw [ha]; exact (Rg.puts_eval _ _ _ (by rfl) (by simp) (by simp)).trans dg
              have f20 : us 20 = .int .i64 xp := d20
              have f26 : us 26 = .int .i64 xp := d26
              have HB := Lib.hid hB
              clear ha hdep g hf hKf d20 d26 hB
              refine Rg.wpOp_of rfl (Rg.wanted_of rfl (Rg.yielded_of (d := 34) (by rfl) gg)) ?_
              go_simp
              exact hK _ _ rfl (Below.refl _ _)
            · intro o ho f us wl al ha g hf hdep K hKf
              obtain rfl := Option.some.inj ho
              have hB := g.1
              have hK : ∀ v w', RMs b4 o4 nW cy kq xp xh uh 28 v w' → Below wl.heap.size wl w' → K (al.put (some 47) v) w' := fun v w' hv hb => hKf v w' (RMs.put g hb hv)
              have d27 : RMs b4 o4 nW cy kq xp xh uh 27 (us 27) wl := g.2 27 (hdep ⟨27, .data⟩ (by simp) rfl)
              have e46 : al.tmps[46]?.getD undef = us 27 := by rw [← Rg.eval_getD, ha]; exact Rg.puts_eval _ _ _ (by rfl) (by simp) (by simp)
              have dg : RMs b4 o4 nW cy kq xp xh uh 15 (us 15) wl := g.2 15 (hdep ⟨15, .guard⟩ (by simp) rfl)
              have gg : al.eval (.tmp 34) = .bool false := by rw [ha]; exact (Rg.puts_eval _ _ _ (by rfl) (by simp) (by simp)).trans dg
              have f27 : us 27 = .bool true := d27
              have HB := Lib.hid hB
              clear ha hdep g hf hKf d27 hB
              refine Rg.wpOp_of rfl (Rg.wanted_of rfl (Rg.yielded_of (d := 34) (by rfl) gg)) ?_
              go_simp
              exact hK _ _ rfl (Below.refl _ _)
            · intro o ho f us wl al ha g hf hdep K hKf
              obtain rfl := Option.some.inj ho
              have hB := g.1
              have hK : ∀ v w', RMs b4 o4 nW cy kq xp xh uh 29 v w' → Below wl.heap.size wl w' → K (al.put (some 48) v) w' := fun v w' hv hb => hKf v w' (RMs.put g hb hv)
              have e3 : al.tmps[3]?.getD undef = .slice (some ⟨b4, o4, none⟩) nW cy := by rw [← Rg.eval_getD, ha]; exact (Rg.puts_eval_ne _ _ _ (by rfl)).trans rfl
              have dg : RMs b4 o4 nW cy kq xp xh uh 28 (us 28) wl := g.2 28 (hdep ⟨28, .guard⟩ (by simp) rfl)
              have gg : al.eval (.tmp 47) = .bool true := by rw [ha]; exact (Rg.puts_eval _ _ _ (by rfl) (by simp) (by simp)).trans dg
              have HB := Lib.hid hB
              clear ha hdep g hf hKf hB
              refine Rg.wpOp_of rfl (Rg.wanted_of rfl (Rg.yielded_of (d := 47) (by rfl) gg)) ?_
              go_simp
              exact hK _ _ rfl (Below.refl _ _)
            · intro o ho f us wl al ha g hf hdep K hKf
              obtain rfl := Option.some.inj ho
              have hB := g.1
              have hK : ∀ v w', RMs b4 o4 nW cy kq xp xh uh 30 v w' → Below wl.heap.size wl w' → K (al.put (some 49) v) w' := fun v w' hv hb => hKf v w' (RMs.put g hb hv)
              have e4 : al.tmps[4]?.getD undef = .int .i64 ((kq : Int) + 1) := by rw [← Rg.eval_getD, ha]; exact (Rg.puts_eval_ne _ _ _ (by rfl)).trans rfl
              have dg : RMs b4 o4 nW cy kq xp xh uh 28 (us 28) wl := g.2 28 (hdep ⟨28, .guard⟩ (by simp) rfl)
              have gg : al.eval (.tmp 47) = .bool true := by rw [ha]; exact (Rg.puts_eval _ _ _ (by rfl) (by simp) (by simp)).trans dg
              have HB := Lib.hid hB
              clear ha hdep g hf hKf hB
              refine Rg.wpOp_of rfl (Rg.wanted_of rfl (Rg.yielded_of (d := 47) (by rfl) gg)) ?_
              go_simp
              exact hK _ _ rfl (Below.refl _ _)
            · intro o ho f us wl al ha g hf hdep K hKf
              obtain rfl := Option.some.inj ho
              have hB := g.1
              have hK : ∀ v w', RMs b4 o4 nW cy kq xp xh uh 31 v w' → Below wl.heap.size wl w' → K (al.put (some 50) v) w' := fun v w' hv hb => hKf v w' (RMs.put g hb hv)
              have d29 : RMs b4 o4 nW cy kq xp xh uh 29 (us 29) wl := g.2 29 (hdep ⟨29, .data⟩ (by simp) rfl)
              have e48 : al.tmps[48]?.getD undef = us 29 := by rw [← Rg.eval_getD, ha]; exact Rg.puts_eval _ _ _ (by rfl) (by simp) (by simp)
              have d30 : RMs b4 o4 nW cy kq xp xh uh 30 (us 30) wl := g.2 30 (hdep ⟨30, .data⟩ (by simp) rfl)
              have e49 : al.tmps[49]?.getD undef = us 30 := by rw [← Rg.eval_getD, ha]; exact Rg.puts_eval _ _ _ (by rfl) (by simp) (by simp)
              have dg : RMs b4 o4 nW cy kq xp xh uh 28 (us 28) wl := g.2 28 (hdep ⟨28, .guard⟩ (by simp) rfl)
              have gg : al.eval (.tmp 47) = .bool true := by rw [ha]; exact (Rg.puts_eval _ _ _ (by rfl) (by simp) (by simp)).trans dg
              have f29 : us 29 = .slice (some ⟨b4, o4, none⟩) nW cy := d29
              have f30 : us 30 = .int .i64 ((kq : Int) + 1) := d30
              have HB := Lib.hid hB
              clear ha hdep g hf hKf d29 d30 hB
              refine Rg.wpOp_of rfl (Rg.wanted_of rfl (Rg.yielded_of (d := 47) (by rfl) gg)) ?_
              go_simp
              exact hK _ _ rfl (Below.refl _ _)
            · intro o ho f us wl al ha g hf hdep K hKf
              obtain rfl := Option.some.inj ho
              have hB := g.1
              have hK : ∀ v w', RMs b4 o4 nW cy kq xp xh uh 32 v w' → Below wl.heap.size wl w' → K (al.put (some 51) v) w' := fun v w' hv hb => hKf v w' (RMs.put g hb hv)
              have d31 : RMs b4 o4 nW cy kq xp xh uh 31 (us 31) wl := g.2 31 (hdep ⟨31, .data⟩ (by simp) rfl)
              have e50 : al.tmps[50]?.getD undef = us 31 := by rw [← Rg.eval_getD, ha]; exact Rg.puts_eval _ _ _ (by rfl) (by simp) (by simp)
              have dg : RMs b4 o4 nW cy kq xp xh uh 28 (us 28) wl := g.2 28 (hdep ⟨28, .guard⟩ (by simp) rfl)
              have gg : al.eval (.tmp 47) = .bool true := by rw [ha]; exact (Rg.puts_eval _ _ _ (by rfl) (by simp) (by simp)).trans dg
              have f31 : us 31 = .pointer (some ⟨b4, o4 + (kq + 1) * 2, none⟩) := d31
              have HB := Lib.hid hB
              clear ha hdep g hf hKf d31 hB
              refine Rg.wpOp_of rfl (Rg.wanted_of rfl (Rg.yielded_of (d := 47) (by rfl) gg)) ?_
              go_simp
              exact hK _ _ rfl (Below.refl _ _)
            · intro o ho f us wl al ha g hf hdep K hKf
              obtain rfl := Option.some.inj ho
              have hB := g.1
              have hK : ∀ v w', RMs b4 o4 nW cy kq xp xh uh 33 v w' → Below wl.heap.size wl w' → K (al.put (some 52) v) w' := fun v w' hv hb => hKf v w' (RMs.put g hb hv)
              have d32 : RMs b4 o4 nW cy kq xp xh uh 32 (us 32) wl := g.2 32 (hdep ⟨32, .data⟩ (by simp) rfl)
              have e51 : al.tmps[51]?.getD undef = us 32 := by rw [← Rg.eval_getD, ha]; exact Rg.puts_eval _ _ _ (by rfl) (by simp) (by simp)
              have dg : RMs b4 o4 nW cy kq xp xh uh 28 (us 28) wl := g.2 28 (hdep ⟨28, .guard⟩ (by simp) rfl)
              have gg : al.eval (.tmp 47) = .bool true := by rw [ha]; exact (Rg.puts_eval _ _ _ (by rfl) (by simp) (by simp)).trans dg
              have f32 : us 32 = .pointer (some ⟨b4, o4 + (kq + 1) * 2 + 1, none⟩) := d32
              obtain ⟨c1, c2, c3, c4⟩ := CP.out _ hB
              have HB := Lib.hid hB
              clear ha hdep g hf hKf d32 hB
              refine Rg.wpOp_of rfl (Rg.wanted_of rfl (Rg.yielded_of (d := 47) (by rfl) gg)) ?_
              go_simp
              exact hK _ _ rfl (Below.refl _ _)
            · intro o ho f us wl al ha g hf hdep K hKf
              obtain rfl := Option.some.inj ho
              have hB := g.1
              have hK : ∀ v w', RMs b4 o4 nW cy kq xp xh uh 34 v w' → Below wl.heap.size wl w' → K (al.put (some 53) v) w' := fun v w' hv hb => hKf v w' (RMs.put g hb hv)
              have e3 : al.tmps[3]?.getD undef = .slice (some ⟨b4, o4, none⟩) nW cy := by rw [← Rg.eval_getD, ha]; exact (Rg.puts_eval_ne _ _ _ (by rfl)).trans rfl
              have dg : RMs b4 o4 nW cy kq xp xh uh 28 (us 28) wl := g.2 28 (hdep ⟨28, .guard⟩ (by simp) rfl)
              have gg : al.eval (.tmp 47) = .bool true := by rw [ha]; exact (Rg.puts_eval _ _ _ (by rfl) (by simp) (by simp)).trans dg
              have HB := Lib.hid hB
              clear ha hdep g hf hKf hB
              refine Rg.wpOp_of rfl (Rg.wanted_of rfl (Rg.yielded_of (d := 47) (by rfl) gg)) ?_
              go_simp
              exact hK _ _ rfl (Below.refl _ _)
            · intro o ho f us wl al ha g hf hdep K hKf
              obtain rfl := Option.some.inj ho
              have hB := g.1
              have hK : ∀ v w', RMs b4 o4 nW cy kq xp xh uh 35 v w' → Below wl.heap.size wl w' → K (al.put (some 54) v) w' := fun v w' hv hb => hKf v w' (RMs.put g hb hv)
              have e4 : al.tmps[4]?.getD undef = .int .i64 ((kq : Int) + 1) := by rw [← Rg.eval_getD, ha]; exact (Rg.puts_eval_ne _ _ _ (by rfl)).trans rfl
              have dg : RMs b4 o4 nW cy kq xp xh uh 28 (us 28) wl := g.2 28 (hdep ⟨28, .guard⟩ (by simp) rfl)
              have gg : al.eval (.tmp 47) = .bool true := by rw [ha]; exact (Rg.puts_eval _ _ _ (by rfl) (by simp) (by simp)).trans dg
              have HB := Lib.hid hB
              clear ha hdep g hf hKf hB
              refine Rg.wpOp_of rfl (Rg.wanted_of rfl (Rg.yielded_of (d := 47) (by rfl) gg)) ?_
              go_simp
              exact hK _ _ rfl (Below.refl _ _)
            · intro o ho f us wl al ha g hf hdep K hKf
              obtain rfl := Option.some.inj ho
              have hB := g.1
              have hK : ∀ v w', RMs b4 o4 nW cy kq xp xh uh 36 v w' → Below wl.heap.size wl w' → K (al.put (some 55) v) w' := fun v w' hv hb => hKf v w' (RMs.put g hb hv)
              have d35 : RMs b4 o4 nW cy kq xp xh uh 35 (us 35) wl := g.2 35 (hdep ⟨35, .data⟩ (by simp) rfl)
              have e54 : al.tmps[54]?.getD undef = us 35 := by rw [← Rg.eval_getD, ha]; exact Rg.puts_eval _ _ _ (by rfl) (by simp) (by simp)
              have dg : RMs b4 o4 nW cy kq xp xh uh 28 (us 28) wl := g.2 28 (hdep ⟨28, .guard⟩ (by simp) rfl)
              have gg : al.eval (.tmp 47) = .bool true := by rw [ha]; exact (Rg.puts_eval _ _ _ (by rfl) (by simp) (by simp)).trans dg
              have f35 : us 35 = .int .i64 ((kq : Int) + 1) := d35
              have HB := Lib.hid hB
              clear ha hdep g hf hKf d35 hB
              refine Rg.wpOp_of rfl (Rg.wanted_of rfl (Rg.yielded_of (d := 47) (by rfl) gg)) ?_
              go_simp
              exact hK _ _ rfl (Below.refl _ _)
            · intro o ho f us wl al ha g hf hdep K hKf
              obtain rfl := Option.some.inj ho
              have hB := g.1
              have hK : ∀ v w', RMs b4 o4 nW cy kq xp xh uh 37 v w' → Below wl.heap.size wl w' → K (al.put (some 56) v) w' := fun v w' hv hb => hKf v w' (RMs.put g hb hv)
              have d34 : RMs b4 o4 nW cy kq xp xh uh 34 (us 34) wl := g.2 34 (hdep ⟨34, .data⟩ (by simp) rfl)
              have e53 : al.tmps[53]?.getD undef = us 34 := by rw [← Rg.eval_getD, ha]; exact Rg.puts_eval _ _ _ (by rfl) (by simp) (by simp)
              have d36 : RMs b4 o4 nW cy kq xp xh uh 36 (us 36) wl := g.2 36 (hdep ⟨36, .data⟩ (by simp) rfl)
              have e55 : al.tmps[55]?.getD undef = us 36 := by rw [← Rg.eval_getD, ha]; exact Rg.puts_eval _ _ _ (by rfl) (by simp) (by simp)
              have dg : RMs b4 o4 nW cy kq xp xh uh 28 (us 28) wl := g.2 28 (hdep ⟨28, .guard⟩ (by simp) rfl)
              have gg : al.eval (.tmp 47) = .bool true := by rw [ha]; exact (Rg.puts_eval _ _ _ (by rfl) (by simp) (by simp)).trans dg
              have f34 : us 34 = .slice (some ⟨b4, o4, none⟩) nW cy := d34
              have f36 : us 36 = .int .i64 (kq : Int) := d36
              have HB := Lib.hid hB
              clear ha hdep g hf hKf d34 d36 hB
              refine Rg.wpOp_of rfl (Rg.wanted_of rfl (Rg.yielded_of (d := 47) (by rfl) gg)) ?_
              go_simp
              exact hK _ _ rfl (Below.refl _ _)
            · intro o ho f us wl al ha g hf hdep K hKf
              obtain rfl := Option.some.inj ho
              have hB := g.1
              have hK : ∀ v w', RMs b4 o4 nW cy kq xp xh uh 38 v w' → Below wl.heap.size wl w' → K (al.put (some 57) v) w' := fun v w' hv hb => hKf v w' (RMs.put g hb hv)
              have d37 : RMs b4 o4 nW cy kq xp xh uh 37 (us 37) wl := g.2 37 (hdep ⟨37, .data⟩ (by simp) rfl)
              have e56 : al.tmps[56]?.getD undef = us 37 := by rw [← Rg.eval_getD, ha]; exact Rg.puts_eval _ _ _ (by rfl) (by simp) (by simp)
              have dg : RMs b4 o4 nW cy kq xp xh uh 28 (us 28) wl := g.2 28 (hdep ⟨28, .guard⟩ (by simp) rfl)
              have gg : al.eval (.tmp 47) = .bool true := by rw [ha]; exact (Rg.puts_eval _ _ _ (by rfl) (by simp) (by simp)).trans dg
              have f37 : us 37 = .pointer (some ⟨b4, o4 + kq * 2, none⟩) := d37
              have HB := Lib.hid hB
              clear ha hdep g hf hKf d37 hB
              refine Rg.wpOp_of rfl (Rg.wanted_of rfl (Rg.yielded_of (d := 47) (by rfl) gg)) ?_
              go_simp
              exact hK _ _ rfl (Below.refl _ _)
            · intro o ho f us wl al ha g hf hdep K hKf
              obtain rfl := Option.some.inj ho
              have hB := g.1
              have hK : ∀ v w', RMs b4 o4 nW cy kq xp xh uh 39 v w' → Below wl.heap.size wl w' → K (al.put (some 58) v) w' := fun v w' hv hb => hKf v w' (RMs.put g hb hv)
              have d38 : RMs b4 o4 nW cy kq xp xh uh 38 (us 38) wl := g.2 38 (hdep ⟨38, .data⟩ (by simp) rfl)
              have e57 : al.tmps[57]?.getD undef = us 38 := by rw [← Rg.eval_getD, ha]; exact Rg.puts_eval _ _ _ (by rfl) (by simp) (by simp)
              have dg : RMs b4 o4 nW cy kq xp xh uh 28 (us 28) wl := g.2 28 (hdep ⟨28, .guard⟩ (by simp) rfl)
              have gg : al.eval (.tmp 47) = .bool true := by rw [ha]; exact (Rg.puts_eval _ _ _ (by rfl) (by simp) (by simp)).trans dg
              have f38 : us 38 = .pointer (some ⟨b4, o4 + kq * 2 + 1, none⟩) := d38
              obtain ⟨c1, c2, c3, c4⟩ := CP.out _ hB
              have HB := Lib.hid hB
              clear ha hdep g hf hKf d38 hB
              refine Rg.wpOp_of rfl (Rg.wanted_of rfl (Rg.yielded_of (d := 47) (by rfl) gg)) ?_
              go_simp
              exact hK _ _ rfl (Below.refl _ _)
            · intro o ho f us wl al ha g hf hdep K hKf
              obtain rfl := Option.some.inj ho
              have hB := g.1
              have hK : ∀ v w', RMs b4 o4 nW cy kq xp xh uh 40 v w' → Below wl.heap.size wl w' → K (al.put (some 59) v) w' := fun v w' hv hb => hKf v w' (RMs.put g hb hv)
              have d33 : RMs b4 o4 nW cy kq xp xh uh 33 (us 33) wl := g.2 33 (hdep ⟨33, .data⟩ (by simp) rfl)
              have e52 : al.tmps[52]?.getD undef = us 33 := by rw [← Rg.eval_getD, ha]; exact Rg.puts_eval _ _ _ (by rfl) (by simp) (by simp)
              have d39 : RMs b4 o4 nW cy kq xp xh uh 39 (us 39) wl := g.2 39 (hdep ⟨39, .data⟩ (by simp) rfl)
              have e58 : al.tmps[58]?.getD undef = us 39 := by rw [← Rg.eval_getD, ha]; exact Rg.puts_eval _ _ _ (by rfl) (by simp) (by simp)
              have dg : RMs b4 o4 nW cy kq xp xh uh 28 (us 28) wl := g.2 28 (hdep ⟨28, .guard⟩ (by simp) rfl)
              have gg : al.eval (.tmp 47) = .bool true := by rw [ha]; exact (Rg.puts_eval _ _ _ (by rfl) (by simp) (by simp)).trans dg
              have f33 : us 33 = .int .i64 uh := d33
              have f39 : us 39 = .int .i64 xh := d39
              have HB := Lib.hid hB
              clear ha hdep g hf hKf d33 d39 hB
              refine Rg.wpOp_of rfl (Rg.wanted_of rfl (Rg.yielded_of (d := 47) (by rfl) gg)) ?_
              go_simp
              exact hK _ _ (congrArg Value.bool (decide_eq_false (Int.not_le.2 g2))) (Below.refl _ _)
            · intro o ho f us wl al ha g hf hdep K hKf
              obtain rfl := Option.some.inj ho
              have hB := g.1
              have hK : ∀ v w', RMs b4 o4 nW cy kq xp xh uh 41 v w' → Below wl.heap.size wl w' → K (al.put (some 60) v) w' := fun v w' hv hb => hKf v w' (RMs.put g hb hv)
              have d28 : RMs b4 o4 nW cy kq xp xh uh 28 (us 28) wl := g.2 28 (hdep ⟨28, .data⟩ (by simp) rfl)
              have e47 : al.tmps[47]?.getD undef = us 28 := by rw [← Rg.eval_getD, ha]; exact Rg.puts_eval _ _ _ (by rfl) (by simp) (by simp)
              have d40 : RMs b4 o4 nW cy kq xp xh uh 40 (us 40) wl := g.2 40 (hdep ⟨40, .data⟩ (by simp) rfl)
              have e59 : al.tmps[59]?.getD undef = us 40 := by rw [← Rg.eval_getD, ha]; exact Rg.puts_eval _ _ _ (by rfl) (by simp) (by simp)
              have dg : RMs b4 o4 nW cy kq xp xh uh 15 (us 15) wl := g.2 15 (hdep ⟨15, .guard⟩ (by simp) rfl)
              have gg : al.eval (.tmp 34) = .bool false := by rw [ha]; exact (Rg.puts_eval _ _ _ (by rfl) (by simp) (by simp)).trans dg
              have f28 : us 28 = .bool true := d28
              have f40 : us 40 = .bool false := d40
              have HB := Lib.hid hB
              clear ha hdep g hf hKf d28 d40 hB
              refine Rg.wpOp_of rfl (Rg.wanted_of rfl (Rg.yielded_of (d := 34) (by rfl) gg)) ?_
              go_simp
              exact hK _ _ rfl (Below.refl _ _)
            · intro o ho f us wl al ha g hf hdep K hKf
              obtain rfl := Option.some.inj ho
              have hB := g.1
              have hK : ∀ v w', RMs b4 o4 nW cy kq xp xh uh 42 v w' → Below wl.heap.size wl w' → K (al.put (some 61) v) w' := fun v w' hv hb => hKf v w' (RMs.put g hb hv)
              have d15 : RMs b4 o4 nW cy kq xp xh uh 15 (us 15) wl := g.2 15 (hdep ⟨15, .data⟩ (by simp) rfl)
              have e34 : al.tmps[34]?.getD undef = us 15 := by rw [← Rg.eval_getD, ha]; exact Rg.puts_eval _ _ _ (by rfl) (by simp) (by simp)
              have d41 : RMs b4 o4 nW cy kq xp xh uh 41 (us 41) wl := g.2 41 (hdep ⟨41, .data⟩ (by simp) rfl)
              have e60 : al.tmps[60]?.getD undef = us 41 := by rw [← Rg.eval_getD, ha]; exact Rg.puts_eval _ _ _ (by rfl) (by simp) (by simp)
              have dg : RMs b4 o4 nW cy kq xp xh uh 2 (us 2) wl := g.2 2 (hdep ⟨2, .guard⟩ (by simp) rfl)
              have gg : al.eval (.tmp 21) = .bool true := by rw [ha]; exact (Rg.puts_eval _ _ _ (by rfl) (by simp) (by simp)).trans dg
              have f15 : us 15 = .bool false := d15
              have f41 : us 41 = .bool false := d41
              have HB := Lib.hid hB
              clear ha hdep g hf hKf d15 d41 hB
              refine Rg.wpOp_of rfl (Rg.wanted_of rfl (Rg.yielded_of (d := 21) (by rfl) gg)) ?_
              go_simp
              exact hK _ _ rfl (Below.refl _ _)
            · intro o ho f us wl al ha g hf hdep K hKf
              obtain rfl := Option.some.inj ho
              have hB := g.1
              have hK : ∀ v w', RMs b4 o4 nW cy kq xp xh uh 43 v w' → Below wl.heap.size wl w' → K (al.put (some 62) v) w' := fun v w' hv hb => hKf v w' (RMs.put g hb hv)
              have d2 : RMs b4 o4 nW cy kq xp xh uh 2 (us 2) wl := g.2 2 (hdep ⟨2, .data⟩ (by simp) rfl)
              have e21 : al.tmps[21]?.getD undef = us 2 := by rw [← Rg.eval_getD, ha]; exact Rg.puts_eval _ _ _ (by rfl) (by simp) (by simp)
              have d42 : RMs b4 o4 nW cy kq xp xh uh 42 (us 42) wl := g.2 42 (hdep ⟨42, .data⟩ (by simp) rfl)
              have e61 : al.tmps[61]?.getD undef = us 42 := by rw [← Rg.eval_getD, ha]; exact Rg.puts_eval _ _ _ (by rfl) (by simp) (by simp)
              have f2 : us 2 = .bool true := d2
              have f42 : us 42 = .bool false := d42
              have HB := Lib.hid hB
              clear ha hdep g hf hKf d2 d42 hB
              refine Rg.wpOp_of rfl rfl ?_
              go_simp
              exact hK _ _ rfl (Below.refl _ _)
            · intro us wz hB hR
              have fz : us 43 = .bool false := hR 43
              have DZ := Lib.hid (HB.out.trans (hB.mono HB.out.size))
              clear hB hR
              simp only [Rg.puts, Act.put, List.setIfInBounds_toArray, List.set_cons_zero, List.set_cons_succ, fz]
              go_wp2_with fail
              go_roundw
              case rel => exact ⟨kq + 1 + 1, by omega, by go_num, DZ⟩
              case measure => simp [intOf]; omega
      · have DR := Lib.hid (D1.out.trans (HB.out.mono D1.out.size))
        obtain ⟨wo, hwo⟩ : ∃ wo, wo = wr := ⟨_, rfl⟩
        subst hwo
        clear I1 D1 HUP
        go_wp2_with fail
        refine (HAV.out _ DR.out).mono ?_
        rintro e w2 ⟨y2, rfl, hi2, hb2⟩
        have D2 := Lib.hid (DR.out.trans (hb2.mono DR.out.size))
        have I2 := Lib.hid hi2
        obtain ⟨_, ay2, cy2, rfl, -⟩ := id hi2
        clear hb2 hi2
        go_wp2_with fail
        go_loopw [5, 67] (fun n i wr => ∃ k c : Nat, k ≤ V.length ∧ c ≤ k ∧ i = .int .i64 k ∧ n = .int .i64 ((k + c : Nat) : Int) ∧ Hid ((V.take k).countP tw = c) ∧ Hid (Below w2.heap.size w2 wr)) (fun _ i _ => V.length - (intOf i).toNat)
        case atStart => exact ⟨0, 0, Nat.zero_le _, Nat.le_refl _, rfl, rfl, Lib.hid rfl, Lib.hid (Below.refl _ _)⟩
        case round =>
          obtain ⟨k, c, hk, hc, rfl, rfl, HCN, HB⟩ := hrel
          by_cases hlt : k < V.length
          · rcases (I2.out.below HB.out).form with ⟨h0, _⟩ | ⟨b4, o4, c4, e4, _, hat4⟩
            · rw [h0] at hlt; simp at hlt
            injection e4 with e5 _ e6
            subst e5
            subst e6
            have p1 := hat4 k hlt
            have HCT := Lib.hid (count_take (p := tw) hlt)
            have hzi := HIN.out _ (List.getElem_mem hlt)
            have hzk := HKN.out _ (List.getElem_mem hlt)
            obtain ⟨z, hz⟩ : ∃ z, V[k] = z := ⟨_, rfl⟩
            rw [hz] at p1 HCT hzi hzk
            obtain ⟨q, rfl⟩ : ∃ q : Nat, z = q := ⟨z.toNat, by omega⟩
            have hq : q < l.length := by omega
            have hqn : q < n0 := by rw [← HN0.out]; exact hq
            have D3 := Lib.hid (D2.out.trans (HB.out.mono D2.out.size))
            have hkq := HKC.out q hq
            have HTQ := Lib.hid (HT2.out (q : Int))
            rcases (HV.out _ D3.out).form with ⟨h0, _⟩ | ⟨b5, o5, c5, e7, _, hat5⟩
            · rw [h0] at hq; simp at hq
            injection e7 with e8 e10 e9
            clear e10
            subst e8
            subst e9
            have p2 := (hat5 q hq).1
            rw [← hkq] at p2
            obtain ⟨kk, hkk⟩ : ∃ kk, kn l (q : Int) = kk := ⟨_, rfl⟩
            have HFZ := Lib.hid (HFR.out (q : Int) _ D3.out)
            rw [hkk] at p2 hzk HTQ
            obtain ⟨f, hf⟩ : ∃ f, fr l (q : Int) = f := ⟨_, rfl⟩
            rw [hf] at HTQ HFZ
            clear hat4 hat5 hz hkq hkk hf hzi hq
            have hqi : (q : Int) < n0 := by omega
            have hq0 : ¬ (q : Int) < 0 := by omega
            rcases hzk with rfl | rfl | rfl | rfl
            · have ht : tw (q : Int) = false := HTQ.out
              have HX : Hid ((V.take (k + 1)).countP tw = c + 0) := Lib.hid (by rw [HCT.out, HCN.out, ht]; rfl)
              clear HCT HCN HTQ ht
              go_wp2_with fail
              go_roundw
              case rel => exact ⟨k + 1, c + 0, by omega, by omega, by go_num, by go_num, HX, HB⟩
              case measure => simp [intOf]; omega
            · have ht : tw (q : Int) = true := HTQ.out
              have HX : Hid ((V.take (k + 1)).countP tw = c + 1) := Lib.hid (by rw [HCT.out, HCN.out, ht]; rfl)
              clear HCT HCN HTQ ht
              go_wp2_with fail
              go_roundw
              case rel => exact ⟨k + 1, c + 1, by omega, by omega, by go_num, by go_num, HX, HB⟩
              case measure => simp [intOf]; omega
            · cases f with
              | true =>
                  have ht : tw (q : Int) = true := HTQ.out
                  have HX : Hid ((V.take (k + 1)).countP tw = c + 1) := Lib.hid (by rw [HCT.out, HCN.out, ht]; rfl)
                  clear HCT HCN HTQ ht
                  go_wp2_with fail
                  refine HFZ.out.mono ?_
                  rintro e w5 ⟨rfl, hb5⟩
                  have B5 := Lib.hid (HB.out.trans (hb5.mono HB.out.size))
                  clear hb5
                  go_wp2_with fail
                  go_roundw
                  case rel => exact ⟨k + 1, c + 1, by omega, by omega, by go_num, by go_num, HX, B5⟩
                  case measure => simp [intOf]; omega
              | false =>
                  have ht : tw (q : Int) = false := HTQ.out
                  have HX : Hid ((V.take (k + 1)).countP tw = c + 0) := Lib.hid (by rw [HCT.out, HCN.out, ht]; rfl)
                  clear HCT HCN HTQ ht
                  go_wp2_with fail
                  refine HFZ.out.mono ?_
                  rintro e w5 ⟨rfl, hb5⟩
                  have B5 := Lib.hid (HB.out.trans (hb5.mono HB.out.size))
                  clear hb5
                  go_wp2_with fail
                  go_roundw
                  case rel => exact ⟨k + 1, c + 0, by omega, by omega, by go_num, by go_num, HX, B5⟩
                  case measure => simp [intOf]; omega
            · cases f with
              | true =>
                  have ht : tw (q : Int) = true := HTQ.out
                  have HX : Hid ((V.take (k + 1)).countP tw = c + 1) := Lib.hid (by rw [HCT.out, HCN.out, ht]; rfl)
                  clear HCT HCN HTQ ht
                  go_wp2_with fail
                  refine HFZ.out.mono ?_
                  rintro e w5 ⟨rfl, hb5⟩
                  have B5 := Lib.hid (HB.out.trans (hb5.mono HB.out.size))
                  clear hb5
                  go_wp2_with fail
                  go_roundw
                  case rel => exact ⟨k + 1, c + 1, by omega, by omega, by go_num, by go_num, HX, B5⟩
                  case measure => simp [intOf]; omega
              | false =>
                  have ht : tw (q : Int) = false := HTQ.out
                  have HX : Hid ((V.take (k + 1)).countP tw = c + 0) := Lib.hid (by rw [HCT.out, HCN.out, ht]; rfl)
                  clear HCT HCN HTQ ht
                  go_wp2_with fail
                  refine HFZ.out.mono ?_
                  rintro e w5 ⟨rfl, hb5⟩
                  have B5 := Lib.hid (HB.out.trans (hb5.mono HB.out.size))
                  clear hb5
                  go_wp2_with fail
                  go_roundw
                  case rel => exact ⟨k + 1, c + 0, by omega, by omega, by go_num, by go_num, HX, B5⟩
                  case measure => simp [intOf]; omega
          · have HZ : Hid (W.length = k + c) := by
              have h1 := HTW.out
              have h2 := HCN.out
              rw [List.take_of_length_le (by omega)] at h2
              show _ = _
              omega
            have D3 := Lib.hid (D2.out.trans (HB.out.mono D2.out.size))
            go_wp2_with fail
            refine (HA.out _ D3.out).mono ?_
            rintro e w9 ⟨rfl, hb9⟩
            have D9 := Lib.hid (D3.out.trans (hb9.mono D3.out.size))
            clear hb9
            rw [HZ.out]
            go_wp2_with fail
            go_ret
            exact ⟨ret_bool (by simp), D9.out⟩
end Go.Proofs.YtdkaoiomndkbjaaDoor.Me
