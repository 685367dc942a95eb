/- The document's mixed and Par: where what they tell lies; the walks. The document's order of pairs: the walk; merging rows of pairs: plain steps. The program's with, going, stacked: the walks. The document's behind, Then: where what they tell lies; the walks. -/
import Derived.Test.YtghnonbcojbohaaGreatDoorQ18
import Derived.Test.YtghnonbcojbohaaGreatDoorQ14
import Derived.Test.YtghnonbcojbohaaGreatDoorQ12

namespace Go.Proofs.YtghnonbcojbohaaGreatDoor.Mn
open Go Go.RowKit Tr
set_option maxRecDepth 20000

def MxdO (ok : Nat → Prop) (w : World) (n : Nat) (l m : List ByteArray) (e : Ending) (w' : World) : Prop :=
  ∃ v cs, e = .returned v ∧ w'.ownsRow w.heap.size 44 1 v (mx n l m).length cs ∧ RwO (fun b => (ok b ∨ w.heap.size ≤ b) ∧ some b ≠ v.ownBlock) w' cs (mx n l m) ∧ Below w.heap.size w w'
theorem new_offO {ok : Nat → Prop} {w : World} {a : Value} {l : List ByteArray} (h : StrsO ok w a l) : RwO (fun b => (ok b ∨ w.heap.size ≤ b) ∧ some b ≠ (Value.slice (some ⟨w.heap.size, 0, none⟩) 1 1).ownBlock) (w.alloc (.cells #[a] 44)) [a] [l] := by
  refine ⟨Ap.RdO.below (Ap.RdO.imp h fun b hb ho => ⟨.inl ho, ?_⟩) ((Below.refl _ _).alloc (Nat.le_refl _) _), trivial⟩
  intro e
  simp [Value.ownBlock] at e
  omega
def RwsOk (ok : Nat → Prop) (w : World) (v : Value) (rs : List (List ByteArray)) : Prop := ∃ cs, Ap.Rd w 1 v rs.length cs ∧ RwO ok w cs rs
theorem rwsok_val {ok : Nat → Prop} {w : World} {v : Value} {rs : List (List ByteArray)} (h : RwsOk ok w v rs) : ∃ a cap, v = .slice a rs.length cap ∧ rs.length ≤ cap ∧
    ∀ k, (hk : k < rs.length) → ∃ b off x, a = some ⟨b, off, none⟩ ∧ w.cell? ⟨b, off + k, none⟩ = some x ∧ StrsO ok w x rs[k] := by
  obtain ⟨cs, ⟨_, a, cap, rfl, hcap, _, hcell⟩, hc⟩ := h
  refine ⟨a, cap, rfl, hcap, fun k hk => ?_⟩
  obtain ⟨b, off, rfl, hj⟩ := hcell (by omega)
  obtain ⟨x, h1, h2⟩ := hc.at k hk
  exact ⟨b, off, x, rfl, hj _ _ h1, h2⟩

set_option maxHeartbeats 400000 in
theorem mixedO_nil (ok : Nat → Prop) (n : Nat) (a1 : Option Addr) (c1 : Nat) (y : Value) (m : List ByteArray) (w : World) (hy : StrsO ok w y m) :
    Calls Tryz.prog 160 #[.slice a1 0 c1, y] w (MxdO ok w n [] m) := by
  have hy' := hy
  obtain ⟨_, a2, c2, rfl, _⟩ := hy'
  have HY := Lib.hid hy
  clear hy
  go_enter Tryz.func160, Tryz.ntmps160
  go_wp2_with fail
  go_ret
  refine ⟨_, [.slice a2 m.length c2], rfl, ?_, ?_, (Below.refl _ _).alloc (Nat.le_refl _) _⟩
  · rw [mx_nil]; exact own_new w _
  · rw [mx_nil]; exact new_offO HY.out
set_option maxHeartbeats 400000 in
theorem mixedO_nil_r (ok : Nat → Prop) (n : Nat) (x0 : ByteArray) (l : List ByteArray) (a1 a2 : Option Addr) (c1 c2 : Nat) (w : World) (hl : l.length ≤ 1000) (hx : StrsO ok w (.slice a1 (l.length + 1) c1) (x0 :: l)) :
    Calls Tryz.prog 160 #[.slice a1 (l.length + 1) c1, .slice a2 0 c2] w (MxdO ok w n (x0 :: l) []) := by
  have HX := Lib.hid hx
  have hne : (((l.length + 1 : Nat) : Int) == 0) = false := by rw [beq_eq_false_iff_ne]; omega
  clear hx
  go_enter Tryz.func160, Tryz.ntmps160
  go_wp2_with fail
  go_ret
  refine ⟨_, [.slice a1 (l.length + 1) c1], rfl, ?_, ?_, (Below.refl _ _).alloc (Nat.le_refl _) _⟩
  · rw [mx_nil_r]; exact own_new w _
  · rw [mx_nil_r]; exact new_offO HX.out

set_option maxHeartbeats 4000000 in
theorem mixedO_step (ok : Nat → Prop) (n : Nat) (hn : n ≤ 19) (ih : ∀ (x y : Value) (l m : List ByteArray) (w : World), l.length + m.length ≤ n → Strs w x l → Strs w y m → Calls Tryz.prog 160 #[x, y] w (Mxd w n l m))
    (b1 o1 c1 b2 o2 c2 p1 p2 : Nat) (x0 y0 : ByteArray) (l m : List ByteArray) (w : World) (hlen : l.length + m.length + 1 ≤ n)
    (hx : Strs w (.slice (some ⟨b1, o1, none⟩) (l.length + 1) c1) (x0 :: l)) (hy : Strs w (.slice (some ⟨b2, o2, none⟩) (m.length + 1) c2) (y0 :: m))
    (hp1 : p1 = o1 + 1 ∨ c1 = 1) (hp2 : p2 = o2 + 1 ∨ c2 = 1)
    (r1 : ∀ w : World, (Instr.slice 44 (.slice (some ⟨b1, o1, none⟩) (l.length + 1) c1) (some (.int .i64 1)) none none).run Tryz.prog w = .ok (.slice (some ⟨b1, p1, none⟩) l.length (c1 - 1)) w)
    (r2 : ∀ w : World, (Instr.slice 44 (.slice (some ⟨b2, o2, none⟩) (m.length + 1) c2) (some (.int .i64 1)) none none).run Tryz.prog w = .ok (.slice (some ⟨b2, p2, none⟩) m.length (c2 - 1)) w) :
    Calls Tryz.prog 160 #[.slice (some ⟨b1, o1, none⟩) (l.length + 1) c1, .slice (some ⟨b2, o2, none⟩) (m.length + 1) c2] w (MxdO ok w (n + 1) (x0 :: l) (y0 :: m)) := by
  have IH := Lib.hid ih
  have HX := Lib.hid hx
  have HY := Lib.hid hy
  have T1 := Lib.hid (hx.tail p1 hp1)
  have T2 := Lib.hid (hy.tail p2 hp2)
  have e1 : w.cell? ⟨b1, o1, none⟩ = some (.string x0) := by
    rcases hx.form with ⟨h, _⟩ | ⟨b, o, c, hv, hc⟩
    · cases h
    · cases hv
      exact hc 0 (by simp)
  have e2 : w.cell? ⟨b2, o2, none⟩ = some (.string y0) := by
    rcases hy.form with ⟨h, _⟩ | ⟨b, o, c, hv, hc⟩
    · cases h
    · cases hv
      exact hc 0 (by simp)
  have hne1 : (((l.length + 1 : Nat) : Int) == 0) = false := by rw [beq_eq_false_iff_ne]; omega
  have hne2 : (((m.length + 1 : Nat) : Int) == 0) = false := by rw [beq_eq_false_iff_ne]; omega
  clear ih hx hy hp1 hp2
  go_enter Tryz.func160, Tryz.ntmps160
  go_wp2_with fail
  go_region_held3 (fun w' => w'.cell? ⟨b1, o1, none⟩ = some (.string x0) ∧ w'.cell? ⟨b2, o2, none⟩ = some (.string y0)) (first | exact ⟨e1, e2⟩ | exact keep2 B1.out e1 e2 | exact keep2 B2.out e1 e2 | exact keep2 B3.out e1 e2 | exact keep2 B4.out e1 e2 | exact keep2 B5.out e1 e2 | fail) (first
    | (go_at_call 160
       (with_reducible refine (IH.out (.slice (some ⟨b1, p1, none⟩) l.length (c1 - 1)) (.slice (some ⟨b2, o2, none⟩) (m.length + 1) c2) l (y0 :: m) _ (by simp; omega) (T1.out.below (Below.refl _ _).drew) (HY.out.below (Below.refl _ _).drew)).mono ?_)
       rintro e w1 ⟨v1, cs1, rfl, ho1, hr1, hb1⟩
       have K1 := Lib.hid (rws_of ho1 hr1)
       have B1 : Hid (Below w.heap.size w w1) := (Below.refl _ _).drew.trans hb1
       clear ho1 hr1 hb1)
    | (go_at_call 188
       (with_reducible refine (ahead_any x0 v1 (mx n l (y0 :: m)) _ K1.out ?_ ?_).mono ?_)
       · exact Nat.le_trans (mx_len _ _ _) (Nat.le_trans (pow20 (by omega)) (by omega))
       · intro r hr
         have := mx_row _ _ _ _ hr
         simp at this
         omega
       rintro e w2 ⟨v2, cs2, rfl, ho2, hr2, hb2⟩
       have O2 := Lib.hid ho2
       have R2 := Lib.hid hr2
       have B2 : Hid (Below w.heap.size w w2) := B1.out.trans (hb2.mono B1.out.size)
       clear ho2 hr2 hb2)
    | (go_at_call 160
       (with_reducible refine (IH.out (.slice (some ⟨b1, o1, none⟩) (l.length + 1) c1) (.slice (some ⟨b2, p2, none⟩) m.length (c2 - 1)) (x0 :: l) m _ (by simp; omega) (HX.out.below B2.out) (T2.out.below B2.out)).mono ?_)
       rintro e w3 ⟨v3, cs3, rfl, ho3, hr3, hb3⟩
       have K3 := Lib.hid (rws_of ho3 hr3)
       have C3 : Hid (Below w2.heap.size w2 w3) := hb3
       have B3 : Hid (Below w.heap.size w w3) := B2.out.trans (hb3.mono B2.out.size)
       clear ho3 hr3 hb3)
    | (go_at_call 188
       (with_reducible refine (ahead_any y0 v3 (mx n (x0 :: l) m) _ K3.out ?_ ?_).mono ?_)
       · exact Nat.le_trans (mx_len _ _ _) (Nat.le_trans (pow20 (by omega)) (by omega))
       · intro r hr
         have := mx_row _ _ _ _ hr
         simp at this
         omega
       rintro e w4 ⟨v4, cs4, rfl, ho4, hr4, hb4⟩
       have O4 := Lib.hid ho4
       have R4 := Lib.hid hr4
       have C4 : Hid (Below w2.heap.size w2 w4) := C3.out.trans (hb4.mono C3.out.size)
       have B4 : Hid (Below w.heap.size w w4) := B3.out.trans (hb4.mono B3.out.size)
       have L4 : Hid (w2.heap.size ≤ w3.heap.size) := C3.out.size
       obtain ⟨v5, w5, hrun, ho5, hg5, hb5, hf5⟩ := run_append_rows (Ap.own_below (Ap.own_base O2.out B1.out.size) C4.out) B4.out.size (Ap.Rd.owned O4.out) R4.out.one (by
         have h1 := mx_len n l (y0 :: m)
         have h2 := mx_len n (x0 :: l) m
         have h3 := pow20 (n := n) (by omega)
         omega)
       have RUN := Lib.hid hrun
       have O5 := Lib.hid ho5
       have G5 := Lib.hid hg5
       have F5 := Lib.hid hf5
       have B5 := Lib.hid (B4.out.trans hb5)
       clear ho4 hr4 hb4 hrun ho5 hg5 hb5 hf5)
    | (refine Ap.step_append_run (by rfl) _ _ _ _ rfl _ _ rfl rfl v5 w5 RUN.out ?_)
    | fail)
  go_wp2_with fail
  go_ret
  refine ⟨_, cs2 ++ cs4, rfl, ?_, ?_, B5.out⟩
  · have := O5.out
    simpa [mx] using this
  · rw [mx]
    refine RwO.append ?_ ?_
    · refine R4.out.map fun v r h => Ap.RdO.imp (Ap.RdO.grow (v := v2) (v' := v5) (ok := fun b => w.heap.size ≤ b) (Ap.RdO.imp h fun b _ hb => ⟨?_, ?_⟩) G5.out F5.out) fun _ _ h => ⟨.inr h.1, h.2⟩
      · have h3 := B3.out.size
        omega
      intro hbo
      have h1 := Ap.own_lt O2.out b hbo.symm
      have h2 := L4.out
      omega
    · refine R2.out.map fun v r h => Ap.RdO.imp (Ap.RdO.grow (v := v2) (v' := v5) (ok := fun b => w.heap.size ≤ b) (Ap.RdO.below (Ap.RdO.imp h fun b _ hb => ⟨?_, hb.2⟩) C4.out) G5.out F5.out) fun _ _ h => ⟨.inr h.1, h.2⟩
      have h1 := B1.out.size
      omega

theorem mixedO_any (ok : Nat → Prop) (n : Nat) (hn : n ≤ 20) : ∀ (x y : Value) (l m : List ByteArray) (w : World), l.length + m.length ≤ n → StrsO ok w x l → StrsO ok w y m → Calls Tryz.prog 160 #[x, y] w (MxdO ok w n l m) := by
  cases n with
  | zero =>
    intro x y l m w hlen hx hy
    obtain rfl : l = [] := List.eq_nil_of_length_eq_zero (by omega)
    obtain ⟨_, a1, c1, rfl, _⟩ := hx
    exact mixedO_nil ok 0 a1 c1 y m w hy
  | succ n =>
    intro x y l m w hlen hx hy
    match l, hx with
    | [], hx =>
      obtain ⟨_, a1, c1, rfl, _⟩ := hx
      exact mixedO_nil ok _ a1 c1 y m w hy
    | x0 :: l, hx =>
      match m, hy with
      | [], hy =>
        have hx' := hx
        obtain ⟨_, a1, c1, rfl, _⟩ := hx'
        obtain ⟨_, a2, c2, rfl, _⟩ := hy
        exact mixedO_nil_r ok _ x0 l a1 a2 c1 c2 w (by simp at hlen; omega) hx
      | y0 :: m, hy =>
        have hx' := hx
        have hy' := hy
        obtain ⟨_, a1, c1, rfl, hc1, _, hcell1⟩ := hx'
        obtain ⟨_, a2, c2, rfl, hc2, _, hcell2⟩ := hy'
        obtain ⟨b1, o1, rfl, _⟩ := hcell1 (by simp)
        obtain ⟨b2, o2, rfl, _⟩ := hcell2 (by simp)
        simp at hlen
        exact mixedO_step ok n (by omega) (fun x y l m w h hx hy => mixed_any n (by omega) x y l m w h hx hy) b1 o1 c1 b2 o2 c2 _ _ x0 y0 l m w (by omega) (so_strs hx) (so_strs hy)
          (by by_cases h : c1 = 1 <;> simp [h]) (by by_cases h : c2 = 1 <;> simp [h]) (slice1 b1 o1 l.length c1) (slice1 b2 o2 m.length c2)

set_option maxHeartbeats 4000000 in
theorem parR_any (ok : Nat → Prop) (v1 v2 : Value) (p q : Tr) (w : World) (h1 : StrsO ok w v1 p.a) (h2 : StrsO ok w v2 q.a) (hlen : p.a.length + q.a.length ≤ 19) :
    Calls Tryz.prog 114 #[.agg #[v1, .int .i64 p.e], .agg #[v2, .int .i64 q.e]] w (OutT ok (pr p q) w) := by
  have H1 := Lib.hid h1
  have H2 := Lib.hid h2
  have HB := Lib.hid (below2 w)
  clear h1 h2
  unfold pr OutT
  obtain ⟨b, hbb⟩ : ∃ b, Sg.both p.e q.e = b := ⟨_, rfl⟩
  obtain ⟨rs, hrs⟩ : ∃ rs, mx 19 p.a q.a = rs := ⟨_, rfl⟩
  have hml : rs.length ≤ 524288 := by rw [← hrs]; exact Nat.le_trans (mx_len _ _ _) (by decide)
  have HROW : Hid (∀ r ∈ rs, r.length = p.a.length + q.a.length) := by rw [← hrs]; exact mx_row 19 p.a q.a
  rw [hbb, hrs]
  have HBB := Lib.hid hbb
  have HRS := Lib.hid hrs
  clear hbb hrs
  go_enter Tryz.func114, Tryz.ntmps114
  go_wp2_with fail
  refine (mixedO_any ok 19 (by omega) _ _ p.a q.a _ hlen (so_below H1.out (HB.out _ _)) (so_below H2.out (HB.out _ _))).mono ?_
  rintro e wm ⟨vm, csm, rfl, hom, hrm, hbm⟩
  rw [HRS.out] at hom hrm
  have E1 : wm.cell? ⟨w.heap.size, 1, none⟩ = some (.int .i64 p.e) := by rw [hbm.cell (p := ⟨w.heap.size, 1, none⟩) (by simp; omega)]; simp [go_sem]
  have E2 : wm.cell? ⟨w.heap.size + 1, 1, none⟩ = some (.int .i64 q.e) := by rw [hbm.cell (p := ⟨w.heap.size + 1, 1, none⟩) (by simp)]; simp [go_sem]
  have KM := Lib.hid (rws_of hom hrm)
  have KF : Hid (RwsOk (fun b => ok b ∨ w.heap.size ≤ b) wm vm rs) := Lib.hid ⟨csm, Ap.Rd.owned hom, hrm.map fun _ _ h => Ap.RdO.imp h fun b _ h => h.1.imp id fun h => Nat.le_trans (HB.out _ _).size h⟩
  have BM := Lib.hid ((HB.out _ _).trans (hbm.mono (HB.out _ _).size))
  clear hom hrm hbm
  obtain ⟨am, cm, rfl, _, hm⟩ := rwsok_val KF.out
  have HM := Lib.hid hm
  clear hm
  go_wp2_with fail
  go_loopw [5, 7] (fun v i wr => ∃ (k : Nat) (cs : List Value), k ≤ rs.length ∧ i = .int .i64 k ∧ Below wm.heap.size wm wr ∧ wr.ownsRow wm.heap.size 67 2 v ((rs.take k).map fun r => (⟨r, b⟩ : Tr)).length cs ∧ Cl (ET (fun b => ok b ∨ w.heap.size ≤ b) wm) 2 ((rs.take k).map fun r => (⟨r, b⟩ : Tr)) cs) (fun _ i _ => rs.length - (intOf i).toNat)
  case atStart => exact ⟨0, [], Nat.zero_le _, rfl, Below.refl _ _, ⟨rfl, .inl ⟨rfl, rfl⟩⟩, rfl⟩
  case round =>
    obtain ⟨k, cs, hk, rfl, hb, hown, hcs⟩ := hrel
    have WB := Lib.hid hb
    have WO := Lib.hid hown
    have WC := Lib.hid hcs
    clear hb hown hcs
    by_cases hlt : k < rs.length
    · obtain ⟨b1, o1, a, rfl, e1, hs⟩ := HM.out k hlt
      have c1 : wr.cell? ⟨b1, o1 + k, none⟩ = some a := by rw [WB.out.cell (Ap.cell_lt e1)]; exact e1
      have c2 : wr.cell? ⟨w.heap.size, 1, none⟩ = some (.int .i64 p.e) := by rw [WB.out.cell (Ap.cell_lt E1)]; exact E1
      have c3 : wr.cell? ⟨w.heap.size + 1, 1, none⟩ = some (.int .i64 q.e) := by rw [WB.out.cell (Ap.cell_lt E2)]; exact E2
      have HS := Lib.hid hs
      have HMS := Lib.hid (map_snoc (fun r => (⟨r, b⟩ : Tr)) rs k hlt)
      generalize rs[k] = r at *
      have hs' := HS.out
      obtain ⟨_, av, cv, rfl, _⟩ := hs'
      obtain ⟨v2', w2, hrun, ho2, hg2, hb2, hf2⟩ := run_append_tr (wr := wr.drew) (t := ⟨r, b⟩) WO.out WB.out.drew.size (so_strs HS.out) (by simp; omega)
      have RUN := Lib.hid hrun
      have O2 := Lib.hid ho2
      have B2 : Hid (Below wm.heap.size wm w2) := WB.out.drew.trans hb2
      have d1 : w2.cell? ⟨b1, o1 + k, none⟩ = some (.slice av r.length cv) := by rw [B2.out.cell (Ap.cell_lt e1)]; exact e1
      have d2 : w2.cell? ⟨w.heap.size, 1, none⟩ = some (.int .i64 p.e) := by rw [B2.out.cell (Ap.cell_lt E1)]; exact E1
      have d3 : w2.cell? ⟨w.heap.size + 1, 1, none⟩ = some (.int .i64 q.e) := by rw [B2.out.cell (Ap.cell_lt E2)]; exact E2
      clear hrun ho2 hg2 hb2 hf2 e1 hs
      go_wp2_with fail
      go_region_held3 (fun w' => w'.cell? ⟨b1, o1 + k, none⟩ = some (.slice av r.length cv) ∧ w'.cell? ⟨w.heap.size, 1, none⟩ = some (.int .i64 p.e) ∧ w'.cell? ⟨w.heap.size + 1, 1, none⟩ = some (.int .i64 q.e)) (first | exact ⟨c1, c2, c3⟩ | exact ⟨d1, d2, d3⟩ | go_keep | fail) (first
        | (go_at_call 161; refine (Sg.bothR_any _ _ _).mono ?_; rw [HBB.out]; rintro e w' ⟨rfl, rfl⟩)
        | (refine Ap.step_append_run (by rfl) _ _ _ _ rfl _ _ rfl rfl v2' w2 RUN.out ?_)
        | fail)
      go_wp2_with fail
      go_roundw
      case rel => exact ⟨k + 1, _, by omega, by go_num, B2.out, by rw [HMS.out]; exact O2.out, by rw [HMS.out]; exact Cl.append ET.len (Cl.one ⟨_, rfl, HS.out⟩ rfl) WC.out⟩
      case measure => simp [intOf]; omega
    · go_wp2_with fail
      have HT : Hid (TsO (fun b => ok b ∨ w.heap.size ≤ b) wr u5 (rs.map fun r => (⟨r, b⟩ : Tr))) := by
        have h1 := WO.out
        have h2 := WC.out
        rw [List.take_of_length_le (by omega)] at h1 h2
        exact ⟨cs, Ap.RdO.imp (Ap.RdO.fresh h1) fun b _ h => .inr (Nat.le_trans BM.out.size h), Cl.imp (ET.map fun _ _ h => so_below h WB.out) h2⟩
      have CS := Lib.hid (setTR_any rs.length (fun b => ok b ∨ w.heap.size ≤ b) u5 (rs.map fun r => ⟨r, b⟩) wr (by simp) (by simp; omega) HT.out (fun t ht => by
        obtain ⟨r, hr, rfl⟩ := List.mem_map.1 ht
        have := HROW.out r hr
        simp only
        omega))
      obtain ⟨NN, hNN⟩ : ∃ NN, norm (rs.map fun r => (⟨r, b⟩ : Tr)) = NN := ⟨_, rfl⟩
      rw [hNN] at CS
      have HNN := Lib.hid hNN
      clear hNN
      refine CS.out.mono ?_
      intro e w' ho
      have HO := Lib.hid (ho.up (ok := ok) (BM.out.trans (WB.out.mono BM.out.size)) fun b h => h)
      obtain ⟨a7, n7, rfl, _, _⟩ := ho
      go_wp2_with fail
      go_ret
      rw [HNN.out]
      exact HO.out
end Go.Proofs.YtghnonbcojbohaaGreatDoor.Mn

namespace Go.Proofs.YtghnonbcojbohaaGreatDoor.Mn
open Go Go.RowKit Tr
set_option maxRecDepth 20000

theorem pmg_lt (l m : List Pr) (p q : Nat) (h1 : p < l.length) (h2 : q < m.length) (h : pcmp l[p] m[q] < 0) :
    pmg (l.length + m.length + 1 - p - q) (l.drop p) (m.drop q) = l[p] :: pmg (l.length + m.length + 1 - (p + 1) - q) (l.drop (p + 1)) (m.drop q) := by
  rw [List.drop_eq_getElem_cons h1, List.drop_eq_getElem_cons h2, show l.length + m.length + 1 - p - q = (l.length + m.length + 1 - (p + 1) - q) + 1 by omega, pmg, if_pos h]
theorem pmg_eq (l m : List Pr) (p q : Nat) (h1 : p < l.length) (h2 : q < m.length) (h : pcmp l[p] m[q] = 0) :
    pmg (l.length + m.length + 1 - p - q) (l.drop p) (m.drop q) = l[p] :: pmg (l.length + m.length + 1 - (p + 1) - (q + 1)) (l.drop (p + 1)) (m.drop (q + 1)) := by
  rw [List.drop_eq_getElem_cons h1, List.drop_eq_getElem_cons h2, show l.length + m.length + 1 - p - q = (l.length + m.length + 1 - (p + 1) - q) + 1 by omega, pmg, if_neg (by omega), if_pos h,
    pmg_fuel _ (l.length + m.length + 1 - (p + 1) - (q + 1)) _ _ (by simp; omega) (by simp; omega)]
theorem pmg_gt (l m : List Pr) (p q : Nat) (h1 : p < l.length) (h2 : q < m.length) (h : 0 < pcmp l[p] m[q]) :
    pmg (l.length + m.length + 1 - p - q) (l.drop p) (m.drop q) = m[q] :: pmg (l.length + m.length + 1 - p - (q + 1)) (l.drop p) (m.drop (q + 1)) := by
  rw [List.drop_eq_getElem_cons h1, List.drop_eq_getElem_cons h2, show l.length + m.length + 1 - p - q = (l.length + m.length + 1 - p - (q + 1)) + 1 by omega, pmg, if_neg (by omega), if_neg (by omega)]
theorem pnorm_short {l : List Pr} (h : l.length < 2) : pnorm l = l := by
  match l, h with
  | [], _ => rfl
  | [t], _ => rfl

theorem infoPR : (Tryz.prog.info? 75).map (fun i => (i.zero, i.size, i.bytes)) = some (some (.agg #[.slice none 0 0, .int .i64 0, .slice none 0 0, .int .i64 0]), 4, 64) := by kernel_rfl
theorem app1P {ok : Nat → Prop} {wk wr : World} {base : Nat} {v a b : Value} {o : List Pr} {x : Pr} {cs : List Value} (hown : wr.ownsRow base 75 4 v o.length cs) (hbase : base ≤ wr.heap.size) (ha : StrsO ok wk a x.p.a) (hb : StrsO ok wk b x.q.a) (hlen : o.length ≤ 2000000000000) :
    ∃ v' w', (Builtin.append_ #[37, 37] 37 #[v, .slice (some ⟨wr.heap.size, 0, none⟩) 1 1]).run Tryz.prog (wr.alloc (.cells #[a, .int .i64 x.p.e, b, .int .i64 x.q.e] 75)) = .ok v' w' ∧
      w'.ownsRow base 75 4 v' (o ++ [x]).length (cs ++ [a, .int .i64 x.p.e, b, .int .i64 x.q.e]) ∧ wr.grownBy w' v.ownBlock ∧ Below base wr w' ∧ Ap.Fresh wr v v' := by
  obtain ⟨i0, hi, hz, hs1, hb8⟩ := info_parts infoPR
  obtain ⟨v', w', h1, h2, h3, h4, h5⟩ := Ap.run_append_one (P := Tryz.prog) (ty := 37) Tryz.underlying37 hi hz hs1 hb8 (by rfl) (by omega) hown hbase #[a, .int .i64 x.p.e, b, .int .i64 x.q.e] rfl
    (fun u hu => by
      simp at hu
      rcases hu with rfl | rfl | rfl | rfl
      · exact strsO_one ha
      · rfl
      · exact strsO_one hb
      · rfl) (by unfold maxLen; omega) (by omega)
  exact ⟨v', w', h1, by simpa using h2, h3, h4, h5⟩
theorem appPR {w : World} {base n m : Nat} {v x : Value} {cs ds : List Value} (hown : w.ownsRow base 75 4 v n cs) (hbase : base ≤ w.heap.size) (hx : Ap.Rd w 4 x m ds) (h1 : ∀ u ∈ ds, u.oneCell' = true) (hlen : n + m ≤ 2000000000000) :
    ∃ v' w', (Builtin.append_ #[37, 37] 37 #[v, x]).run Tryz.prog w = .ok v' w' ∧ w'.ownsRow base 75 4 v' (n + m) (cs ++ ds) ∧ w.grownBy w' v.ownBlock ∧ Below base w w' ∧ Ap.Fresh w v v' := by
  obtain ⟨i0, hi, hz, hs1, hb8⟩ := info_parts infoPR
  exact Ap.run_append_rd (P := Tryz.prog) (ty := 37) Tryz.underlying37 hi hz hs1 hb8 (by rfl) (by omega) hown hbase hx h1 (by unfold maxLen; omega) (by omega)

set_option maxHeartbeats 2000000 in
theorem pcmpR (v1 v1' v2 v2' : Value) (x y : Pr) (w : World) (h1 : Strs w v1 x.p.a) (h1' : Strs w v1' x.q.a) (h2 : Strs w v2 y.p.a) (h2' : Strs w v2' y.q.a)
    (l1 : x.p.a.length ≤ 1000000 ∧ x.q.a.length ≤ 1000000) (l2 : y.p.a.length ≤ 1000000 ∧ y.q.a.length ≤ 1000000) :
    Calls Tryz.prog 46 #[.agg #[v1, .int .i64 x.p.e, v1', .int .i64 x.q.e], .agg #[v2, .int .i64 y.p.e, v2', .int .i64 y.q.e]] w fun e w' => e = .returned (.int .i64 (pcmp x y)) ∧ Below w.heap.size w w' := by
  have HB := Lib.hid (fun o o' => bel2 w o o')
  have C1 := Lib.hid (fun w1 (hb : Below w.heap.size w w1) => cmpR v1 v2 x.p y.p w1 (h1.below hb) (h2.below hb) l1.1 l2.1)
  have C2 := Lib.hid (fun w1 (hb : Below w.heap.size w w1) => cmpR v1' v2' x.q y.q w1 (h1'.below hb) (h2'.below hb) l1.2 l2.2)
  obtain ⟨_, a1, c1, rfl, -⟩ := h1
  obtain ⟨_, a1', c1', rfl, -⟩ := h1'
  obtain ⟨_, a2, c2, rfl, -⟩ := h2
  obtain ⟨_, a2', c2', rfl, -⟩ := h2'
  have hp : pcmp x y = if cmp x.p y.p = 0 then cmp x.q y.q else cmp x.p y.p := rfl
  rw [hp]
  generalize cmp x.p y.p = z at C1 ⊢
  generalize cmp x.q y.q = z' at C2 ⊢
  clear hp
  by_cases hz : z = 0
  · subst hz
    rw [if_pos rfl]
    go_enter Tryz.func46, Tryz.ntmps46
    go_wp2_with fail
    refine (C1.out _ (HB.out _ _)).mono ?_
    rintro e w1 ⟨rfl, hb1⟩
    have k1 : BoxP w1 w.heap.size (.slice a1 x.p.a.length c1) x.p.e (.slice a1' x.q.a.length c1') x.q.e := BoxP.below ⟨by simp [go_sem], by simp [go_sem], by simp [go_sem], by simp [go_sem]⟩ hb1
    have k2 : BoxP w1 (w.heap.size + 1) (.slice a2 y.p.a.length c2) y.p.e (.slice a2' y.q.a.length c2') y.q.e := BoxP.below ⟨by simp [go_sem], by simp [go_sem], by simp [go_sem], by simp [go_sem]⟩ hb1
    obtain ⟨_, _, q2, q3⟩ := k1
    obtain ⟨_, _, r2, r3⟩ := k2
    have B1 := Lib.hid ((HB.out _ _).trans (hb1.mono (HB.out _ _).size))
    clear hb1
    go_wp2_with fail
    refine (C2.out _ B1.out).mono ?_
    rintro e w2 ⟨rfl, hb2⟩
    have B2 := Lib.hid (B1.out.trans (hb2.mono B1.out.size))
    clear hb2
    go_wp2_with fail
    go_ret
    exact ⟨rfl, B2.out⟩
  · rw [if_neg hz]
    have gz : (z == 0) = false := by simpa using hz
    go_enter Tryz.func46, Tryz.ntmps46
    go_wp2_with fail
    refine (C1.out _ (HB.out _ _)).mono ?_
    rintro e w1 ⟨rfl, hb1⟩
    have B1 := Lib.hid ((HB.out _ _).trans (hb1.mono (HB.out _ _).size))
    clear hb1
    go_wp2_with fail
    go_ret
    exact ⟨rfl, B1.out⟩

theorem PsO_take {ok : Nat → Prop} {w : World} {b off cap : Nat} {ts : List Pr} (h : PsO ok w (.slice (some ⟨b, off, none⟩) ts.length cap) ts) (k : Nat) (hk : k ≤ ts.length) : PsO ok w (.slice (some ⟨b, off, none⟩) k cap) (ts.take k) := by
  obtain ⟨cs, ⟨hl, a, cap', hv, hc, hn, hcell⟩, ht⟩ := h
  cases hv
  refine ⟨cs.take (k * 4), ⟨?_, some ⟨b, off, none⟩, cap, ?_, ?_, fun h => (by cases h), fun h0 => ?_⟩, Cl.take EP.len ht k⟩
  · rw [List.length_take, List.length_take, Nat.min_eq_left hk, hl]; omega
  · rw [List.length_take, Nat.min_eq_left hk]
  · rw [List.length_take]; omega
  · obtain ⟨b', off', ha, ho, hlt, hj⟩ := hcell (by simp at h0; omega)
    cases ha
    exact ⟨b, off, rfl, ho, hlt, fun j u hu => hj j u (by rw [List.getElem?_take] at hu; split at hu; exact hu; cases hu)⟩
theorem PsO_drop {ok : Nat → Prop} {w : World} {b off cap : Nat} {ts : List Pr} (h : PsO ok w (.slice (some ⟨b, off, none⟩) ts.length cap) ts) (k : Nat) (hk : k < ts.length) : PsO ok w (.slice (some ⟨b, off + k * 4, none⟩) (ts.length - k) (cap - k)) (ts.drop k) := by
  obtain ⟨cs, ⟨hl, a, cap', hv, hc, hn, hcell⟩, ht⟩ := h
  cases hv
  refine ⟨cs.drop (k * 4), ⟨?_, some ⟨b, off + k * 4, none⟩, cap - k, ?_, ?_, fun h => (by cases h), fun h0 => ?_⟩, Cl.drop ht k⟩
  · rw [List.length_drop, List.length_drop, hl]; omega
  · simp
  · simp; omega
  · obtain ⟨b', off', ha, ho, hlt, hj⟩ := hcell (by omega)
    cases ha
    exact ⟨b, _, rfl, ho, hlt, fun j u hu => by rw [Nat.add_assoc]; exact hj _ u (by rw [List.getElem?_drop] at hu; exact hu)⟩


theorem slice_fromP (b o n c p : Nat) (w : World) (hp : p ≤ n) : (Instr.slice 37 (.slice (some ⟨b, o, none⟩) n c) (some (.int .i64 p)) none none).run Tryz.prog w = .ok (.slice (some ⟨b, if c = p then o else o + p * 4, none⟩) (n - p) (c - p)) w := by
  have hu := Tryz.underlying37
  have h1 : (p : Int) ≤ (n : Int) := by omega
  by_cases h : c = p
  · simp [go_sem, hu, h1, h]
  · simp [go_sem, hu, h1, h]
theorem slice_zeroP (a : Option Addr) (c : Nat) : ∃ a', (∀ w : World, (Instr.slice 37 (.slice a 0 c) (some (.int .i64 (0 : Nat))) none none).run Tryz.prog w = .ok (.slice a' 0 c) w) ∧ (a' = none → a = none) := by
  have hu := Tryz.underlying37
  cases a with
  | none => exact ⟨none, fun w => by simp [go_sem, hu], fun h => h⟩
  | some ad =>
    obtain ⟨b, o, x⟩ := ad
    exact ⟨some ⟨b, o, x⟩, fun w => by simp [go_sem, hu], fun h => by cases h⟩
/-- The rest of a row, as the program cuts it. -/
theorem psO_from {ok : Nat → Prop} {w : World} {a : Option Addr} {c : Nat} {l : List Pr} (h : PsO ok w (.slice a l.length c) l) (p : Nat) (hp : p ≤ l.length) :
    ∃ a' c', (∀ w' : World, (Instr.slice 37 (.slice a l.length c) (some (.int .i64 p)) none none).run Tryz.prog w' = .ok (.slice a' (l.length - p) c') w') ∧ PsO ok w (.slice a' (l.length - p) c') (l.drop p) := by
  have h' := h
  obtain ⟨cs, ⟨hl, a0, cap, hv, hcap, hnone, hcell⟩, ht⟩ := h'
  cases hv
  by_cases h0 : l.length = 0
  · obtain rfl : l = [] := List.eq_nil_of_length_eq_zero h0
    obtain rfl : p = 0 := by simpa using hp
    obtain ⟨a', hr, hn⟩ := slice_zeroP a c
    refine ⟨a', c, hr, [], ⟨rfl, a', c, rfl, Nat.zero_le _, fun h => ⟨rfl, (hnone (hn h)).2⟩, fun h => absurd h (by simp)⟩, rfl⟩
  · obtain ⟨b, off, rfl, ho, hlt, hj⟩ := hcell (by omega)
    refine ⟨_, _, fun w' => slice_fromP b off l.length c p w' hp, ?_⟩
    by_cases hpl : p < l.length
    · rw [if_neg (by omega)]
      exact PsO_drop h p hpl
    · have hd : l.drop p = [] := List.drop_eq_nil_of_le (by omega)
      rw [hd, show l.length - p = 0 by omega]
      exact ⟨[], ⟨rfl, _, _, rfl, Nat.zero_le _, fun h => (by cases h), fun h => absurd h (by simp)⟩, rfl⟩
end Go.Proofs.YtghnonbcojbohaaGreatDoor.Mn

namespace Go.Proofs.YtghnonbcojbohaaGreatDoor.Mn
open Go Go.RowKit Tr
set_option maxRecDepth 20000

set_option maxHeartbeats 1000000 in
theorem with1_any (ok : Nat → Prop) (bx : Nat) (a pv : Value) (t p : Tr) (w : World) (hb : BoxT w bx pv p.e) (hp : StrsO ok w pv p.a) (hs : StrsO ok w a t.a) :
    Calls Tryz.prog 125 #[.agg #[a, .int .i64 t.e], .pointer (some ⟨bx, 0, none⟩)] w (OutP ok [⟨p, t⟩] w) := by
  have HP := Lib.hid hp
  have HS := Lib.hid hs
  have hlt := Ap.cell_lt hb.1
  obtain ⟨c0, c1⟩ := hb
  obtain ⟨_, a1, k1, rfl, _⟩ := hp
  obtain ⟨_, a2, k2, rfl, _⟩ := hs
  unfold OutP
  go_enter Tryz.func125, Tryz.ntmps125
  go_wp2_with fail
  go_ret
  refine ⟨_, _, rfl, ps_one (by simp [go_sem]) (by simp [go_sem]) (by simp [go_sem]) (by simp [go_sem]) (.inr (by omega)) (so_below (so_imp HP.out fun _ _ h => .inl h) (bel2 _ _ _)) (so_below (so_imp HS.out fun _ _ h => .inl h) (bel2 _ _ _)), bel2 _ _ _⟩

set_option maxHeartbeats 1000000 in
theorem with_any (ok : Nat → Prop) (pv y : Value) (p : Tr) (l : List Tr) (w : World) (hp : StrsO ok w pv p.a) (hl : TsO ok w y l) (hlen : l.length ≤ 1000000000000) :
    Calls Tryz.prog 73 #[.agg #[pv, .int .i64 p.e], y] w (OutP ok (l.map (Pr.mk p)) w) := by
  have eg : ∀ args w, (callFunc 125 args).run Tryz.prog w = .ok (.enter 125 args) w := enters_of Tryz.func125 (by kernel_rfl) rfl
  have hmap := map_flat (Pr.mk p) l
  have C := Lib.hid (fun ty => eachTP 125 #[.pointer (some ⟨w.heap.size, 0, none⟩)] eg ok y l (fun t => [⟨p, t⟩]) (w.alloc (.cells #[pv, .int .i64 p.e] ty)) (hl.below (bel1 _ _))
    (fun wr hb t ht a ha => with1_any _ w.heap.size a pv t p wr (BoxT.below (box_new _ _ _ _) hb) (so_below (so_below (so_imp hp fun b hlt h => ⟨h, by simp; omega⟩) (bel1 _ _)) hb) ha) hlen (by rw [← hmap, List.length_map]; exact hlen))
  rw [← hmap] at C
  generalize l.map (Pr.mk p) = L at C ⊢
  obtain ⟨_, a1, k1, rfl, _⟩ := hp
  obtain ⟨_, ⟨_, a2, k2, rfl, _⟩, _⟩ := hl
  clear hmap
  go_enter Tryz.func73, Tryz.ntmps73
  go_wp2_with fail
  refine (C.out _).mono ?_
  intro e w2 ho
  have HO := Lib.hid (ho.up (bel1 w _) fun b h => .inl h)
  obtain ⟨a4, k4, rfl, _, _⟩ := ho
  go_wp2_with fail
  go_ret
  exact HO.out

set_option maxHeartbeats 2000000 in
theorem going1_any (ok : Nat → Prop) (bx : Nat) (a y : Value) (t : Tr) (l : List Tr) (w : World) (hb : w.cell? ⟨bx, 0, none⟩ = some y) (hs : StrsO ok w a t.a) (hl : TsO ok w y l) (hlen : l.length ≤ 1000000000000) :
    Calls Tryz.prog 122 #[.agg #[a, .int .i64 t.e], .pointer (some ⟨bx, 0, none⟩)] w (OutP ok (going1 l t) w) := by
  have HB := Lib.hid (fun o => bel1 w o)
  have hlt := Ap.cell_lt hb
  by_cases h1 : t.e = 1
  · have hL : going1 l t = l.map (Pr.mk t) := if_pos h1
    rw [hL]
    have C := Lib.hid (fun w1 (hb : Below w.heap.size w w1) => with_any ok a y t l w1 (so_below hs hb) (hl.below hb) hlen)
    rw [h1] at C ⊢
    generalize l.map (Pr.mk t) = L at C ⊢
    obtain ⟨_, a1, k1, rfl, _⟩ := hs
    obtain ⟨_, ⟨_, a2, k2, rfl, _⟩, _⟩ := hl
    clear hL h1
    go_enter Tryz.func122, Tryz.ntmps122
    go_wp2_with fail
    refine (C.out _ (HB.out _)).mono ?_
    intro e w2 ho
    have HO := Lib.hid (ho.up (HB.out _) fun b h => .inl h)
    obtain ⟨a4, k4, rfl, _, _⟩ := ho
    go_wp2_with fail
    go_ret
    exact HO.out
  · have hL : going1 l t = [tick].map (Pr.mk t) := if_neg h1
    have hne : (t.e != 1) = true := by simp [h1]
    rw [hL]
    have C := Lib.hid (fun y' w1 ok' (hp : StrsO ok' w1 a t.a) (hl : TsO ok' w1 y' [tick]) => with_any ok' a y' t [tick] w1 hp hl (by simp))
    have HS := Lib.hid hs
    have ON : Hid (∀ w1, Calls Tryz.prog 44 #[.agg #[.slice none 0 0, .int .i64 1]] w1 (OutT none' [tick] w1)) := Lib.hid fun w1 => only_any none' _ tick w1 (so_nil _ _)
    generalize [tick].map (Pr.mk t) = L at C ⊢
    obtain ⟨_, a1, k1, rfl, _⟩ := hs
    obtain ⟨_, ⟨_, a2, k2, rfl, _⟩, _⟩ := hl
    clear hL
    go_enter Tryz.func122, Tryz.ntmps122
    go_wp2_with fail
    go_region_held3 (fun w' => w'.cell? ⟨w.heap.size, 0, none⟩ = some (.slice a1 t.a.length k1) ∧ w'.cell? ⟨w.heap.size, 1, none⟩ = some (.int .i64 t.e)) (first | exact ⟨by simp [go_sem], by simp [go_sem]⟩ | exact kz | exact ky | exact kx | fail) (first
      | (go_at_call 61
         (with_reducible refine (ended_any _ _).mono ?_)
         rintro e w1 ⟨rfl, hb1⟩
         have kz : BoxT w1 w.heap.size (.slice a1 t.a.length k1) t.e := BoxT.below ⟨by simp [go_sem], by simp [go_sem]⟩ hb1
         have B1 := Lib.hid (((HB.out _).drew).trans (hb1.mono (HB.out _).drew.size))
         clear hb1)
      | (go_at_call 44
         (with_reducible refine (ON.out _).mono ?_)
         rintro e w2 ⟨a4, k4, rfl, ht2, hb2⟩
         have B2 := Lib.hid (B1.out.trans (hb2.mono B1.out.size))
         have T2 : Hid (TsO (fun b => ok b ∨ w.heap.size ≤ b) w2 (.slice a4 1 k4) [tick]) := Lib.hid (ht2.imp (ok' := fun b => ok b ∨ w.heap.size ≤ b) fun b _ h => h.elim (fun h => h.elim) fun h => .inr (Nat.le_trans B1.out.size h))
         have ky := BoxT.below kz hb2
         clear ht2 hb2)
      | (go_at_call 73
         (with_reducible refine (C.out _ _ _ (so_below (so_imp HS.out fun _ _ h => .inl h) B2.out) T2.out).mono ?_)
         intro e w3 ho
         have HO := Lib.hid (ho.up (ok := ok) B2.out fun b h => h)
         obtain ⟨a5, k5, rfl, _, hb5⟩ := ho
         have kx := BoxT.below ky hb5
         clear hb5)
      | fail)
    go_wp2_with fail
    go_ret
    exact HO.out

set_option maxHeartbeats 2000000 in
theorem going_any (x y : Value) (A B : List Tr) (w : World) (hx : TsO any w x A) (hy : TsO any w y B) (hA : A.length ≤ 1000000000000) (hB : B.length ≤ 1000000000000) (hout : (going A B).length ≤ 1000000000000) :
    Calls Tryz.prog 71 #[x, y] w (OutP any (going A B) w) := by
  have eg : ∀ args w, (callFunc 122 args).run Tryz.prog w = .ok (.enter 122 args) w := enters_of Tryz.func122 (by kernel_rfl) rfl
  have C := Lib.hid (fun ty => eachTP 122 #[.pointer (some ⟨w.heap.size, 0, none⟩)] eg any x A (going1 B) (w.alloc (.cells #[y] ty)) (hx.below (bel1 _ _))
    (fun wr hb t ht a ha => by
      have hc : wr.cell? ⟨w.heap.size, 0, none⟩ = some y := by rw [hb.cell (p := ⟨w.heap.size, 0, none⟩) (by simp)]; exact box1_new _ _ _
      have hY := (((hy.imp (ok' := fun b => any b ∧ b < (w.alloc (.cells #[y] ty)).heap.size) fun b hlt h => ⟨h, by simp; omega⟩).below (bel1 w (.cells #[y] ty))).below hb)
      exact going1_any _ w.heap.size a y t B wr hc ha hY hB) hA hout)
  change Hid (∀ ty, Calls _ _ _ _ (OutP any (going A B) _)) at C
  generalize going A B = L at C ⊢
  obtain ⟨_, ⟨_, a1, k1, rfl, _⟩, _⟩ := hx
  obtain ⟨_, ⟨_, a2, k2, rfl, _⟩, _⟩ := hy
  go_enter Tryz.func71, Tryz.ntmps71
  go_wp2_with fail
  refine (C.out _).mono ?_
  intro e w2 ho
  have HO := Lib.hid (ho.up (bel1 w _) fun b h => .inl h)
  obtain ⟨a4, k4, rfl, _, _⟩ := ho
  go_wp2_with fail
  go_ret
  exact HO.out

set_option maxHeartbeats 2000000 in
theorem stacked1_any (T : TCon) (ok : Nat → Prop) (bx : Nat) (v1 v2 y : Value) (x : Pr) (l : List Tr) (w : World) (hb : w.cell? ⟨bx, 0, none⟩ = some y) (h1 : StrsO ok w v1 x.p.a) (h2 : StrsO ok w v2 x.q.a) (hl : TsO ok w y l) (hlen : l.length ≤ 1000000000000) (hrow : ∀ t ∈ l, x.q.a.length + t.a.length ≤ 1000000) :
    Calls Tryz.prog 124 #[.agg #[v1, .int .i64 x.p.e, v2, .int .i64 x.q.e], .pointer (some ⟨bx, 0, none⟩)] w (OutP ok (stack1 l x) w) := by
  have HB := Lib.hid (fun o => bel1 w o)
  have hlt := Ap.cell_lt hb
  have hL : stack1 l x = (l.map (thn x.q)).map (Pr.mk x.p) := by unfold stack1; rw [List.map_map]; rfl
  rw [hL]
  have TH := Lib.hid (fun w1 (hb : Below w.heap.size w w1) => then_any T ok v2 y x.q l w1 (so_below h2 hb) (hl.below hb) hlen hrow)
  have hml := Lib.hid (show (l.map (thn x.q)).length = l.length by simp)
  generalize l.map (thn x.q) = M at TH hml ⊢
  have C := Lib.hid (fun y' w1 ok' (hp : StrsO ok' w1 v1 x.p.a) (hl : TsO ok' w1 y' M) => with_any ok' v1 y' x.p M w1 hp hl (by have := hml.out; omega))
  have H1 := Lib.hid h1
  generalize M.map (Pr.mk x.p) = L at C ⊢
  have bx0 : Hid (∀ o : Obj, (w.alloc o).drew.cell? ⟨bx, 0, none⟩ = some y) := Lib.hid fun o => by rw [((bel1 w o).drew).cell (p := ⟨bx, 0, none⟩) hlt]; exact hb
  obtain ⟨_, a1, k1, rfl, _⟩ := h1
  obtain ⟨_, a2, k2, rfl, _⟩ := h2
  obtain ⟨_, ⟨_, a3, k3, rfl, _⟩, _⟩ := hl
  clear hL
  go_enter Tryz.func124, Tryz.ntmps124
  go_wp2_with fail
  go_region_held3 (fun w' => w'.cell? ⟨w.heap.size, 0, none⟩ = some (.slice a1 x.p.a.length k1) ∧ w'.cell? ⟨w.heap.size, 1, none⟩ = some (.int .i64 x.p.e) ∧ w'.cell? ⟨w.heap.size, 2, none⟩ = some (.slice a2 x.q.a.length k2) ∧ w'.cell? ⟨w.heap.size, 3, none⟩ = some (.int .i64 x.q.e) ∧ w'.cell? ⟨bx, 0, none⟩ = some (.slice a3 l.length k3)) (first | exact ⟨by simp [go_sem], by simp [go_sem], by simp [go_sem], by simp [go_sem], bx0.out _⟩ | exact ⟨kz.1, kz.2.1, kz.2.2.1, kz.2.2.2, bx1⟩ | exact ⟨ky.1, ky.2.1, ky.2.2.1, ky.2.2.2, bx2⟩ | fail) (first
    | (go_at_call 101
       (with_reducible refine (TH.out _ (HB.out _).drew).mono ?_)
       rintro e w1 ⟨a4, k4, rfl, ht1, hb1⟩
       have kz : BoxP w1 w.heap.size (.slice a1 x.p.a.length k1) x.p.e (.slice a2 x.q.a.length k2) x.q.e := BoxP.below ⟨by simp [go_sem], by simp [go_sem], by simp [go_sem], by simp [go_sem]⟩ hb1
       have B1 := Lib.hid (((HB.out _).drew).trans (hb1.mono (HB.out _).drew.size))
       have bx1 : w1.cell? ⟨bx, 0, none⟩ = some (.slice a3 l.length k3) := by rw [B1.out.cell (p := ⟨bx, 0, none⟩) hlt]; exact hb
       have T1 : Hid (TsO (fun b => ok b ∨ w.heap.size ≤ b) w1 (.slice a4 M.length k4) M) := Lib.hid (ht1.imp (ok' := fun b => ok b ∨ w.heap.size ≤ b) fun b _ h => h.imp id fun h => Nat.le_trans (HB.out _).drew.size h)
       clear ht1 hb1)
    | (go_at_call 73
       (with_reducible refine (C.out _ _ _ (so_below (so_imp H1.out fun _ _ h => .inl h) B1.out) T1.out).mono ?_)
       intro e w3 ho
       have HO := Lib.hid (ho.up (ok := ok) B1.out fun b h => h)
       obtain ⟨a5, k5, rfl, _, hb5⟩ := ho
       have ky := BoxP.below kz hb5
       have bx2 : w3.cell? ⟨bx, 0, none⟩ = some (.slice a3 l.length k3) := by rw [hb5.cell (p := ⟨bx, 0, none⟩) (Ap.cell_lt bx1)]; exact bx1
       clear hb5)
    | fail)
  go_wp2_with fail
  go_ret
  exact HO.out

set_option maxHeartbeats 2000000 in
theorem stacked_any (T : TCon) (x y : Value) (X : List Pr) (B : List Tr) (w : World) (hx : PsO any w x X) (hy : TsO any w y B) (hX : X.length ≤ 1000000000000) (hC : B.length ≤ 1000000000000) (hrow : ∀ x ∈ X, ∀ t ∈ B, x.q.a.length + t.a.length ≤ 1000000) (hout : (stack X B).length ≤ 1000000000000) :
    Calls Tryz.prog 72 #[x, y] w (OutP any (stack X B) w) := by
  have eg : ∀ args w, (callFunc 124 args).run Tryz.prog w = .ok (.enter 124 args) w := enters_of Tryz.func124 (by kernel_rfl) rfl
  have C := Lib.hid (fun ty => eachPP 124 #[.pointer (some ⟨w.heap.size, 0, none⟩)] eg any x X (stack1 B) (w.alloc (.cells #[y] ty)) (hx.below (bel1 _ _))
    (fun wr hb t ht a a' ha ha' => by
      have hc : wr.cell? ⟨w.heap.size, 0, none⟩ = some y := by rw [hb.cell (p := ⟨w.heap.size, 0, none⟩) (by simp)]; exact box1_new _ _ _
      have hY := (((hy.imp (ok' := fun b => any b ∧ b < (w.alloc (.cells #[y] ty)).heap.size) fun b hlt h => ⟨h, by simp; omega⟩).below (bel1 w (.cells #[y] ty))).below hb)
      exact stacked1_any T _ w.heap.size a a' y t B wr hc ha ha' hY hC (hrow t ht)) hX hout)
  change Hid (∀ ty, Calls _ _ _ _ (OutP any (stack X B) _)) at C
  generalize stack X B = L at C ⊢
  obtain ⟨_, ⟨_, a1, k1, rfl, _⟩, _⟩ := hx
  obtain ⟨_, ⟨_, a2, k2, rfl, _⟩, _⟩ := hy
  go_enter Tryz.func72, Tryz.ntmps72
  go_wp2_with fail
  refine (C.out _).mono ?_
  intro e w2 ho
  have HO := Lib.hid (ho.up (bel1 w _) fun b h => .inl h)
  obtain ⟨a4, k4, rfl, _, _⟩ := ho
  go_wp2_with fail
  go_ret
  exact HO.out
end Go.Proofs.YtghnonbcojbohaaGreatDoor.Mn

namespace Go.Proofs.YtghnonbcojbohaaGreatDoor.Mn
open Go Go.RowKit Tr
set_option maxRecDepth 20000

/-- A call that tells one trace, as ok says or in new blocks. -/
def OutE (ok : Nat → Prop) (t : Tr) (w : World) (e : Ending) (w' : World) : Prop := ∃ a c, e = .returned (.agg #[.slice a t.a.length c, .int .i64 t.e]) ∧ StrsO (fun b => ok b ∨ w.heap.size ≤ b) w' (.slice a t.a.length c) t.a ∧ Below w.heap.size w w'

set_option maxHeartbeats 1000000 in
theorem behind_own (a1 a2 : Option Addr) (n1 c1 n2 c2 : Nat) (p q : Tr) (w : World) (h1 : Strs w (.slice a1 n1 c1) p.a) (h2 : Strs w (.slice a2 n2 c2) q.a) (hlen : p.a.length + q.a.length ≤ 1000000) :
    Calls Tryz.prog 112 #[.agg #[.slice a1 n1 c1, .int .i64 p.e], .agg #[.slice a2 n2 c2, .int .i64 q.e]] w fun e w' => ∃ v, e = .returned (.agg #[v, .int .i64 q.e]) ∧ w'.ownsRow w.heap.size 9 1 v (p.a ++ q.a).length ((p.a ++ q.a).map .string) ∧ Below w.heap.size w w' := by
  have H1 := Lib.hid h1
  have H2 := Lib.hid h2
  have HB := Lib.hid (below3 w)
  clear h1 h2
  go_enter Tryz.func112, Tryz.ntmps112
  go_wp2_with fail
  obtain ⟨w3, hw3⟩ : ∃ w3, (((w.alloc (Obj.cells #[.slice a1 n1 c1, Value.int IntKind.i64 p.e] 67)).alloc (Obj.cells #[.slice a2 n2 c2, Value.int IntKind.i64 q.e] 67)).alloc (Obj.cells #[Value.slice none 0 0, Value.int IntKind.i64 0] 67)) = w3 := ⟨_, rfl⟩
  have B3 : Hid (Below w.heap.size w w3) := by rw [← hw3]; exact HB.out _ _ _
  have e1 : w3.cell? ⟨w.heap.size, 0, none⟩ = some (.slice a1 n1 c1) := by rw [← hw3]; simp [go_sem]
  have e2 : w3.cell? ⟨w.heap.size + 1, 0, none⟩ = some (.slice a2 n2 c2) := by rw [← hw3]; simp [go_sem]
  have e3 : w3.cell? ⟨w.heap.size + 1, 1, none⟩ = some (.int .i64 q.e) := by rw [← hw3]; simp [go_sem]
  have e4 : w3.cell? ⟨w.heap.size + 1 + 1, 0, none⟩ = some (.slice none 0 0) := by rw [← hw3]; simp [go_sem]
  have e5 : w3.cell? ⟨w.heap.size + 1 + 1, 1, none⟩ = some (.int .i64 0) := by rw [← hw3]; simp [go_sem]
  have f4 : w3.frozen? ⟨w.heap.size + 1 + 1, 0, none⟩ = false := by rw [← hw3]; simp [go_sem]
  have f5 : w3.frozen? ⟨w.heap.size + 1 + 1, 1, none⟩ = false := by rw [← hw3]; simp [go_sem]
  rw [hw3]
  clear hw3 HB
  go_region_held3 (fun w' => w'.cell? ⟨w.heap.size, 0, none⟩ = some (.slice a1 n1 c1) ∧ w'.cell? ⟨w.heap.size + 1, 0, none⟩ = some (.slice a2 n2 c2) ∧ w'.cell? ⟨w.heap.size + 1, 1, none⟩ = some (.int .i64 q.e))
    (first | exact ⟨e1, e2, e3⟩ | exact ⟨d1, d2, d3⟩ | exact ⟨by simp [go_sem, d1], by simp [go_sem, d2], by simp [go_sem, d3]⟩) (first
    | (go_at_call 159
       refine (cat_any _ _ p.a q.a _ (H1.out.below B3.out.drew) (H2.out.below B3.out.drew) (by omega)).mono ?_
       rintro e w4 ⟨v4, rfl, hown4, hb4⟩
       have d1 : w4.cell? ⟨w.heap.size, 0, none⟩ = some (.slice a1 n1 c1) := by rw [hb4.cell (Ap.cell_lt e1)]; exact e1
       have d2 : w4.cell? ⟨w.heap.size + 1, 0, none⟩ = some (.slice a2 n2 c2) := by rw [hb4.cell (Ap.cell_lt e2)]; exact e2
       have d3 : w4.cell? ⟨w.heap.size + 1, 1, none⟩ = some (.int .i64 q.e) := by rw [hb4.cell (Ap.cell_lt e3)]; exact e3
       have d4 : w4.cell? ⟨w.heap.size + 1 + 1, 0, none⟩ = some (.slice none 0 0) := by rw [hb4.cell (Ap.cell_lt e4)]; exact e4
       have d5 : w4.cell? ⟨w.heap.size + 1 + 1, 1, none⟩ = some (.int .i64 0) := by rw [hb4.cell (Ap.cell_lt e5)]; exact e5
       have k4 : w4.frozen? ⟨w.heap.size + 1 + 1, 0, none⟩ = false := by rw [hb4.frozen (Ap.cell_lt e4)]; exact f4
       have k5 : w4.frozen? ⟨w.heap.size + 1 + 1, 1, none⟩ = false := by rw [hb4.frozen (Ap.cell_lt e5)]; exact f5
       have HO := Lib.hid hown4
       have HB4 := Lib.hid hb4
       obtain ⟨_, a4, c4, rfl, _⟩ := Ap.Rd.owned hown4
       clear hown4 hb4))
  go_wp2_with fail
  have hlt := Ap.cell_lt e4
  refine bodyPost_ret (v := .agg #[.slice a4 (p.a.length + q.a.length) c4, .int .i64 q.e]) (by simp [results, Tryz.results112, go_sem, d4, d5]) rfl ⟨_, rfl, ?_, ?_⟩
  · have h5 := ownsRow_setCell_below (ownsRow_setCell_below HO.out (a := ⟨w.heap.size + 1 + 1, 0, none⟩) hlt (.slice a4 (p.a.length + q.a.length) c4)) (a := ⟨w.heap.size + 1 + 1, 1, none⟩) hlt (.int .i64 q.e)
    rw [List.length_append] at h5 ⊢
    exact Ap.own_base h5 (Nat.le_trans (by show w.heap.size ≤ w3.heap.size; exact B3.out.size) (Nat.le_refl _))
  · exact ((B3.out.drew.trans (HB4.out.mono B3.out.size)).setCell (by show w.heap.size ≤ w.heap.size + 1 + 1; omega) _).setCell (by show w.heap.size ≤ w.heap.size + 1 + 1; omega) _

theorem behindR_any (v1 v2 : Value) (p q : Tr) (w : World) (h1 : Strs w v1 p.a) (h2 : Strs w v2 q.a) (hlen : p.a.length + q.a.length ≤ 1000000) :
    Calls Tryz.prog 112 #[.agg #[v1, .int .i64 p.e], .agg #[v2, .int .i64 q.e]] w (OutE none' ⟨p.a ++ q.a, q.e⟩ w) := by
  obtain ⟨_, a1, c1, rfl, _⟩ := id h1
  obtain ⟨_, a2, c2, rfl, _⟩ := id h2
  refine (behind_own a1 a2 _ c1 _ c2 p q w h1 h2 hlen).mono fun e w' h => ?_
  obtain ⟨v, rfl, ho, hb⟩ := h
  obtain ⟨_, a3, c3, rfl, _⟩ := Ap.Rd.owned ho
  exact ⟨_, _, rfl, Ap.RdO.imp (Ap.RdO.fresh ho) fun _ _ h => .inr h, hb⟩
theorem thenR_any (ok : Nat → Prop) (v1 v2 : Value) (p q : Tr) (w : World) (h1 : StrsO ok w v1 p.a) (h2 : Strs w v2 q.a) (hlen : p.a.length + q.a.length ≤ 1000000) :
    Calls Tryz.prog 113 #[.agg #[v1, .int .i64 p.e], .agg #[v2, .int .i64 q.e]] w (OutE ok (thn p q) w) := by
  obtain ⟨_, a1, c1, rfl, _⟩ := id h1
  obtain ⟨_, a2, c2, rfl, _⟩ := id h2
  by_cases hp : p.e = 1
  · have e : thn p q = ⟨p.a ++ q.a, q.e⟩ := by unfold thn; rw [if_pos hp]
    rw [e]
    refine (thn_yes a1 a2 _ c1 _ c2 p q w (so_strs h1) h2 (by omega) hp).mono fun e w' h => ?_
    obtain ⟨v, rfl, ho, hb⟩ := h
    obtain ⟨_, a3, c3, rfl, _⟩ := Ap.Rd.owned ho
    exact ⟨_, _, rfl, Ap.RdO.imp (Ap.RdO.fresh ho) fun _ _ h => .inr h, hb⟩
  · have e : thn p q = p := by unfold thn; rw [if_neg hp]
    rw [e]
    refine (thn_no a1 a2 _ c1 _ c2 p q w hp).mono fun e w' h => ?_
    obtain ⟨rfl, hb⟩ := h
    exact ⟨_, _, rfl, so_below (so_imp h1 fun _ _ h => .inl h) hb, hb⟩
end Go.Proofs.YtghnonbcojbohaaGreatDoor.Mn
