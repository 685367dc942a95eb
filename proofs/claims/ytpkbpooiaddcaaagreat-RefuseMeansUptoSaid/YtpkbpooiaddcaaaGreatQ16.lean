/- The program's each, at traces and pairs: what a function tells of each one of a row, as one row; the walks. RefuseStrips and RefuseSorts. What package mean asks of package trace, as contracts; the program's only, ended, ticked: the walks. The program's then, beside, handed, asBlock, plainOfTwo: the walks. The document's merge and Set of traces: where what they tell lies; the walks. -/
import Derived.Test.YtpkbpooiaddcaaaGreatQ15
import Derived.Test.YtpkbpooiaddcaaaGreatQ08
import Derived.Lib.Hide
import Derived.Test.YtpkbpooiaddcaaaGreatQ11
import Derived.Test.YtpkbpooiaddcaaaGreatQ06
import Derived.Test.YtpkbpooiaddcaaaGreatQ12
import Derived.Sort.Grow
import Derived.Deep.RegionHeld3
import Derived.StillTailTactics
import Derived.Shelf.Abstract

namespace Go.Proofs.YtpkbpooiaddcaaaGreat.Mn
open Go Go.RowKit Tr
set_option maxRecDepth 20000

theorem infoP1 : (Tryz.prog.info? 69).map (fun i => (i.zero, i.size, i.bytes)) = some (some (.agg #[.slice none 0 0, .int .i64 0, .slice none 0 0, .int .i64 0]), 4, 64) := by kernel_rfl
/-- The elements of any slice of traces appended to a row that the call owns. -/
theorem appT {w : World} {base n m : Nat} {v x : Value} {cs ds : List Value} (hown : w.ownsRow base 52 2 v n cs) (hbase : base ≤ w.heap.size) (hx : Ap.Rd w 2 x m ds) (h1 : ∀ u ∈ ds, u.oneCell' = true) (hlen : n + m ≤ 2000000000000) :
    ∃ v' w', (Builtin.append_ #[26, 26] 26 #[v, x]).run Tryz.prog w = .ok v' w' ∧ w'.ownsRow base 52 2 v' (n + m) (cs ++ ds) ∧ w.grownBy w' v.ownBlock ∧ Below base w w' ∧ Ap.Fresh w v v' := by
  obtain ⟨i0, hi, hz, hs1, hb8⟩ := info_parts info_news
  exact Ap.run_append_rd (P := Tryz.prog) (ty := 26) Tryz.underlying26 hi hz hs1 hb8 (by rfl) (by omega) hown hbase hx h1 (by unfold maxLen; omega) (by omega)
theorem appP {w : World} {base n m : Nat} {v x : Value} {cs ds : List Value} (hown : w.ownsRow base 69 4 v n cs) (hbase : base ≤ w.heap.size) (hx : Ap.Rd w 4 x m ds) (h1 : ∀ u ∈ ds, u.oneCell' = true) (hlen : n + m ≤ 2000000000000) :
    ∃ v' w', (Builtin.append_ #[70, 70] 70 #[v, x]).run Tryz.prog w = .ok v' w' ∧ w'.ownsRow base 69 4 v' (n + m) (cs ++ ds) ∧ w.grownBy w' v.ownBlock ∧ Below base w w' ∧ Ap.Fresh w v v' := by
  obtain ⟨i0, hi, hz, hs1, hb8⟩ := info_parts infoP1
  exact Ap.run_append_rd (P := Tryz.prog) (ty := 70) Tryz.underlying70 hi hz hs1 hb8 (by rfl) (by omega) hown hbase hx h1 (by unfold maxLen; omega) (by omega)
theorem flat_snoc {α β : Type} (f : α → List β) (l : List α) (k : Nat) (h : k < l.length) : (l.take (k + 1)).flatMap f = (l.take k).flatMap f ++ f l[k] := by
  rw [List.take_succ_eq_append_getElem h, List.flatMap_append]
  simp
theorem flat_take {α β : Type} (f : α → List β) (l : List α) (k : Nat) : ((l.take k).flatMap f).length ≤ (l.flatMap f).length := by
  have e : l.flatMap f = (l.take k).flatMap f ++ (l.drop k).flatMap f := by rw [← List.flatMap_append, List.take_append_drop]
  rw [e, List.length_append]
  omega
/-- What has been gathered, and where: none of it in the row's own block. -/
def Apart (ok : Nat → Prop) (v : Value) (b : Nat) : Prop := ok b ∧ some b ≠ v.ownBlock
theorem apart_grow {ok : Nat → Prop} {w w' : World} {v v' x : Value} {l : List ByteArray} (h : StrsO (Apart ok v) w x l) (hg : w.grownBy w' v.ownBlock) (hf : Ap.Fresh w v v') : StrsO (Apart ok v') w' x l := Ap.RdO.grow h hg hf
theorem own_old {w : World} {base size n : Nat} {e : TypeId} {v : Value} {xs : List Value} (h : w.ownsRow base e size v n xs) : ∀ b, some b = v.ownBlock → base ≤ b ∧ b < w.heap.size := fun b hb => by
  refine ⟨?_, Ap.own_lt h b hb.symm⟩
  obtain ⟨_, ⟨rfl, _⟩ | ⟨g, cap, cur, rfl, hg, _⟩⟩ := h
  · cases hb
  · cases hb
    exact hg

set_option maxHeartbeats 4000000 in
theorem eachTT (fn : Nat) (caps : Array Value) (eg : ∀ args w, (callFunc fn args).run Tryz.prog w = .ok (.enter fn args) w) (ok : Nat → Prop) (x : Value) (l : List Tr) (F : Tr → List Tr) (w : World) (hx : TsO ok w x l)
    (hF : ∀ wr, Below w.heap.size w wr → ∀ t ∈ l, ∀ a, StrsO (fun b => ok b ∧ b < w.heap.size) wr a t.a → Calls Tryz.prog fn (#[.agg #[a, .int .i64 t.e]] ++ caps) wr (OutT (fun b => ok b ∧ b < w.heap.size) (F t) wr))
    (hl : l.length ≤ 1000000000000) (hlen : (l.flatMap F).length ≤ 1000000000000) :
    Calls Tryz.prog 70 #[x, .func (.func fn) #[] caps] w (OutT ok (l.flatMap F) w) := by
  obtain ⟨ax, cx, rfl, _, hval⟩ := hx.val
  have HV := Lib.hid hval
  have HF := Lib.hid hF
  have HT := Lib.hid (flat_take F l)
  have HS := Lib.hid (flat_snoc F l)
  obtain ⟨L, hL⟩ : ∃ L, l.flatMap F = L := ⟨_, rfl⟩
  rw [hL] at HT hlen ⊢
  unfold OutT
  have HL := Lib.hid hL
  clear hval hF hx hL
  go_enter Tryz.func70, Tryz.ntmps70
  go_wp2_with fail
  go_loopw [5, 10] (fun v i wr => ∃ (k : Nat) (cs : List Value), k ≤ l.length ∧ i = .int .i64 k ∧ Below w.heap.size w wr ∧ wr.ownsRow w.heap.size 52 2 v ((l.take k).flatMap F).length cs ∧ Cl (ET (Apart (fun b => ok b ∨ w.heap.size ≤ b) v) wr) 2 ((l.take k).flatMap F) cs) (fun _ i _ => l.length - (intOf i).toNat)
  case atStart => exact ⟨0, [], Nat.zero_le _, rfl, Below.refl _ _, ⟨rfl, .inl ⟨rfl, rfl⟩⟩, rfl⟩
  case round =>
    obtain ⟨k, cs, hk, rfl, hb, hown, hcs⟩ := hrel
    have WB := Lib.hid hb
    have WO := Lib.hid hown
    have WC := Lib.hid hcs
    clear hb hown hcs
    by_cases hlt : k < l.length
    · obtain ⟨b1, o1, a, rfl, hok, e1, e2, hs⟩ := HV.out k hlt
      have c1 : wr.cell? ⟨b1, o1 + k * 2, none⟩ = some a := by rw [WB.out.cell (Ap.cell_lt e1)]; exact e1
      have c2 : wr.cell? ⟨b1, o1 + k * 2 + 1, none⟩ = some (.int .i64 l[k].e) := by rw [WB.out.cell (Ap.cell_lt e2)]; exact e2
      have HA := Lib.hid hs
      have TM := Lib.hid (List.getElem_mem hlt)
      have SN := Lib.hid (HS.out k hlt)
      have TK := HT.out (k + 1)
      rw [SN.out, List.length_append] at TK
      generalize l[k] = t at *
      obtain ⟨_, a', c', rfl, _⟩ := HA.out
      go_wp2_with fail
      refine (HF.out _ ?b1 t TM.out _ (Ap.RdO.below (Ap.RdO.imp HA.out fun b hlt ho => ⟨ho, hlt⟩) ?b2)).mono ?c1
      case b1 => exact WB.out.alloc WB.out.size _
      case b2 => exact WB.out.alloc WB.out.size _
      rintro e w1 ⟨a1, c1', rfl, ht1, hb1⟩
      have B0 : Below wr.heap.size wr w1 := ((Below.refl _ _).alloc (Nat.le_refl _) _).trans (hb1.mono (by simp))
      obtain ⟨ds, hr, hc⟩ := ht1
      have hO1 := Ap.own_below WO.out B0
      obtain ⟨v2, w2, hrun, ho2, hg2, hb2, hf2⟩ := appT hO1 (Nat.le_trans WB.out.size B0.size) (Ap.RdO.rd hr) (Cl.cells _ ET.one hc) (by omega)
      have RUN := Lib.hid hrun
      have O2 := Lib.hid ho2
      have B2 := Lib.hid ((WB.out.trans (B0.mono WB.out.size)).trans hb2)
      have C2 : Hid (Cl (ET (Apart (fun b => ok b ∨ w.heap.size ≤ b) v2) w2) 2 ((l.take (k + 1)).flatMap F) (cs ++ ds)) := Lib.hid (by
        rw [SN.out]
        refine Cl.append ET.len ?_ ?_
        · refine Cl.imp (ET.map fun x m hx => apart_grow (Ap.RdO.imp hx fun b hlt ho => ?_) hg2 hf2) hc
          rcases ho with ho | ho
          · exact ⟨.inl ho.1, fun e => by have := own_old WO.out b e; omega⟩
          · have ho' : wr.heap.size + 1 ≤ b := by simpa using ho
            have := WB.out.size
            exact ⟨.inr (by omega), fun e => by have := own_old WO.out b e; omega⟩
        · exact Cl.imp (ET.map fun x m hx => apart_grow (so_below hx B0) hg2 hf2) WC.out)
      clear hrun ho2 hg2 hb2 hf2 hc hb1 hO1 B0
      go_wp2_with (at_builtin; refine Ap.wpList_append_run (by rfl) _ _ _ _ rfl _ _ rfl rfl v2 w2 RUN.out ?_)
      go_roundw
      case rel => exact ⟨k + 1, cs ++ ds, by omega, by go_num, B2.out, by rw [SN.out, List.length_append]; exact O2.out, C2.out⟩
      case measure => simp [intOf]; omega
    · have hkl : k = l.length := by omega
      subst hkl
      have O := WO.out
      have C := WC.out
      rw [List.take_length, HL.out] at O C
      have R := Ap.RdO.fresh O
      obtain ⟨_, a1, c1', hv, _⟩ := id R
      subst hv
      have RR := Lib.hid R
      have CC := Lib.hid C
      clear R O C
      go_wp2_with fail
      go_ret
      exact ⟨_, _, rfl, ⟨cs, Ap.RdO.imp RR.out fun _ _ h => Or.inr h, CC.out.imp (ET.map fun _ _ hx => Ap.RdO.imp hx fun _ _ h => h.1)⟩, WB.out⟩

set_option maxHeartbeats 4000000 in
theorem eachTP (fn : Nat) (caps : Array Value) (eg : ∀ args w, (callFunc fn args).run Tryz.prog w = .ok (.enter fn args) w) (ok : Nat → Prop) (x : Value) (l : List Tr) (F : Tr → List Pr) (w : World) (hx : TsO ok w x l)
    (hF : ∀ wr, Below w.heap.size w wr → ∀ t ∈ l, ∀ a, StrsO (fun b => ok b ∧ b < w.heap.size) wr a t.a → Calls Tryz.prog fn (#[.agg #[a, .int .i64 t.e]] ++ caps) wr (OutP (fun b => ok b ∧ b < w.heap.size) (F t) wr))
    (hl : l.length ≤ 1000000000000) (hlen : (l.flatMap F).length ≤ 1000000000000) :
    Calls Tryz.prog 93 #[x, .func (.func fn) #[] caps] w (OutP ok (l.flatMap F) w) := by
  obtain ⟨ax, cx, rfl, _, hval⟩ := hx.val
  have HV := Lib.hid hval
  have HF := Lib.hid hF
  have HT := Lib.hid (flat_take F l)
  have HS := Lib.hid (flat_snoc F l)
  obtain ⟨L, hL⟩ : ∃ L, l.flatMap F = L := ⟨_, rfl⟩
  rw [hL] at HT hlen ⊢
  unfold OutP
  have HL := Lib.hid hL
  clear hval hF hx hL
  go_enter Tryz.func93, Tryz.ntmps93
  go_wp2_with fail
  go_loopw [5, 10] (fun v i wr => ∃ (k : Nat) (cs : List Value), k ≤ l.length ∧ i = .int .i64 k ∧ Below w.heap.size w wr ∧ wr.ownsRow w.heap.size 69 4 v ((l.take k).flatMap F).length cs ∧ Cl (EP (Apart (fun b => ok b ∨ w.heap.size ≤ b) v) wr) 4 ((l.take k).flatMap F) cs) (fun _ i _ => l.length - (intOf i).toNat)
  case atStart => exact ⟨0, [], Nat.zero_le _, rfl, Below.refl _ _, ⟨rfl, .inl ⟨rfl, rfl⟩⟩, rfl⟩
  case round =>
    obtain ⟨k, cs, hk, rfl, hb, hown, hcs⟩ := hrel
    have WB := Lib.hid hb
    have WO := Lib.hid hown
    have WC := Lib.hid hcs
    clear hb hown hcs
    by_cases hlt : k < l.length
    · obtain ⟨b1, o1, a, rfl, hok, e1, e2, hs⟩ := HV.out k hlt
      have c1 : wr.cell? ⟨b1, o1 + k * 2, none⟩ = some a := by rw [WB.out.cell (Ap.cell_lt e1)]; exact e1
      have c2 : wr.cell? ⟨b1, o1 + k * 2 + 1, none⟩ = some (.int .i64 l[k].e) := by rw [WB.out.cell (Ap.cell_lt e2)]; exact e2
      have HA := Lib.hid hs
      have TM := Lib.hid (List.getElem_mem hlt)
      have SN := Lib.hid (HS.out k hlt)
      have TK := HT.out (k + 1)
      rw [SN.out, List.length_append] at TK
      generalize l[k] = t at *
      obtain ⟨_, a', c', rfl, _⟩ := HA.out
      go_wp2_with fail
      refine (HF.out _ ?b1 t TM.out _ (Ap.RdO.below (Ap.RdO.imp HA.out fun b hlt ho => ⟨ho, hlt⟩) ?b2)).mono ?c1
      case b1 => exact WB.out.alloc WB.out.size _
      case b2 => exact WB.out.alloc WB.out.size _
      rintro e w1 ⟨a1, c1', rfl, ht1, hb1⟩
      have B0 : Below wr.heap.size wr w1 := ((Below.refl _ _).alloc (Nat.le_refl _) _).trans (hb1.mono (by simp))
      obtain ⟨ds, hr, hc⟩ := ht1
      have hO1 := Ap.own_below WO.out B0
      obtain ⟨v2, w2, hrun, ho2, hg2, hb2, hf2⟩ := appP hO1 (Nat.le_trans WB.out.size B0.size) (Ap.RdO.rd hr) (Cl.cells _ EP.one hc) (by omega)
      have RUN := Lib.hid hrun
      have O2 := Lib.hid ho2
      have B2 := Lib.hid ((WB.out.trans (B0.mono WB.out.size)).trans hb2)
      have C2 : Hid (Cl (EP (Apart (fun b => ok b ∨ w.heap.size ≤ b) v2) w2) 4 ((l.take (k + 1)).flatMap F) (cs ++ ds)) := Lib.hid (by
        rw [SN.out]
        refine Cl.append EP.len ?_ ?_
        · refine Cl.imp (EP.map fun x m hx => apart_grow (Ap.RdO.imp hx fun b hlt ho => ?_) hg2 hf2) hc
          rcases ho with ho | ho
          · exact ⟨.inl ho.1, fun e => by have := own_old WO.out b e; omega⟩
          · have ho' : wr.heap.size + 1 ≤ b := by simpa using ho
            have := WB.out.size
            exact ⟨.inr (by omega), fun e => by have := own_old WO.out b e; omega⟩
        · exact Cl.imp (EP.map fun x m hx => apart_grow (so_below hx B0) hg2 hf2) WC.out)
      clear hrun ho2 hg2 hb2 hf2 hc hb1 hO1 B0
      go_wp2_with (at_builtin; refine Ap.wpList_append_run (by rfl) _ _ _ _ rfl _ _ rfl rfl v2 w2 RUN.out ?_)
      go_roundw
      case rel => exact ⟨k + 1, cs ++ ds, by omega, by go_num, B2.out, by rw [SN.out, List.length_append]; exact O2.out, C2.out⟩
      case measure => simp [intOf]; omega
    · have hkl : k = l.length := by omega
      subst hkl
      have O := WO.out
      have C := WC.out
      rw [List.take_length, HL.out] at O C
      have R := Ap.RdO.fresh O
      obtain ⟨_, a1, c1', hv, _⟩ := id R
      subst hv
      have RR := Lib.hid R
      have CC := Lib.hid C
      clear R O C
      go_wp2_with fail
      go_ret
      exact ⟨_, _, rfl, ⟨cs, Ap.RdO.imp RR.out fun _ _ h => Or.inr h, CC.out.imp (EP.map fun _ _ hx => Ap.RdO.imp hx fun _ _ h => h.1)⟩, WB.out⟩

set_option maxHeartbeats 4000000 in
theorem eachPT (fn : Nat) (caps : Array Value) (eg : ∀ args w, (callFunc fn args).run Tryz.prog w = .ok (.enter fn args) w) (ok : Nat → Prop) (x : Value) (l : List Pr) (F : Pr → List Tr) (w : World) (hx : PsO ok w x l)
    (hF : ∀ wr, Below w.heap.size w wr → ∀ t ∈ l, ∀ a a', StrsO (fun b => ok b ∧ b < w.heap.size) wr a t.p.a → StrsO (fun b => ok b ∧ b < w.heap.size) wr a' t.q.a → Calls Tryz.prog fn (#[.agg #[a, .int .i64 t.p.e, a', .int .i64 t.q.e]] ++ caps) wr (OutT (fun b => ok b ∧ b < w.heap.size) (F t) wr))
    (hl : l.length ≤ 1000000000000) (hlen : (l.flatMap F).length ≤ 1000000000000) :
    Calls Tryz.prog 40 #[x, .func (.func fn) #[] caps] w (OutT ok (l.flatMap F) w) := by
  obtain ⟨ax, cx, rfl, _, hval⟩ := hx.val
  have HV := Lib.hid hval
  have HF := Lib.hid hF
  have HT := Lib.hid (flat_take F l)
  have HS := Lib.hid (flat_snoc F l)
  obtain ⟨L, hL⟩ : ∃ L, l.flatMap F = L := ⟨_, rfl⟩
  rw [hL] at HT hlen ⊢
  unfold OutT
  have HL := Lib.hid hL
  clear hval hF hx hL
  go_enter Tryz.func40, Tryz.ntmps40
  go_wp2_with fail
  go_loopw [5, 10] (fun v i wr => ∃ (k : Nat) (cs : List Value), k ≤ l.length ∧ i = .int .i64 k ∧ Below w.heap.size w wr ∧ wr.ownsRow w.heap.size 52 2 v ((l.take k).flatMap F).length cs ∧ Cl (ET (Apart (fun b => ok b ∨ w.heap.size ≤ b) v) wr) 2 ((l.take k).flatMap F) cs) (fun _ i _ => l.length - (intOf i).toNat)
  case atStart => exact ⟨0, [], Nat.zero_le _, rfl, Below.refl _ _, ⟨rfl, .inl ⟨rfl, rfl⟩⟩, rfl⟩
  case round =>
    obtain ⟨k, cs, hk, rfl, hb, hown, hcs⟩ := hrel
    have WB := Lib.hid hb
    have WO := Lib.hid hown
    have WC := Lib.hid hcs
    clear hb hown hcs
    by_cases hlt : k < l.length
    · obtain ⟨b1, o1, a, a', rfl, hok, e1, e2, e3, e4, hs, hs'⟩ := HV.out k hlt
      have c1 : wr.cell? ⟨b1, o1 + k * 4, none⟩ = some a := by rw [WB.out.cell (Ap.cell_lt e1)]; exact e1
      have c2 : wr.cell? ⟨b1, o1 + k * 4 + 1, none⟩ = some (.int .i64 l[k].p.e) := by rw [WB.out.cell (Ap.cell_lt e2)]; exact e2
      have c3 : wr.cell? ⟨b1, o1 + k * 4 + 2, none⟩ = some a' := by rw [WB.out.cell (Ap.cell_lt e3)]; exact e3
      have c4 : wr.cell? ⟨b1, o1 + k * 4 + 3, none⟩ = some (.int .i64 l[k].q.e) := by rw [WB.out.cell (Ap.cell_lt e4)]; exact e4
      have HA := Lib.hid hs
      have HA' := Lib.hid hs'
      have TM := Lib.hid (List.getElem_mem hlt)
      have SN := Lib.hid (HS.out k hlt)
      have TK := HT.out (k + 1)
      rw [SN.out, List.length_append] at TK
      generalize l[k] = t at *
      obtain ⟨_, a1, c1_, rfl, _⟩ := HA.out
      obtain ⟨_, a2, c2_, rfl, _⟩ := HA'.out
      go_wp2_with fail
      refine (HF.out _ ?b1 t TM.out _ _ (Ap.RdO.below (Ap.RdO.imp HA.out fun b hlt ho => ⟨ho, hlt⟩) ?b2) (Ap.RdO.below (Ap.RdO.imp HA'.out fun b hlt ho => ⟨ho, hlt⟩) ?b3)).mono ?c1
      case b1 => exact WB.out.alloc WB.out.size _
      case b2 => exact WB.out.alloc WB.out.size _
      case b3 => exact WB.out.alloc WB.out.size _
      rintro e w1 ⟨a1, c1', rfl, ht1, hb1⟩
      have B0 : Below wr.heap.size wr w1 := ((Below.refl _ _).alloc (Nat.le_refl _) _).trans (hb1.mono (by simp))
      obtain ⟨ds, hr, hc⟩ := ht1
      have hO1 := Ap.own_below WO.out B0
      obtain ⟨v2, w2, hrun, ho2, hg2, hb2, hf2⟩ := appT hO1 (Nat.le_trans WB.out.size B0.size) (Ap.RdO.rd hr) (Cl.cells _ ET.one hc) (by omega)
      have RUN := Lib.hid hrun
      have O2 := Lib.hid ho2
      have B2 := Lib.hid ((WB.out.trans (B0.mono WB.out.size)).trans hb2)
      have C2 : Hid (Cl (ET (Apart (fun b => ok b ∨ w.heap.size ≤ b) v2) w2) 2 ((l.take (k + 1)).flatMap F) (cs ++ ds)) := Lib.hid (by
        rw [SN.out]
        refine Cl.append ET.len ?_ ?_
        · refine Cl.imp (ET.map fun x m hx => apart_grow (Ap.RdO.imp hx fun b hlt ho => ?_) hg2 hf2) hc
          rcases ho with ho | ho
          · exact ⟨.inl ho.1, fun e => by have := own_old WO.out b e; omega⟩
          · have ho' : wr.heap.size + 1 ≤ b := by simpa using ho
            have := WB.out.size
            exact ⟨.inr (by omega), fun e => by have := own_old WO.out b e; omega⟩
        · exact Cl.imp (ET.map fun x m hx => apart_grow (so_below hx B0) hg2 hf2) WC.out)
      clear hrun ho2 hg2 hb2 hf2 hc hb1 hO1 B0
      go_wp2_with (at_builtin; refine Ap.wpList_append_run (by rfl) _ _ _ _ rfl _ _ rfl rfl v2 w2 RUN.out ?_)
      go_roundw
      case rel => exact ⟨k + 1, cs ++ ds, by omega, by go_num, B2.out, by rw [SN.out, List.length_append]; exact O2.out, C2.out⟩
      case measure => simp [intOf]; omega
    · have hkl : k = l.length := by omega
      subst hkl
      have O := WO.out
      have C := WC.out
      rw [List.take_length, HL.out] at O C
      have R := Ap.RdO.fresh O
      obtain ⟨_, a1, c1', hv, _⟩ := id R
      subst hv
      have RR := Lib.hid R
      have CC := Lib.hid C
      clear R O C
      go_wp2_with fail
      go_ret
      exact ⟨_, _, rfl, ⟨cs, Ap.RdO.imp RR.out fun _ _ h => Or.inr h, CC.out.imp (ET.map fun _ _ hx => Ap.RdO.imp hx fun _ _ h => h.1)⟩, WB.out⟩

set_option maxHeartbeats 4000000 in
theorem eachPP (fn : Nat) (caps : Array Value) (eg : ∀ args w, (callFunc fn args).run Tryz.prog w = .ok (.enter fn args) w) (ok : Nat → Prop) (x : Value) (l : List Pr) (F : Pr → List Pr) (w : World) (hx : PsO ok w x l)
    (hF : ∀ wr, Below w.heap.size w wr → ∀ t ∈ l, ∀ a a', StrsO (fun b => ok b ∧ b < w.heap.size) wr a t.p.a → StrsO (fun b => ok b ∧ b < w.heap.size) wr a' t.q.a → Calls Tryz.prog fn (#[.agg #[a, .int .i64 t.p.e, a', .int .i64 t.q.e]] ++ caps) wr (OutP (fun b => ok b ∧ b < w.heap.size) (F t) wr))
    (hl : l.length ≤ 1000000000000) (hlen : (l.flatMap F).length ≤ 1000000000000) :
    Calls Tryz.prog 95 #[x, .func (.func fn) #[] caps] w (OutP ok (l.flatMap F) w) := by
  obtain ⟨ax, cx, rfl, _, hval⟩ := hx.val
  have HV := Lib.hid hval
  have HF := Lib.hid hF
  have HT := Lib.hid (flat_take F l)
  have HS := Lib.hid (flat_snoc F l)
  obtain ⟨L, hL⟩ : ∃ L, l.flatMap F = L := ⟨_, rfl⟩
  rw [hL] at HT hlen ⊢
  unfold OutP
  have HL := Lib.hid hL
  clear hval hF hx hL
  go_enter Tryz.func95, Tryz.ntmps95
  go_wp2_with fail
  go_loopw [5, 10] (fun v i wr => ∃ (k : Nat) (cs : List Value), k ≤ l.length ∧ i = .int .i64 k ∧ Below w.heap.size w wr ∧ wr.ownsRow w.heap.size 69 4 v ((l.take k).flatMap F).length cs ∧ Cl (EP (Apart (fun b => ok b ∨ w.heap.size ≤ b) v) wr) 4 ((l.take k).flatMap F) cs) (fun _ i _ => l.length - (intOf i).toNat)
  case atStart => exact ⟨0, [], Nat.zero_le _, rfl, Below.refl _ _, ⟨rfl, .inl ⟨rfl, rfl⟩⟩, rfl⟩
  case round =>
    obtain ⟨k, cs, hk, rfl, hb, hown, hcs⟩ := hrel
    have WB := Lib.hid hb
    have WO := Lib.hid hown
    have WC := Lib.hid hcs
    clear hb hown hcs
    by_cases hlt : k < l.length
    · obtain ⟨b1, o1, a, a', rfl, hok, e1, e2, e3, e4, hs, hs'⟩ := HV.out k hlt
      have c1 : wr.cell? ⟨b1, o1 + k * 4, none⟩ = some a := by rw [WB.out.cell (Ap.cell_lt e1)]; exact e1
      have c2 : wr.cell? ⟨b1, o1 + k * 4 + 1, none⟩ = some (.int .i64 l[k].p.e) := by rw [WB.out.cell (Ap.cell_lt e2)]; exact e2
      have c3 : wr.cell? ⟨b1, o1 + k * 4 + 2, none⟩ = some a' := by rw [WB.out.cell (Ap.cell_lt e3)]; exact e3
      have c4 : wr.cell? ⟨b1, o1 + k * 4 + 3, none⟩ = some (.int .i64 l[k].q.e) := by rw [WB.out.cell (Ap.cell_lt e4)]; exact e4
      have HA := Lib.hid hs
      have HA' := Lib.hid hs'
      have TM := Lib.hid (List.getElem_mem hlt)
      have SN := Lib.hid (HS.out k hlt)
      have TK := HT.out (k + 1)
      rw [SN.out, List.length_append] at TK
      generalize l[k] = t at *
      obtain ⟨_, a1, c1_, rfl, _⟩ := HA.out
      obtain ⟨_, a2, c2_, rfl, _⟩ := HA'.out
      go_wp2_with fail
      refine (HF.out _ ?b1 t TM.out _ _ (Ap.RdO.below (Ap.RdO.imp HA.out fun b hlt ho => ⟨ho, hlt⟩) ?b2) (Ap.RdO.below (Ap.RdO.imp HA'.out fun b hlt ho => ⟨ho, hlt⟩) ?b3)).mono ?c1
      case b1 => exact WB.out.alloc WB.out.size _
      case b2 => exact WB.out.alloc WB.out.size _
      case b3 => exact WB.out.alloc WB.out.size _
      rintro e w1 ⟨a1, c1', rfl, ht1, hb1⟩
      have B0 : Below wr.heap.size wr w1 := ((Below.refl _ _).alloc (Nat.le_refl _) _).trans (hb1.mono (by simp))
      obtain ⟨ds, hr, hc⟩ := ht1
      have hO1 := Ap.own_below WO.out B0
      obtain ⟨v2, w2, hrun, ho2, hg2, hb2, hf2⟩ := appP hO1 (Nat.le_trans WB.out.size B0.size) (Ap.RdO.rd hr) (Cl.cells _ EP.one hc) (by omega)
      have RUN := Lib.hid hrun
      have O2 := Lib.hid ho2
      have B2 := Lib.hid ((WB.out.trans (B0.mono WB.out.size)).trans hb2)
      have C2 : Hid (Cl (EP (Apart (fun b => ok b ∨ w.heap.size ≤ b) v2) w2) 4 ((l.take (k + 1)).flatMap F) (cs ++ ds)) := Lib.hid (by
        rw [SN.out]
        refine Cl.append EP.len ?_ ?_
        · refine Cl.imp (EP.map fun x m hx => apart_grow (Ap.RdO.imp hx fun b hlt ho => ?_) hg2 hf2) hc
          rcases ho with ho | ho
          · exact ⟨.inl ho.1, fun e => by have := own_old WO.out b e; omega⟩
          · have ho' : wr.heap.size + 1 ≤ b := by simpa using ho
            have := WB.out.size
            exact ⟨.inr (by omega), fun e => by have := own_old WO.out b e; omega⟩
        · exact Cl.imp (EP.map fun x m hx => apart_grow (so_below hx B0) hg2 hf2) WC.out)
      clear hrun ho2 hg2 hb2 hf2 hc hb1 hO1 B0
      go_wp2_with (at_builtin; refine Ap.wpList_append_run (by rfl) _ _ _ _ rfl _ _ rfl rfl v2 w2 RUN.out ?_)
      go_roundw
      case rel => exact ⟨k + 1, cs ++ ds, by omega, by go_num, B2.out, by rw [SN.out, List.length_append]; exact O2.out, C2.out⟩
      case measure => simp [intOf]; omega
    · have hkl : k = l.length := by omega
      subst hkl
      have O := WO.out
      have C := WC.out
      rw [List.take_length, HL.out] at O C
      have R := Ap.RdO.fresh O
      obtain ⟨_, a1, c1', hv, _⟩ := id R
      subst hv
      have RR := Lib.hid R
      have CC := Lib.hid C
      clear R O C
      go_wp2_with fail
      go_ret
      exact ⟨_, _, rfl, ⟨cs, Ap.RdO.imp RR.out fun _ _ h => Or.inr h, CC.out.imp (EP.map fun _ _ hx => Ap.RdO.imp hx fun _ _ h => h.1)⟩, WB.out⟩
end Go.Proofs.YtpkbpooiaddcaaaGreat.Mn

namespace Go.Proofs.YtpkbpooiaddcaaaGreat.Rf
open Go Go.RowKit Go.Proofs.YtpkbpooiaddcaaaGreat.Rw
set_option maxRecDepth 20000

/-- Nodes and names in memory, below which all is as it was. -/
structure Kn (w0 : World) (v vn : Value) (l : List Nd) (names : List ByteArray) (w : World) : Prop where
  bel : Below w0.heap.size w0 w
  nds : Nds w v l
  strs : Strs w vn names
theorem Kn.start {w : World} {v vn : Value} {l : List Nd} {names : List ByteArray} (h : Nds w v l) (hn : Strs w vn names) : Kn w v vn l names w := ⟨Below.refl _ _, h, hn⟩
theorem Kn.below {w0 w w' : World} {v vn : Value} {l : List Nd} {names : List ByteArray} (h : Kn w0 v vn l names w) (hb : Below w.heap.size w w') : Kn w0 v vn l names w' := ⟨h.bel.trans (hb.mono h.bel.size), h.nds.below hb, h.strs.below hb⟩
theorem sub_nms {f : ByteArray → Bool} {l : List Nd} (h : Nms l) : Nms (sub f l) := fun x hx => by
  unfold sub at hx
  rw [List.mem_flatMap] at hx
  obtain ⟨y, hy, hx⟩ := hx
  unfold sub1 at hx
  split at hx
  · simp only [List.mem_cons, List.not_mem_nil, or_false] at hx
    rcases hx with rfl | rfl | rfl
    · decide
    · exact h _ hy
    · decide
  · rw [List.mem_singleton.1 hx]
    exact h _ hy
end Go.Proofs.YtpkbpooiaddcaaaGreat.Rf

namespace Go.Proofs.YtpkbpooiaddcaaaGreat.Mn
open Go Go.RowKit Tr
set_option maxRecDepth 20000

abbrev none' : Nat → Prop := fun _ => False
/-- The contracts of package trace. -/
structure TCon : Prop where
  cCmp : ∀ (v1 v2 : Value) (p q : Tr) (w : World), Strs w v1 p.a → Strs w v2 q.a → p.a.length ≤ 1000000 → q.a.length ≤ 1000000 → Calls Tryz.prog 121 #[.agg #[v1, .int .i64 p.e], .agg #[v2, .int .i64 q.e]] w fun e w' => e = .returned (.int .i64 (cmp p q)) ∧ ∃ n os, w' = Go.Sort.grow (w.drewN n) os
  cSet : ∀ (x : Value) (l : List Tr) (w : World), Trs w x l → l.length ≤ 1000000000000 → (∀ t ∈ l, t.a.length ≤ 1000000) → Calls Tryz.prog 39 #[x] w (SetPost (norm l) w)
  cOr : ∀ (x y : Value) (l m : List Tr) (w : World), Trs w x l → Trs w y m → l.length + m.length ≤ 1000000000000 → (∀ t ∈ l ++ m, t.a.length ≤ 1000000) → Calls Tryz.prog 76 #[x, y] w (SetPost (norm (l ++ m)) w)
  cThn : ∀ (v1 v2 : Value) (p q : Tr) (w : World), Strs w v1 p.a → Strs w v2 q.a → p.a.length + q.a.length ≤ 1000000 → Calls Tryz.prog 104 #[.agg #[v1, .int .i64 p.e], .agg #[v2, .int .i64 q.e]] w (ThnPost (thn p q) w)
  cPar : ∀ (v1 v2 : Value) (p q : Tr) (w : World), Strs w v1 p.a → Strs w v2 q.a → p.a.length + q.a.length ≤ 9 → Calls Tryz.prog 106 #[.agg #[v1, .int .i64 p.e], .agg #[v2, .int .i64 q.e]] w (OutT none' (pr p q) w)

theorem so_imp {ok ok' : Nat → Prop} {w : World} {v : Value} {l : List ByteArray} (h : StrsO ok w v l) (hi : ∀ b, b < w.heap.size → ok b → ok' b) : StrsO ok' w v l := Ap.RdO.imp h hi
theorem so_nil (ok : Nat → Prop) (w : World) : StrsO ok w (.slice none 0 0) [] := ⟨rfl, none, 0, rfl, Nat.le_refl _, fun _ => ⟨rfl, rfl⟩, fun h => absurd h (Nat.lt_irrefl _)⟩
theorem ts_nil (ok : Nat → Prop) (w : World) : TsO ok w (.slice none 0 0) [] := ⟨[], ⟨rfl, none, 0, rfl, Nat.le_refl _, fun _ => ⟨rfl, rfl⟩, fun h => absurd h (Nat.lt_irrefl _)⟩, rfl⟩
/-- A row of one trace in a block. -/
theorem ts_one {ok : Nat → Prop} {w : World} {B : Nat} {a : Value} {t : Tr} (h0 : w.cell? ⟨B, 0, none⟩ = some a) (h1 : w.cell? ⟨B, 1, none⟩ = some (.int .i64 t.e)) (hB : ok B) (hs : StrsO ok w a t.a) : TsO ok w (.slice (some ⟨B, 0, none⟩) 1 1) [t] := by
  refine ⟨[a, .int .i64 t.e], ⟨rfl, _, 1, rfl, Nat.le_refl _, fun h => (by cases h), fun _ => ⟨B, 0, rfl, hB, Ap.cell_lt h0, fun j u hu => ?_⟩⟩, Cl.one ⟨a, rfl, hs⟩ rfl⟩
  match j, hu with
  | 0, hu => simp at hu; subst hu; exact h0
  | 1, hu => simp at hu; subst hu; exact h1
  | j + 2, hu => simp at hu
theorem ps_one {ok : Nat → Prop} {w : World} {B : Nat} {a b : Value} {x : Pr} (h0 : w.cell? ⟨B, 0, none⟩ = some a) (h1 : w.cell? ⟨B, 1, none⟩ = some (.int .i64 x.p.e)) (h2 : w.cell? ⟨B, 2, none⟩ = some b) (h3 : w.cell? ⟨B, 3, none⟩ = some (.int .i64 x.q.e)) (hB : ok B) (hs : StrsO ok w a x.p.a) (hs' : StrsO ok w b x.q.a) : PsO ok w (.slice (some ⟨B, 0, none⟩) 1 1) [x] := by
  refine ⟨[a, .int .i64 x.p.e, b, .int .i64 x.q.e], ⟨rfl, _, 1, rfl, Nat.le_refl _, fun h => (by cases h), fun _ => ⟨B, 0, rfl, hB, Ap.cell_lt h0, fun j u hu => ?_⟩⟩, Cl.one ⟨a, b, rfl, hs, hs'⟩ rfl⟩
  match j, hu with
  | 0, hu => simp at hu; subst hu; exact h0
  | 1, hu => simp at hu; subst hu; exact h1
  | 2, hu => simp at hu; subst hu; exact h2
  | 3, hu => simp at hu; subst hu; exact h3
  | j + 4, hu => simp at hu
theorem bel1 (w : World) (x : Obj) : Below w.heap.size w (w.alloc x) := (Below.refl _ _).alloc (Nat.le_refl _) x
theorem bel2 (w : World) (x y : Obj) : Below w.heap.size w ((w.alloc x).alloc y) := (bel1 w x).alloc (by simp) y
set_option maxHeartbeats 1000000 in
theorem only_any (ok : Nat → Prop) (a : Value) (t : Tr) (w : World) (hs : StrsO ok w a t.a) :
    Calls Tryz.prog 37 #[.agg #[a, .int .i64 t.e]] w (OutT ok [t] w) := by
  have HS := Lib.hid hs
  obtain ⟨_, a', c', rfl, _⟩ := hs
  unfold OutT
  go_enter Tryz.func37, Tryz.ntmps37
  go_wp2_with fail
  go_ret
  refine ⟨_, _, rfl, ts_one (by simp [go_sem]) (by simp [go_sem]) (.inr (by omega)) (so_below (so_imp HS.out fun _ _ h => .inl h) (bel2 _ _ _)), bel2 _ _ _⟩
set_option maxHeartbeats 1000000 in
theorem ended_any (s : Int) (w : World) :
    Calls Tryz.prog 38 #[.int .i64 s] w fun e w' => e = .returned (.agg #[.slice none 0 0, .int .i64 s]) ∧ Below w.heap.size w w' := by
  go_enter Tryz.func38, Tryz.ntmps38
  go_wp2_with fail
  refine bodyPost_ret (v := .agg #[.slice none 0 0, .int .i64 s]) (by simp [results, Tryz.results38, go_sem]) rfl ⟨rfl, ?_⟩
  exact bel1 w _
set_option maxHeartbeats 1000000 in
theorem ticked_any (a1 : Option Addr) (n c : Nat) (s : Int) (w : World) :
    Calls Tryz.prog 69 #[.agg #[.slice a1 n c, .int .i64 s]] w fun e w' => e = .returned (.agg #[.slice a1 n c, .int .i64 1]) ∧ Below w.heap.size w w' := by
  go_enter Tryz.func69, Tryz.ntmps69
  go_wp2_with fail
  refine bodyPost_ret (v := .agg #[.slice a1 n c, .int .i64 1]) (by simp [results, Tryz.results69, go_sem]) rfl ⟨rfl, ?_⟩
  exact bel2 w _ _
end Go.Proofs.YtpkbpooiaddcaaaGreat.Mn

namespace Go.Proofs.YtpkbpooiaddcaaaGreat.Mn
open Go Go.RowKit Tr
set_option maxRecDepth 20000

/-- A trace in a box. -/
def BoxT (w : World) (b : Nat) (v : Value) (e : Int) : Prop := w.cell? ⟨b, 0, none⟩ = some v ∧ w.cell? ⟨b, 1, none⟩ = some (.int .i64 e)
theorem BoxT.below {w w' : World} {b : Nat} {v : Value} {e : Int} (h : BoxT w b v e) (hb : Below w.heap.size w w') : BoxT w' b v e :=
  ⟨by rw [hb.cell (p := ⟨b, 0, none⟩) (Ap.cell_lt h.1)]; exact h.1, by rw [hb.cell (p := ⟨b, 1, none⟩) (Ap.cell_lt h.2)]; exact h.2⟩
theorem map_flat {α β : Type} (f : α → β) (l : List α) : l.map f = l.flatMap fun t => [f t] := by
  induction l with
  | nil => rfl
  | cons x l ih => rw [List.map_cons, List.flatMap_cons, ih]; rfl
theorem box_new (w : World) (a b : Value) (t : TypeId) : (w.alloc (.cells #[a, b] t)).cell? ⟨w.heap.size, 0, none⟩ = some a ∧ (w.alloc (.cells #[a, b] t)).cell? ⟨w.heap.size, 1, none⟩ = some b := by simp

set_option maxHeartbeats 1000000 in
theorem then1_any (T : TCon) (ok : Nat → Prop) (bx : Nat) (a pv : Value) (t p : Tr) (w : World) (hb : BoxT w bx pv p.e) (hp : StrsO ok w pv p.a) (hs : StrsO ok w a t.a) (hlen : p.a.length + t.a.length ≤ 1000000) :
    Calls Tryz.prog 103 #[.agg #[a, .int .i64 t.e], .pointer (some ⟨bx, 0, none⟩)] w (OutT ok [thn p t] w) := by
  have HB := Lib.hid (fun o => bel1 w o)
  have C := Lib.hid (fun o => T.cThn pv a p t (w.alloc o) (so_strs (so_below hp (HB.out o))) (so_strs (so_below hs (HB.out o))) hlen)
  have hlt := Ap.cell_lt hb.1
  obtain ⟨c0, c1⟩ := hb
  obtain ⟨_, a1, k1, rfl, _⟩ := hp
  obtain ⟨_, a2, k2, rfl, _⟩ := hs
  go_enter Tryz.func103, Tryz.ntmps103
  go_wp2_with fail
  refine (C.out _).mono ?_
  rintro e w1 ⟨v, rfl, hm, hb1⟩
  have B1 := Lib.hid ((HB.out _).trans (hb1.mono (HB.out _).size))
  have HM := Lib.hid (so_imp hm.1 (ok' := fun b => ok b ∨ w.heap.size ≤ b) fun b _ h => .inr (Nat.le_trans (by simp) h))
  obtain ⟨⟨_, a3, k3, rfl, _⟩, _⟩ := hm
  go_wp2_with fail
  refine (only_any _ _ (thn p t) _ HM.out).mono ?_
  intro e w2 ho
  have HO := Lib.hid (ho.up B1.out fun b h => h)
  obtain ⟨a4, k4, rfl, _, _⟩ := ho
  go_wp2_with fail
  go_ret
  exact HO.out

set_option maxHeartbeats 1000000 in
theorem then_any (T : TCon) (ok : Nat → Prop) (pv y : Value) (p : Tr) (l : List Tr) (w : World) (hp : StrsO ok w pv p.a) (hl : TsO ok w y l) (hlen : l.length ≤ 1000000000000) (hrow : ∀ t ∈ l, p.a.length + t.a.length ≤ 1000000) :
    Calls Tryz.prog 68 #[.agg #[pv, .int .i64 p.e], y] w (OutT ok (l.map (thn p)) w) := by
  have eg : ∀ args w, (callFunc 103 args).run Tryz.prog w = .ok (.enter 103 args) w := enters_of Tryz.func103 (by kernel_rfl) rfl
  have hmap := map_flat (thn p) l
  have C := Lib.hid (fun ty => eachTT 103 #[.pointer (some ⟨w.heap.size, 0, none⟩)] eg ok y l (fun t => [thn p t]) (w.alloc (.cells #[pv, .int .i64 p.e] ty)) (hl.below (bel1 _ _))
    (fun wr hb t ht a ha => then1_any T _ w.heap.size a pv t p wr (BoxT.below (box_new _ _ _ _) hb) (so_below (so_below (so_imp hp fun b hlt h => ⟨h, by simp; omega⟩) (bel1 _ _)) hb) ha (hrow t ht)) hlen (by rw [← hmap, List.length_map]; exact hlen))
  rw [← hmap] at C
  generalize l.map (thn p) = L at C ⊢
  obtain ⟨_, a1, k1, rfl, _⟩ := hp
  obtain ⟨_, ⟨_, a2, k2, rfl, _⟩, _⟩ := hl
  clear hmap
  go_enter Tryz.func68, Tryz.ntmps68
  go_wp2_with fail
  refine (C.out _).mono ?_
  intro e w2 ho
  have HO := Lib.hid (ho.up (bel1 w _) fun b h => .inl h)
  obtain ⟨a4, k4, rfl, _, _⟩ := ho
  go_wp2_with fail
  go_ret
  exact HO.out

set_option maxHeartbeats 1000000 in
theorem beside1_any (T : TCon) (ok : Nat → Prop) (bx : Nat) (a pv : Value) (t p : Tr) (w : World) (hb : BoxT w bx pv p.e) (hp : StrsO ok w pv p.a) (hs : StrsO ok w a t.a) (hlen : p.a.length + t.a.length ≤ 9) :
    Calls Tryz.prog 105 #[.agg #[a, .int .i64 t.e], .pointer (some ⟨bx, 0, none⟩)] w (OutT ok (pr p t) w) := by
  have HB := Lib.hid (fun o => bel1 w o)
  have C := Lib.hid (fun o => T.cPar pv a p t (w.alloc o) (so_strs (so_below hp (HB.out o))) (so_strs (so_below hs (HB.out o))) hlen)
  have hlt := Ap.cell_lt hb.1
  obtain ⟨c0, c1⟩ := hb
  obtain ⟨_, a1, k1, rfl, _⟩ := hp
  obtain ⟨_, a2, k2, rfl, _⟩ := hs
  generalize pr p t = L at C ⊢
  go_enter Tryz.func105, Tryz.ntmps105
  go_wp2_with fail
  refine (C.out _).mono ?_
  intro e w2 ho
  have HO := Lib.hid (ho.up (ok := ok) (HB.out _) fun b h => h.elim)
  obtain ⟨a4, k4, rfl, _, _⟩ := ho
  go_wp2_with fail
  go_ret
  exact HO.out

set_option maxHeartbeats 1000000 in
theorem beside_any (T : TCon) (ok : Nat → Prop) (pv y : Value) (p : Tr) (l : List Tr) (w : World) (hp : StrsO ok w pv p.a) (hl : TsO ok w y l) (hlen : l.length ≤ 1000000000000) (hout : (l.flatMap (pr p)).length ≤ 1000000000000) (hrow : ∀ t ∈ l, p.a.length + t.a.length ≤ 9) :
    Calls Tryz.prog 73 #[.agg #[pv, .int .i64 p.e], y] w (OutT ok (l.flatMap (pr p)) w) := by
  have eg : ∀ args w, (callFunc 105 args).run Tryz.prog w = .ok (.enter 105 args) w := enters_of Tryz.func105 (by kernel_rfl) rfl
  have C := Lib.hid (fun ty => eachTT 105 #[.pointer (some ⟨w.heap.size, 0, none⟩)] eg ok y l (pr p) (w.alloc (.cells #[pv, .int .i64 p.e] ty)) (hl.below (bel1 _ _))
    (fun wr hb t ht a ha => beside1_any T _ w.heap.size a pv t p wr (BoxT.below (box_new _ _ _ _) hb) (so_below (so_below (so_imp hp fun b hlt h => ⟨h, by simp; omega⟩) (bel1 _ _)) hb) ha (hrow t ht)) hlen hout)
  generalize l.flatMap (pr p) = L at C ⊢
  obtain ⟨_, a1, k1, rfl, _⟩ := hp
  obtain ⟨_, ⟨_, a2, k2, rfl, _⟩, _⟩ := hl
  go_enter Tryz.func73, Tryz.ntmps73
  go_wp2_with fail
  refine (C.out _).mono ?_
  intro e w2 ho
  have HO := Lib.hid (ho.up (bel1 w _) fun b h => .inl h)
  obtain ⟨a4, k4, rfl, _, _⟩ := ho
  go_wp2_with fail
  go_ret
  exact HO.out

/-- What the program does with one of the first two of a Hand. -/
def hdl (p : Tr) (l : List Tr) : List Tr := if p.e = 2 then l.map (thn ⟨p.a, 1⟩) else [p]
set_option maxHeartbeats 1000000 in
theorem handed_any (T : TCon) (ok : Nat → Prop) (pv y : Value) (p : Tr) (l : List Tr) (w : World) (hp : StrsO ok w pv p.a) (hl : TsO ok w y l) (hlen : l.length ≤ 1000000000000) (hrow : ∀ t ∈ l, p.a.length + t.a.length ≤ 1000000) :
    Calls Tryz.prog 75 #[.agg #[pv, .int .i64 p.e], y] w (OutT ok (hdl p l) w) := by
  have HB := Lib.hid (fun o => bel1 w o)
  by_cases h2 : p.e = 2
  · have hL : hdl p l = l.map (thn ⟨p.a, 1⟩) := if_pos h2
    rw [hL, h2]
    have TH := Lib.hid (fun w1 (hb : Below w.heap.size w w1) => then_any T ok pv y ⟨p.a, 1⟩ l w1 (so_below hp hb) (hl.below hb) hlen hrow)
    generalize l.map (thn ⟨p.a, 1⟩) = L at TH ⊢
    obtain ⟨_, a1, k1, rfl, _⟩ := hp
    obtain ⟨_, ⟨_, a2, k2, rfl, _⟩, _⟩ := hl
    clear hL h2
    go_enter Tryz.func75, Tryz.ntmps75
    go_wp2_with fail
    refine (ticked_any _ _ _ _ _).mono ?_
    rintro e w1 ⟨rfl, hb1⟩
    have B1 := Lib.hid ((HB.out _).trans (hb1.mono (HB.out _).size))
    go_wp2_with fail
    refine (TH.out _ B1.out).mono ?_
    intro e w2 ho
    have HO := Lib.hid (ho.up B1.out fun b h => .inl h)
    obtain ⟨a4, k4, rfl, _, _⟩ := ho
    go_wp2_with fail
    go_ret
    exact HO.out
  · have hL : hdl p l = [p] := if_neg h2
    have hne : (p.e != 2) = true := by simp [h2]
    rw [hL]
    have ON := Lib.hid (fun w1 (hb : Below w.heap.size w w1) => only_any ok pv p w1 (so_below hp hb))
    obtain ⟨_, a1, k1, rfl, _⟩ := hp
    obtain ⟨_, ⟨_, a2, k2, rfl, _⟩, _⟩ := hl
    clear hL
    go_enter Tryz.func75, Tryz.ntmps75
    go_wp2_with fail
    refine (ON.out _ (HB.out _)).mono ?_
    intro e w2 ho
    have HO := Lib.hid (ho.up (HB.out _) fun b h => .inl h)
    obtain ⟨a4, k4, rfl, _, _⟩ := ho
    go_wp2_with fail
    go_ret
    exact HO.out

/-- A pair in a box. -/
def BoxP (w : World) (b : Nat) (v : Value) (e : Int) (v' : Value) (e' : Int) : Prop := w.cell? ⟨b, 0, none⟩ = some v ∧ w.cell? ⟨b, 1, none⟩ = some (.int .i64 e) ∧ w.cell? ⟨b, 2, none⟩ = some v' ∧ w.cell? ⟨b, 3, none⟩ = some (.int .i64 e')
theorem BoxP.below {w w' : World} {b : Nat} {v v' : Value} {e e' : Int} (h : BoxP w b v e v' e') (hb : Below w.heap.size w w') : BoxP w' b v e v' e' :=
  ⟨by rw [hb.cell (p := ⟨b, 0, none⟩) (Ap.cell_lt h.1)]; exact h.1, by rw [hb.cell (p := ⟨b, 1, none⟩) (Ap.cell_lt h.2.1)]; exact h.2.1, by rw [hb.cell (p := ⟨b, 2, none⟩) (Ap.cell_lt h.2.2.1)]; exact h.2.2.1, by rw [hb.cell (p := ⟨b, 3, none⟩) (Ap.cell_lt h.2.2.2)]; exact h.2.2.2⟩
theorem boxP_new (w : World) (a b c d : Value) (t : TypeId) : (w.alloc (.cells #[a, b, c, d] t)).cell? ⟨w.heap.size, 0, none⟩ = some a ∧ (w.alloc (.cells #[a, b, c, d] t)).cell? ⟨w.heap.size, 1, none⟩ = some b ∧ (w.alloc (.cells #[a, b, c, d] t)).cell? ⟨w.heap.size, 2, none⟩ = some c ∧ (w.alloc (.cells #[a, b, c, d] t)).cell? ⟨w.heap.size, 3, none⟩ = some d := by simp

set_option maxHeartbeats 2000000 in
theorem asBlock_any (T : TCon) (ok : Nat → Prop) (v1 v2 : Value) (x : Pr) (w : World) (h1 : StrsO ok w v1 x.p.a) (h2 : StrsO ok w v2 x.q.a) (hlen : x.p.a.length + x.q.a.length ≤ 1000000) :
    Calls Tryz.prog 42 #[.agg #[v1, .int .i64 x.p.e, v2, .int .i64 x.q.e]] w (OutT ok (blk1 x) w) := by
  have HB := Lib.hid (fun o => bel1 w o)
  by_cases e1 : x.p.e = 1
  · have hL : blk1 x = [x.p] := if_pos e1
    rw [hL]
    have ON := Lib.hid (fun w1 (hb : Below w.heap.size w w1) => only_any ok v1 x.p w1 (so_below h1 hb))
    rw [e1] at ON ⊢
    obtain ⟨_, a1, k1, rfl, _⟩ := h1
    obtain ⟨_, a2, k2, rfl, _⟩ := h2
    clear hL
    go_enter Tryz.func42, Tryz.ntmps42
    go_wp2_with fail
    refine (ON.out _ (HB.out _)).mono ?_
    intro e w2 ho
    have HO := Lib.hid (ho.up (HB.out _) fun b h => .inl h)
    obtain ⟨a4, k4, rfl, _, _⟩ := ho
    go_wp2_with fail
    go_ret
    exact HO.out
  · by_cases e2 : x.p.e = 2
    · have hL : blk1 x = [x.q].map (thn ⟨x.p.a, 1⟩) := by
        unfold blk1
        rw [if_neg e1, if_pos e2]
        rfl
      rw [hL, e2]
      have ON := Lib.hid (fun w1 (hb : Below w.heap.size w w1) => only_any ok v2 x.q w1 (so_below h2 hb))
      have TH := Lib.hid (fun y w1 ok' (hp : StrsO ok' w1 v1 x.p.a) (hl : TsO ok' w1 y [x.q]) => then_any T ok' v1 y ⟨x.p.a, 1⟩ [x.q] w1 hp hl (by simp) (fun t ht => by rw [List.mem_singleton] at ht; rw [ht]; exact hlen))
      have H1 := Lib.hid h1
      generalize [x.q].map (thn ⟨x.p.a, 1⟩) = L at TH ⊢
      obtain ⟨_, a1, k1, rfl, _⟩ := h1
      obtain ⟨_, a2, k2, rfl, _⟩ := h2
      clear hL e1 e2
      go_enter Tryz.func42, Tryz.ntmps42
      go_wp2_with fail
      go_region_held3 (fun w' => w'.cell? ⟨w.heap.size, 0, none⟩ = some (.slice a1 x.p.a.length k1) ∧ w'.cell? ⟨w.heap.size, 1, none⟩ = some (.int .i64 2) ∧ w'.cell? ⟨w.heap.size, 2, none⟩ = some (.slice a2 x.q.a.length k2) ∧ w'.cell? ⟨w.heap.size, 3, none⟩ = some (.int .i64 x.q.e)) (first | exact ⟨by simp [go_sem], by simp [go_sem], by simp [go_sem], by simp [go_sem]⟩ | exact kz | exact ky | exact kx | fail) (first
        | (go_at_call 69
           (with_reducible refine (ticked_any _ _ _ _ _).mono ?_)
           rintro e w1 ⟨rfl, hb1⟩
           have kz : BoxP w1 w.heap.size (.slice a1 x.p.a.length k1) 2 (.slice a2 x.q.a.length k2) x.q.e := BoxP.below ⟨by simp [go_sem], by simp [go_sem], by simp [go_sem], by simp [go_sem]⟩ hb1
           have B1 := Lib.hid (((HB.out _).drew).trans (hb1.mono (HB.out _).drew.size))
           clear hb1)
        | (go_at_call 37
           (with_reducible refine (ON.out _ B1.out).mono ?_)
           rintro e w2 ⟨a4, k4, rfl, ht2, hb2⟩
           have B2 := Lib.hid (B1.out.trans (hb2.mono B1.out.size))
           have T2 : Hid (TsO (fun b => ok b ∨ w.heap.size ≤ b) w2 (.slice a4 1 k4) [x.q]) := Lib.hid (ht2.imp (ok' := fun b => ok b ∨ w.heap.size ≤ b) fun b _ h => h.imp id fun h => Nat.le_trans B1.out.size h)
           have ky := BoxP.below kz hb2
           clear ht2 hb2)
        | (go_at_call 68
           (with_reducible refine (TH.out _ _ _ (so_below (so_imp H1.out fun _ _ h => .inl h) B2.out) T2.out).mono ?_)
           intro e w3 ho
           have HO := Lib.hid (ho.up (ok := ok) B2.out fun b h => h)
           obtain ⟨a5, k5, rfl, _, hb5⟩ := ho
           have kx := BoxP.below ky hb5
           clear hb5)
        | fail)
      go_wp2_with fail
      go_ret
      exact HO.out
    · have hL : blk1 x = [] := by
        unfold blk1
        rw [if_neg e1, if_neg e2]
      have g1 : (x.p.e == 1) = false := by simp [e1]
      have g2 : (x.p.e == 2) = false := by simp [e2]
      rw [hL]
      obtain ⟨_, a1, k1, rfl, _⟩ := h1
      obtain ⟨_, a2, k2, rfl, _⟩ := h2
      go_enter Tryz.func42, Tryz.ntmps42
      go_wp2_with fail
      go_ret
      exact ⟨none, 0, rfl, ts_nil _ _, HB.out _⟩
end Go.Proofs.YtpkbpooiaddcaaaGreat.Mn

namespace Go.Proofs.YtpkbpooiaddcaaaGreat.Mn
open Go Go.RowKit Tr
set_option maxRecDepth 20000

end Go.Proofs.YtpkbpooiaddcaaaGreat.Mn
