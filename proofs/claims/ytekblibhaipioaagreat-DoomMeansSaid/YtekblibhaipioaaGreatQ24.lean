/- The program's each, at traces and pairs: what a function tells of each one of a row, as one row; the walks. -/
import Derived.Test.YtekblibhaipioaaGreatQ20
import Derived.Test.YtekblibhaipioaaGreatQ08
import Derived.Lib.Hide

namespace Go.Proofs.YtekblibhaipioaaGreat.Mn
open Go Go.RowKit Tr
set_option maxRecDepth 20000
theorem infoP1 : (Tryz.prog.info? 34).map (fun i => (i.zero, i.size, i.bytes)) = some (some (.agg #[.slice none 0 0, .int .i64 0, .slice none 0 0, .int .i64 0]), 4, 64) := by kernel_rfl
theorem appT {w : World} {base n m : Nat} {v x : Value} {cs ds : List Value} (hown : w.ownsRow base 32 2 v n cs) (hbase : base ≤ w.heap.size) (hx : Ap.Rd w 2 x m ds) (h1 : ∀ u ∈ ds, u.oneCell' = true) (hlen : n + m ≤ 2000000000000) :
    ∃ v' w', (Builtin.append_ #[35, 35] 35 #[v, x]).run Tryz.prog w = .ok v' w' ∧ w'.ownsRow base 32 2 v' (n + m) (cs ++ ds) ∧ w.grownBy w' v.ownBlock ∧ Below base w w' ∧ Ap.Fresh w v v' := by
  obtain ⟨i0, hi, hz, hs1, hb8⟩ := info_parts info_news
  exact Ap.run_append_rd (P := Tryz.prog) (ty := 35) Tryz.underlying35 hi hz hs1 hb8 (by rfl) (by omega) hown hbase hx h1 (by unfold maxLen; omega) (by omega)
theorem appP {w : World} {base n m : Nat} {v x : Value} {cs ds : List Value} (hown : w.ownsRow base 34 4 v n cs) (hbase : base ≤ w.heap.size) (hx : Ap.Rd w 4 x m ds) (h1 : ∀ u ∈ ds, u.oneCell' = true) (hlen : n + m ≤ 2000000000000) :
    ∃ v' w', (Builtin.append_ #[26, 26] 26 #[v, x]).run Tryz.prog w = .ok v' w' ∧ w'.ownsRow base 34 4 v' (n + m) (cs ++ ds) ∧ w.grownBy w' v.ownBlock ∧ Below base w w' ∧ Ap.Fresh w v v' := by
  obtain ⟨i0, hi, hz, hs1, hb8⟩ := info_parts infoP1
  exact Ap.run_append_rd (P := Tryz.prog) (ty := 26) Tryz.underlying26 hi hz hs1 hb8 (by rfl) (by omega) hown hbase hx h1 (by unfold maxLen; omega) (by omega)
theorem flat_snoc {α β : Type} (f : α → List β) (l : List α) (k : Nat) (h : k < l.length) : (l.take (k + 1)).flatMap f = (l.take k).flatMap f ++ f l[k] := by
  rw [List.take_succ_eq_append_getElem h, List.flatMap_append]
  simp
theorem flat_take {α β : Type} (f : α → List β) (l : List α) (k : Nat) : ((l.take k).flatMap f).length ≤ (l.flatMap f).length := by
  have e : l.flatMap f = (l.take k).flatMap f ++ (l.drop k).flatMap f := by rw [← List.flatMap_append, List.take_append_drop]
  rw [e, List.length_append]
  omega
def Apart (ok : Nat → Prop) (v : Value) (b : Nat) : Prop := ok b ∧ some b ≠ v.ownBlock
theorem apart_grow {ok : Nat → Prop} {w w' : World} {v v' x : Value} {l : List ByteArray} (h : StrsO (Apart ok v) w x l) (hg : w.grownBy w' v.ownBlock) (hf : Ap.Fresh w v v') : StrsO (Apart ok v') w' x l := Ap.RdO.grow h hg hf
theorem own_old {w : World} {base size n : Nat} {e : TypeId} {v : Value} {xs : List Value} (h : w.ownsRow base e size v n xs) : ∀ b, some b = v.ownBlock → base ≤ b ∧ b < w.heap.size := fun b hb => by
  refine ⟨?_, Ap.own_lt h b hb.symm⟩
  obtain ⟨_, ⟨rfl, _⟩ | ⟨g, cap, cur, rfl, hg, _⟩⟩ := h
  · cases hb
  · cases hb
    exact hg
set_option maxHeartbeats 4000000 in
theorem eachTT (fn : Nat) (caps : Array Value) (eg : ∀ args w, (callFunc fn args).run Tryz.prog w = .ok (.enter fn args) w) (ok : Nat → Prop) (x : Value) (l : List Tr) (F : Tr → List Tr) (w : World) (hx : TsO ok w x l)
    (hF : ∀ wr, Below w.heap.size w wr → ∀ t ∈ l, ∀ a, StrsO (fun b => ok b ∧ b < w.heap.size) wr a t.a → Calls Tryz.prog fn (#[.agg #[a, .int .i64 t.e]] ++ caps) wr (OutT (fun b => ok b ∧ b < w.heap.size) (F t) wr))
    (hl : l.length ≤ 1000000000000) (hlen : (l.flatMap F).length ≤ 1000000000000) :
    Calls Tryz.prog 92 #[x, .func (.func fn) #[] caps] w (OutT ok (l.flatMap F) w) := by
  obtain ⟨ax, cx, rfl, _, hval⟩ := hx.val
  have HV := Lib.hid hval
  have HF := Lib.hid hF
  have HT := Lib.hid (flat_take F l)
  have HS := Lib.hid (flat_snoc F l)
  obtain ⟨L, hL⟩ : ∃ L, l.flatMap F = L := ⟨_, rfl⟩
  rw [hL] at HT hlen ⊢
  unfold OutT
  have HL := Lib.hid hL
  clear hval hF hx hL
  go_enter Tryz.func92, Tryz.ntmps92
  go_wp2_with fail
  go_loopw [5, 10] (fun v i wr => ∃ (k : Nat) (cs : List Value), k ≤ l.length ∧ i = .int .i64 k ∧ Below w.heap.size w wr ∧ wr.ownsRow w.heap.size 32 2 v ((l.take k).flatMap F).length cs ∧ Cl (ET (Apart (fun b => ok b ∨ w.heap.size ≤ b) v) wr) 2 ((l.take k).flatMap F) cs) (fun _ i _ => l.length - (intOf i).toNat)
  case atStart => exact ⟨0, [], Nat.zero_le _, rfl, Below.refl _ _, ⟨rfl, .inl ⟨rfl, rfl⟩⟩, rfl⟩
  case round =>
    obtain ⟨k, cs, hk, rfl, hb, hown, hcs⟩ := hrel
    have WB := Lib.hid hb
    have WO := Lib.hid hown
    have WC := Lib.hid hcs
    clear hb hown hcs
    by_cases hlt : k < l.length
    · obtain ⟨b1, o1, a, rfl, hok, e1, e2, hs⟩ := HV.out k hlt
      have c1 : wr.cell? ⟨b1, o1 + k * 2, none⟩ = some a := by rw [WB.out.cell (Ap.cell_lt e1)]; exact e1
      have c2 : wr.cell? ⟨b1, o1 + k * 2 + 1, none⟩ = some (.int .i64 l[k].e) := by rw [WB.out.cell (Ap.cell_lt e2)]; exact e2
      have HA := Lib.hid hs
      have TM := Lib.hid (List.getElem_mem hlt)
      have SN := Lib.hid (HS.out k hlt)
      have TK := HT.out (k + 1)
      rw [SN.out, List.length_append] at TK
      generalize l[k] = t at *
      obtain ⟨_, a', c', rfl, _⟩ := HA.out
      go_wp2_with fail
      refine (HF.out _ ?b1 t TM.out _ (Ap.RdO.below (Ap.RdO.imp HA.out fun b hlt ho => ⟨ho, hlt⟩) ?b2)).mono ?c1
      case b1 => exact WB.out.alloc WB.out.size _
      case b2 => exact WB.out.alloc WB.out.size _
      rintro e w1 ⟨a1, c1', rfl, ht1, hb1⟩
      have B0 : Below wr.heap.size wr w1 := ((Below.refl _ _).alloc (Nat.le_refl _) _).trans (hb1.mono (by simp))
      obtain ⟨ds, hr, hc⟩ := ht1
      have hO1 := Ap.own_below WO.out B0
      obtain ⟨v2, w2, hrun, ho2, hg2, hb2, hf2⟩ := appT hO1 (Nat.le_trans WB.out.size B0.size) (Ap.RdO.rd hr) (Cl.cells _ ET.one hc) (by omega)
      have RUN := Lib.hid hrun
      have O2 := Lib.hid ho2
      have B2 := Lib.hid ((WB.out.trans (B0.mono WB.out.size)).trans hb2)
      have C2 : Hid (Cl (ET (Apart (fun b => ok b ∨ w.heap.size ≤ b) v2) w2) 2 ((l.take (k + 1)).flatMap F) (cs ++ ds)) := Lib.hid (by
        rw [SN.out]
        refine Cl.append ET.len ?_ ?_
        · refine Cl.imp (ET.map fun x m hx => apart_grow (Ap.RdO.imp hx fun b hlt ho => ?_) hg2 hf2) hc
          rcases ho with ho | ho
          · exact ⟨.inl ho.1, fun e => by have := own_old WO.out b e; omega⟩
          · have ho' : wr.heap.size + 1 ≤ b := by simpa using ho
            have := WB.out.size
            exact ⟨.inr (by omega), fun e => by have := own_old WO.out b e; omega⟩
        · exact Cl.imp (ET.map fun x m hx => apart_grow (so_below hx B0) hg2 hf2) WC.out)
      clear hrun ho2 hg2 hb2 hf2 hc hb1 hO1 B0
      go_wp2_with (at_builtin; refine Ap.wpList_append_run (by rfl) _ _ _ _ rfl _ _ rfl rfl v2 w2 RUN.out ?_)
      go_roundw
      case rel => exact ⟨k + 1, cs ++ ds, by omega, by go_num, B2.out, by rw [SN.out, List.length_append]; exact O2.out, C2.out⟩
      case measure => simp [intOf]; omega
    · have hkl : k = l.length := by omega
      subst hkl
      have O := WO.out
      have C := WC.out
      rw [List.take_length, HL.out] at O C
      have R := Ap.RdO.fresh O
      obtain ⟨_, a1, c1', hv, _⟩ := id R
      subst hv
      have RR := Lib.hid R
      have CC := Lib.hid C
      clear R O C
      go_wp2_with fail
      go_ret
      exact ⟨_, _, rfl, ⟨cs, Ap.RdO.imp RR.out fun _ _ h => Or.inr h, CC.out.imp (ET.map fun _ _ hx => Ap.RdO.imp hx fun _ _ h => h.1)⟩, WB.out⟩
set_option maxHeartbeats 4000000 in
theorem eachTP (fn : Nat) (caps : Array Value) (eg : ∀ args w, (callFunc fn args).run Tryz.prog w = .ok (.enter fn args) w) (ok : Nat → Prop) (x : Value) (l : List Tr) (F : Tr → List Pr) (w : World) (hx : TsO ok w x l)
    (hF : ∀ wr, Below w.heap.size w wr → ∀ t ∈ l, ∀ a, StrsO (fun b => ok b ∧ b < w.heap.size) wr a t.a → Calls Tryz.prog fn (#[.agg #[a, .int .i64 t.e]] ++ caps) wr (OutP (fun b => ok b ∧ b < w.heap.size) (F t) wr))
    (hl : l.length ≤ 1000000000000) (hlen : (l.flatMap F).length ≤ 1000000000000) :
    Calls Tryz.prog 74 #[x, .func (.func fn) #[] caps] w (OutP ok (l.flatMap F) w) := by
  obtain ⟨ax, cx, rfl, _, hval⟩ := hx.val
  have HV := Lib.hid hval
  have HF := Lib.hid hF
  have HT := Lib.hid (flat_take F l)
  have HS := Lib.hid (flat_snoc F l)
  obtain ⟨L, hL⟩ : ∃ L, l.flatMap F = L := ⟨_, rfl⟩
  rw [hL] at HT hlen ⊢
  unfold OutP
  have HL := Lib.hid hL
  clear hval hF hx hL
  go_enter Tryz.func74, Tryz.ntmps74
  go_wp2_with fail
  go_loopw [5, 10] (fun v i wr => ∃ (k : Nat) (cs : List Value), k ≤ l.length ∧ i = .int .i64 k ∧ Below w.heap.size w wr ∧ wr.ownsRow w.heap.size 34 4 v ((l.take k).flatMap F).length cs ∧ Cl (EP (Apart (fun b => ok b ∨ w.heap.size ≤ b) v) wr) 4 ((l.take k).flatMap F) cs) (fun _ i _ => l.length - (intOf i).toNat)
  case atStart => exact ⟨0, [], Nat.zero_le _, rfl, Below.refl _ _, ⟨rfl, .inl ⟨rfl, rfl⟩⟩, rfl⟩
  case round =>
    obtain ⟨k, cs, hk, rfl, hb, hown, hcs⟩ := hrel
    have WB := Lib.hid hb
    have WO := Lib.hid hown
    have WC := Lib.hid hcs
    clear hb hown hcs
    by_cases hlt : k < l.length
    · obtain ⟨b1, o1, a, rfl, hok, e1, e2, hs⟩ := HV.out k hlt
      have c1 : wr.cell? ⟨b1, o1 + k * 2, none⟩ = some a := by rw [WB.out.cell (Ap.cell_lt e1)]; exact e1
      have c2 : wr.cell? ⟨b1, o1 + k * 2 + 1, none⟩ = some (.int .i64 l[k].e) := by rw [WB.out.cell (Ap.cell_lt e2)]; exact e2
      have HA := Lib.hid hs
      have TM := Lib.hid (List.getElem_mem hlt)
      have SN := Lib.hid (HS.out k hlt)
      have TK := HT.out (k + 1)
      rw [SN.out, List.length_append] at TK
      generalize l[k] = t at *
      obtain ⟨_, a', c', rfl, _⟩ := HA.out
      go_wp2_with fail
      refine (HF.out _ ?b1 t TM.out _ (Ap.RdO.below (Ap.RdO.imp HA.out fun b hlt ho => ⟨ho, hlt⟩) ?b2)).mono ?c1
      case b1 => exact WB.out.alloc WB.out.size _
      case b2 => exact WB.out.alloc WB.out.size _
      rintro e w1 ⟨a1, c1', rfl, ht1, hb1⟩
      have B0 : Below wr.heap.size wr w1 := ((Below.refl _ _).alloc (Nat.le_refl _) _).trans (hb1.mono (by simp))
      obtain ⟨ds, hr, hc⟩ := ht1
      have hO1 := Ap.own_below WO.out B0
      obtain ⟨v2, w2, hrun, ho2, hg2, hb2, hf2⟩ := appP hO1 (Nat.le_trans WB.out.size B0.size) (Ap.RdO.rd hr) (Cl.cells _ EP.one hc) (by omega)
      have RUN := Lib.hid hrun
      have O2 := Lib.hid ho2
      have B2 := Lib.hid ((WB.out.trans (B0.mono WB.out.size)).trans hb2)
      have C2 : Hid (Cl (EP (Apart (fun b => ok b ∨ w.heap.size ≤ b) v2) w2) 4 ((l.take (k + 1)).flatMap F) (cs ++ ds)) := Lib.hid (by
        rw [SN.out]
        refine Cl.append EP.len ?_ ?_
        · refine Cl.imp (EP.map fun x m hx => apart_grow (Ap.RdO.imp hx fun b hlt ho => ?_) hg2 hf2) hc
          rcases ho with ho | ho
          · exact ⟨.inl ho.1, fun e => by have := own_old WO.out b e; omega⟩
          · have ho' : wr.heap.size + 1 ≤ b := by simpa using ho
            have := WB.out.size
            exact ⟨.inr (by omega), fun e => by have := own_old WO.out b e; omega⟩
        · exact Cl.imp (EP.map fun x m hx => apart_grow (so_below hx B0) hg2 hf2) WC.out)
      clear hrun ho2 hg2 hb2 hf2 hc hb1 hO1 B0
      go_wp2_with (at_builtin; refine Ap.wpList_append_run (by rfl) _ _ _ _ rfl _ _ rfl rfl v2 w2 RUN.out ?_)
      go_roundw
      case rel => exact ⟨k + 1, cs ++ ds, by omega, by go_num, B2.out, by rw [SN.out, List.length_append]; exact O2.out, C2.out⟩
      case measure => simp [intOf]; omega
    · have hkl : k = l.length := by omega
      subst hkl
      have O := WO.out
      have C := WC.out
      rw [List.take_length, HL.out] at O C
      have R := Ap.RdO.fresh O
      obtain ⟨_, a1, c1', hv, _⟩ := id R
      subst hv
      have RR := Lib.hid R
      have CC := Lib.hid C
      clear R O C
      go_wp2_with fail
      go_ret
      exact ⟨_, _, rfl, ⟨cs, Ap.RdO.imp RR.out fun _ _ h => Or.inr h, CC.out.imp (EP.map fun _ _ hx => Ap.RdO.imp hx fun _ _ h => h.1)⟩, WB.out⟩
set_option maxHeartbeats 4000000 in
theorem eachPT (fn : Nat) (caps : Array Value) (eg : ∀ args w, (callFunc fn args).run Tryz.prog w = .ok (.enter fn args) w) (ok : Nat → Prop) (x : Value) (l : List Pr) (F : Pr → List Tr) (w : World) (hx : PsO ok w x l)
    (hF : ∀ wr, Below w.heap.size w wr → ∀ t ∈ l, ∀ a a', StrsO (fun b => ok b ∧ b < w.heap.size) wr a t.p.a → StrsO (fun b => ok b ∧ b < w.heap.size) wr a' t.q.a → Calls Tryz.prog fn (#[.agg #[a, .int .i64 t.p.e, a', .int .i64 t.q.e]] ++ caps) wr (OutT (fun b => ok b ∧ b < w.heap.size) (F t) wr))
    (hl : l.length ≤ 1000000000000) (hlen : (l.flatMap F).length ≤ 1000000000000) :
    Calls Tryz.prog 49 #[x, .func (.func fn) #[] caps] w (OutT ok (l.flatMap F) w) := by
  obtain ⟨ax, cx, rfl, _, hval⟩ := hx.val
  have HV := Lib.hid hval
  have HF := Lib.hid hF
  have HT := Lib.hid (flat_take F l)
  have HS := Lib.hid (flat_snoc F l)
  obtain ⟨L, hL⟩ : ∃ L, l.flatMap F = L := ⟨_, rfl⟩
  rw [hL] at HT hlen ⊢
  unfold OutT
  have HL := Lib.hid hL
  clear hval hF hx hL
  go_enter Tryz.func49, Tryz.ntmps49
  go_wp2_with fail
  go_loopw [5, 10] (fun v i wr => ∃ (k : Nat) (cs : List Value), k ≤ l.length ∧ i = .int .i64 k ∧ Below w.heap.size w wr ∧ wr.ownsRow w.heap.size 32 2 v ((l.take k).flatMap F).length cs ∧ Cl (ET (Apart (fun b => ok b ∨ w.heap.size ≤ b) v) wr) 2 ((l.take k).flatMap F) cs) (fun _ i _ => l.length - (intOf i).toNat)
  case atStart => exact ⟨0, [], Nat.zero_le _, rfl, Below.refl _ _, ⟨rfl, .inl ⟨rfl, rfl⟩⟩, rfl⟩
  case round =>
    obtain ⟨k, cs, hk, rfl, hb, hown, hcs⟩ := hrel
    have WB := Lib.hid hb
    have WO := Lib.hid hown
    have WC := Lib.hid hcs
    clear hb hown hcs
    by_cases hlt : k < l.length
    · obtain ⟨b1, o1, a, a', rfl, hok, e1, e2, e3, e4, hs, hs'⟩ := HV.out k hlt
      have c1 : wr.cell? ⟨b1, o1 + k * 4, none⟩ = some a := by rw [WB.out.cell (Ap.cell_lt e1)]; exact e1
      have c2 : wr.cell? ⟨b1, o1 + k * 4 + 1, none⟩ = some (.int .i64 l[k].p.e) := by rw [WB.out.cell (Ap.cell_lt e2)]; exact e2
      have c3 : wr.cell? ⟨b1, o1 + k * 4 + 2, none⟩ = some a' := by rw [WB.out.cell (Ap.cell_lt e3)]; exact e3
      have c4 : wr.cell? ⟨b1, o1 + k * 4 + 3, none⟩ = some (.int .i64 l[k].q.e) := by rw [WB.out.cell (Ap.cell_lt e4)]; exact e4
      have HA := Lib.hid hs
      have HA' := Lib.hid hs'
      have TM := Lib.hid (List.getElem_mem hlt)
      have SN := Lib.hid (HS.out k hlt)
      have TK := HT.out (k + 1)
      rw [SN.out, List.length_append] at TK
      generalize l[k] = t at *
      obtain ⟨_, a1, c1_, rfl, _⟩ := HA.out
      obtain ⟨_, a2, c2_, rfl, _⟩ := HA'.out
      go_wp2_with fail
      refine (HF.out _ ?b1 t TM.out _ _ (Ap.RdO.below (Ap.RdO.imp HA.out fun b hlt ho => ⟨ho, hlt⟩) ?b2) (Ap.RdO.below (Ap.RdO.imp HA'.out fun b hlt ho => ⟨ho, hlt⟩) ?b3)).mono ?c1
      case b1 => exact WB.out.alloc WB.out.size _
      case b2 => exact WB.out.alloc WB.out.size _
      case b3 => exact WB.out.alloc WB.out.size _
      rintro e w1 ⟨a1, c1', rfl, ht1, hb1⟩
      have B0 : Below wr.heap.size wr w1 := ((Below.refl _ _).alloc (Nat.le_refl _) _).trans (hb1.mono (by simp))
      obtain ⟨ds, hr, hc⟩ := ht1
      have hO1 := Ap.own_below WO.out B0
      obtain ⟨v2, w2, hrun, ho2, hg2, hb2, hf2⟩ := appT hO1 (Nat.le_trans WB.out.size B0.size) (Ap.RdO.rd hr) (Cl.cells _ ET.one hc) (by omega)
      have RUN := Lib.hid hrun
      have O2 := Lib.hid ho2
      have B2 := Lib.hid ((WB.out.trans (B0.mono WB.out.size)).trans hb2)
      have C2 : Hid (Cl (ET (Apart (fun b => ok b ∨ w.heap.size ≤ b) v2) w2) 2 ((l.take (k + 1)).flatMap F) (cs ++ ds)) := Lib.hid (by
        rw [SN.out]
        refine Cl.append ET.len ?_ ?_
        · refine Cl.imp (ET.map fun x m hx => apart_grow (Ap.RdO.imp hx fun b hlt ho => ?_) hg2 hf2) hc
          rcases ho with ho | ho
          · exact ⟨.inl ho.1, fun e => by have := own_old WO.out b e; omega⟩
          · have ho' : wr.heap.size + 1 ≤ b := by simpa using ho
            have := WB.out.size
            exact ⟨.inr (by omega), fun e => by have := own_old WO.out b e; omega⟩
        · exact Cl.imp (ET.map fun x m hx => apart_grow (so_below hx B0) hg2 hf2) WC.out)
      clear hrun ho2 hg2 hb2 hf2 hc hb1 hO1 B0
      go_wp2_with (at_builtin; refine Ap.wpList_append_run (by rfl) _ _ _ _ rfl _ _ rfl rfl v2 w2 RUN.out ?_)
      go_roundw
      case rel => exact ⟨k + 1, cs ++ ds, by omega, by go_num, B2.out, by rw [SN.out, List.length_append]; exact O2.out, C2.out⟩
      case measure => simp [intOf]; omega
    · have hkl : k = l.length := by omega
      subst hkl
      have O := WO.out
      have C := WC.out
      rw [List.take_length, HL.out] at O C
      have R := Ap.RdO.fresh O
      obtain ⟨_, a1, c1', hv, _⟩ := id R
      subst hv
      have RR := Lib.hid R
      have CC := Lib.hid C
      clear R O C
      go_wp2_with fail
      go_ret
      exact ⟨_, _, rfl, ⟨cs, Ap.RdO.imp RR.out fun _ _ h => Or.inr h, CC.out.imp (ET.map fun _ _ hx => Ap.RdO.imp hx fun _ _ h => h.1)⟩, WB.out⟩
set_option maxHeartbeats 4000000 in
theorem eachPP (fn : Nat) (caps : Array Value) (eg : ∀ args w, (callFunc fn args).run Tryz.prog w = .ok (.enter fn args) w) (ok : Nat → Prop) (x : Value) (l : List Pr) (F : Pr → List Pr) (w : World) (hx : PsO ok w x l)
    (hF : ∀ wr, Below w.heap.size w wr → ∀ t ∈ l, ∀ a a', StrsO (fun b => ok b ∧ b < w.heap.size) wr a t.p.a → StrsO (fun b => ok b ∧ b < w.heap.size) wr a' t.q.a → Calls Tryz.prog fn (#[.agg #[a, .int .i64 t.p.e, a', .int .i64 t.q.e]] ++ caps) wr (OutP (fun b => ok b ∧ b < w.heap.size) (F t) wr))
    (hl : l.length ≤ 1000000000000) (hlen : (l.flatMap F).length ≤ 1000000000000) :
    Calls Tryz.prog 76 #[x, .func (.func fn) #[] caps] w (OutP ok (l.flatMap F) w) := by
  obtain ⟨ax, cx, rfl, _, hval⟩ := hx.val
  have HV := Lib.hid hval
  have HF := Lib.hid hF
  have HT := Lib.hid (flat_take F l)
  have HS := Lib.hid (flat_snoc F l)
  obtain ⟨L, hL⟩ : ∃ L, l.flatMap F = L := ⟨_, rfl⟩
  rw [hL] at HT hlen ⊢
  unfold OutP
  have HL := Lib.hid hL
  clear hval hF hx hL
  go_enter Tryz.func76, Tryz.ntmps76
  go_wp2_with fail
  go_loopw [5, 10] (fun v i wr => ∃ (k : Nat) (cs : List Value), k ≤ l.length ∧ i = .int .i64 k ∧ Below w.heap.size w wr ∧ wr.ownsRow w.heap.size 34 4 v ((l.take k).flatMap F).length cs ∧ Cl (EP (Apart (fun b => ok b ∨ w.heap.size ≤ b) v) wr) 4 ((l.take k).flatMap F) cs) (fun _ i _ => l.length - (intOf i).toNat)
  case atStart => exact ⟨0, [], Nat.zero_le _, rfl, Below.refl _ _, ⟨rfl, .inl ⟨rfl, rfl⟩⟩, rfl⟩
  case round =>
    obtain ⟨k, cs, hk, rfl, hb, hown, hcs⟩ := hrel
    have WB := Lib.hid hb
    have WO := Lib.hid hown
    have WC := Lib.hid hcs
    clear hb hown hcs
    by_cases hlt : k < l.length
    · obtain ⟨b1, o1, a, a', rfl, hok, e1, e2, e3, e4, hs, hs'⟩ := HV.out k hlt
      have c1 : wr.cell? ⟨b1, o1 + k * 4, none⟩ = some a := by rw [WB.out.cell (Ap.cell_lt e1)]; exact e1
      have c2 : wr.cell? ⟨b1, o1 + k * 4 + 1, none⟩ = some (.int .i64 l[k].p.e) := by rw [WB.out.cell (Ap.cell_lt e2)]; exact e2
      have c3 : wr.cell? ⟨b1, o1 + k * 4 + 2, none⟩ = some a' := by rw [WB.out.cell (Ap.cell_lt e3)]; exact e3
      have c4 : wr.cell? ⟨b1, o1 + k * 4 + 3, none⟩ = some (.int .i64 l[k].q.e) := by rw [WB.out.cell (Ap.cell_lt e4)]; exact e4
      have HA := Lib.hid hs
      have HA' := Lib.hid hs'
      have TM := Lib.hid (List.getElem_mem hlt)
      have SN := Lib.hid (HS.out k hlt)
      have TK := HT.out (k + 1)
      rw [SN.out, List.length_append] at TK
      generalize l[k] = t at *
      obtain ⟨_, a1, c1_, rfl, _⟩ := HA.out
      obtain ⟨_, a2, c2_, rfl, _⟩ := HA'.out
      go_wp2_with fail
      refine (HF.out _ ?b1 t TM.out _ _ (Ap.RdO.below (Ap.RdO.imp HA.out fun b hlt ho => ⟨ho, hlt⟩) ?b2) (Ap.RdO.below (Ap.RdO.imp HA'.out fun b hlt ho => ⟨ho, hlt⟩) ?b3)).mono ?c1
      case b1 => exact WB.out.alloc WB.out.size _
      case b2 => exact WB.out.alloc WB.out.size _
      case b3 => exact WB.out.alloc WB.out.size _
      rintro e w1 ⟨a1, c1', rfl, ht1, hb1⟩
      have B0 : Below wr.heap.size wr w1 := ((Below.refl _ _).alloc (Nat.le_refl _) _).trans (hb1.mono (by simp))
      obtain ⟨ds, hr, hc⟩ := ht1
      have hO1 := Ap.own_below WO.out B0
      obtain ⟨v2, w2, hrun, ho2, hg2, hb2, hf2⟩ := appP hO1 (Nat.le_trans WB.out.size B0.size) (Ap.RdO.rd hr) (Cl.cells _ EP.one hc) (by omega)
      have RUN := Lib.hid hrun
      have O2 := Lib.hid ho2
      have B2 := Lib.hid ((WB.out.trans (B0.mono WB.out.size)).trans hb2)
      have C2 : Hid (Cl (EP (Apart (fun b => ok b ∨ w.heap.size ≤ b) v2) w2) 4 ((l.take (k + 1)).flatMap F) (cs ++ ds)) := Lib.hid (by
        rw [SN.out]
        refine Cl.append EP.len ?_ ?_
        · refine Cl.imp (EP.map fun x m hx => apart_grow (Ap.RdO.imp hx fun b hlt ho => ?_) hg2 hf2) hc
          rcases ho with ho | ho
          · exact ⟨.inl ho.1, fun e => by have := own_old WO.out b e; omega⟩
          · have ho' : wr.heap.size + 1 ≤ b := by simpa using ho
            have := WB.out.size
            exact ⟨.inr (by omega), fun e => by have := own_old WO.out b e; omega⟩
        · exact Cl.imp (EP.map fun x m hx => apart_grow (so_below hx B0) hg2 hf2) WC.out)
      clear hrun ho2 hg2 hb2 hf2 hc hb1 hO1 B0
      go_wp2_with (at_builtin; refine Ap.wpList_append_run (by rfl) _ _ _ _ rfl _ _ rfl rfl v2 w2 RUN.out ?_)
      go_roundw
      case rel => exact ⟨k + 1, cs ++ ds, by omega, by go_num, B2.out, by rw [SN.out, List.length_append]; exact O2.out, C2.out⟩
      case measure => simp [intOf]; omega
    · have hkl : k = l.length := by omega
      subst hkl
      have O := WO.out
      have C := WC.out
      rw [List.take_length, HL.out] at O C
      have R := Ap.RdO.fresh O
      obtain ⟨_, a1, c1', hv, _⟩ := id R
      subst hv
      have RR := Lib.hid R
      have CC := Lib.hid C
      clear R O C
      go_wp2_with fail
      go_ret
      exact ⟨_, _, rfl, ⟨cs, Ap.RdO.imp RR.out fun _ _ h => Or.inr h, CC.out.imp (EP.map fun _ _ hx => Ap.RdO.imp hx fun _ _ h => h.1)⟩, WB.out⟩
end Go.Proofs.YtekblibhaipioaaGreat.Mn
