/- The program's methods then and beside of a pair: the walks. The document's merge of pairs: the walk. The program's going: what it tells lies in a row of the call's own; the walks. Rows that a call makes while it reads older ones: what an append keeps. The document's Set of pairs: the walk. The document's going: the walk. The document's two: the walks. The document's two: the walks. The document's two: the walks. The document's end, block, and two of kind 6: the walks. The document's par: the walk. The document's stack: the walk. The document's seq: the walk. -/
import Derived.Test.YtgaediondmdnbaaGreatQ24

namespace Go.Proofs.YtgaediondmdnbaaGreat.Mn
open Go Go.RowKit Tr
set_option maxRecDepth 20000

set_option maxHeartbeats 2000000 in
theorem pthen1_any (T : TCon) (ok : Nat → Prop) (bx : Nat) (v1 v2 u1 u2 : Value) (x y : Pr) (w : World) (hb : BoxP w bx v1 x.p.e v2 x.q.e) (h1 : StrsO ok w v1 x.p.a) (h2 : StrsO ok w v2 x.q.a) (h3 : StrsO ok w u1 y.p.a) (h4 : StrsO ok w u2 y.q.a)
    (l1 : x.p.a.length + y.p.a.length ≤ 1000000) (l2 : y.q.a.length + x.q.a.length ≤ 1000000) :
    Calls Tryz.prog 122 #[.agg #[u1, .int .i64 y.p.e, u2, .int .i64 y.q.e], .pointer (some ⟨bx, 0, none⟩)] w (OutP ok [⟨thn x.p y.p, thn y.q x.q⟩] w) := by
  have HB := Lib.hid (fun o => bel1 w o)
  have T1 := Lib.hid (fun w1 (hb : Below w.heap.size w w1) => T.cThn v1 u1 x.p y.p w1 (so_strs (so_below h1 hb)) (so_strs (so_below h3 hb)) l1)
  have T2 := Lib.hid (fun w1 (hb : Below w.heap.size w w1) => T.cThn u2 v2 y.q x.q w1 (so_strs (so_below h4 hb)) (so_strs (so_below h2 hb)) l2)
  have hlt := Ap.cell_lt hb.1
  have HX := Lib.hid (fun w1 (hb1 : Below w.heap.size w w1) => hb.below hb1)
  obtain ⟨_, a1, k1, rfl, _⟩ := h1
  obtain ⟨_, a2, k2, rfl, _⟩ := h2
  obtain ⟨_, b1, m1, rfl, _⟩ := h3
  obtain ⟨_, b2, m2, rfl, _⟩ := h4
  generalize thn x.p y.p = s at *
  generalize thn y.q x.q = t at *
  go_enter Tryz.func122, Tryz.ntmps122
  go_wp2_with fail
  have XA := Lib.hid (fun o => HX.out _ (HB.out o).drew)
  go_region_held3 (fun w' => w'.cell? ⟨bx, 0, none⟩ = some (.slice a1 x.p.a.length k1) ∧ w'.cell? ⟨bx, 1, none⟩ = some (.int .i64 x.p.e) ∧ w'.cell? ⟨bx, 2, none⟩ = some (.slice a2 x.q.a.length k2) ∧ w'.cell? ⟨bx, 3, none⟩ = some (.int .i64 x.q.e) ∧ w'.cell? ⟨w.heap.size, 0, none⟩ = some (.slice b1 y.p.a.length m1) ∧ w'.cell? ⟨w.heap.size, 1, none⟩ = some (.int .i64 y.p.e) ∧ w'.cell? ⟨w.heap.size, 2, none⟩ = some (.slice b2 y.q.a.length m2) ∧ w'.cell? ⟨w.heap.size, 3, none⟩ = some (.int .i64 y.q.e)) (first | exact ⟨(XA.out _).1, (XA.out _).2.1, (XA.out _).2.2.1, (XA.out _).2.2.2, by simp [go_sem], by simp [go_sem], by simp [go_sem], by simp [go_sem]⟩ | exact ⟨x1.1, x1.2.1, x1.2.2.1, x1.2.2.2, kz.1, kz.2.1, kz.2.2.1, kz.2.2.2⟩ | exact ⟨x2.1, x2.2.1, x2.2.2.1, x2.2.2.2, ky.1, ky.2.1, ky.2.2.1, ky.2.2.2⟩ | exact ⟨(x3 _).1, (x3 _).2.1, (x3 _).2.2.1, (x3 _).2.2.2, (k3 _).1, (k3 _).2.1, (k3 _).2.2.1, (k3 _).2.2.2⟩ | fail) (first
    | (go_at_call 116
       (with_reducible refine (T1.out _ (HB.out _).drew).mono ?_)
       rintro e w1 ⟨v3, rfl, hm, hb1⟩
       have kz : BoxP w1 w.heap.size (.slice b1 y.p.a.length m1) y.p.e (.slice b2 y.q.a.length m2) y.q.e := BoxP.below ⟨by simp [go_sem], by simp [go_sem], by simp [go_sem], by simp [go_sem]⟩ hb1
       have B1 := Lib.hid (((HB.out _).drew).trans (hb1.mono (HB.out _).drew.size))
       have x1 := HX.out _ B1.out
       have M1 := Lib.hid (so_imp hm.1 (ok' := fun b => ok b ∨ w.heap.size ≤ b) fun b _ h => .inr (Nat.le_trans (HB.out _).drew.size h))
       obtain ⟨⟨_, a3, n3, rfl, _⟩, _⟩ := hm
       clear hb1)
    | (go_at_call 116
       (with_reducible refine (T2.out _ B1.out).mono ?_)
       rintro e w2 ⟨v4, rfl, hm, hb2⟩
       have ky := BoxP.below kz hb2
       have B2 := Lib.hid (B1.out.trans (hb2.mono B1.out.size))
       have x2 := HX.out _ B2.out
       have k3 := fun o => BoxP.below ky (bel1 w2 o)
       have x3 := fun o => BoxP.below x2 (bel1 w2 o)
       have M1' := Lib.hid (so_below M1.out hb2)
       have M2 := Lib.hid (so_imp hm.1 (ok' := fun b => ok b ∨ w.heap.size ≤ b) fun b _ h => .inr (Nat.le_trans B1.out.size h))
       obtain ⟨⟨_, a4, n4, rfl, _⟩, _⟩ := hm
       clear hb2)
    | fail)
  go_wp2_with fail
  go_ret
  exact ⟨_, _, rfl, ps_one (by simp [go_sem]) (by simp [go_sem]) (by simp [go_sem]) (by simp [go_sem]) (.inr B2.out.size) (so_below M1'.out (bel1 _ _)) (so_below M2.out (bel1 _ _)), B2.out.alloc B2.out.size _⟩

set_option maxHeartbeats 2000000 in
theorem pthen_any (T : TCon) (ok : Nat → Prop) (v1 v2 y : Value) (x : Pr) (Y : List Pr) (w : World) (h1 : StrsO ok w v1 x.p.a) (h2 : StrsO ok w v2 x.q.a) (hy : PsO ok w y Y) (hlen : Y.length ≤ 1000000000000) (hrow : ∀ t ∈ Y, x.p.a.length + t.p.a.length ≤ 1000000 ∧ t.q.a.length + x.q.a.length ≤ 1000000) :
    Calls Tryz.prog 99 #[.agg #[v1, .int .i64 x.p.e, v2, .int .i64 x.q.e], y] w (OutP ok (seq1 Y x) w) := by
  have eg : ∀ args w, (callFunc 122 args).run Tryz.prog w = .ok (.enter 122 args) w := enters_of Tryz.func122 (by kernel_rfl) rfl
  by_cases e1 : x.p.e = 1
  · have hL : seq1 Y x = Y.flatMap fun t => [⟨thn x.p t.p, thn t.q x.q⟩] := by unfold seq1; rw [if_pos e1, map_flat]
    rw [hL]
    have hfl : (Y.flatMap fun t => [(⟨thn x.p t.p, thn t.q x.q⟩ : Pr)]).length = Y.length := by rw [← map_flat, List.length_map]
    have C := Lib.hid (fun ty => eachPP 122 #[.pointer (some ⟨w.heap.size, 0, none⟩)] eg ok y Y (fun t => [⟨thn x.p t.p, thn t.q x.q⟩]) (w.alloc (.cells #[v1, .int .i64 x.p.e, v2, .int .i64 x.q.e] ty)) (hy.below (bel1 _ _))
      (fun wr hb t ht a a' ha ha' => pthen1_any T _ w.heap.size v1 v2 a a' x t wr (BoxP.below (boxP_new _ _ _ _ _ _) hb) (so_below (so_below (so_imp h1 fun b hlt h => ⟨h, by simp; omega⟩) (bel1 _ _)) hb) (so_below (so_below (so_imp h2 fun b hlt h => ⟨h, by simp; omega⟩) (bel1 _ _)) hb) ha ha' (hrow t ht).1 (hrow t ht).2) hlen (by rw [hfl]; exact hlen))
    generalize (Y.flatMap fun t => [(⟨thn x.p t.p, thn t.q x.q⟩ : Pr)]) = L at C ⊢
    rw [e1] at C ⊢
    obtain ⟨_, a1, k1, rfl, _⟩ := h1
    obtain ⟨_, a2, k2, rfl, _⟩ := h2
    obtain ⟨_, ⟨_, a3, k3, rfl, _⟩, _⟩ := hy
    clear hfl hL e1
    go_enter Tryz.func99, Tryz.ntmps99
    go_wp2_with fail
    refine (C.out _).mono ?_
    intro e w2 ho
    have HO := Lib.hid (ho.up (bel1 w _) fun b h => .inl h)
    obtain ⟨a4, k4, rfl, _, _⟩ := ho
    go_wp2_with fail
    go_ret
    exact HO.out
  · have hL : seq1 Y x = [x] := if_neg e1
    have hne : (x.p.e != 1) = true := by simp [e1]
    rw [hL]
    have H1 := Lib.hid h1
    have H2 := Lib.hid h2
    obtain ⟨_, a1, k1, rfl, _⟩ := h1
    obtain ⟨_, a2, k2, rfl, _⟩ := h2
    obtain ⟨_, ⟨_, a3, k3, rfl, _⟩, _⟩ := hy
    unfold OutP
    go_enter Tryz.func99, Tryz.ntmps99
    go_wp2_with fail
    go_ret
    refine ⟨_, _, rfl, ps_one (by simp [go_sem]) (by simp [go_sem]) (by simp [go_sem]) (by simp [go_sem]) (.inr (by omega)) (so_below (so_imp H1.out fun _ _ h => .inl h) (bel2 _ _ _)) (so_below (so_imp H2.out fun _ _ h => .inl h) (bel2 _ _ _)), bel2 _ _ _⟩
end Go.Proofs.YtgaediondmdnbaaGreat.Mn

namespace Go.Proofs.YtgaediondmdnbaaGreat.Mn
open Go Go.RowKit Tr
set_option maxRecDepth 20000

end Go.Proofs.YtgaediondmdnbaaGreat.Mn

namespace Go.Proofs.YtgaediondmdnbaaGreat.Mn
open Go Go.RowKit Tr
set_option maxRecDepth 20000

/-- A call that tells a row of its own; none of what is in it lies in the row's own block. -/
def OwnP (ok : Nat → Prop) (l : List Pr) (w : World) (e : Ending) (w' : World) : Prop :=
  ∃ a c cs, e = .returned (.slice a l.length c) ∧ w'.ownsRow w.heap.size 61 4 (.slice a l.length c) l.length cs ∧ Cl (EP (Apart (fun b => ok b ∨ w.heap.size ≤ b) (.slice a l.length c)) w') 4 l cs ∧ Below w.heap.size w w'
theorem OwnP.up {ok ok' : Nat → Prop} {l : List Pr} {w w1 w2 : World} {e : Ending} (h : OwnP ok' l w1 e w2) (hb : Below w.heap.size w w1) (hi : ∀ b, ok' b → ok b ∨ w.heap.size ≤ b) : OwnP ok l w e w2 := by
  obtain ⟨a, c, cs, rfl, ho, hc, hb'⟩ := h
  have := hb.size
  exact ⟨a, c, cs, rfl, Ap.own_base ho hb.size, hc.imp (EP.map fun _ _ h => so_imp h fun b _ h => ⟨h.1.elim (hi b) fun h => .inr (by omega), h.2⟩), hb.trans (hb'.mono hb.size)⟩

set_option maxHeartbeats 4000000 in
theorem eachTPO (fn : Nat) (caps : Array Value) (eg : ∀ args w, (callFunc fn args).run Tryz.prog w = .ok (.enter fn args) w) (ok : Nat → Prop) (x : Value) (l : List Tr) (F : Tr → List Pr) (w : World) (hx : TsO ok w x l)
    (hF : ∀ wr, Below w.heap.size w wr → ∀ t ∈ l, ∀ a, StrsO (fun b => ok b ∧ b < w.heap.size) wr a t.a → Calls Tryz.prog fn (#[.agg #[a, .int .i64 t.e]] ++ caps) wr (OutP (fun b => ok b ∧ b < w.heap.size) (F t) wr))
    (hl : l.length ≤ 1000000000000) (hlen : (l.flatMap F).length ≤ 1000000000000) :
    Calls Tryz.prog 93 #[x, .func (.func fn) #[] caps] w (OwnP ok (l.flatMap F) w) := by
  obtain ⟨ax, cx, rfl, _, hval⟩ := hx.val
  have HV := Lib.hid hval
  have HF := Lib.hid hF
  have HT := Lib.hid (flat_take F l)
  have HS := Lib.hid (flat_snoc F l)
  obtain ⟨L, hL⟩ : ∃ L, l.flatMap F = L := ⟨_, rfl⟩
  rw [hL] at HT hlen ⊢
  unfold OwnP
  have HL := Lib.hid hL
  clear hval hF hx hL
  go_enter Tryz.func93, Tryz.ntmps93
  go_wp2_with fail
  go_loopw [5, 10] (fun v i wr => ∃ (k : Nat) (cs : List Value), k ≤ l.length ∧ i = .int .i64 k ∧ Below w.heap.size w wr ∧ wr.ownsRow w.heap.size 61 4 v ((l.take k).flatMap F).length cs ∧ Cl (EP (Apart (fun b => ok b ∨ w.heap.size ≤ b) v) wr) 4 ((l.take k).flatMap F) cs) (fun _ i _ => l.length - (intOf i).toNat)
  case atStart => exact ⟨0, [], Nat.zero_le _, rfl, Below.refl _ _, ⟨rfl, .inl ⟨rfl, rfl⟩⟩, rfl⟩
  case round =>
    obtain ⟨k, cs, hk, rfl, hb, hown, hcs⟩ := hrel
    have WB := Lib.hid hb
    have WO := Lib.hid hown
    have WC := Lib.hid hcs
    clear hb hown hcs
    by_cases hlt : k < l.length
    · obtain ⟨b1, o1, a, rfl, hok, e1, e2, hs⟩ := HV.out k hlt
      have c1 : wr.cell? ⟨b1, o1 + k * 2, none⟩ = some a := by rw [WB.out.cell (Ap.cell_lt e1)]; exact e1
      have c2 : wr.cell? ⟨b1, o1 + k * 2 + 1, none⟩ = some (.int .i64 l[k].e) := by rw [WB.out.cell (Ap.cell_lt e2)]; exact e2
      have HA := Lib.hid hs
      have TM := Lib.hid (List.getElem_mem hlt)
      have SN := Lib.hid (HS.out k hlt)
      have TK := HT.out (k + 1)
      rw [SN.out, List.length_append] at TK
      generalize l[k] = t at *
      obtain ⟨_, a', c', rfl, _⟩ := HA.out
      go_wp2_with fail
      refine (HF.out _ ?b1 t TM.out _ (Ap.RdO.below (Ap.RdO.imp HA.out fun b hlt ho => ⟨ho, hlt⟩) ?b2)).mono ?c1
      case b1 => exact WB.out.alloc WB.out.size _
      case b2 => exact WB.out.alloc WB.out.size _
      rintro e w1 ⟨a1, c1', rfl, ht1, hb1⟩
      have B0 : Below wr.heap.size wr w1 := ((Below.refl _ _).alloc (Nat.le_refl _) _).trans (hb1.mono (by simp))
      obtain ⟨ds, hr, hc⟩ := ht1
      have hO1 := Ap.own_below WO.out B0
      obtain ⟨v2, w2, hrun, ho2, hg2, hb2, hf2⟩ := appP hO1 (Nat.le_trans WB.out.size B0.size) (Ap.RdO.rd hr) (Cl.cells _ EP.one hc) (by omega)
      have RUN := Lib.hid hrun
      have O2 := Lib.hid ho2
      have B2 := Lib.hid ((WB.out.trans (B0.mono WB.out.size)).trans hb2)
      have C2 : Hid (Cl (EP (Apart (fun b => ok b ∨ w.heap.size ≤ b) v2) w2) 4 ((l.take (k + 1)).flatMap F) (cs ++ ds)) := Lib.hid (by
        rw [SN.out]
        refine Cl.append EP.len ?_ ?_
        · refine Cl.imp (EP.map fun x m hx => apart_grow (Ap.RdO.imp hx fun b hlt ho => ?_) hg2 hf2) hc
          rcases ho with ho | ho
          · exact ⟨.inl ho.1, fun e => by have := own_old WO.out b e; omega⟩
          · have ho' : wr.heap.size + 1 ≤ b := by simpa using ho
            have := WB.out.size
            exact ⟨.inr (by omega), fun e => by have := own_old WO.out b e; omega⟩
        · exact Cl.imp (EP.map fun x m hx => apart_grow (so_below hx B0) hg2 hf2) WC.out)
      clear hrun ho2 hg2 hb2 hf2 hc hb1 hO1 B0
      go_wp2_with (at_builtin; refine Ap.wpList_append_run (by rfl) _ _ _ _ rfl _ _ rfl rfl v2 w2 RUN.out ?_)
      go_roundw
      case rel => exact ⟨k + 1, cs ++ ds, by omega, by go_num, B2.out, by rw [SN.out, List.length_append]; exact O2.out, C2.out⟩
      case measure => simp [intOf]; omega
    · have hkl : k = l.length := by omega
      subst hkl
      have O := WO.out
      have C := WC.out
      rw [List.take_length, HL.out] at O C
      have R := Ap.RdO.fresh O
      obtain ⟨_, a1, c1', hv, _⟩ := id R
      subst hv
      have OO := Lib.hid O
      have CC := Lib.hid C
      clear R O C
      go_wp2_with fail
      go_ret
      exact ⟨_, _, rfl, cs, OO.out, CC.out, WB.out⟩

set_option maxHeartbeats 2000000 in
theorem goingO_any (x y : Value) (A B : List Tr) (w : World) (hx : TsO any w x A) (hy : TsO any w y B) (hA : A.length ≤ 1000000000000) (hB : B.length ≤ 1000000000000) (hout : (going A B).length ≤ 1000000000000) :
    Calls Tryz.prog 48 #[x, y] w (OwnP any (going A B) w) := by
  have eg : ∀ args w, (callFunc 94 args).run Tryz.prog w = .ok (.enter 94 args) w := enters_of Tryz.func94 (by kernel_rfl) rfl
  have C := Lib.hid (fun ty => eachTPO 94 #[.pointer (some ⟨w.heap.size, 0, none⟩)] eg any x A (going1 B) (w.alloc (.cells #[y] ty)) (hx.below (bel1 _ _))
    (fun wr hb t ht a ha => by
      have hc : wr.cell? ⟨w.heap.size, 0, none⟩ = some y := by rw [hb.cell (p := ⟨w.heap.size, 0, none⟩) (by simp)]; exact box1_new _ _ _
      have hY := (((hy.imp (ok' := fun b => any b ∧ b < (w.alloc (.cells #[y] ty)).heap.size) fun b hlt h => ⟨h, by simp; omega⟩).below (bel1 w (.cells #[y] ty))).below hb)
      exact going1_any _ w.heap.size a y t B wr hc ha hY hB) hA hout)
  change Hid (∀ ty, Calls _ _ _ _ (OwnP any (going A B) _)) at C
  generalize going A B = L at C ⊢
  obtain ⟨_, ⟨_, a1, k1, rfl, _⟩, _⟩ := hx
  obtain ⟨_, ⟨_, a2, k2, rfl, _⟩, _⟩ := hy
  go_enter Tryz.func48, Tryz.ntmps48
  go_wp2_with fail
  refine (C.out _).mono ?_
  intro e w2 ho
  have HO := Lib.hid (ho.up (bel1 w _) fun b h => .inl h)
  obtain ⟨a4, k4, _, rfl, _, _, _⟩ := ho
  go_wp2_with fail
  go_ret
  exact HO.out


/-- One more pair behind a row of the call's own. -/
theorem way_app {ok : Nat → Prop} {w0 w : World} {a : Option Addr} {c S : Nat} {M : List Pr} {cs : List Value} (hown : w.ownsRow w0.heap.size 61 4 (.slice a M.length c) M.length cs) (hc : Cl (EP (Apart ok (.slice a M.length c)) w) 4 M cs) (hb : Below w0.heap.size w0 w) (hl : M.length ≤ 1000000000000)
    (hs : w.heap[S]? = some (.cells #[.slice none 0 0, .int .i64 3, .slice none 0 0, .int .i64 1] 61)) :
    ∃ a' c' w', (Builtin.append_ #[34, 34] 34 #[.slice a M.length c, .slice (some ⟨S, 0, none⟩) 1 1]).run Tryz.prog w = .ok (.slice a' (M ++ [way]).length c') w' ∧ PsO any w' (.slice a' (M ++ [way]).length c') (M ++ [way]) ∧ Below w0.heap.size w0 w' := by
  have hx : Ap.Rd w 4 (.slice (some ⟨S, 0, none⟩) 1 1) 1 [.slice none 0 0, .int .i64 3, .slice none 0 0, .int .i64 1] :=
    ⟨rfl, _, 1, rfl, Nat.le_refl _, fun h => (by cases h), fun _ => ⟨S, 0, rfl, fun j u hu => by simp only [World.cell?, hs, Nat.zero_add]; simpa using hu⟩⟩
  obtain ⟨v', w', hrun, ho, hg, hb', hf⟩ := appP hown hb.size hx (by intro u hu; simp at hu; rcases hu with rfl | rfl | rfl | rfl <;> rfl) (by omega)
  obtain ⟨_, a', c', hv, _⟩ := Ap.Rd.owned ho
  subst hv
  have hlen : (M ++ [way]).length = M.length + 1 := by simp
  rw [hlen]
  refine ⟨a', c', w', hrun, ⟨_, by rw [hlen]; exact Ap.RdO.imp (Ap.RdO.fresh ho) fun _ _ _ => trivial, ?_⟩, hb.trans hb'⟩
  refine Cl.append EP.len (Cl.one ⟨.slice none 0 0, .slice none 0 0, rfl, so_nil _ _, so_nil _ _⟩ rfl) (Cl.imp (EP.map fun _ _ h => so_imp (apart_grow (ok := ok) h hg hf) fun _ _ _ => trivial) hc)
end Go.Proofs.YtgaediondmdnbaaGreat.Mn

namespace Go.Proofs.YtgaediondmdnbaaGreat.Mn
open Go Go.RowKit Tr
set_option maxRecDepth 20000

/-- In blocks that were there, as ok says; in those, or in new ones. -/
def Old (ok : Nat → Prop) (w : World) (b : Nat) : Prop := ok b ∧ b < w.heap.size
def New (ok : Nat → Prop) (w : World) (b : Nat) : Prop := ok b ∨ w.heap.size ≤ b
theorem so_old {ok : Nat → Prop} {w : World} {v : Value} {l : List ByteArray} (h : StrsO ok w v l) : StrsO (Old ok w) w v l := so_imp h fun _ h ho => ⟨ho, h⟩
theorem apart_new {ok : Nat → Prop} {w wr w1 : World} {e : TypeId} {size n : Nat} {v x : Value} {cs : List Value} {l : List ByteArray} (hb : Below w.heap.size w wr) (hown : wr.ownsRow w.heap.size e size v n cs) (h : StrsO (fun b => Old ok w b ∨ wr.heap.size ≤ b) w1 x l) : StrsO (Apart (New ok w) v) w1 x l :=
  so_imp h fun b _ ho => by
    have h2 := hb.size
    refine ⟨ho.elim (fun h => .inl h.1) fun h => .inr (by omega), fun e => ?_⟩
    have h1 := own_old hown b e
    rcases ho with ho | ho
    · have := ho.2; omega
    · omega
theorem accP {ok : Nat → Prop} {w wr w1 w2 : World} {e : TypeId} {n : Nat} {v v2 : Value} {cs ds : List Value} {L M : List Pr} (hb : Below w.heap.size w wr) (hown : wr.ownsRow w.heap.size e 4 v n cs) (hc : Cl (EP (Apart (New ok w) v) wr) 4 L cs) (hb1 : Below wr.heap.size wr w1)
    (hd : Cl (EP (fun b => Old ok w b ∨ wr.heap.size ≤ b) w1) 4 M ds) (hg : w1.grownBy w2 v.ownBlock) (hf : Ap.Fresh w1 v v2) : Cl (EP (Apart (New ok w) v2) w2) 4 (L ++ M) (cs ++ ds) :=
  Cl.append EP.len (Cl.imp (EP.map fun _ _ h => apart_grow (apart_new hb hown h) hg hf) hd) (Cl.imp (EP.map fun _ _ h => apart_grow (so_below h hb1) hg hf) hc)
theorem tellP {ok : Nat → Prop} {w wr : World} {e : TypeId} {v : Value} {cs : List Value} {L : List Pr} (hown : wr.ownsRow w.heap.size e 4 v L.length cs) (hc : Cl (EP (Apart (New ok w) v) wr) 4 L cs) : PsO (New ok w) wr v L :=
  ⟨cs, Ap.RdO.imp (Ap.RdO.fresh hown) fun _ _ h => .inr h, Cl.imp (EP.map fun _ _ h => so_imp h fun _ _ h => h.1) hc⟩
end Go.Proofs.YtgaediondmdnbaaGreat.Mn

namespace Go.Proofs.YtgaediondmdnbaaGreat.Mn
open Go Go.RowKit Tr
set_option maxRecDepth 20000

end Go.Proofs.YtgaediondmdnbaaGreat.Mn

namespace Go.Proofs.YtgaediondmdnbaaGreat.Mn
open Go Go.RowKit Tr
set_option maxRecDepth 20000

end Go.Proofs.YtgaediondmdnbaaGreat.Mn

namespace Go.Proofs.YtgaediondmdnbaaGreat.Mn
open Go Go.RowKit Tr
set_option maxRecDepth 20000

end Go.Proofs.YtgaediondmdnbaaGreat.Mn

namespace Go.Proofs.YtgaediondmdnbaaGreat.Mn
open Go Go.RowKit Tr
set_option maxRecDepth 20000

end Go.Proofs.YtgaediondmdnbaaGreat.Mn

namespace Go.Proofs.YtgaediondmdnbaaGreat.Mn
open Go Go.RowKit Tr
set_option maxRecDepth 20000

end Go.Proofs.YtgaediondmdnbaaGreat.Mn

namespace Go.Proofs.YtgaediondmdnbaaGreat.Mn
open Go Go.RowKit Tr
set_option maxRecDepth 20000

end Go.Proofs.YtgaediondmdnbaaGreat.Mn

namespace Go.Proofs.YtgaediondmdnbaaGreat.Mn
open Go Go.RowKit Tr
set_option maxRecDepth 20000

theorem TsO.grow {no : Nat → Prop} {w w' : World} {v v' x : Value} {l : List Tr} (h : TsO (Apart no v) w x l) (hg : w.grownBy w' v.ownBlock) (hf : Ap.Fresh w v v') : TsO (Apart no v') w' x l := by
  obtain ⟨cs, h1, h2⟩ := h
  exact ⟨cs, Ap.RdO.grow h1 hg hf, h2.imp (ET.map fun _ _ h => Ap.RdO.grow h hg hf)⟩
theorem TsO.apart {ok : Nat → Prop} {w wr w1 : World} {e : TypeId} {size n : Nat} {v x : Value} {cs : List Value} {l : List Tr} (hb : Below w.heap.size w wr) (hown : wr.ownsRow w.heap.size e size v n cs) (h : TsO (fun b => Old ok w b ∨ wr.heap.size ≤ b) w1 x l) : TsO (Apart (New ok w) v) w1 x l :=
  h.imp fun b _ ho => by
    have h2 := hb.size
    refine ⟨ho.elim (fun h => .inl h.1) fun h => .inr (by omega), fun e => ?_⟩
    have h1 := own_old hown b e
    rcases ho with ho | ho
    · have := ho.2; omega
    · omega
end Go.Proofs.YtgaediondmdnbaaGreat.Mn

namespace Go.Proofs.YtgaediondmdnbaaGreat.Mn
open Go Go.RowKit Tr
set_option maxRecDepth 20000

end Go.Proofs.YtgaediondmdnbaaGreat.Mn

namespace Go.Proofs.YtgaediondmdnbaaGreat.Mn
open Go Go.RowKit Tr
set_option maxRecDepth 20000

end Go.Proofs.YtgaediondmdnbaaGreat.Mn
