/- The program's methods then and beside of a pair: the walks. The document's merge of pairs: the walk. The program's going: what it tells lies in a row of the call's own; the walks. The document's Settled, on, in, Ints, and rows of integers of a call's own: the walks. -/
import Derived.Test.YtekblibhaipioaaGreatQ27
import Derived.Test.YtekblibhaipioaaGreatQ06
import Derived.BigQuiet
import Derived.Deep.QuietTactic

namespace Go.Proofs.YtekblibhaipioaaGreat.Mn
open Go Go.RowKit Tr
set_option maxRecDepth 20000
set_option maxHeartbeats 2000000 in
theorem pthen1_any (T : TCon) (ok : Nat → Prop) (bx : Nat) (v1 v2 u1 u2 : Value) (x y : Pr) (w : World) (hb : BoxP w bx v1 x.p.e v2 x.q.e) (h1 : StrsO ok w v1 x.p.a) (h2 : StrsO ok w v2 x.q.a) (h3 : StrsO ok w u1 y.p.a) (h4 : StrsO ok w u2 y.q.a)
    (l1 : x.p.a.length + y.p.a.length ≤ 1000000) (l2 : y.q.a.length + x.q.a.length ≤ 1000000) :
    Calls Tryz.prog 114 #[.agg #[u1, .int .i64 y.p.e, u2, .int .i64 y.q.e], .pointer (some ⟨bx, 0, none⟩)] w (OutP ok [⟨thn x.p y.p, thn y.q x.q⟩] w) := by
  have HB := Lib.hid (fun o => bel1 w o)
  have T1 := Lib.hid (fun w1 (hb : Below w.heap.size w w1) => T.cThn v1 u1 x.p y.p w1 (so_strs (so_below h1 hb)) (so_strs (so_below h3 hb)) l1)
  have T2 := Lib.hid (fun w1 (hb : Below w.heap.size w w1) => T.cThn u2 v2 y.q x.q w1 (so_strs (so_below h4 hb)) (so_strs (so_below h2 hb)) l2)
  have hlt := Ap.cell_lt hb.1
  have HX := Lib.hid (fun w1 (hb1 : Below w.heap.size w w1) => hb.below hb1)
  obtain ⟨_, a1, k1, rfl, _⟩ := h1
  obtain ⟨_, a2, k2, rfl, _⟩ := h2
  obtain ⟨_, b1, m1, rfl, _⟩ := h3
  obtain ⟨_, b2, m2, rfl, _⟩ := h4
  generalize thn x.p y.p = s at *
  generalize thn y.q x.q = t at *
  go_enter Tryz.func114, Tryz.ntmps114
  go_wp2_with fail
  have XA := Lib.hid (fun o => HX.out _ (HB.out o).drew)
  go_region_held3 (fun w' => w'.cell? ⟨bx, 0, none⟩ = some (.slice a1 x.p.a.length k1) ∧ w'.cell? ⟨bx, 1, none⟩ = some (.int .i64 x.p.e) ∧ w'.cell? ⟨bx, 2, none⟩ = some (.slice a2 x.q.a.length k2) ∧ w'.cell? ⟨bx, 3, none⟩ = some (.int .i64 x.q.e) ∧ w'.cell? ⟨w.heap.size, 0, none⟩ = some (.slice b1 y.p.a.length m1) ∧ w'.cell? ⟨w.heap.size, 1, none⟩ = some (.int .i64 y.p.e) ∧ w'.cell? ⟨w.heap.size, 2, none⟩ = some (.slice b2 y.q.a.length m2) ∧ w'.cell? ⟨w.heap.size, 3, none⟩ = some (.int .i64 y.q.e)) (first | exact ⟨(XA.out _).1, (XA.out _).2.1, (XA.out _).2.2.1, (XA.out _).2.2.2, by simp [go_sem], by simp [go_sem], by simp [go_sem], by simp [go_sem]⟩ | exact ⟨x1.1, x1.2.1, x1.2.2.1, x1.2.2.2, kz.1, kz.2.1, kz.2.2.1, kz.2.2.2⟩ | exact ⟨x2.1, x2.2.1, x2.2.2.1, x2.2.2.2, ky.1, ky.2.1, ky.2.2.1, ky.2.2.2⟩ | exact ⟨(x3 _).1, (x3 _).2.1, (x3 _).2.2.1, (x3 _).2.2.2, (k3 _).1, (k3 _).2.1, (k3 _).2.2.1, (k3 _).2.2.2⟩ | fail) (first
    | (go_at_call 113
       (with_reducible refine (T1.out _ (HB.out _).drew).mono ?_)
       rintro e w1 ⟨v3, rfl, hm, hb1⟩
       have kz : BoxP w1 w.heap.size (.slice b1 y.p.a.length m1) y.p.e (.slice b2 y.q.a.length m2) y.q.e := BoxP.below ⟨by simp [go_sem], by simp [go_sem], by simp [go_sem], by simp [go_sem]⟩ hb1
       have B1 := Lib.hid (((HB.out _).drew).trans (hb1.mono (HB.out _).drew.size))
       have x1 := HX.out _ B1.out
       have M1 := Lib.hid (so_imp hm.1 (ok' := fun b => ok b ∨ w.heap.size ≤ b) fun b _ h => .inr (Nat.le_trans (HB.out _).drew.size h))
       obtain ⟨⟨_, a3, n3, rfl, _⟩, _⟩ := hm
       clear hb1)
    | (go_at_call 113
       (with_reducible refine (T2.out _ B1.out).mono ?_)
       rintro e w2 ⟨v4, rfl, hm, hb2⟩
       have ky := BoxP.below kz hb2
       have B2 := Lib.hid (B1.out.trans (hb2.mono B1.out.size))
       have x2 := HX.out _ B2.out
       have k3 := fun o => BoxP.below ky (bel1 w2 o)
       have x3 := fun o => BoxP.below x2 (bel1 w2 o)
       have M1' := Lib.hid (so_below M1.out hb2)
       have M2 := Lib.hid (so_imp hm.1 (ok' := fun b => ok b ∨ w.heap.size ≤ b) fun b _ h => .inr (Nat.le_trans B1.out.size h))
       obtain ⟨⟨_, a4, n4, rfl, _⟩, _⟩ := hm
       clear hb2)
    | fail)
  go_wp2_with fail
  go_ret
  exact ⟨_, _, rfl, ps_one (by simp [go_sem]) (by simp [go_sem]) (by simp [go_sem]) (by simp [go_sem]) (.inr B2.out.size) (so_below M1'.out (bel1 _ _)) (so_below M2.out (bel1 _ _)), B2.out.alloc B2.out.size _⟩
set_option maxHeartbeats 2000000 in
theorem pthen_any (T : TCon) (ok : Nat → Prop) (v1 v2 y : Value) (x : Pr) (Y : List Pr) (w : World) (h1 : StrsO ok w v1 x.p.a) (h2 : StrsO ok w v2 x.q.a) (hy : PsO ok w y Y) (hlen : Y.length ≤ 1000000000000) (hrow : ∀ t ∈ Y, x.p.a.length + t.p.a.length ≤ 1000000 ∧ t.q.a.length + x.q.a.length ≤ 1000000) :
    Calls Tryz.prog 81 #[.agg #[v1, .int .i64 x.p.e, v2, .int .i64 x.q.e], y] w (OutP ok (seq1 Y x) w) := by
  have eg : ∀ args w, (callFunc 114 args).run Tryz.prog w = .ok (.enter 114 args) w := enters_of Tryz.func114 (by kernel_rfl) rfl
  by_cases e1 : x.p.e = 1
  · have hL : seq1 Y x = Y.flatMap fun t => [⟨thn x.p t.p, thn t.q x.q⟩] := by unfold seq1; rw [if_pos e1, map_flat]
    rw [hL]
    have hfl : (Y.flatMap fun t => [(⟨thn x.p t.p, thn t.q x.q⟩ : Pr)]).length = Y.length := by rw [← map_flat, List.length_map]
    have C := Lib.hid (fun ty => eachPP 114 #[.pointer (some ⟨w.heap.size, 0, none⟩)] eg ok y Y (fun t => [⟨thn x.p t.p, thn t.q x.q⟩]) (w.alloc (.cells #[v1, .int .i64 x.p.e, v2, .int .i64 x.q.e] ty)) (hy.below (bel1 _ _))
      (fun wr hb t ht a a' ha ha' => pthen1_any T _ w.heap.size v1 v2 a a' x t wr (BoxP.below (boxP_new _ _ _ _ _ _) hb) (so_below (so_below (so_imp h1 fun b hlt h => ⟨h, by simp; omega⟩) (bel1 _ _)) hb) (so_below (so_below (so_imp h2 fun b hlt h => ⟨h, by simp; omega⟩) (bel1 _ _)) hb) ha ha' (hrow t ht).1 (hrow t ht).2) hlen (by rw [hfl]; exact hlen))
    generalize (Y.flatMap fun t => [(⟨thn x.p t.p, thn t.q x.q⟩ : Pr)]) = L at C ⊢
    rw [e1] at C ⊢
    obtain ⟨_, a1, k1, rfl, _⟩ := h1
    obtain ⟨_, a2, k2, rfl, _⟩ := h2
    obtain ⟨_, ⟨_, a3, k3, rfl, _⟩, _⟩ := hy
    clear hfl hL e1
    go_enter Tryz.func81, Tryz.ntmps81
    go_wp2_with fail
    refine (C.out _).mono ?_
    intro e w2 ho
    have HO := Lib.hid (ho.up (bel1 w _) fun b h => .inl h)
    obtain ⟨a4, k4, rfl, _, _⟩ := ho
    go_wp2_with fail
    go_ret
    exact HO.out
  · have hL : seq1 Y x = [x] := if_neg e1
    have hne : (x.p.e != 1) = true := by simp [e1]
    rw [hL]
    have H1 := Lib.hid h1
    have H2 := Lib.hid h2
    obtain ⟨_, a1, k1, rfl, _⟩ := h1
    obtain ⟨_, a2, k2, rfl, _⟩ := h2
    obtain ⟨_, ⟨_, a3, k3, rfl, _⟩, _⟩ := hy
    unfold OutP
    go_enter Tryz.func81, Tryz.ntmps81
    go_wp2_with fail
    go_ret
    refine ⟨_, _, rfl, ps_one (by simp [go_sem]) (by simp [go_sem]) (by simp [go_sem]) (by simp [go_sem]) (.inr (by omega)) (so_below (so_imp H1.out fun _ _ h => .inl h) (bel2 _ _ _)) (so_below (so_imp H2.out fun _ _ h => .inl h) (bel2 _ _ _)), bel2 _ _ _⟩
end Go.Proofs.YtekblibhaipioaaGreat.Mn

namespace Go.Proofs.YtekblibhaipioaaGreat.Mn
open Go Go.RowKit Tr
set_option maxRecDepth 20000
end Go.Proofs.YtekblibhaipioaaGreat.Mn

namespace Go.Proofs.YtekblibhaipioaaGreat.Mn
open Go Go.RowKit Tr
set_option maxRecDepth 20000
def OwnP (ok : Nat → Prop) (l : List Pr) (w : World) (e : Ending) (w' : World) : Prop :=
  ∃ a c cs, e = .returned (.slice a l.length c) ∧ w'.ownsRow w.heap.size 34 4 (.slice a l.length c) l.length cs ∧ Cl (EP (Apart (fun b => ok b ∨ w.heap.size ≤ b) (.slice a l.length c)) w') 4 l cs ∧ Below w.heap.size w w'
theorem OwnP.up {ok ok' : Nat → Prop} {l : List Pr} {w w1 w2 : World} {e : Ending} (h : OwnP ok' l w1 e w2) (hb : Below w.heap.size w w1) (hi : ∀ b, ok' b → ok b ∨ w.heap.size ≤ b) : OwnP ok l w e w2 := by
  obtain ⟨a, c, cs, rfl, ho, hc, hb'⟩ := h
  have := hb.size
  exact ⟨a, c, cs, rfl, Ap.own_base ho hb.size, hc.imp (EP.map fun _ _ h => so_imp h fun b _ h => ⟨h.1.elim (hi b) fun h => .inr (by omega), h.2⟩), hb.trans (hb'.mono hb.size)⟩
set_option maxHeartbeats 4000000 in
theorem eachTPO (fn : Nat) (caps : Array Value) (eg : ∀ args w, (callFunc fn args).run Tryz.prog w = .ok (.enter fn args) w) (ok : Nat → Prop) (x : Value) (l : List Tr) (F : Tr → List Pr) (w : World) (hx : TsO ok w x l)
    (hF : ∀ wr, Below w.heap.size w wr → ∀ t ∈ l, ∀ a, StrsO (fun b => ok b ∧ b < w.heap.size) wr a t.a → Calls Tryz.prog fn (#[.agg #[a, .int .i64 t.e]] ++ caps) wr (OutP (fun b => ok b ∧ b < w.heap.size) (F t) wr))
    (hl : l.length ≤ 1000000000000) (hlen : (l.flatMap F).length ≤ 1000000000000) :
    Calls Tryz.prog 74 #[x, .func (.func fn) #[] caps] w (OwnP ok (l.flatMap F) w) := by
  obtain ⟨ax, cx, rfl, _, hval⟩ := hx.val
  have HV := Lib.hid hval
  have HF := Lib.hid hF
  have HT := Lib.hid (flat_take F l)
  have HS := Lib.hid (flat_snoc F l)
  obtain ⟨L, hL⟩ : ∃ L, l.flatMap F = L := ⟨_, rfl⟩
  rw [hL] at HT hlen ⊢
  unfold OwnP
  have HL := Lib.hid hL
  clear hval hF hx hL
  go_enter Tryz.func74, Tryz.ntmps74
  go_wp2_with fail
  go_loopw [5, 10] (fun v i wr => ∃ (k : Nat) (cs : List Value), k ≤ l.length ∧ i = .int .i64 k ∧ Below w.heap.size w wr ∧ wr.ownsRow w.heap.size 34 4 v ((l.take k).flatMap F).length cs ∧ Cl (EP (Apart (fun b => ok b ∨ w.heap.size ≤ b) v) wr) 4 ((l.take k).flatMap F) cs) (fun _ i _ => l.length - (intOf i).toNat)
  case atStart => exact ⟨0, [], Nat.zero_le _, rfl, Below.refl _ _, ⟨rfl, .inl ⟨rfl, rfl⟩⟩, rfl⟩
  case round =>
    obtain ⟨k, cs, hk, rfl, hb, hown, hcs⟩ := hrel
    have WB := Lib.hid hb
    have WO := Lib.hid hown
    have WC := Lib.hid hcs
    clear hb hown hcs
    by_cases hlt : k < l.length
    · obtain ⟨b1, o1, a, rfl, hok, e1, e2, hs⟩ := HV.out k hlt
      have c1 : wr.cell? ⟨b1, o1 + k * 2, none⟩ = some a := by rw [WB.out.cell (Ap.cell_lt e1)]; exact e1
      have c2 : wr.cell? ⟨b1, o1 + k * 2 + 1, none⟩ = some (.int .i64 l[k].e) := by rw [WB.out.cell (Ap.cell_lt e2)]; exact e2
      have HA := Lib.hid hs
      have TM := Lib.hid (List.getElem_mem hlt)
      have SN := Lib.hid (HS.out k hlt)
      have TK := HT.out (k + 1)
      rw [SN.out, List.length_append] at TK
      generalize l[k] = t at *
      obtain ⟨_, a', c', rfl, _⟩ := HA.out
      go_wp2_with fail
      refine (HF.out _ ?b1 t TM.out _ (Ap.RdO.below (Ap.RdO.imp HA.out fun b hlt ho => ⟨ho, hlt⟩) ?b2)).mono ?c1
      case b1 => exact WB.out.alloc WB.out.size _
      case b2 => exact WB.out.alloc WB.out.size _
      rintro e w1 ⟨a1, c1', rfl, ht1, hb1⟩
      have B0 : Below wr.heap.size wr w1 := ((Below.refl _ _).alloc (Nat.le_refl _) _).trans (hb1.mono (by simp))
      obtain ⟨ds, hr, hc⟩ := ht1
      have hO1 := Ap.own_below WO.out B0
      obtain ⟨v2, w2, hrun, ho2, hg2, hb2, hf2⟩ := appP hO1 (Nat.le_trans WB.out.size B0.size) (Ap.RdO.rd hr) (Cl.cells _ EP.one hc) (by omega)
      have RUN := Lib.hid hrun
      have O2 := Lib.hid ho2
      have B2 := Lib.hid ((WB.out.trans (B0.mono WB.out.size)).trans hb2)
      have C2 : Hid (Cl (EP (Apart (fun b => ok b ∨ w.heap.size ≤ b) v2) w2) 4 ((l.take (k + 1)).flatMap F) (cs ++ ds)) := Lib.hid (by
        rw [SN.out]
        refine Cl.append EP.len ?_ ?_
        · refine Cl.imp (EP.map fun x m hx => apart_grow (Ap.RdO.imp hx fun b hlt ho => ?_) hg2 hf2) hc
          rcases ho with ho | ho
          · exact ⟨.inl ho.1, fun e => by have := own_old WO.out b e; omega⟩
          · have ho' : wr.heap.size + 1 ≤ b := by simpa using ho
            have := WB.out.size
            exact ⟨.inr (by omega), fun e => by have := own_old WO.out b e; omega⟩
        · exact Cl.imp (EP.map fun x m hx => apart_grow (so_below hx B0) hg2 hf2) WC.out)
      clear hrun ho2 hg2 hb2 hf2 hc hb1 hO1 B0
      go_wp2_with (at_builtin; refine Ap.wpList_append_run (by rfl) _ _ _ _ rfl _ _ rfl rfl v2 w2 RUN.out ?_)
      go_roundw
      case rel => exact ⟨k + 1, cs ++ ds, by omega, by go_num, B2.out, by rw [SN.out, List.length_append]; exact O2.out, C2.out⟩
      case measure => simp [intOf]; omega
    · have hkl : k = l.length := by omega
      subst hkl
      have O := WO.out
      have C := WC.out
      rw [List.take_length, HL.out] at O C
      have R := Ap.RdO.fresh O
      obtain ⟨_, a1, c1', hv, _⟩ := id R
      subst hv
      have OO := Lib.hid O
      have CC := Lib.hid C
      clear R O C
      go_wp2_with fail
      go_ret
      exact ⟨_, _, rfl, cs, OO.out, CC.out, WB.out⟩
set_option maxHeartbeats 2000000 in
theorem goingO_any (x y : Value) (A B : List Tr) (w : World) (hx : TsO any w x A) (hy : TsO any w y B) (hA : A.length ≤ 1000000000000) (hB : B.length ≤ 1000000000000) (hout : (going A B).length ≤ 1000000000000) :
    Calls Tryz.prog 42 #[x, y] w (OwnP any (going A B) w) := by
  have eg : ∀ args w, (callFunc 75 args).run Tryz.prog w = .ok (.enter 75 args) w := enters_of Tryz.func75 (by kernel_rfl) rfl
  have C := Lib.hid (fun ty => eachTPO 75 #[.pointer (some ⟨w.heap.size, 0, none⟩)] eg any x A (going1 B) (w.alloc (.cells #[y] ty)) (hx.below (bel1 _ _))
    (fun wr hb t ht a ha => by
      have hc : wr.cell? ⟨w.heap.size, 0, none⟩ = some y := by rw [hb.cell (p := ⟨w.heap.size, 0, none⟩) (by simp)]; exact box1_new _ _ _
      have hY := (((hy.imp (ok' := fun b => any b ∧ b < (w.alloc (.cells #[y] ty)).heap.size) fun b hlt h => ⟨h, by simp; omega⟩).below (bel1 w (.cells #[y] ty))).below hb)
      exact going1_any _ w.heap.size a y t B wr hc ha hY hB) hA hout)
  change Hid (∀ ty, Calls _ _ _ _ (OwnP any (going A B) _)) at C
  generalize going A B = L at C ⊢
  obtain ⟨_, ⟨_, a1, k1, rfl, _⟩, _⟩ := hx
  obtain ⟨_, ⟨_, a2, k2, rfl, _⟩, _⟩ := hy
  go_enter Tryz.func42, Tryz.ntmps42
  go_wp2_with fail
  refine (C.out _).mono ?_
  intro e w2 ho
  have HO := Lib.hid (ho.up (bel1 w _) fun b h => .inl h)
  obtain ⟨a4, k4, _, rfl, _, _, _⟩ := ho
  go_wp2_with fail
  go_ret
  exact HO.out
theorem way_app {ok : Nat → Prop} {w0 w : World} {a : Option Addr} {c S : Nat} {M : List Pr} {cs : List Value} (hown : w.ownsRow w0.heap.size 34 4 (.slice a M.length c) M.length cs) (hc : Cl (EP (Apart ok (.slice a M.length c)) w) 4 M cs) (hb : Below w0.heap.size w0 w) (hl : M.length ≤ 1000000000000)
    (hs : w.heap[S]? = some (.cells #[.slice none 0 0, .int .i64 3, .slice none 0 0, .int .i64 1] 34)) :
    ∃ a' c' w', (Builtin.append_ #[26, 26] 26 #[.slice a M.length c, .slice (some ⟨S, 0, none⟩) 1 1]).run Tryz.prog w = .ok (.slice a' (M ++ [way]).length c') w' ∧ PsO any w' (.slice a' (M ++ [way]).length c') (M ++ [way]) ∧ Below w0.heap.size w0 w' := by
  have hx : Ap.Rd w 4 (.slice (some ⟨S, 0, none⟩) 1 1) 1 [.slice none 0 0, .int .i64 3, .slice none 0 0, .int .i64 1] :=
    ⟨rfl, _, 1, rfl, Nat.le_refl _, fun h => (by cases h), fun _ => ⟨S, 0, rfl, fun j u hu => by simp only [World.cell?, hs, Nat.zero_add]; simpa using hu⟩⟩
  obtain ⟨v', w', hrun, ho, hg, hb', hf⟩ := appP hown hb.size hx (by intro u hu; simp at hu; rcases hu with rfl | rfl | rfl | rfl <;> rfl) (by omega)
  obtain ⟨_, a', c', hv, _⟩ := Ap.Rd.owned ho
  subst hv
  have hlen : (M ++ [way]).length = M.length + 1 := by simp
  rw [hlen]
  refine ⟨a', c', w', hrun, ⟨_, by rw [hlen]; exact Ap.RdO.imp (Ap.RdO.fresh ho) fun _ _ _ => trivial, ?_⟩, hb.trans hb'⟩
  refine Cl.append EP.len (Cl.one ⟨.slice none 0 0, .slice none 0 0, rfl, so_nil _ _, so_nil _ _⟩ rfl) (Cl.imp (EP.map fun _ _ h => so_imp (apart_grow (ok := ok) h hg hf) fun _ _ _ => trivial) hc)
end Go.Proofs.YtekblibhaipioaaGreat.Mn

namespace Go.Proofs.YtekblibhaipioaaGreat.Do
open Go Go.RowKit Rw So Se
set_option maxRecDepth 20000
theorem infoInt : (Tryz.prog.info? 3).map (fun i => (i.zero, i.size, i.bytes)) = some (some (.int .i64 0), 1, 8) := by kernel_rfl
def GotJ (base : Nat) (w : World) (v : Value) (l : List Int) : Prop := w.ownsRow base 3 1 v l.length (l.map (.int .i64)) ∧ base ≤ w.heap.size
theorem GotJ.ints {base : Nat} {w : World} {v : Value} {l : List Int} (h : GotJ base w v l) : Ints w v l := Ap.Rd.owned h.1
theorem GotJ.start (base : Nat) (w : World) (hb : base ≤ w.heap.size) : GotJ base w (.slice none 0 0) [] := ⟨⟨rfl, .inl ⟨rfl, rfl⟩⟩, hb⟩
theorem GotJ.below {base : Nat} {w w' : World} {v : Value} {l : List Int} (h : GotJ base w v l) (hb : Below w.heap.size w w') : GotJ base w' v l := ⟨Ap.own_below h.1 hb, Nat.le_trans h.2 hb.size⟩
theorem GotJ.slice {base : Nat} {w : World} {v : Value} {l : List Int} (h : GotJ base w v l) : ∃ a c, v = .slice a l.length c := by
  obtain ⟨_, a, c, e, -⟩ := h.ints
  exact ⟨a, c, e⟩
theorem GotJ.row {base : Nat} {w : World} {v y : Value} {l m : List Int} (h : GotJ base w v l) (hy : Ints w y m) (hl : l.length + m.length ≤ 2000000) :
    ∃ v' w', (Builtin.append_ #[46, 46] 46 #[v, y]).run Tryz.prog w = .ok v' w' ∧ GotJ base w' v' (l ++ m) ∧ Below base w w' := by
  obtain ⟨i0, hi, hz, hs1, hb8⟩ := info_parts infoInt
  obtain ⟨v', w', h1, h2, _, h4, _⟩ := Ap.run_append_rd (P := Tryz.prog) (ty := 46) Tryz.underlying46 hi hz hs1 hb8 (by rfl) (by omega) h.1 h.2 hy
    (by intro u hu; obtain ⟨x, _, rfl⟩ := List.mem_map.1 hu; rfl) (by unfold maxLen; omega) (by omega)
  exact ⟨v', w', h1, ⟨by rw [List.length_append, List.map_append]; exact h2, Nat.le_trans h.2 h4.size⟩, h4⟩
theorem int_new (w : World) (x : Int) (ty : TypeId) : Ints (w.alloc (.cells #[.int .i64 x] ty)) (.slice (some ⟨w.heap.size, 0, none⟩) 1 1) [x] := by
  refine ⟨rfl, some ⟨w.heap.size, 0, none⟩, 1, rfl, Nat.le_refl _, fun h => (by cases h), fun _ => ⟨w.heap.size, 0, rfl, fun j u hu => ?_⟩⟩
  rw [Nat.zero_add, World.cell?_alloc_new]
  simpa using hu
theorem ints_nil (w : World) : Ints w (.slice none 0 0) [] := ⟨rfl, none, 0, rfl, Nat.le_refl _, fun _ => ⟨rfl, rfl⟩, fun h => absurd h (Nat.lt_irrefl 0)⟩
theorem AtI.below {w w' : World} {b off : Nat} {l : List Int} (h : AtI w b off l) (hb : Below w.heap.size w w') : AtI w' b off l := fun k hk => by
  rw [hb.cell (Ap.cell_lt (h k hk))]
  exact h k hk
def sameJ (l m : List Int) : Bool := decide (l = m)
theorem sameJ_at {l m : List Int} {k : Nat} (h1 : k < l.length) (h2 : k < m.length) : sameJ (l.drop k) (m.drop k) = (decide (l[k] = m[k]) && sameJ (l.drop (k + 1)) (m.drop (k + 1))) := by
  unfold sameJ
  rw [List.drop_eq_getElem_cons h1, List.drop_eq_getElem_cons h2, Bool.eq_iff_iff]
  simp only [decide_eq_true_eq, Bool.and_eq_true, List.cons.injEq]
set_option maxHeartbeats 400000 in
theorem ints_other (a1 a2 : Option Addr) (c1 c2 n m : Nat) (w : World) (h : n ≠ m) :
    Calls Tryz.prog 16 #[.slice a1 n c1, .slice a2 m c2] w fun e w' => e = .returned (.bool false) ∧ Below w.heap.size w w' := by
  have hne : ((n : Int) == (m : Int)) = false := by rw [beq_eq_false_iff_ne]; omega
  have hne' : ((n : Int) != (m : Int)) = true := by rw [bne_iff_ne]; omega
  go_enter Tryz.func16, Tryz.ntmps16
  go_wp2_with fail
  go_ret
  exact ⟨rfl, Below.refl _ _⟩
set_option maxHeartbeats 400000 in
theorem ints_empty (a1 a2 : Option Addr) (c1 c2 : Nat) (w : World) :
    Calls Tryz.prog 16 #[.slice a1 0 c1, .slice a2 0 c2] w fun e w' => e = .returned (.bool true) ∧ Below w.heap.size w w' := by
  go_enter Tryz.func16, Tryz.ntmps16
  go_wp2_with fail
  refine Go.wp_loop_rounds 1 ?_
  rw [rounds_succ]
  go_wp2_with fail
  go_ret
  exact ⟨rfl, Below.refl _ _⟩
set_option maxHeartbeats 2000000 in
theorem ints_cells (b1 o1 c1 b2 o2 c2 : Nat) (l m : List Int) (w : World) (hl : l.length ≤ 1000000) (he : m.length = l.length) (h1 : AtI w b1 o1 l) (h2 : AtI w b2 o2 m) :
    Calls Tryz.prog 16 #[.slice (some ⟨b1, o1, none⟩) l.length c1, .slice (some ⟨b2, o2, none⟩) l.length c2] w fun e w' => e = .returned (.bool (sameJ l m)) ∧ Below w.heap.size w w' := by
  have H1 := Lib.hid h1
  have H2 := Lib.hid h2
  have HE := Lib.hid he
  clear h1 h2 he
  go_enter Tryz.func16, Tryz.ntmps16
  go_wp2_with fail
  go_loopw [5] (fun i wr => ∃ k : Nat, k ≤ l.length ∧ i = .int .i64 k ∧ Hid (Below w.heap.size w wr) ∧ Hid (sameJ l m = sameJ (l.drop k) (m.drop k))) (fun i _ => l.length - (intOf i).toNat)
  case atStart => exact ⟨0, Nat.zero_le _, rfl, Lib.hid (Below.refl _ _), Lib.hid rfl⟩
  case round =>
    obtain ⟨k, hk, rfl, HB, HS⟩ := hrel
    by_cases hlt : k < l.length
    · have hlt2 : k < m.length := by rw [HE.out]; exact hlt
      have e1 := H1.out k hlt
      have e2 := H2.out k hlt2
      have d1 : wr.cell? ⟨b1, o1 + k, none⟩ = some (.int .i64 l[k]) := by rw [HB.out.cell (Ap.cell_lt e1)]; exact e1
      have d2 : wr.cell? ⟨b2, o2 + k, none⟩ = some (.int .i64 m[k]) := by rw [HB.out.cell (Ap.cell_lt e2)]; exact e2
      have HA := Lib.hid (HS.out.trans (sameJ_at hlt hlt2))
      clear e1 e2
      obtain ⟨u, hu⟩ : ∃ u, l[k] = u := ⟨_, rfl⟩
      obtain ⟨v, hv⟩ : ∃ v, m[k] = v := ⟨_, rfl⟩
      rw [hu] at d1 HA
      rw [hv] at d2 HA
      clear hu hv
      by_cases huv : u = v
      · have hq : (u == v) = true := by simpa using huv
        have hq2 : (u != v) = false := by rw [bne, hq]; rfl
        have HV := Lib.hid huv
        clear huv
        go_wp2_with fail
        go_quiet (fail)
        go_wp2_with fail
        go_roundw
        case rel => exact ⟨k + 1, by omega, by go_num, Lib.hid (HB.out.trans (Below.drewN _ _ _)), Lib.hid (by rw [HA.out, decide_eq_true HV.out, Bool.true_and])⟩
        case measure => simp [intOf]; omega
      · have hq : (u == v) = false := beq_eq_false_iff_ne.2 huv
        have hq2 : (u != v) = true := by rw [bne, hq]; rfl
        have HV := Lib.hid huv
        clear huv
        go_wp2_with fail
        go_quiet (fail)
        go_wp2_with fail
        go_ret
        exact ⟨ret_bool (by rw [HA.out, decide_eq_false HV.out, Bool.false_and]), HB.out.trans (Below.drewN _ _ _)⟩
    · go_wp2_with fail
      go_ret
      refine ⟨ret_bool ?_, HB.out⟩
      rw [HS.out, List.drop_eq_nil_of_le (by omega), List.drop_eq_nil_of_le (by rw [HE.out]; omega)]
      rfl
theorem intsR_any (x y : Value) (l m : List Int) (w : World) (hx : Ints w x l) (hy : Ints w y m) (hl : l.length ≤ 1000000) :
    Calls Tryz.prog 16 #[x, y] w fun e w' => e = .returned (.bool (sameJ l m)) ∧ Below w.heap.size w w' := by
  by_cases he : l.length = m.length
  · rcases hx.form with ⟨rfl, a, cap, rfl⟩ | ⟨b, off, cap, rfl, _, hc⟩
    · obtain rfl : m = [] := List.eq_nil_of_length_eq_zero he.symm
      obtain ⟨_, a', cap', rfl, _⟩ := hy
      exact ints_empty a a' cap cap' w
    · rcases hy.form with ⟨rfl, a', cap', rfl⟩ | ⟨b', off', cap', rfl, _, hc'⟩
      · obtain rfl : l = [] := List.eq_nil_of_length_eq_zero he
        exact ints_empty _ a' cap cap' w
      · rw [← he]
        exact ints_cells b off cap b' off' cap' l m w hl he.symm hc hc'
  · rw [show sameJ l m = false from decide_eq_false fun e => he (by rw [e])]
    obtain ⟨_, a, cap, rfl, _⟩ := hx
    obtain ⟨_, a', cap', rfl, _⟩ := hy
    exact ints_other a a' cap cap' l.length m.length w he
end Go.Proofs.YtekblibhaipioaaGreat.Do
