/- The program's Play. -/
import Derived.Test.YtpingbiibbmcaaaGreatQ28
import Derived.Test.YtpingbiibbmcaaaGreatQ31
import Derived.Test.YtpingbiibbmcaaaGreatQ30
import Derived.Test.YtpingbiibbmcaaaGreatQ09

namespace Go.Proofs.YtpingbiibbmcaaaGreat.Ru
open Go Go.RowKit Go.Proofs.YtpingbiibbmcaaaGreat.Rw Go.Proofs.YtpingbiibbmcaaaGreat.So Go.Proofs.YtpingbiibbmcaaaGreat.Se Go.Proofs.YtpingbiibbmcaaaGreat.Tr Go.Proofs.YtpingbiibbmcaaaGreat.Mn Go.Proofs.YtpingbiibbmcaaaGreat.Do Go.Proofs.YtpingbiibbmcaaaGreat.Sp Go.Proofs.YtpingbiibbmcaaaGreat.Me Go.Proofs.YtpingbiibbmcaaaGreat.St
set_option maxRecDepth 20000

/-- A run in a block of three cells, its actions a row of the call's own. -/
def RB (T : TypeId) (w0 w : World) (b : Nat) (r : Rn) : Prop := ∃ y a, w.heap[b]? = some (.cells #[y, a, .int .i64 r.n] T (0, 0)) ∧ Nds w y r.l ∧ w.ownsRow (b + 1) 9 1 a r.a.length (r.a.map .string) ∧ Below w0.heap.size w0 w ∧ w0.heap.size < b ∧ StrB w a
theorem heap_lt {w : World} {b : Nat} {o : Obj} (h : w.heap[b]? = some o) : b < w.heap.size := (Array.getElem?_eq_some_iff.1 h).1
theorem RB.cells {T : TypeId} {w : World} {b : Nat} {x y z : Value} (h : w.heap[b]? = some (.cells #[x, y, z] T (0, 0))) : w.cell? ⟨b, 0, none⟩ = some x ∧ w.cell? ⟨b, 1, none⟩ = some y ∧ w.cell? ⟨b, 2, none⟩ = some z ∧ w.frozen? ⟨b, 0, none⟩ = false ∧ w.frozen? ⟨b, 1, none⟩ = false ∧ w.frozen? ⟨b, 2, none⟩ = false := by
  refine ⟨?_, ?_, ?_, ?_, ?_, ?_⟩ <;> simp [World.cell?, World.frozen?, h]
abbrev put3 (w : World) (b : Nat) (x y z : Value) : World := ((w.setCell ⟨b, 0, none⟩ x).setCell ⟨b, 1, none⟩ y).setCell ⟨b, 2, none⟩ z
theorem put3_heap {T : TypeId} {w : World} {b : Nat} {x y z : Value} (h : w.heap[b]? = some (.cells #[x, y, z] T (0, 0))) (x' y' z' : Value) : (put3 w b x' y' z').heap[b]? = some (.cells #[x', y', z'] T (0, 0)) := by
  simp only [World.setCell, Array.getElem?_modify, if_true, h]
  rfl
theorem put3_by (w : World) (b : Nat) (x y z : Value) : w.grownBy (put3 w b x y z) (some b) :=
  ⟨rfl, rfl, rfl, by simp [World.setCell], fun k _ hk => by rw [Below.heap_setCell _ _ _ k fun e => hk (by rw [e]), Below.heap_setCell _ _ _ k fun e => hk (by rw [e]), Below.heap_setCell _ _ _ k fun e => hk (by rw [e])]⟩
/-- One step more. -/
theorem RB.next {T : TypeId} {w0 w w5 : World} {b : Nat} {r : Rn} {x y z y' a' : Value} {L : List Nd} {D : List ByteArray} (hg : w.heap[b]? = some (.cells #[x, y, z] T (0, 0))) (hn : ∀ u ∈ (#[x, y, z] : Array Value).toList, ∀ s, u ≠ .string s) (hb : Below (b + 1) w w5) (hk : Nds w5 y' L) (hS : StrB w5 a') (ho : w5.ownsRow (b + 1) 9 1 a' (r.a ++ D).length ((r.a ++ D).map .string)) (h0 : Below w0.heap.size w0 w) (hlt : w0.heap.size < b) :
    RB T w0 (put3 w5 b y' a' (.int .i64 ((r.n : Int) + 1))) b ⟨L, r.a ++ D, r.n + 1⟩ := by
  have h5 : w5.heap[b]? = some (.cells #[x, y, z] T (0, 0)) := (hb.block _ (by omega)).trans hg
  have hne : a'.ownBlock = none ∨ a'.ownBlock ≠ some b := by
    rcases ho.2 with ⟨rfl, _⟩ | ⟨g, cap, cur, rfl, hbg, _⟩
    · exact .inl rfl
    · refine .inr fun e => ?_
      have : g = b := Option.some.inj e
      omega
  refine ⟨y', a', put3_heap h5 _ _ _, nds_off hk h5 hn (put3_by _ _ _ _ _), ho.kept (put3_by _ _ _ _ _) hne, ?_, hlt, hS.by (put3_by _ _ _ _ _) (fun e => hne.elim (fun h => by rw [h] at e; cases e) fun h => h e)⟩
  · exact (h0.trans (hb.mono (by omega))).grown (put3_by _ _ _ _ _) (by have := h0.size; have := hb.size; omega) (fun k hk => by cases hk; exact Nat.le_of_lt hlt)
theorem play_take {l : List Nd} {ps : List Int} {k : Nat} (h : k < ps.length) : play l (ps.take (k + 1)) = stepR (play l (ps.take k)) ps[k] := by
  unfold play
  rw [List.take_succ_eq_append_getElem h, List.foldl_append]
  rfl
theorem fold_a : ∀ (ps : List Int) (r : Rn), (ps.foldl stepR r).a.length ≤ r.a.length + ps.length ∧ (ps.foldl stepR r).n ≤ r.n + ps.length
  | [], r => ⟨Nat.le_refl _, Nat.le_refl _⟩
  | z :: ps, r => by
    rw [List.foldl_cons]
    have h := fold_a ps (stepR r z)
    have h1 : (stepR r z).a.length ≤ r.a.length + 1 ∧ (stepR r z).n ≤ r.n + 1 := by
      unfold stepR
      split
      · exact ⟨by omega, by omega⟩
      · refine ⟨?_, Nat.le_refl _⟩
        show (if _ then _ else _ : List ByteArray).length ≤ _
        split <;> simp
    rw [List.length_cons]
    omega
theorem play_a (l : List Nd) (ps : List Int) : (play l ps).a.length ≤ ps.length := by
  have := (fold_a ps ⟨l, [], 0⟩).1
  unfold play
  simpa using this
theorem play_stop {l : List Nd} {ps : List Int} {k : Nat} (h : enR (play l (ps.take k)).l = []) : play l ps = play l (ps.take k) := by
  conv => lhs; rw [← List.take_append_drop k ps]
  unfold play
  rw [List.foldl_append]
  exact fold_stop _ h
theorem step_did {r : Rn} {z : Int} (h : enR r.l ≠ []) : stepR r z = ⟨nxL r.l (pkM r.l z), r.a ++ didR r.l (pkM r.l z), r.n + 1⟩ := by
  rw [stepR_go h]
  unfold didR
  split <;> simp
theorem pkE_stop {l : List Nd} (h : enR l = []) : pkE l = 120 := by unfold pkE; rw [h]; rfl
theorem pkE_go {l : List Nd} (h : enR l ≠ []) : pkE l = 0 := by
  unfold pkE
  rw [if_neg (fun e => h (List.eq_nil_of_length_eq_zero e))]
abbrev r0 (T : TypeId) : Obj := .cells #[.slice none 0 0, .slice none 0 0, .int .i64 0] T (0, 0)
/-- What each operation of the region yields. -/
def PlV (rb xb : Nat) (aa db yb va5 : Option Addr) (ac dbc ybc vc5 sn : Nat) (R : Rn) (D2 : List ByteArray) (L2 : List Nd) (k : Nat) : Value := match k with
  | 0 => .pointer (some ⟨xb, 0, none⟩)
  | 1 => .slice yb L2.length ybc
  | 2 => .pointer (some ⟨rb, 1, none⟩)
  | 3 => .slice aa R.a.length ac
  | 4 => .pointer (some ⟨xb, 1, none⟩)
  | 5 => .slice db D2.length dbc
  | 6 => .slice va5 sn vc5
  | 7 => .pointer (some ⟨rb, 2, none⟩)
  | 8 => .int .i64 R.n
  | 9 => .int .i64 ((R.n : Int) + 1)
  | 10 => .agg #[.slice yb L2.length ybc, .slice va5 sn vc5, .int .i64 ((R.n : Int) + 1)]
  | 11 => undef
  | _ => undef
set_option maxHeartbeats 8000000 in
theorem playP_any (v pv : Value) (l : List Nd) (ps : List Int) (w : World) (hv : Nds w v l) (hp : Rw.Ints w pv ps) (hl : l.length ≤ 1000) (hm : Nms l) (hps : ps.length ≤ 1000) (hin : ∀ z ∈ ps, In64 z) :
    Calls Tryz.prog 7 #[v, pv] w (PlP (play l ps) w) := by
  have HC := Lib.hid (fun w1 (hb : Below w.heap.size w w1) => Rx.clone_any v l w1 (hv.below hb) (by omega))
  obtain ⟨_, pa, pc, rfl, _⟩ := id hp
  obtain ⟨_, va, vc, rfl, _⟩ := id hv
  have B0 := Lib.hid (Rw.below1 w (.cells #[.slice none 0 0, .slice none 0 0, .int .i64 0] 29))
  have HP := Lib.hid hp
  clear hp hv
  go_enter Tryz.func7, Tryz.ntmps7
  go_wp2_with fail
  refine (HC.out _ B0.out).mono ?_
  rintro e w1 ⟨y1, rfl, hown, hb1⟩
  have HY := Lib.hid (show Nds w1 y1 l from Ap.Rd.owned hown)
  obtain ⟨_, ya, yc, rfl, _⟩ := id HY.out
  have D1 := Lib.hid (B0.out.trans (hb1.mono B0.out.size))
  have hs1 : w.heap.size < w1.heap.size := by have := hb1.size; simp at this; omega
  have GZ : Hid ((w1.alloc (.cells #[.slice ya l.length yc, .slice none 0 0, .int .i64 0] 29)).heap[w.heap.size]? = some (r0 29)) := by
    have h0 := Rx.heap_newK w (.cells #[.slice none 0 0, .slice none 0 0, .int .i64 0] 29)
    have h1 := (hb1.block _ (heap_lt h0)).trans h0
    exact Lib.hid (((Rw.below1 w1 _).block _ (heap_lt h1)).trans h1)
  clear hown hb1
  have R0 : Hid (RB 29 w (w1.alloc (.cells #[.slice ya l.length yc, .slice none 0 0, .int .i64 0] 29)) w1.heap.size (play l (ps.take 0))) :=
    Lib.hid ⟨_, _, Rx.heap_newK w1 _, HY.out.below (Rw.below1 w1 _), ⟨rfl, .inl ⟨rfl, rfl⟩⟩, D1.out.alloc D1.out.size _, hs1, StrB.nil _⟩
  have G0 : Hid ((w1.alloc (.cells #[.slice ya l.length yc, .slice none 0 0, .int .i64 0] 29)).heap[w.heap.size]? = some (r0 29)) := GZ
  clear D1 HY HC B0 GZ
  go_wp2_with fail
  obtain ⟨rb, hrb⟩ : ∃ rb, w1.heap.size = rb := ⟨_, rfl⟩
  rw [hrb] at R0 ⊢
  clear hrb
  go_loopw [16] (fun i wr => ∃ k : Nat, k ≤ ps.length ∧ i = .int .i64 k ∧ Hid (RB 29 w wr rb (play l (ps.take k))) ∧ Hid (wr.heap[w.heap.size]? = some (r0 29))) (fun i _ => ps.length - (intOf i).toNat)
  case atStart => exact ⟨0, Nat.zero_le _, rfl, R0, G0⟩
  case round =>
    obtain ⟨k, hk, rfl, HR, HG⟩ := hrel
    have hlen := play_len hl hm (ps.take k)
    have hal := play_a l (ps.take k)
    have hnn := (play_n l (ps.take k)).1
    have hkt : (ps.take k).length ≤ k := by rw [List.length_take]; omega
    have HS := Lib.hid (fun h => play_stop (l := l) (ps := ps) (k := k) h)
    have HT := Lib.hid (fun h => play_take (l := l) (ps := ps) (k := k) h)
    have HZ := Lib.hid (fun h : ¬ k < ps.length => show play l ps = play l (ps.take k) by rw [List.take_of_length_le (by omega)])
    generalize play l (ps.take k) = R at *
    obtain ⟨y, a, g0, hy, ho, hb, hle, hS⟩ := HR.out
    obtain ⟨c0, c1, c2, f0, f1, f2⟩ := RB.cells g0
    obtain ⟨d0, d1, d2, e0, e1, e2⟩ := RB.cells HG.out
    obtain ⟨_, ya2, yc2, rfl, _⟩ := id hy
    obtain ⟨_, aa, ac, rfl, _⟩ := id (Ap.Rd.owned ho)
    by_cases hlt : k < ps.length
    · rcases HP.out.form with ⟨hz, _⟩ | ⟨pb, po, pcc, hpv, _, hpat⟩
      · rw [hz] at hlt; simp at hlt
      injection hpv with hx1 hx2 hx3
      subst hx1
      have p0 := hpat k hlt
      have p1 : wr.cell? ⟨pb, po + k, none⟩ = some (.int .i64 ps[k]) := by rw [hb.cell (Ap.cell_lt p0)]; exact p0
      have HIN := Lib.hid (hin _ (List.getElem_mem hlt))
      replace HT := Lib.hid (HT.out hlt)
      have hkl : (k : Int) < ps.length := by omega
      generalize ps[k] = z at *
      have HPK := Lib.hid (pickP_any (.slice ya2 R.l.length yc2) R.l z wr hy hlen.1 hlen.2 HIN.out)
      have hs0 := hb.size
      clear hpat p0
      go_wp2_with fail
      refine HPK.out.mono ?_
      rintro e w2 ⟨rfl, hb2⟩
      by_cases hE : enR R.l = []
      · rw [pkE_stop hE]
        have TT := hb2.alloc hb2.size (.cells #[.int .i64 (pkM R.l z).p, .int .i64 (pkM R.l z).h] 42)
        generalize pkM R.l z = mv at *
        obtain ⟨mp, mh⟩ := mv
        have a0 : ∀ o, Below wr.heap.size wr (w2.alloc o) := fun o => hb2.alloc hb2.size o
        have b0 : ∀ o, (w2.alloc o).cell? ⟨rb, 0, none⟩ = some (.slice ya2 R.l.length yc2) := fun o => kc (a0 o) c0
        have b1 : ∀ o, (w2.alloc o).cell? ⟨rb, 1, none⟩ = some (.slice aa R.a.length ac) := fun o => kc (a0 o) c1
        have b2 : ∀ o, (w2.alloc o).cell? ⟨rb, 2, none⟩ = some (.int .i64 R.n) := fun o => kc (a0 o) c2
        have b3 : ∀ o, (w2.alloc o).cell? ⟨w.heap.size, 0, none⟩ = some (.slice none 0 0) := fun o => kc (a0 o) d0
        have b4 : ∀ o, (w2.alloc o).cell? ⟨w.heap.size, 1, none⟩ = some (.slice none 0 0) := fun o => kc (a0 o) d1
        have b5 : ∀ o, (w2.alloc o).cell? ⟨w.heap.size, 2, none⟩ = some (.int .i64 0) := fun o => kc (a0 o) d2
        have b6 : ∀ o, (w2.alloc o).frozen? ⟨w.heap.size, 0, none⟩ = false := fun o => kf (a0 o) e0 (heap_lt HG.out)
        have b7 : ∀ o, (w2.alloc o).frozen? ⟨w.heap.size, 1, none⟩ = false := fun o => kf (a0 o) e1 (heap_lt HG.out)
        have b8 : ∀ o, (w2.alloc o).frozen? ⟨w.heap.size, 2, none⟩ = false := fun o => kf (a0 o) e2 (heap_lt HG.out)
        have HG2 := Lib.hid (fun o => ((a0 o).block _ (heap_lt HG.out)).trans HG.out)
        go_wp2_with fail
        obtain ⟨q0, q1, q2, _⟩ := RB.cells (put3_heap (HG2.out (.cells #[.int .i64 mp, .int .i64 mh] 42)) (.slice ya2 R.l.length yc2) (.slice aa R.a.length ac) (.int .i64 R.n))
        refine bodyPost_ret (v := .agg #[.slice ya2 R.l.length yc2, .slice aa R.a.length ac, .int .i64 R.n]) (by simp [results, Tryz.results7, go_sem, q0, q1, q2]) rfl ?_
        rw [HS.out hE]
        exact ⟨_, _, rfl, nds_off (hy.below (a0 _)) (HG2.out _) (by simp) (put3_by _ _ _ _ _), strs_off ((Ap.Rd.owned ho).below (a0 _)) (HG2.out _) (by simp) (put3_by _ _ _ _ _), (hb.trans ((a0 _).mono hb.size)).grown (put3_by _ _ _ _ _) (Nat.le_trans hb.size (a0 (.cells #[.int .i64 mp, .int .i64 mh] 42)).size) (fun k hk => by cases hk; exact Nat.le_refl _)⟩
      · rw [pkE_go hE]
        have B2 := Lib.hid (hb2.alloc hb2.size (.cells #[.int .i64 (pkM R.l z).p, .int .i64 (pkM R.l z).h] 42))
        have HBY := Lib.hid (fun w3 (h3 : Below wr.heap.size wr w3) => by_any (.slice ya2 R.l.length yc2) R.l (pkM R.l z) w3 (hy.below h3) hlen.1 hlen.2)
        unfold ByP at HBY
        have HSD := Lib.hid (step_did (z := z) hE)
        generalize nxL R.l (pkM R.l z) = L2 at *
        have hdl : (didR R.l (pkM R.l z)).length ≤ 1 := by rcases did_two R.l (pkM R.l z) with h | ⟨_, h⟩ <;> rw [h] <;> simp
        generalize didR R.l (pkM R.l z) = D2 at *
        generalize pkM R.l z = mv at *
        obtain ⟨mp, mh⟩ := mv
        have a0 : ∀ o, (w2.alloc o).cell? ⟨rb, 0, none⟩ = some (.slice ya2 R.l.length yc2) := fun o => kc (hb2.alloc hb2.size o) c0
        go_wp2_with fail
        refine (HBY.out _ B2.out).mono ?_
        rintro e w3 ⟨y', d', rfl, hy', hd', hb3⟩
        replace hd' := Ap.RdO.rd hd'
        have T3 := hb2.trans (((Rw.below1 w2 (.cells #[.int .i64 mp, .int .i64 mh] 42)).trans (hb3.mono (by simp))).mono hb2.size)
        obtain ⟨_, yb, ybc, rfl, _⟩ := id hy'
        obtain ⟨_, db, dbc, rfl, _⟩ := id hd'
        -- the append
        obtain ⟨W4, hW4⟩ : ∃ W4, (w3.alloc (.cells #[.slice yb L2.length ybc, .slice db D2.length dbc] 47)) = W4 := ⟨_, rfl⟩
        have T4 : Below w3.heap.size w3 W4 := by rw [← hW4]; exact Rw.below1 _ _
        have TT := T3.trans (T4.mono T3.size)
        have x0 : W4.cell? ⟨w3.heap.size, 0, none⟩ = some (.slice yb L2.length ybc) := by rw [← hW4]; simp [go_sem]
        have x1 : W4.cell? ⟨w3.heap.size, 1, none⟩ = some (.slice db D2.length dbc) := by rw [← hW4]; simp [go_sem]
        have hrb := heap_lt g0
        have hT := TT.size
        obtain ⟨v5, w5, r5, o5, hg5, h5, hS5⟩ := append_sb (w := W4.drew) (Ap.own_below ho TT.drew) (by show rb + 1 ≤ W4.heap.size; omega) (Ap.Rd.below (Ap.Rd.below hd' T4) ((Below.refl _ _).drew)) (by omega) (hS.below TT.drew)
        have hx3 : rb + 1 ≤ w3.heap.size := by have := T3.size; omega
        have x0' : W4.drew.cell? ⟨w3.heap.size, 0, none⟩ = some (.slice yb L2.length ybc) := x0
        have x1' : W4.drew.cell? ⟨w3.heap.size, 1, none⟩ = some (.slice db D2.length dbc) := x1
        have u1 := kc TT.drew c1
        have u2 := kc TT.drew c2
        have m0 : w5.cell? ⟨w3.heap.size, 0, none⟩ = some (.slice yb L2.length ybc) := by
          rw [World.cell?_of_block (hg5.block _ (Ap.cell_lt x0') ?_)]
          · exact x0'
          · intro e
            obtain ⟨cur, T, fr, k1, k2⟩ := hS.below TT.drew _ e.symm
            simp only [World.cell?, k1] at x0'
            obtain ⟨s, hs⟩ := k2 _ (Array.mem_toList_iff.2 (Array.mem_of_getElem? x0'))
            cases hs
        have m4 : w5.cell? ⟨w3.heap.size, 1, none⟩ = some (.slice db D2.length dbc) := by
          rw [World.cell?_of_block (hg5.block _ (Ap.cell_lt x1') ?_)]
          · exact x1'
          · intro e
            obtain ⟨cur, T, fr, k1, k2⟩ := hS.below TT.drew _ e.symm
            simp only [World.cell?, k1] at x1'
            obtain ⟨s, hs⟩ := k2 _ (Array.mem_toList_iff.2 (Array.mem_of_getElem? x1'))
            cases hs
        have m2 : w5.cell? ⟨rb, 2, none⟩ = some (.int .i64 R.n) := by rw [h5.cell (p := ⟨rb, 2, none⟩) (Nat.lt_succ_self _)]; exact u2
        have m1 : w5.cell? ⟨rb, 1, none⟩ = some (.slice aa R.a.length ac) := by rw [h5.cell (p := ⟨rb, 1, none⟩) (Nat.lt_succ_self _)]; exact u1
        have m3 : w5.cell? ⟨rb, 0, none⟩ = some (.slice ya2 R.l.length yc2) := by rw [h5.cell (p := ⟨rb, 0, none⟩) (Nat.lt_succ_self _)]; exact kc TT.drew c0
        have n0 : w5.frozen? ⟨rb, 0, none⟩ = false := by rw [h5.frozen (p := ⟨rb, 0, none⟩) (Nat.lt_succ_self _)]; exact kf TT.drew f0 hrb
        have n1 : w5.frozen? ⟨rb, 1, none⟩ = false := by rw [h5.frozen (p := ⟨rb, 1, none⟩) (Nat.lt_succ_self _)]; exact kf TT.drew f1 hrb
        have n2 : w5.frozen? ⟨rb, 2, none⟩ = false := by rw [h5.frozen (p := ⟨rb, 2, none⟩) (Nat.lt_succ_self _)]; exact kf TT.drew f2 hrb
        have gD : W4.drew.heap[rb]? = some (.cells #[.slice ya2 R.l.length yc2, .slice aa R.a.length ac, .int .i64 R.n] 29 (0, 0)) := (TT.drew.block _ hrb).trans g0
        have hN4 : Nds W4.drew (.slice yb L2.length ybc) L2 := (hy'.below T4).below (Below.refl _ _).drew
        have RN := Lib.hid (RB.next (w0 := w) (r := R) gD (by simp) h5 ((hS.below TT.drew).nds hN4 hg5) hS5 o5 (hb.trans (TT.drew.mono hb.size)) hle)
        have GN := Lib.hid (show (put3 w5 rb (.slice yb L2.length ybc) v5 (.int .i64 ((R.n : Int) + 1))).heap[w.heap.size]? = some (r0 29) by
          have h1 : W4.drew.heap[w.heap.size]? = some (r0 29) := (TT.drew.block _ (heap_lt HG.out)).trans HG.out
          have h2 := (h5.block _ (by omega)).trans h1
          exact ((put3_by w5 rb _ _ _).block _ (heap_lt h2) (fun e => by have := Option.some.inj e; omega)).trans h2)
        have hwr : IntKind.i64.wrap ((R.n : Int) + 1) = (R.n : Int) + 1 := by rw [IntKind.wrap_i64]; omega
        obtain ⟨_, va5, vc5, rfl, _⟩ := id (Ap.Rd.owned o5)
        have R5 := Lib.hid r5
        have RT := Lib.hid HT.out
        obtain ⟨xb, hxb⟩ : ∃ xb, w3.heap.size = xb := ⟨_, rfl⟩
        rw [hxb] at x0' x1' m0 m4
        clear r5 h5 hg5 hS5 o5 hS gD hN4 HPK HBY HS HZ hlen hal hkt ho hb hy hy' hd' T3 T4 TT hT hrb hx3 HR d0 d1 d2 e0 e1 e2 HG B2 a0 f0 f1 f2 x0 x1 hb2 hb3 g0
        go_wp2_with fail
        generalize (R.a ++ D2).length = sn at *
        refine Rg.wp_region_inv (by kernel_rfl) [(0, some 33), (1, some 34), (2, some 35), (3, some 36), (4, some 37), (5, some 38), (6, some 39), (7, some 40), (8, some 41), (9, some 42), (10, some 43), (11, none)] (by rfl) (by kernel_rfl) (by kernel_rfl) (fun (f : Nat → Bool) (us : Nat → Value) (w' : World) => (∀ k, k < 12 → f k = true → us k = (PlV rb xb aa db yb va5 ac dbc ybc vc5 sn R D2 L2) k) ∧ ((f 6 = false ∧ f 11 = false ∧ w' = W4.drew) ∨ (f 6 = true ∧ f 11 = false ∧ w' = w5) ∨ ((∀ k, k < 12 → f k = true) ∧ w' = (put3 w5 rb (.slice yb L2.length ybc) (.slice va5 sn vc5) (.int .i64 ((R.n : Int) + 1)))))) ?_ ⟨⟨⟨⟨⟨⟨⟨⟨⟨⟨⟨⟨True.intro, ?_⟩, ?_⟩, ?_⟩, ?_⟩, ?_⟩, ?_⟩, ?_⟩, ?_⟩, ?_⟩, ?_⟩, ?_⟩, ?_⟩ ?_
        · intro us
          exact ⟨fun k hk h => absurd h (by simp; omega), .inl ⟨by simp, by simp, rfl⟩⟩
        · intro o ho f us wl al ha g hf hdep K hKf
          obtain rfl := Option.some.inj ho
          have e10 : al.tmps[10]?.getD undef = .pointer (some ⟨xb, 0, none⟩) := by rw [← Rg.eval_getD, ha]; exact (Rg.puts_eval_ne _ _ _ (by rfl)).trans rfl
          rcases g.2 with ⟨h1, h2, hw⟩ | ⟨h1, h2, hw⟩ | ⟨h, _⟩
          · subst hw
            have g1 := g.1
            refine Rg.wpOp_of rfl rfl ?_
            clear ha hdep g
            go_simp
            exact hKf _ _ ⟨fun k hk h => by by_cases e : k = 0; subst e; exact Rg.upd_same _ _ _; rw [Rg.upd_ne _ _ e] at h ⊢; exact g1 k hk h, .inl ⟨(Rg.upd_ne _ _ (by decide)).trans h1, (Rg.upd_ne _ _ (by decide)).trans h2, rfl⟩⟩
          · subst hw
            have g1 := g.1
            refine Rg.wpOp_of rfl rfl ?_
            clear ha hdep g
            go_simp
            exact hKf _ _ ⟨fun k hk h => by by_cases e : k = 0; subst e; exact Rg.upd_same _ _ _; rw [Rg.upd_ne _ _ e] at h ⊢; exact g1 k hk h, .inr (.inl ⟨(Rg.upd_ne _ _ (by decide)).trans h1, (Rg.upd_ne _ _ (by decide)).trans h2, rfl⟩)⟩
          · rw [h 0 (by decide)] at hf; cases hf
        · intro o ho f us wl al ha g hf hdep K hKf
          obtain rfl := Option.some.inj ho
          have e33 : al.tmps[33]?.getD undef = .pointer (some ⟨xb, 0, none⟩) := by rw [← Rg.eval_getD, ha, Rg.puts_eval _ _ _ (by rfl) (show (0, some 33) ∈ [(0, some 33), (1, some 34), (2, some 35), (3, some 36), (4, some 37), (5, some 38), (6, some 39), (7, some 40), (8, some 41), (9, some 42), (10, some 43), (11, none)] by simp) (by simp)]; exact g.1 0 (by decide) (hdep ⟨0, .data⟩ (by simp) rfl)
          rcases g.2 with ⟨h1, h2, hw⟩ | ⟨h1, h2, hw⟩ | ⟨h, _⟩
          · subst hw
            have g1 := g.1
            refine Rg.wpOp_of rfl rfl ?_
            clear ha hdep g
            go_simp
            exact hKf _ _ ⟨fun k hk h => by by_cases e : k = 1; subst e; exact Rg.upd_same _ _ _; rw [Rg.upd_ne _ _ e] at h ⊢; exact g1 k hk h, .inl ⟨(Rg.upd_ne _ _ (by decide)).trans h1, (Rg.upd_ne _ _ (by decide)).trans h2, rfl⟩⟩
          · subst hw
            have g1 := g.1
            refine Rg.wpOp_of rfl rfl ?_
            clear ha hdep g
            go_simp
            exact hKf _ _ ⟨fun k hk h => by by_cases e : k = 1; subst e; exact Rg.upd_same _ _ _; rw [Rg.upd_ne _ _ e] at h ⊢; exact g1 k hk h, .inr (.inl ⟨(Rg.upd_ne _ _ (by decide)).trans h1, (Rg.upd_ne _ _ (by decide)).trans h2, rfl⟩)⟩
          · rw [h 1 (by decide)] at hf; cases hf
        · intro o ho f us wl al ha g hf hdep K hKf
          obtain rfl := Option.some.inj ho
          have e5 : al.tmps[5]?.getD undef = .pointer (some ⟨rb, 0, none⟩) := by rw [← Rg.eval_getD, ha]; exact (Rg.puts_eval_ne _ _ _ (by rfl)).trans rfl
          rcases g.2 with ⟨h1, h2, hw⟩ | ⟨h1, h2, hw⟩ | ⟨h, _⟩
          · subst hw
            have g1 := g.1
            refine Rg.wpOp_of rfl rfl ?_
            clear ha hdep g
            go_simp
            exact hKf _ _ ⟨fun k hk h => by by_cases e : k = 2; subst e; exact Rg.upd_same _ _ _; rw [Rg.upd_ne _ _ e] at h ⊢; exact g1 k hk h, .inl ⟨(Rg.upd_ne _ _ (by decide)).trans h1, (Rg.upd_ne _ _ (by decide)).trans h2, rfl⟩⟩
          · subst hw
            have g1 := g.1
            refine Rg.wpOp_of rfl rfl ?_
            clear ha hdep g
            go_simp
            exact hKf _ _ ⟨fun k hk h => by by_cases e : k = 2; subst e; exact Rg.upd_same _ _ _; rw [Rg.upd_ne _ _ e] at h ⊢; exact g1 k hk h, .inr (.inl ⟨(Rg.upd_ne _ _ (by decide)).trans h1, (Rg.upd_ne _ _ (by decide)).trans h2, rfl⟩)⟩
          · rw [h 2 (by decide)] at hf; cases hf
        · intro o ho f us wl al ha g hf hdep K hKf
          obtain rfl := Option.some.inj ho
          have e35 : al.tmps[35]?.getD undef = .pointer (some ⟨rb, 1, none⟩) := by rw [← Rg.eval_getD, ha, Rg.puts_eval _ _ _ (by rfl) (show (2, some 35) ∈ [(0, some 33), (1, some 34), (2, some 35), (3, some 36), (4, some 37), (5, some 38), (6, some 39), (7, some 40), (8, some 41), (9, some 42), (10, some 43), (11, none)] by simp) (by simp)]; exact g.1 2 (by decide) (hdep ⟨2, .data⟩ (by simp) rfl)
          rcases g.2 with ⟨h1, h2, hw⟩ | ⟨h1, h2, hw⟩ | ⟨h, _⟩
          · subst hw
            have g1 := g.1
            refine Rg.wpOp_of rfl rfl ?_
            clear ha hdep g
            go_simp
            exact hKf _ _ ⟨fun k hk h => by by_cases e : k = 3; subst e; exact Rg.upd_same _ _ _; rw [Rg.upd_ne _ _ e] at h ⊢; exact g1 k hk h, .inl ⟨(Rg.upd_ne _ _ (by decide)).trans h1, (Rg.upd_ne _ _ (by decide)).trans h2, rfl⟩⟩
          · subst hw
            have g1 := g.1
            refine Rg.wpOp_of rfl rfl ?_
            clear ha hdep g
            go_simp
            exact hKf _ _ ⟨fun k hk h => by by_cases e : k = 3; subst e; exact Rg.upd_same _ _ _; rw [Rg.upd_ne _ _ e] at h ⊢; exact g1 k hk h, .inr (.inl ⟨(Rg.upd_ne _ _ (by decide)).trans h1, (Rg.upd_ne _ _ (by decide)).trans h2, rfl⟩)⟩
          · rw [h 3 (by decide)] at hf; cases hf
        · intro o ho f us wl al ha g hf hdep K hKf
          obtain rfl := Option.some.inj ho
          have e10 : al.tmps[10]?.getD undef = .pointer (some ⟨xb, 0, none⟩) := by rw [← Rg.eval_getD, ha]; exact (Rg.puts_eval_ne _ _ _ (by rfl)).trans rfl
          rcases g.2 with ⟨h1, h2, hw⟩ | ⟨h1, h2, hw⟩ | ⟨h, _⟩
          · subst hw
            have g1 := g.1
            refine Rg.wpOp_of rfl rfl ?_
            clear ha hdep g
            go_simp
            exact hKf _ _ ⟨fun k hk h => by by_cases e : k = 4; subst e; exact Rg.upd_same _ _ _; rw [Rg.upd_ne _ _ e] at h ⊢; exact g1 k hk h, .inl ⟨(Rg.upd_ne _ _ (by decide)).trans h1, (Rg.upd_ne _ _ (by decide)).trans h2, rfl⟩⟩
          · subst hw
            have g1 := g.1
            refine Rg.wpOp_of rfl rfl ?_
            clear ha hdep g
            go_simp
            exact hKf _ _ ⟨fun k hk h => by by_cases e : k = 4; subst e; exact Rg.upd_same _ _ _; rw [Rg.upd_ne _ _ e] at h ⊢; exact g1 k hk h, .inr (.inl ⟨(Rg.upd_ne _ _ (by decide)).trans h1, (Rg.upd_ne _ _ (by decide)).trans h2, rfl⟩)⟩
          · rw [h 4 (by decide)] at hf; cases hf
        · intro o ho f us wl al ha g hf hdep K hKf
          obtain rfl := Option.some.inj ho
          have e37 : al.tmps[37]?.getD undef = .pointer (some ⟨xb, 1, none⟩) := by rw [← Rg.eval_getD, ha, Rg.puts_eval _ _ _ (by rfl) (show (4, some 37) ∈ [(0, some 33), (1, some 34), (2, some 35), (3, some 36), (4, some 37), (5, some 38), (6, some 39), (7, some 40), (8, some 41), (9, some 42), (10, some 43), (11, none)] by simp) (by simp)]; exact g.1 4 (by decide) (hdep ⟨4, .data⟩ (by simp) rfl)
          rcases g.2 with ⟨h1, h2, hw⟩ | ⟨h1, h2, hw⟩ | ⟨h, _⟩
          · subst hw
            have g1 := g.1
            refine Rg.wpOp_of rfl rfl ?_
            clear ha hdep g
            go_simp
            exact hKf _ _ ⟨fun k hk h => by by_cases e : k = 5; subst e; exact Rg.upd_same _ _ _; rw [Rg.upd_ne _ _ e] at h ⊢; exact g1 k hk h, .inl ⟨(Rg.upd_ne _ _ (by decide)).trans h1, (Rg.upd_ne _ _ (by decide)).trans h2, rfl⟩⟩
          · subst hw
            have g1 := g.1
            refine Rg.wpOp_of rfl rfl ?_
            clear ha hdep g
            go_simp
            exact hKf _ _ ⟨fun k hk h => by by_cases e : k = 5; subst e; exact Rg.upd_same _ _ _; rw [Rg.upd_ne _ _ e] at h ⊢; exact g1 k hk h, .inr (.inl ⟨(Rg.upd_ne _ _ (by decide)).trans h1, (Rg.upd_ne _ _ (by decide)).trans h2, rfl⟩)⟩
          · rw [h 5 (by decide)] at hf; cases hf
        · intro o ho f us wl al ha g hf hdep K hKf
          obtain rfl := Option.some.inj ho
          have e36 : al.tmps[36]?.getD undef = .slice aa R.a.length ac := by rw [← Rg.eval_getD, ha, Rg.puts_eval _ _ _ (by rfl) (show (3, some 36) ∈ [(0, some 33), (1, some 34), (2, some 35), (3, some 36), (4, some 37), (5, some 38), (6, some 39), (7, some 40), (8, some 41), (9, some 42), (10, some 43), (11, none)] by simp) (by simp)]; exact g.1 3 (by decide) (hdep ⟨3, .data⟩ (by simp) rfl)
          have e38 : al.tmps[38]?.getD undef = .slice db D2.length dbc := by rw [← Rg.eval_getD, ha, Rg.puts_eval _ _ _ (by rfl) (show (5, some 38) ∈ [(0, some 33), (1, some 34), (2, some 35), (3, some 36), (4, some 37), (5, some 38), (6, some 39), (7, some 40), (8, some 41), (9, some 42), (10, some 43), (11, none)] by simp) (by simp)]; exact g.1 5 (by decide) (hdep ⟨5, .data⟩ (by simp) rfl)
          have hw : wl = W4.drew := by
            rcases g.2 with ⟨_, _, h⟩ | ⟨h, _⟩ | ⟨h, _⟩
            · exact h
            · rw [hf] at h; cases h
            · rw [h 6 (by decide)] at hf; cases hf
          have hl : f 11 = false := by
            rcases g.2 with ⟨_, h, _⟩ | ⟨_, h, _⟩ | ⟨h, _⟩
            · exact h
            · exact h
            · rw [h 6 (by decide)] at hf; cases hf
          subst hw
          refine Rg.wpOp_of rfl rfl ?_
          exact Rq.append_run _ _ _ _ rfl _ _ (by rw [Rg.eval_getD]; exact e36) (by rw [Rg.eval_getD]; exact e38) _ w5 R5.out (hKf _ _ ⟨fun k hk h => by by_cases e : k = 6; subst e; exact Rg.upd_same _ _ _; rw [Rg.upd_ne _ _ e] at h ⊢; exact g.1 k hk h, .inr (.inl ⟨Rg.upd_same _ _ _, (Rg.upd_ne _ _ (by decide)).trans hl, rfl⟩)⟩)
        · intro o ho f us wl al ha g hf hdep K hKf
          obtain rfl := Option.some.inj ho
          have e5 : al.tmps[5]?.getD undef = .pointer (some ⟨rb, 0, none⟩) := by rw [← Rg.eval_getD, ha]; exact (Rg.puts_eval_ne _ _ _ (by rfl)).trans rfl
          rcases g.2 with ⟨h1, h2, hw⟩ | ⟨h1, h2, hw⟩ | ⟨h, _⟩
          · subst hw
            have g1 := g.1
            refine Rg.wpOp_of rfl rfl ?_
            clear ha hdep g
            go_simp
            exact hKf _ _ ⟨fun k hk h => by by_cases e : k = 7; subst e; exact Rg.upd_same _ _ _; rw [Rg.upd_ne _ _ e] at h ⊢; exact g1 k hk h, .inl ⟨(Rg.upd_ne _ _ (by decide)).trans h1, (Rg.upd_ne _ _ (by decide)).trans h2, rfl⟩⟩
          · subst hw
            have g1 := g.1
            refine Rg.wpOp_of rfl rfl ?_
            clear ha hdep g
            go_simp
            exact hKf _ _ ⟨fun k hk h => by by_cases e : k = 7; subst e; exact Rg.upd_same _ _ _; rw [Rg.upd_ne _ _ e] at h ⊢; exact g1 k hk h, .inr (.inl ⟨(Rg.upd_ne _ _ (by decide)).trans h1, (Rg.upd_ne _ _ (by decide)).trans h2, rfl⟩)⟩
          · rw [h 7 (by decide)] at hf; cases hf
        · intro o ho f us wl al ha g hf hdep K hKf
          obtain rfl := Option.some.inj ho
          have e40 : al.tmps[40]?.getD undef = .pointer (some ⟨rb, 2, none⟩) := by rw [← Rg.eval_getD, ha, Rg.puts_eval _ _ _ (by rfl) (show (7, some 40) ∈ [(0, some 33), (1, some 34), (2, some 35), (3, some 36), (4, some 37), (5, some 38), (6, some 39), (7, some 40), (8, some 41), (9, some 42), (10, some 43), (11, none)] by simp) (by simp)]; exact g.1 7 (by decide) (hdep ⟨7, .data⟩ (by simp) rfl)
          rcases g.2 with ⟨h1, h2, hw⟩ | ⟨h1, h2, hw⟩ | ⟨h, _⟩
          · subst hw
            have g1 := g.1
            refine Rg.wpOp_of rfl rfl ?_
            clear ha hdep g
            go_simp
            exact hKf _ _ ⟨fun k hk h => by by_cases e : k = 8; subst e; exact Rg.upd_same _ _ _; rw [Rg.upd_ne _ _ e] at h ⊢; exact g1 k hk h, .inl ⟨(Rg.upd_ne _ _ (by decide)).trans h1, (Rg.upd_ne _ _ (by decide)).trans h2, rfl⟩⟩
          · subst hw
            have g1 := g.1
            refine Rg.wpOp_of rfl rfl ?_
            clear ha hdep g
            go_simp
            exact hKf _ _ ⟨fun k hk h => by by_cases e : k = 8; subst e; exact Rg.upd_same _ _ _; rw [Rg.upd_ne _ _ e] at h ⊢; exact g1 k hk h, .inr (.inl ⟨(Rg.upd_ne _ _ (by decide)).trans h1, (Rg.upd_ne _ _ (by decide)).trans h2, rfl⟩)⟩
          · rw [h 8 (by decide)] at hf; cases hf
        · intro o ho f us wl al ha g hf hdep K hKf
          obtain rfl := Option.some.inj ho
          have e41 : al.tmps[41]?.getD undef = .int .i64 R.n := by rw [← Rg.eval_getD, ha, Rg.puts_eval _ _ _ (by rfl) (show (8, some 41) ∈ [(0, some 33), (1, some 34), (2, some 35), (3, some 36), (4, some 37), (5, some 38), (6, some 39), (7, some 40), (8, some 41), (9, some 42), (10, some 43), (11, none)] by simp) (by simp)]; exact g.1 8 (by decide) (hdep ⟨8, .data⟩ (by simp) rfl)
          rcases g.2 with ⟨h1, h2, hw⟩ | ⟨h1, h2, hw⟩ | ⟨h, _⟩
          · subst hw
            have g1 := g.1
            refine Rg.wpOp_of rfl rfl ?_
            clear ha hdep g
            go_simp
            exact hKf _ _ ⟨fun k hk h => by by_cases e : k = 9; subst e; exact Rg.upd_same _ _ _; rw [Rg.upd_ne _ _ e] at h ⊢; exact g1 k hk h, .inl ⟨(Rg.upd_ne _ _ (by decide)).trans h1, (Rg.upd_ne _ _ (by decide)).trans h2, rfl⟩⟩
          · subst hw
            have g1 := g.1
            refine Rg.wpOp_of rfl rfl ?_
            clear ha hdep g
            go_simp
            exact hKf _ _ ⟨fun k hk h => by by_cases e : k = 9; subst e; exact Rg.upd_same _ _ _; rw [Rg.upd_ne _ _ e] at h ⊢; exact g1 k hk h, .inr (.inl ⟨(Rg.upd_ne _ _ (by decide)).trans h1, (Rg.upd_ne _ _ (by decide)).trans h2, rfl⟩)⟩
          · rw [h 9 (by decide)] at hf; cases hf
        · intro o ho f us wl al ha g hf hdep K hKf
          obtain rfl := Option.some.inj ho
          have e34 : al.tmps[34]?.getD undef = .slice yb L2.length ybc := by rw [← Rg.eval_getD, ha, Rg.puts_eval _ _ _ (by rfl) (show (1, some 34) ∈ [(0, some 33), (1, some 34), (2, some 35), (3, some 36), (4, some 37), (5, some 38), (6, some 39), (7, some 40), (8, some 41), (9, some 42), (10, some 43), (11, none)] by simp) (by simp)]; exact g.1 1 (by decide) (hdep ⟨1, .data⟩ (by simp) rfl)
          have e39 : al.tmps[39]?.getD undef = .slice va5 sn vc5 := by rw [← Rg.eval_getD, ha, Rg.puts_eval _ _ _ (by rfl) (show (6, some 39) ∈ [(0, some 33), (1, some 34), (2, some 35), (3, some 36), (4, some 37), (5, some 38), (6, some 39), (7, some 40), (8, some 41), (9, some 42), (10, some 43), (11, none)] by simp) (by simp)]; exact g.1 6 (by decide) (hdep ⟨6, .data⟩ (by simp) rfl)
          have e42 : al.tmps[42]?.getD undef = .int .i64 ((R.n : Int) + 1) := by rw [← Rg.eval_getD, ha, Rg.puts_eval _ _ _ (by rfl) (show (9, some 42) ∈ [(0, some 33), (1, some 34), (2, some 35), (3, some 36), (4, some 37), (5, some 38), (6, some 39), (7, some 40), (8, some 41), (9, some 42), (10, some 43), (11, none)] by simp) (by simp)]; exact g.1 9 (by decide) (hdep ⟨9, .data⟩ (by simp) rfl)
          rcases g.2 with ⟨h1, h2, hw⟩ | ⟨h1, h2, hw⟩ | ⟨h, _⟩
          · subst hw
            have g1 := g.1
            refine Rg.wpOp_of rfl rfl ?_
            clear ha hdep g
            go_simp
            exact hKf _ _ ⟨fun k hk h => by by_cases e : k = 10; subst e; exact Rg.upd_same _ _ _; rw [Rg.upd_ne _ _ e] at h ⊢; exact g1 k hk h, .inl ⟨(Rg.upd_ne _ _ (by decide)).trans h1, (Rg.upd_ne _ _ (by decide)).trans h2, rfl⟩⟩
          · subst hw
            have g1 := g.1
            refine Rg.wpOp_of rfl rfl ?_
            clear ha hdep g
            go_simp
            exact hKf _ _ ⟨fun k hk h => by by_cases e : k = 10; subst e; exact Rg.upd_same _ _ _; rw [Rg.upd_ne _ _ e] at h ⊢; exact g1 k hk h, .inr (.inl ⟨(Rg.upd_ne _ _ (by decide)).trans h1, (Rg.upd_ne _ _ (by decide)).trans h2, rfl⟩)⟩
          · rw [h 10 (by decide)] at hf; cases hf
        · intro o ho f us wl al ha g hf hdep K hKf
          obtain rfl := Option.some.inj ho
          have e5 : al.tmps[5]?.getD undef = .pointer (some ⟨rb, 0, none⟩) := by rw [← Rg.eval_getD, ha]; exact (Rg.puts_eval_ne _ _ _ (by rfl)).trans rfl
          have e43 : al.tmps[43]?.getD undef = .agg #[.slice yb L2.length ybc, .slice va5 sn vc5, .int .i64 ((R.n : Int) + 1)] := by rw [← Rg.eval_getD, ha, Rg.puts_eval _ _ _ (by rfl) (show (10, some 43) ∈ [(0, some 33), (1, some 34), (2, some 35), (3, some 36), (4, some 37), (5, some 38), (6, some 39), (7, some 40), (8, some 41), (9, some 42), (10, some 43), (11, none)] by simp) (by simp)]; exact g.1 10 (by decide) (hdep ⟨10, .data⟩ (by simp) rfl)
          have hw : wl = w5 := by
            rcases g.2 with ⟨h, _⟩ | ⟨_, _, h⟩ | ⟨h, _⟩
            · rw [hdep ⟨6, .phase⟩ (by simp) rfl] at h; cases h
            · exact h
            · rw [h 11 (by decide)] at hf; cases hf
          have hall : ∀ k, k < 12 → Rg.upd f 11 true k = true := fun k hk => by
            by_cases e : k = 11
            · subst e; exact Rg.upd_same _ _ _
            · rw [Rg.upd_ne _ _ e]
              have hk' : k < 11 := by omega
              match k, hk' with
              | 0, _ => exact hdep ⟨0, .phase⟩ (by simp) rfl
              | 1, _ => exact hdep ⟨1, .phase⟩ (by simp) rfl
              | 2, _ => exact hdep ⟨2, .phase⟩ (by simp) rfl
              | 3, _ => exact hdep ⟨3, .phase⟩ (by simp) rfl
              | 4, _ => exact hdep ⟨4, .phase⟩ (by simp) rfl
              | 5, _ => exact hdep ⟨5, .phase⟩ (by simp) rfl
              | 6, _ => exact hdep ⟨6, .phase⟩ (by simp) rfl
              | 7, _ => exact hdep ⟨7, .phase⟩ (by simp) rfl
              | 8, _ => exact hdep ⟨8, .phase⟩ (by simp) rfl
              | 9, _ => exact hdep ⟨9, .phase⟩ (by simp) rfl
              | 10, _ => exact hdep ⟨10, .phase⟩ (by simp) rfl
          subst hw
          have g1 := g.1
          refine Rg.wpOp_of rfl rfl ?_
          clear ha hdep g
          go_simp
          exact hKf _ _ ⟨fun k hk h => by by_cases e : k = 11; subst e; exact Rg.upd_same _ _ _; rw [Rg.upd_ne _ _ e] at h ⊢; exact g1 k hk h, .inr (.inr ⟨hall, rfl⟩)⟩
        · intro us wz g
          obtain rfl : wz = (put3 w5 rb (.slice yb L2.length ybc) (.slice va5 sn vc5) (.int .i64 ((R.n : Int) + 1))) := by
            rcases g.2 with ⟨h, _⟩ | ⟨_, h, _⟩ | ⟨_, h⟩
            · cases h
            · cases h
            · exact h
          simp only [Rg.puts, Act.put, List.setIfInBounds_toArray, List.set_cons_zero, List.set_cons_succ]
          go_wp2_with fail
          go_roundw
          case rel => exact ⟨_, _, _, _, .int .i64 ((k : Int) + 1), ⟨k + 1, by omega, by simp, by rw [RT.out, HSD.out]; exact RN⟩, rfl, rfl, rfl, rfl, rfl⟩
          case measure => simp [intOf]; omega
    · go_wp2_with fail
      obtain ⟨q0, q1, q2, _⟩ := RB.cells (put3_heap HG.out (.slice ya2 R.l.length yc2) (.slice aa R.a.length ac) (.int .i64 R.n))
      refine bodyPost_ret (v := .agg #[.slice ya2 R.l.length yc2, .slice aa R.a.length ac, .int .i64 R.n]) (by simp [results, Tryz.results7, go_sem, q0, q1, q2]) rfl ?_
      rw [HZ.out hlt]
      exact ⟨_, _, rfl, nds_off hy HG.out (by simp) (put3_by _ _ _ _ _), strs_off (Ap.Rd.owned ho) HG.out (by simp) (put3_by _ _ _ _ _), hb.grown (put3_by _ _ _ _ _) hb.size (fun k hk => by cases hk; exact Nat.le_refl _)⟩
end Go.Proofs.YtpingbiibbmcaaaGreat.Ru
