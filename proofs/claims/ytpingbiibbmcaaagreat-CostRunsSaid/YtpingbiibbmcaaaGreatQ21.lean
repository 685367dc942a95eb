/- The program's settled: the walks (Seq, Hand, Going). The program's nodes, and what it promises to whoever ranges over it. Plain: the moves of a tree, and what stands there behind each, ahead of settling; what a tree means is what its moves make. The program's settled: the walks (Stack, Block, Par, all). Rows of points; what holds in the midst of Points' two regions. Plain: what was begun never comes to a stop ahead of its end. -/
import Derived.Test.YtpingbiibbmcaaaGreatQ19
import Derived.Deep.DeepCutAuto
import Derived.Test.YtpingbiibbmcaaaGreatQ20
import Derived.Shelf.Abstract

namespace Go.Proofs.YtpingbiibbmcaaaGreat.Se
open Go Go.RowKit Go.Proofs.YtpingbiibbmcaaaGreat.Rw Go.Proofs.YtpingbiibbmcaaaGreat.So
set_option maxRecDepth 20000

set_option maxHeartbeats 4000000 in
/-- Where the first of two goes on. -/
theorem settled_first (t a b res : Tm) (kk : Int) (hkids : kids (flat t) = [flat a, flat b]) (hkd : kd t = kk) (hnm : nmT t = ⟨#[]⟩) (hsg : sg t = 0) (hgo : ∀ w, Calls Tryz.prog 110 #[.int .i64 kk] w fun e w' => e = .returned (.int .i64 1) ∧ w = w') (v : Value) (w : World) (hv : Nds w v (flat t)) (PA : Hid (PS a)) (hcm : ∀ g ck y0 y1 w1, w1.cell? ⟨g, 0, none⟩ = some y0 → w1.cell? ⟨g, 1, none⟩ = some y1 → NdO w.heap.size w1 y0 (S a) → Nds w1 y1 (flat b) → w.heap.size ≤ w1.heap.size → Calls Tryz.prog 111 #[.agg #[.int .i64 kk, .string ⟨#[]⟩, .int .i64 0], .slice (some ⟨g, 0, none⟩) 2 ck] w1 (OutB w.heap.size res w1)) (hl : sz t ≤ 400) :
    Calls Tryz.prog 92 #[v] w (OutB w.heap.size res w) := by
  have HK : Hid (∀ w1, Below w.heap.size w w1 → Calls Tryz.prog 64 #[v] w1 (Rx.KidsOwn [flat a, flat b] w1)) := Lib.hid fun w1 hb => by
    have h := Rx.kidsP_own v (flat t) w1 (hv.below hb) (by rw [flat_len]; omega)
    rw [hkids] at h
    exact h
  have GO := Lib.hid hgo
  have HCM := Lib.hid hcm
  obtain ⟨bb, oo, cc, rfl, hc, hlt, hw, hat⟩ := form3 hv
  obtain ⟨nn, hn⟩ : ∃ n, sz t = n + 1 := ⟨sz t - 1, by have := sz_pos t; omega⟩
  rw [hn] at hc HK ⊢
  have g3 : (1 : Int) ≤ (nn : Int) + 1 := by omega
  rw [hkd, hnm, hsg] at hw
  obtain ⟨e0, e1, e2⟩ := hw w (Below.refl _ _)
  unfold OutB
  clear hat hv hl hn hw hcm hgo hkids hkd hnm hsg
  go_enter Tryz.func92, Tryz.ntmps92
  go_upto_region 1 with fail
  go_cut [3, 4] (fun s3 s4 wx => ∃ (B : Nat), s3 = .pointer (some ⟨B, 0, none⟩) ∧ w.heap.size ≤ B ∧ BoxN wx B kk 0 ⟨#[]⟩ ∧ Kd w.heap.size B wx s4 [flat a, flat b] ∧ Below w.heap.size w wx)
  case first =>
    clear GO HCM
    go_region_with (first
      | (go_at_call 64
         (with_reducible refine (HK.out _ (Below.refl _ _).drew).mono ?_)
         rintro e w1 ⟨y, cs, rfl, hown, hk, hb1⟩
         have B1 := Lib.hid ((Below.refl w.heap.size w).drew.trans hb1)
         have K1 : Hid (Kd w.heap.size w1.heap.size w1 y [flat a, flat b]) := Lib.hid (kd_of hown hk (.inr (Nat.le_refl _)))
         have c0 : w1.cell? ⟨bb, oo, none⟩ = some (.int .i64 kk) := by rw [B1.out.cell (p := ⟨bb, oo, none⟩) hlt]; exact e0
         have c1 : w1.cell? ⟨bb, oo + 1, none⟩ = some (.string ⟨#[]⟩) := by rw [B1.out.cell (p := ⟨bb, oo + 1, none⟩) hlt]; exact e1
         have c2 : w1.cell? ⟨bb, oo + 2, none⟩ = some (.int .i64 0) := by rw [B1.out.cell (p := ⟨bb, oo + 2, none⟩) hlt]; exact e2
         have hbl1 : bb < w1.heap.size := Ap.cell_lt c0
         clear hown hk hb1)
      | (go_at_call 64
         (refine (HK.out _ ((Below.refl _ _).alloc (Nat.le_refl _) _).drew).mono ?_)
         rintro e w1 ⟨y, cs, rfl, hown, hk, hb1⟩
         have B1 := Lib.hid (((Below.refl w.heap.size w).alloc (Nat.le_refl _) _).drew.trans (hb1.mono (by simp)))
         have KB : Hid (∀ u1 u2 u3 : Value, Kd w.heap.size w.heap.size (((w1.setCell ⟨w.heap.size, 0, none⟩ u1).setCell ⟨w.heap.size, 1, none⟩ u2).setCell ⟨w.heap.size, 2, none⟩ u3) y [flat a, flat b]) := Lib.hid fun u1 u2 u3 => ((Kd.base (base' := w.heap.size) (B' := w.heap.size) (kd_of (B := w.heap.size) hown hk (.inl (by simp))) (by simp) (fun k h1 _ e => by simp at h1; omega)).setB.setB).setB
         have k0 : w1.cell? ⟨w.heap.size, 0, none⟩ = some (.int .i64 0) := by rw [hb1.cell (p := ⟨w.heap.size, 0, none⟩) (by simp)]; simp [go_sem]
         have k1 : w1.cell? ⟨w.heap.size, 1, none⟩ = some (.string ⟨#[]⟩) := by rw [hb1.cell (p := ⟨w.heap.size, 1, none⟩) (by simp)]; simp [go_sem]
         have k2 : w1.cell? ⟨w.heap.size, 2, none⟩ = some (.int .i64 0) := by rw [hb1.cell (p := ⟨w.heap.size, 2, none⟩) (by simp)]; simp [go_sem]
         have f0 : w1.frozen? ⟨w.heap.size, 0, none⟩ = false := by rw [hb1.frozen (p := ⟨w.heap.size, 0, none⟩) (by simp)]; simp [go_sem]
         have f1 : w1.frozen? ⟨w.heap.size, 1, none⟩ = false := by rw [hb1.frozen (p := ⟨w.heap.size, 1, none⟩) (by simp)]; simp [go_sem]
         have f2 : w1.frozen? ⟨w.heap.size, 2, none⟩ = false := by rw [hb1.frozen (p := ⟨w.heap.size, 2, none⟩) (by simp)]; simp [go_sem]
         have c0 : w1.cell? ⟨bb, oo, none⟩ = some (.int .i64 kk) := by rw [B1.out.cell (p := ⟨bb, oo, none⟩) hlt]; exact e0
         have c1 : w1.cell? ⟨bb, oo + 1, none⟩ = some (.string ⟨#[]⟩) := by rw [B1.out.cell (p := ⟨bb, oo + 1, none⟩) hlt]; exact e1
         have c2 : w1.cell? ⟨bb, oo + 2, none⟩ = some (.int .i64 0) := by rw [B1.out.cell (p := ⟨bb, oo + 2, none⟩) hlt]; exact e2
         have hbl1 : bb < w1.heap.size := Ap.cell_lt c0
         clear hown hk hb1)
      | fail)
    all_goals go_wp2_with fail
    all_goals go_meet
    all_goals first
      | exact ⟨_, rfl, B1.out.size, ⟨by simp, by simp, by simp⟩, K1.out.below (below1 _ _), B1.out.alloc B1.out.size _⟩
      | exact ⟨_, rfl, Nat.le_refl _, box_set k0 k1 k2, KB.out _ _ _, ((B1.out.setCell (Nat.le_refl _) _).setCell (Nat.le_refl _) _).setCell (Nat.le_refl _) _⟩
  case rest =>
    obtain ⟨B, rfl, hB, hbx, hkd, hbel⟩ := hcut
    have BB := Lib.hid hbel
    have BX := Lib.hid hbx
    have KK := Lib.hid hkd
    have HLB := Lib.hid hB
    obtain ⟨x0, x1, x2⟩ := hbx
    clear hbel HK e0 e1 e2 hB
    obtain ⟨g, ck, y0, y1, rfl, hg, hgB, hgl, hf, q0, q1, r0, r1⟩ := Kd.two hkd
    clear hkd
    go_wp2_with fail
    refine (GO.out _).mono ?_
    rintro e w0 ⟨rfl, rfl⟩
    go_wp2_with fail
    refine Go.wp_loop_rounds 2 ?_
    rw [rounds_succ]
    go_wp2_with fail
    refine (PA.out y0 wc (Ap.RdO.rd r0)).mono ?_
    rintro e w1 ⟨z, rfl, hn, hb⟩
    obtain ⟨_, az, cz, rfl, -⟩ := id hn
    have hg1 : g < w1.heap.size := Nat.lt_of_lt_of_le hgl hb.size
    have p0 : w1.cell? ⟨g, 0, none⟩ = some y0 := by rw [hb.cell (p := ⟨g, 0, none⟩) hgl]; exact q0
    have p1 : w1.cell? ⟨g, 1, none⟩ = some y1 := by rw [hb.cell (p := ⟨g, 1, none⟩) hgl]; exact q1
    have hf1 : ∀ j, w1.frozen? ⟨g, j, none⟩ = false := fun j => by rw [hb.frozen (p := ⟨g, j, none⟩) hgl]; exact hf j
    have f0 := hf1 0
    have HF1 := Lib.hid hf1
    have X1 := Lib.hid (BX.out.below hb)
    have D1 := Lib.hid (BB.out.trans (hb.mono BB.out.size))
    have Z1 := Lib.hid hn
    have Y1 := Lib.hid (Ap.RdO.below r1 hb)
    clear hn hb hf hf1
    go_wp2_with fail
    rw [rounds_succ]
    have D1s := Lib.hid (D1.out.setCell (p := ⟨g, 0, none⟩) (show w.heap.size ≤ g from hg) (.slice az (flat (S a)).length cz))
    have X1s := Lib.hid (BoxN.set (o := 0) (x := .slice az (flat (S a)).length cz) X1.out (Ne.symm hgB))
    obtain ⟨v0, v1, v2⟩ := X1s.out
    have ZS : Hid (NdO w.heap.size (w1.setCell ⟨g, 0, none⟩ (.slice az (flat (S a)).length cz)) (.slice az (flat (S a)).length cz) (S a)) := Lib.hid (NdO.more (rdo_set Z1.out fun k hk => by omega) (Nat.le_trans HLB.out (Nat.le_of_lt BX.out.lt)))
    have s0 := cell_set_eq (x := .slice az (flat (S a)).length cz) p0
    have s1 := (cell_set_o (g := g) (x := .slice az (flat (S a)).length cz) (show 0 ≠ 1 by decide)).trans p1
    have YS := Lib.hid (Ap.RdO.rd (rdo_set (o := 0) (x := .slice az (flat (S a)).length cz) Y1.out fun k hk => hk.2.2))
    go_wp2_with fail
    unfold OutB at HCM
    refine (HCM.out g ck _ _ _ s0 s1 ZS.out YS.out D1s.out.size).mono ?_
    rintro e w3 ⟨u, rfl, hn, hb⟩
    have N3 := Lib.hid hn
    have D3 := Lib.hid (D1s.out.trans (hb.mono D1s.out.size))
    clear hn hb
    go_wp2_with fail
    go_ret
    exact ⟨_, rfl, N3.out, D3.out⟩
theorem settled_seq (a b : Tm) (v : Value) (w : World) (hv : Nds w v (flat (.seq a b))) (PA : Hid (PS a)) (PB : Hid (PS b)) (hl : sz (.seq a b) ≤ 400) :
    Calls Tryz.prog 92 #[v] w (OutB w.heap.size (sSeq S (S a) b) w) :=
  settled_first (.seq a b) a b (sSeq S (S a) b) 5 (kids_seq a b) rfl rfl rfl (fun w => goOn_any (.seq a b) w) v w hv PA (fun g ck y0 y1 w1 s0 s1 ZS YS hb => comes_seq w.heap.size (S a) b g ck y0 y1 w1 s0 s1 ZS YS PB hb (by have := S_sz a; simp only [sz] at *; omega)) hl
theorem settled_hand (a b : Tm) (v : Value) (w : World) (hv : Nds w v (flat (.hand a b))) (PA : Hid (PS a)) (PB : Hid (PS b)) (hx : Hid (kd (S a) ≠ 14)) (hl : sz (.hand a b) ≤ 400) :
    Calls Tryz.prog 92 #[v] w (OutB w.heap.size (sHand S (S a) b) w) :=
  settled_first (.hand a b) a b (sHand S (S a) b) 8 (kids_hand a b) rfl rfl rfl (fun w => goOn_any (.hand a b) w) v w hv PA (fun g ck y0 y1 w1 s0 s1 ZS YS hb => comes_hand w.heap.size (S a) b g ck y0 y1 w1 s0 s1 ZS YS PB hx hb (by have := S_sz a; simp only [sz] at *; omega)) hl
theorem settled_going (a b : Tm) (v : Value) (w : World) (hv : Nds w v (flat (.going a b))) (PA : Hid (PS a)) (hl : sz (.going a b) ≤ 400) :
    Calls Tryz.prog 92 #[v] w (OutB w.heap.size (sGoing (S a) b) w) :=
  settled_first (.going a b) a b (sGoing (S a) b) 12 (kids_going a b) rfl rfl rfl (fun w => goOn_any (.going a b) w) v w hv PA (fun g ck y0 y1 w1 s0 s1 ZS YS hb => comes_going w.heap.size (S a) b g ck y0 y1 w1 s0 s1 ZS YS hb (by have := S_sz a; simp only [sz] at *; omega)) hl
theorem settled_stack (a b : Tm) (v : Value) (w : World) (hv : Nds w v (flat (.stack a b))) (PA : Hid (PS a)) (hl : sz (.stack a b) ≤ 400) :
    Calls Tryz.prog 92 #[v] w (OutB w.heap.size (stk (S a) b) w) :=
  settled_first (.stack a b) a b (stk (S a) b) 13 (kids_stack a b) rfl rfl rfl (fun w => goOn_any (.stack a b) w) v w hv PA (fun g ck y0 y1 w1 s0 s1 ZS YS hb => comes_stack w.heap.size (S a) b g ck y0 y1 w1 s0 s1 ZS YS hb (by have := S_sz a; simp only [sz] at *; omega)) hl
end Go.Proofs.YtpingbiibbmcaaaGreat.Se

namespace Go.Proofs.YtpingbiibbmcaaaGreat.Pl
open Go Go.RowKit Go.Proofs.YtpingbiibbmcaaaGreat.Rw Go.Proofs.YtpingbiibbmcaaaGreat.So Go.Proofs.YtpingbiibbmcaaaGreat.Ro
set_option maxRecDepth 20000

set_option maxHeartbeats 400000 in
theorem nodes_any (a : Option Addr) (n c : Nat) (w : World) :
    Calls Tryz.prog 123 #[.slice a n c] w fun e w' => e = .returned (.func (.func 128) #[] #[.pointer (some ⟨w.heap.size, 0, none⟩)]) ∧ w' = w.alloc (.cells #[.slice a n c] 22) := by
  go_enter Tryz.func123, Tryz.ntmps123
  go_wp2_with fail
  go_ret
  exact ⟨rfl, rfl⟩
theorem Told.stay {l : List Nd} (k : Nat) (args : Array Value) (A : World) (r : Nat) (o o' : Obj) (h : A.heap[r]? = some o) (hc : o.isCells = false) (he : Told l k args A) : Told l k args (A.putObj r o') := by
  obtain ⟨v, rfl, hl, a, cap, rfl, h1, h2, h3⟩ := he
  refine ⟨_, rfl, hl, a, cap, rfl, h1, h2, fun h0 => ?_⟩
  obtain ⟨b, off, rfl, hj⟩ := h3 h0
  exact ⟨b, off, rfl, fun j u hu => cell_kept (hj j u hu) (grownBy_putObj' A r o') fun q e => by cases e; exact ⟨o, h, hc⟩⟩
theorem Told.size {l : List Nd} (k : Nat) (args : Array Value) (A : World) (he : Told l k args A) : args.size = 2 := by
  obtain ⟨v, rfl, _⟩ := he
  rfl
/-- What nodes promises. -/
theorem iter_any (B : Nat) (v : Value) (l : List Nd) (wc w0 : World) (hv : Nds wc v l) (hl : l.length ≤ 4398046511104) (hbc : Below wc.heap.size wc w0) (hc : w0.cell? ⟨B, 0, none⟩ = some v) :
    Iter Tryz.prog 128 #[.pointer (some ⟨B, 0, none⟩)] (rounds l) (Told l) wc.heap.size w0 := by
  intro l0 J Jx W hbW hJ hY hJ0
  have hcW : W.cell? ⟨B, 0, none⟩ = some v := by rw [hbW.cell (Ap.cell_lt hc)]; exact hc
  have hbcW : Below wc.heap.size wc W := hbc.trans (hbW.mono hbc.size)
  have hvW : Nds W v l := hv.below hbcW
  show Calls Tryz.prog 128 #[.func (.yield l0) #[] #[], .pointer (some ⟨B, 0, none⟩)] W _
  cases h1 : one l with
  | false =>
    refine (nodes1_no B l0 v l W hcW hvW hl h1).mono ?_
    rintro e w' ⟨hr, hb⟩
    have e0 : rounds l = 0 := by unfold rounds; rw [h1]; rfl
    exact ⟨hr, _, .inl (by rw [e0]; exact hJ _ 0 W w' hJ0 (fun _ h => h.elim) (Turn.of_below hb))⟩
  | true =>
    have e0 : rounds l = l.length := by unfold rounds; rw [h1]; rfl
    have hpos := (one_tre.1 h1).pos
    rw [e0] at hY ⊢
    rcases hv.form with ⟨rfl, _⟩ | ⟨b, off, cap, rfl, hcap, hat⟩
    · exact absurd hpos (Nat.lt_irrefl 0)
    · have hb0 : b < wc.heap.size := Ap.cell_lt (hat 0 hpos).1
      have hatW : At W b off l := fun k hk => by
        obtain ⟨e1, e2, e3⟩ := hat k hk
        exact ⟨by rw [hbcW.cell (Ap.cell_lt e1)]; exact e1, by rw [hbcW.cell (Ap.cell_lt e2)]; exact e2, by rw [hbcW.cell (Ap.cell_lt e3)]; exact e3⟩
      exact nodes1_tree B l0 b off cap wc.heap.size l W hcW hvW hatW hl h1 hbcW.size hb0 J Jx hJ hY hJ0
end Go.Proofs.YtpingbiibbmcaaaGreat.Pl

namespace Go.Proofs.YtpingbiibbmcaaaGreat.Sp
open Go Go.Proofs.YtpingbiibbmcaaaGreat.Rw Go.Proofs.YtpingbiibbmcaaaGreat.So Go.Proofs.YtpingbiibbmcaaaGreat.Se Go.Proofs.YtpingbiibbmcaaaGreat.Tr Go.Proofs.YtpingbiibbmcaaaGreat.Mn Go.Proofs.YtpingbiibbmcaaaGreat.Do

/-- A move: its place, how, its action, if that is one, and what the tree is then. -/
structure Mo where
  p : Nat
  h : Int
  l : Option ByteArray
  r : Tm
def upm (f : Tm → Tm) (m : Mo) : Mo := ⟨m.p, m.h, m.l, f m.r⟩
/-- The moves of a tree that stands at a place, in order; d: one that waits outside of its blocks may give way. -/
def mvs : Bool → Tm → Nat → List Mo
  | _, .act s, i => [⟨i, 1, some s, .over 1⟩]
  | _, .alt a b, i => [⟨i, 2, none, a⟩, ⟨i, 3, none, b⟩]
  | d, .yield, i => ⟨i, 4, none, .over 1⟩ :: if d then [⟨i, 5, none, .over 3⟩] else []
  | d, .pair a b, i => ⟨i, 4, none, .going a b⟩ :: if d then [⟨i, 5, none, .fin 3 .skip⟩] else []
  | d, .seq a b, i => (mvs d a (i + 1)).map (upm (.seq · b))
  | d, .hand a b, i => (mvs d a (i + 1)).map (upm (.hand · b))
  | d, .going a b, i => (mvs d a (i + 1)).map (upm (.going · b))
  | d, .stack a b, i => (mvs d a (i + 1)).map (upm (.stack · b))
  | _, .block a, i => (mvs false a (i + 1)).map (upm .block)
  | d, .par a b, i => (mvs (d || bangT b) a (i + 1)).map (upm (.par · b)) ++ (mvs (d || bangT a) b (i + 1 + sz a)).map (upm (.par a ·))
  | _, _, _ => []
def lb (o : Option ByteArray) : Nat := match o with | none => 0 | some _ => 1
/-- What may be known of a move, by its tree: by cases. -/
theorem mv_ind {P : Tm → Mo → Prop}
    (act : ∀ s i, P (.act s) ⟨i, 1, some s, .over 1⟩)
    (altl : ∀ a b i, P (.alt a b) ⟨i, 2, none, a⟩) (altr : ∀ a b i, P (.alt a b) ⟨i, 3, none, b⟩)
    (yieldg : ∀ i, P .yield ⟨i, 4, none, .over 1⟩) (yields : ∀ i, P .yield ⟨i, 5, none, .over 3⟩)
    (pairg : ∀ a b i, P (.pair a b) ⟨i, 4, none, .going a b⟩) (pairs : ∀ a b i, P (.pair a b) ⟨i, 5, none, .fin 3 .skip⟩)
    (seq : ∀ a b m, P a m → P (.seq a b) (upm (.seq · b) m)) (hand : ∀ a b m, P a m → P (.hand a b) (upm (.hand · b) m))
    (going : ∀ a b m, P a m → P (.going a b) (upm (.going · b) m)) (stack : ∀ a b m, P a m → P (.stack a b) (upm (.stack · b) m))
    (block : ∀ a m, P a m → P (.block a) (upm .block m))
    (parl : ∀ a b m, P a m → P (.par a b) (upm (.par · b) m)) (parr : ∀ a b m, P b m → P (.par a b) (upm (.par a ·) m)) :
    ∀ (t : Tm) (d : Bool) (i : Nat), ∀ m ∈ mvs d t i, P t m := by
  intro t
  induction t with
  | act s => intro d i m hm; simp only [mvs, List.mem_singleton] at hm; rw [hm]; exact act s i
  | alt a b => intro d i m hm; simp only [mvs, List.mem_cons, List.not_mem_nil, or_false] at hm; rcases hm with rfl | rfl; exact altl a b i; exact altr a b i
  | yield => intro d i m hm; cases d <;> simp only [mvs, List.mem_cons, List.not_mem_nil, or_false, if_true, Bool.false_eq_true, if_false] at hm; rw [hm]; exact yieldg i; rcases hm with rfl | rfl; exact yieldg i; exact yields i
  | pair a b => intro d i m hm; cases d <;> simp only [mvs, List.mem_cons, List.not_mem_nil, or_false, if_true, Bool.false_eq_true, if_false] at hm; rw [hm]; exact pairg a b i; rcases hm with rfl | rfl; exact pairg a b i; exact pairs a b i
  | seq a b ia ib => intro d i m hm; obtain ⟨n, hn, rfl⟩ := List.mem_map.1 hm; exact seq a b n (ia _ _ n hn)
  | hand a b ia ib => intro d i m hm; obtain ⟨n, hn, rfl⟩ := List.mem_map.1 hm; exact hand a b n (ia _ _ n hn)
  | going a b ia ib => intro d i m hm; obtain ⟨n, hn, rfl⟩ := List.mem_map.1 hm; exact going a b n (ia _ _ n hn)
  | stack a b ia ib => intro d i m hm; obtain ⟨n, hn, rfl⟩ := List.mem_map.1 hm; exact stack a b n (ia _ _ n hn)
  | block a ia => intro d i m hm; obtain ⟨n, hn, rfl⟩ := List.mem_map.1 hm; exact block a n (ia _ _ n hn)
  | par a b ia ib =>
    intro d i m hm
    rcases List.mem_append.1 hm with hm | hm
    · obtain ⟨n, hn, rfl⟩ := List.mem_map.1 hm; exact parl a b n (ia _ _ n hn)
    · obtain ⟨n, hn, rfl⟩ := List.mem_map.1 hm; exact parr a b n (ib _ _ n hn)
  | _ => intro d i m hm; exact absurd hm (by simp [mvs])
theorem mv_sz : ∀ (t : Tm) (d : Bool) (i : Nat), ∀ m ∈ mvs d t i, sz m.r ≤ sz t := by
  refine mv_ind (P := fun t m => sz m.r ≤ sz t) ?_ ?_ ?_ ?_ ?_ ?_ ?_ ?_ ?_ ?_ ?_ ?_ ?_ ?_
  all_goals intros
  all_goals simp only [upm, sz] at *
  all_goals try omega
  rename_i a b i
  have := sz_pos a
  have := sz_pos b
  omega
theorem mv_is : ∀ (t : Tm) (d : Bool) (i : Nat), ∀ m ∈ mvs d t i, (is t 3 = true → is m.r 3 = true) ∧ (is t 4 = true → is m.r 4 = true) := by
  refine mv_ind (P := fun t m => (is t 3 = true → is m.r 3 = true) ∧ (is t 4 = true → is m.r 4 = true)) ?_ ?_ ?_ ?_ ?_ ?_ ?_ ?_ ?_ ?_ ?_ ?_ ?_ ?_
  · intro s i; simp [is]
  · intro a b i; have := is13 a; simp [is]; exact ⟨fun h _ => this.1 h, fun h _ => this.2 h⟩
  · intro a b i; have := is13 b; simp [is]; exact ⟨fun _ h => this.1 h, fun _ h => this.2 h⟩
  · intro i; simp [is]
  · intro i; simp [is]
  · intro a b i; have := is13 a; simp [is]; exact fun h k => ⟨this.1 h, k⟩
  · intro a b i; simp [is]
  · intro a b m h; simp only [upm, is]; simp; exact ⟨fun x y => ⟨h.1 x, y⟩, fun x y => ⟨h.2 x, y⟩⟩
  · intro a b m h; simp only [upm, is]; simp; exact fun x y => ⟨h.1 x, y⟩
  · intro a b m h; simp only [upm, is]; simp; exact fun x y => ⟨h.1 x, y⟩
  · intro a b m h; simp only [upm, is]; simp; exact fun x y => ⟨h.2 x, y⟩
  · intro a m h; simp only [upm, is]; simp; exact h.2
  · intro a b m h; simp only [upm, is]; simp; exact ⟨fun x y => ⟨h.1 x, y⟩, fun x y => ⟨h.2 x, y⟩⟩
  · intro a b m h; simp only [upm, is]; simp; exact ⟨fun x y => ⟨x, h.1 y⟩, fun x y => ⟨x, h.2 y⟩⟩
theorem mv_rg : ∀ (t : Tm) (d : Bool) (i : Nat), ∀ m ∈ mvs d t i, rg t = true → rg m.r = true := by
  refine mv_ind (P := fun t m => rg t = true → rg m.r = true) ?_ ?_ ?_ ?_ ?_ ?_ ?_ ?_ ?_ ?_ ?_ ?_ ?_ ?_
  all_goals intros
  all_goals simp only [upm, rg_seq, rg_alt, rg_hand, rg_par, rg_pair, rg_going, rg_stack, rg_block, rg_fin, rg_over, rg_skip, rgt_nEnd, Bool.and_eq_true] at *
  all_goals first | decide | simp_all
end Go.Proofs.YtpingbiibbmcaaaGreat.Sp

namespace Go.Proofs.YtpingbiibbmcaaaGreat.Se
open Go Go.RowKit Go.Proofs.YtpingbiibbmcaaaGreat.Rw Go.Proofs.YtpingbiibbmcaaaGreat.So
set_option maxRecDepth 20000

set_option maxHeartbeats 4000000 in
theorem settled_block (a : Tm) (v : Value) (w : World) (hv : Nds w v (flat (.block a))) (PA : Hid (PS a)) (hx : Hid (∀ s c, S a = .fin s c → PS c)) (hl : sz (.block a) ≤ 400) :
    Calls Tryz.prog 92 #[v] w (OutB w.heap.size (sBlock S (S a)) w) := by
  have HK : Hid (∀ w1, Below w.heap.size w w1 → Calls Tryz.prog 64 #[v] w1 (Rx.KidsOwn [flat a] w1)) := Lib.hid fun w1 hb => by
    have h := Rx.kidsP_own v (flat (.block a)) w1 (hv.below hb) (by rw [flat_len]; omega)
    rw [show kids (flat (.block a)) = [flat a] from kids_block a] at h
    exact h
  have GO : Hid (∀ w, Calls Tryz.prog 110 #[.int .i64 9] w fun e w' => e = .returned (.int .i64 1) ∧ w = w') := Lib.hid fun w => goOn_any (.block a) w
  have HL : Hid (sz (.block a) ≤ 400) := Lib.hid hl
  obtain ⟨bb, oo, cc, rfl, hc, hlt, hw, hat⟩ := form3 hv
  obtain ⟨nn, hn⟩ : ∃ n, sz (.block a) = n + 1 := ⟨sz (.block a) - 1, by have := sz_pos (.block a); omega⟩
  rw [hn] at hc HK ⊢
  have g3 : (1 : Int) ≤ (nn : Int) + 1 := by omega
  rw [show kd (.block a) = 9 from rfl, show nmT (.block a) = ⟨#[]⟩ from rfl, show sg (.block a) = 0 from rfl] at hw
  obtain ⟨e0, e1, e2⟩ := hw w (Below.refl _ _)
  unfold OutB
  clear hat hv hl hn hw
  go_enter Tryz.func92, Tryz.ntmps92
  go_upto_region 1 with fail
  go_cut [3, 4] (fun s3 s4 wx => ∃ (B : Nat), s3 = .pointer (some ⟨B, 0, none⟩) ∧ w.heap.size ≤ B ∧ BoxN wx B 9 0 ⟨#[]⟩ ∧ Kd w.heap.size B wx s4 [flat a] ∧ Below w.heap.size w wx)
  case first =>
    clear GO HL
    go_region_with (first
      | (go_at_call 64
         (with_reducible refine (HK.out _ (Below.refl _ _).drew).mono ?_)
         rintro e w1 ⟨y, cs, rfl, hown, hk, hb1⟩
         have B1 := Lib.hid ((Below.refl w.heap.size w).drew.trans hb1)
         have K1 : Hid (Kd w.heap.size w1.heap.size w1 y [flat a]) := Lib.hid (kd_of hown hk (.inr (Nat.le_refl _)))
         have c0 : w1.cell? ⟨bb, oo, none⟩ = some (.int .i64 9) := by rw [B1.out.cell (p := ⟨bb, oo, none⟩) hlt]; exact e0
         have c1 : w1.cell? ⟨bb, oo + 1, none⟩ = some (.string ⟨#[]⟩) := by rw [B1.out.cell (p := ⟨bb, oo + 1, none⟩) hlt]; exact e1
         have c2 : w1.cell? ⟨bb, oo + 2, none⟩ = some (.int .i64 0) := by rw [B1.out.cell (p := ⟨bb, oo + 2, none⟩) hlt]; exact e2
         have hbl1 : bb < w1.heap.size := Ap.cell_lt c0
         clear hown hk hb1)
      | (go_at_call 64
         (refine (HK.out _ ((Below.refl _ _).alloc (Nat.le_refl _) _).drew).mono ?_)
         rintro e w1 ⟨y, cs, rfl, hown, hk, hb1⟩
         have B1 := Lib.hid (((Below.refl w.heap.size w).alloc (Nat.le_refl _) _).drew.trans (hb1.mono (by simp)))
         have KB : Hid (∀ u1 u2 u3 : Value, Kd w.heap.size w.heap.size (((w1.setCell ⟨w.heap.size, 0, none⟩ u1).setCell ⟨w.heap.size, 1, none⟩ u2).setCell ⟨w.heap.size, 2, none⟩ u3) y [flat a]) := Lib.hid fun u1 u2 u3 => ((Kd.base (base' := w.heap.size) (B' := w.heap.size) (kd_of (B := w.heap.size) hown hk (.inl (by simp))) (by simp) (fun k h1 _ e => by simp at h1; omega)).setB.setB).setB
         have k0 : w1.cell? ⟨w.heap.size, 0, none⟩ = some (.int .i64 0) := by rw [hb1.cell (p := ⟨w.heap.size, 0, none⟩) (by simp)]; simp [go_sem]
         have k1 : w1.cell? ⟨w.heap.size, 1, none⟩ = some (.string ⟨#[]⟩) := by rw [hb1.cell (p := ⟨w.heap.size, 1, none⟩) (by simp)]; simp [go_sem]
         have k2 : w1.cell? ⟨w.heap.size, 2, none⟩ = some (.int .i64 0) := by rw [hb1.cell (p := ⟨w.heap.size, 2, none⟩) (by simp)]; simp [go_sem]
         have f0 : w1.frozen? ⟨w.heap.size, 0, none⟩ = false := by rw [hb1.frozen (p := ⟨w.heap.size, 0, none⟩) (by simp)]; simp [go_sem]
         have f1 : w1.frozen? ⟨w.heap.size, 1, none⟩ = false := by rw [hb1.frozen (p := ⟨w.heap.size, 1, none⟩) (by simp)]; simp [go_sem]
         have f2 : w1.frozen? ⟨w.heap.size, 2, none⟩ = false := by rw [hb1.frozen (p := ⟨w.heap.size, 2, none⟩) (by simp)]; simp [go_sem]
         have c0 : w1.cell? ⟨bb, oo, none⟩ = some (.int .i64 9) := by rw [B1.out.cell (p := ⟨bb, oo, none⟩) hlt]; exact e0
         have c1 : w1.cell? ⟨bb, oo + 1, none⟩ = some (.string ⟨#[]⟩) := by rw [B1.out.cell (p := ⟨bb, oo + 1, none⟩) hlt]; exact e1
         have c2 : w1.cell? ⟨bb, oo + 2, none⟩ = some (.int .i64 0) := by rw [B1.out.cell (p := ⟨bb, oo + 2, none⟩) hlt]; exact e2
         have hbl1 : bb < w1.heap.size := Ap.cell_lt c0
         clear hown hk hb1)
      | fail)
    all_goals go_wp2_with fail
    all_goals go_meet
    all_goals first
      | exact ⟨_, rfl, B1.out.size, ⟨by simp, by simp, by simp⟩, K1.out.below (below1 _ _), B1.out.alloc B1.out.size _⟩
      | exact ⟨_, rfl, Nat.le_refl _, box_set k0 k1 k2, KB.out _ _ _, ((B1.out.setCell (Nat.le_refl _) _).setCell (Nat.le_refl _) _).setCell (Nat.le_refl _) _⟩
  case rest =>
    obtain ⟨B, rfl, hB, hbx, hkd, hbel⟩ := hcut
    have BB := Lib.hid hbel
    have BX := Lib.hid hbx
    have KK := Lib.hid hkd
    have HLB := Lib.hid hB
    obtain ⟨x0, x1, x2⟩ := hbx
    clear hbel HK e0 e1 e2 hB
    obtain ⟨g, ck, y0, rfl, hg, hgB, hgl, hf, q0, r0⟩ := Kd.one hkd
    clear hkd
    go_wp2_with fail
    refine (GO.out _).mono ?_
    rintro e w0 ⟨rfl, rfl⟩
    go_wp2_with fail
    refine Go.wp_loop_rounds 2 ?_
    rw [rounds_succ]
    go_wp2_with fail
    refine (PA.out y0 wc (Ap.RdO.rd r0)).mono ?_
    rintro e w1 ⟨z, rfl, hn, hb⟩
    obtain ⟨_, az, cz, rfl, -⟩ := id hn
    have hg1 : g < w1.heap.size := Nat.lt_of_lt_of_le hgl hb.size
    have p0 : w1.cell? ⟨g, 0, none⟩ = some y0 := by rw [hb.cell (p := ⟨g, 0, none⟩) hgl]; exact q0
    have hf1 : ∀ j, w1.frozen? ⟨g, j, none⟩ = false := fun j => by rw [hb.frozen (p := ⟨g, j, none⟩) hgl]; exact hf j
    have f0 := hf1 0
    have HF1 := Lib.hid hf1
    have X1 := Lib.hid (BX.out.below hb)
    have D1 := Lib.hid (BB.out.trans (hb.mono BB.out.size))
    have Z1 := Lib.hid hn
    clear hn hb hf hf1
    go_wp2_with fail
    rw [rounds_succ]
    have D1s := Lib.hid (D1.out.setCell (p := ⟨g, 0, none⟩) (show w.heap.size ≤ g from hg) (.slice az (flat (S a)).length cz))
    have X1s := Lib.hid (BoxN.set (o := 0) (x := .slice az (flat (S a)).length cz) X1.out (Ne.symm hgB))
    obtain ⟨v0, v1, v2⟩ := X1s.out
    have ZS : Hid (NdO w.heap.size (w1.setCell ⟨g, 0, none⟩ (.slice az (flat (S a)).length cz)) (.slice az (flat (S a)).length cz) (S a)) := Lib.hid (NdO.more (rdo_set Z1.out fun k hk => by omega) (Nat.le_trans HLB.out (Nat.le_of_lt BX.out.lt)))
    have s0 := cell_set_eq (x := .slice az (flat (S a)).length cz) p0
    go_wp2_with fail
    refine (comes_block w.heap.size (S a) g ck _ _ s0 ZS.out.nds hx D1s.out.size (by have := HL.out; have := S_sz a; simp only [sz] at *; omega)).mono ?_
    rintro e w3 ⟨u, rfl, hn, hb⟩
    have N3 := Lib.hid hn
    have D3 := Lib.hid (D1s.out.trans (hb.mono D1s.out.size))
    clear hn hb
    go_wp2_with fail
    go_ret
    exact ⟨_, rfl, N3.out, D3.out⟩
set_option maxHeartbeats 4000000 in
theorem settled_par (a b : Tm) (v : Value) (w : World) (hv : Nds w v (flat (.par a b))) (PA : Hid (PS a)) (PB : Hid (PS b)) (hl : sz (.par a b) ≤ 400) :
    Calls Tryz.prog 92 #[v] w (OutB w.heap.size (sPar (S a) (S b)) w) := by
  have HK : Hid (∀ w1, Below w.heap.size w w1 → Calls Tryz.prog 64 #[v] w1 (Rx.KidsOwn [flat a, flat b] w1)) := Lib.hid fun w1 hb => by
    have h := Rx.kidsP_own v (flat (.par a b)) w1 (hv.below hb) (by rw [flat_len]; omega)
    rw [show kids (flat (.par a b)) = [flat a, flat b] from kids_par a b] at h
    exact h
  have GO : Hid (∀ w, Calls Tryz.prog 110 #[.int .i64 7] w fun e w' => e = .returned (.int .i64 2) ∧ w = w') := Lib.hid fun w => goOn_any (.par a b) w
  have HL : Hid (sz (.par a b) ≤ 400) := Lib.hid hl
  obtain ⟨bb, oo, cc, rfl, hc, hlt, hw, hat⟩ := form3 hv
  obtain ⟨nn, hn⟩ : ∃ n, sz (.par a b) = n + 1 := ⟨sz (.par a b) - 1, by have := sz_pos (.par a b); omega⟩
  rw [hn] at hc HK ⊢
  have g3 : (1 : Int) ≤ (nn : Int) + 1 := by omega
  rw [show kd (.par a b) = 7 from rfl, show nmT (.par a b) = ⟨#[]⟩ from rfl, show sg (.par a b) = 0 from rfl] at hw
  obtain ⟨e0, e1, e2⟩ := hw w (Below.refl _ _)
  unfold OutB
  clear hat hv hl hn hw
  go_enter Tryz.func92, Tryz.ntmps92
  go_upto_region 1 with fail
  go_cut [3, 4] (fun s3 s4 wx => ∃ (B : Nat), s3 = .pointer (some ⟨B, 0, none⟩) ∧ w.heap.size ≤ B ∧ BoxN wx B 7 0 ⟨#[]⟩ ∧ Kd w.heap.size B wx s4 [flat a, flat b] ∧ Below w.heap.size w wx)
  case first =>
    clear GO HL
    go_region_with (first
      | (go_at_call 64
         (with_reducible refine (HK.out _ (Below.refl _ _).drew).mono ?_)
         rintro e w1 ⟨y, cs, rfl, hown, hk, hb1⟩
         have B1 := Lib.hid ((Below.refl w.heap.size w).drew.trans hb1)
         have K1 : Hid (Kd w.heap.size w1.heap.size w1 y [flat a, flat b]) := Lib.hid (kd_of hown hk (.inr (Nat.le_refl _)))
         have c0 : w1.cell? ⟨bb, oo, none⟩ = some (.int .i64 7) := by rw [B1.out.cell (p := ⟨bb, oo, none⟩) hlt]; exact e0
         have c1 : w1.cell? ⟨bb, oo + 1, none⟩ = some (.string ⟨#[]⟩) := by rw [B1.out.cell (p := ⟨bb, oo + 1, none⟩) hlt]; exact e1
         have c2 : w1.cell? ⟨bb, oo + 2, none⟩ = some (.int .i64 0) := by rw [B1.out.cell (p := ⟨bb, oo + 2, none⟩) hlt]; exact e2
         have hbl1 : bb < w1.heap.size := Ap.cell_lt c0
         clear hown hk hb1)
      | (go_at_call 64
         (refine (HK.out _ ((Below.refl _ _).alloc (Nat.le_refl _) _).drew).mono ?_)
         rintro e w1 ⟨y, cs, rfl, hown, hk, hb1⟩
         have B1 := Lib.hid (((Below.refl w.heap.size w).alloc (Nat.le_refl _) _).drew.trans (hb1.mono (by simp)))
         have KB : Hid (∀ u1 u2 u3 : Value, Kd w.heap.size w.heap.size (((w1.setCell ⟨w.heap.size, 0, none⟩ u1).setCell ⟨w.heap.size, 1, none⟩ u2).setCell ⟨w.heap.size, 2, none⟩ u3) y [flat a, flat b]) := Lib.hid fun u1 u2 u3 => ((Kd.base (base' := w.heap.size) (B' := w.heap.size) (kd_of (B := w.heap.size) hown hk (.inl (by simp))) (by simp) (fun k h1 _ e => by simp at h1; omega)).setB.setB).setB
         have k0 : w1.cell? ⟨w.heap.size, 0, none⟩ = some (.int .i64 0) := by rw [hb1.cell (p := ⟨w.heap.size, 0, none⟩) (by simp)]; simp [go_sem]
         have k1 : w1.cell? ⟨w.heap.size, 1, none⟩ = some (.string ⟨#[]⟩) := by rw [hb1.cell (p := ⟨w.heap.size, 1, none⟩) (by simp)]; simp [go_sem]
         have k2 : w1.cell? ⟨w.heap.size, 2, none⟩ = some (.int .i64 0) := by rw [hb1.cell (p := ⟨w.heap.size, 2, none⟩) (by simp)]; simp [go_sem]
         have f0 : w1.frozen? ⟨w.heap.size, 0, none⟩ = false := by rw [hb1.frozen (p := ⟨w.heap.size, 0, none⟩) (by simp)]; simp [go_sem]
         have f1 : w1.frozen? ⟨w.heap.size, 1, none⟩ = false := by rw [hb1.frozen (p := ⟨w.heap.size, 1, none⟩) (by simp)]; simp [go_sem]
         have f2 : w1.frozen? ⟨w.heap.size, 2, none⟩ = false := by rw [hb1.frozen (p := ⟨w.heap.size, 2, none⟩) (by simp)]; simp [go_sem]
         have c0 : w1.cell? ⟨bb, oo, none⟩ = some (.int .i64 7) := by rw [B1.out.cell (p := ⟨bb, oo, none⟩) hlt]; exact e0
         have c1 : w1.cell? ⟨bb, oo + 1, none⟩ = some (.string ⟨#[]⟩) := by rw [B1.out.cell (p := ⟨bb, oo + 1, none⟩) hlt]; exact e1
         have c2 : w1.cell? ⟨bb, oo + 2, none⟩ = some (.int .i64 0) := by rw [B1.out.cell (p := ⟨bb, oo + 2, none⟩) hlt]; exact e2
         have hbl1 : bb < w1.heap.size := Ap.cell_lt c0
         clear hown hk hb1)
      | fail)
    all_goals go_wp2_with fail
    all_goals go_meet
    all_goals first
      | exact ⟨_, rfl, B1.out.size, ⟨by simp, by simp, by simp⟩, K1.out.below (below1 _ _), B1.out.alloc B1.out.size _⟩
      | exact ⟨_, rfl, Nat.le_refl _, box_set k0 k1 k2, KB.out _ _ _, ((B1.out.setCell (Nat.le_refl _) _).setCell (Nat.le_refl _) _).setCell (Nat.le_refl _) _⟩
  case rest =>
    obtain ⟨B, rfl, hB, hbx, hkd, hbel⟩ := hcut
    have BB := Lib.hid hbel
    have BX := Lib.hid hbx
    have KK := Lib.hid hkd
    have HLB := Lib.hid hB
    obtain ⟨x0, x1, x2⟩ := hbx
    clear hbel HK e0 e1 e2 hB
    obtain ⟨g, ck, y0, y1, rfl, hg, hgB, hgl, hf, q0, q1, r0, r1⟩ := Kd.two hkd
    clear hkd
    go_wp2_with fail
    refine (GO.out _).mono ?_
    rintro e w0 ⟨rfl, rfl⟩
    go_wp2_with fail
    refine Go.wp_loop_rounds 3 ?_
    rw [rounds_succ]
    go_wp2_with fail
    refine (PA.out y0 wc (Ap.RdO.rd r0)).mono ?_
    rintro e w1 ⟨z, rfl, hn, hb⟩
    obtain ⟨_, az, cz, rfl, -⟩ := id hn
    have hg1 : g < w1.heap.size := Nat.lt_of_lt_of_le hgl hb.size
    have p0 : w1.cell? ⟨g, 0, none⟩ = some y0 := by rw [hb.cell (p := ⟨g, 0, none⟩) hgl]; exact q0
    have p1 : w1.cell? ⟨g, 1, none⟩ = some y1 := by rw [hb.cell (p := ⟨g, 1, none⟩) hgl]; exact q1
    have hf1 : ∀ j, w1.frozen? ⟨g, j, none⟩ = false := fun j => by rw [hb.frozen (p := ⟨g, j, none⟩) hgl]; exact hf j
    have f0 := hf1 0
    have HF1 := Lib.hid hf1
    have X1 := Lib.hid (BX.out.below hb)
    have D1 := Lib.hid (BB.out.trans (hb.mono BB.out.size))
    have Z1 := Lib.hid hn
    have Y1 := Lib.hid (Ap.RdO.below r1 hb)
    clear hn hb hf hf1
    go_wp2_with fail
    rw [rounds_succ]
    have D1s := Lib.hid (D1.out.setCell (p := ⟨g, 0, none⟩) (show w.heap.size ≤ g from hg) (.slice az (flat (S a)).length cz))
    have X1s := Lib.hid (BoxN.set (o := 0) (x := (.slice az (flat (S a)).length cz)) X1.out (Ne.symm hgB))
    have ZS : Hid (NdO w.heap.size (w1.setCell ⟨g, 0, none⟩ (.slice az (flat (S a)).length cz)) (.slice az (flat (S a)).length cz) (S a)) := Lib.hid (NdO.more (rdo_set Z1.out fun k hk => by omega) (Nat.le_trans HLB.out (Nat.le_of_lt BX.out.lt)))
    have ZG : Hid (Ap.RdO (fun k => wc.heap.size ≤ k) (w1.setCell ⟨g, 0, none⟩ (.slice az (flat (S a)).length cz)) 3 (.slice az (flat (S a)).length cz) (flat (S a)).length (cls (flat (S a)))) := Lib.hid (rdo_set Z1.out fun k hk => by omega)
    have s0 := cell_set_eq (x := (.slice az (flat (S a)).length cz)) p0
    have s1 := (cell_set_o (g := g) (x := (.slice az (flat (S a)).length cz)) (show 0 ≠ 1 by decide)).trans p1
    have YS := Lib.hid (Ap.RdO.rd (rdo_set (o := 0) (x := (.slice az (flat (S a)).length cz)) Y1.out fun k hk => hk.2.2))
    have hg2 : g < (w1.setCell ⟨g, 0, none⟩ (.slice az (flat (S a)).length cz)).heap.size := Ap.cell_lt s0
    have hf2 : ∀ j, (w1.setCell ⟨g, 0, none⟩ (.slice az (flat (S a)).length cz)).frozen? ⟨g, j, none⟩ = false := fun j => by rw [frozen_set]; exact HF1.out j
    go_wp2_with fail
    refine (PB.out y1 _ YS.out).mono ?_
    generalize w1.setCell ⟨g, 0, none⟩ (.slice az (flat (S a)).length cz) = W1 at D1s X1s ZS ZG s0 s1 YS hg2 hf2 ⊢
    rintro e w2 ⟨z', rfl, hn, hb⟩
    obtain ⟨_, az', cz', rfl, -⟩ := id hn
    have t0 : w2.cell? ⟨g, 0, none⟩ = some (.slice az (flat (S a)).length cz) := by rw [hb.cell (p := ⟨g, 0, none⟩) hg2]; exact s0
    have t1 : w2.cell? ⟨g, 1, none⟩ = some y1 := by rw [hb.cell (p := ⟨g, 1, none⟩) hg2]; exact s1
    have hf3 : w2.frozen? ⟨g, 1, none⟩ = false := by rw [hb.frozen (p := ⟨g, 1, none⟩) hg2]; exact hf2 1
    have X2 := Lib.hid (BoxN.set (o := 1) (x := .slice az' (flat (S b)).length cz') (X1s.out.below hb) (Ne.symm hgB))
    have D2 := Lib.hid ((D1s.out.trans (hb.mono D1s.out.size)).setCell (p := ⟨g, 1, none⟩) (show w.heap.size ≤ g from hg) (.slice az' (flat (S b)).length cz'))
    have ZS2 : Hid (NdO w.heap.size (w2.setCell ⟨g, 1, none⟩ (.slice az' (flat (S b)).length cz')) (.slice az (flat (S a)).length cz) (S a)) := Lib.hid (Ap.RdO.imp (rdo_set (ZG.out.below hb) fun k hk => by omega) fun k _ hk => Nat.le_trans HLB.out (Nat.le_trans (Nat.le_of_lt BX.out.lt) hk))
    have ZT2 := Lib.hid (Ap.RdO.rd (rdo_set (o := 1) (g := g) (x := .slice az' (flat (S b)).length cz') hn fun k hk => by omega))
    have u0 := (cell_set_o (g := g) (x := .slice az' (flat (S b)).length cz') (show 1 ≠ 0 by decide)).trans t0
    have u1 := cell_set_eq (x := .slice az' (flat (S b)).length cz') t1
    clear hn hb hf2 s0 s1
    go_wp2_with fail
    rw [rounds_succ]
    obtain ⟨v0, v1, v2⟩ := X2.out
    go_wp2_with fail
    refine (comes_par w.heap.size (S a) (S b) g ck _ _ _ u0 u1 ZS2.out ZT2.out D2.out.size (by have := HL.out; have := S_sz a; have := S_sz b; simp only [sz] at *; omega)).mono ?_
    rintro e w3 ⟨u, rfl, hn, hb⟩
    have N3 := Lib.hid hn
    have D3 := Lib.hid (D2.out.trans (hb.mono D2.out.size))
    clear hn hb
    go_wp2_with fail
    go_ret
    exact ⟨_, rfl, N3.out, D3.out⟩
/-- The program's settled. -/
theorem settledP_any : ∀ t : Tm, sz t ≤ 400 → (is t 3 = true ∨ is t 4 = true) → PS t := by
  apply S_ind
  intro t ih hl hi v w hv
  cases t with
  | act s => exact settled_act s v w hv hl
  | skip => exact settled_skip v w hv hl
  | throw => exact settled_throw v w hv hl
  | yield => exact settled_yield v w hv hl
  | over s => exact settled_over s v w hv hl
  | fin s c => exact settled_fin s c v w hv hl
  | alt a b => exact settled_alt a b v w hv hl
  | pair a b => exact settled_pair a b v w hv hl
  | seq a b =>
    have hz : sz (.seq a b) = sz a + sz b + 1 := rfl
    have ia : is a 3 = true ∨ is a 4 = true := by simp [is] at hi; exact hi.imp (·.1) (·.1)
    have ib : is b 3 = true ∨ is b 4 = true := by simp [is] at hi; exact hi.imp (fun h => (is13 b).1 h.2) (fun h => (is13 b).2 h.2)
    rw [S_seq]
    exact settled_seq a b v w hv (Lib.hid (ih a (by omega) (by omega) ia)) (Lib.hid (ih b (by omega) (by omega) ib)) hl
  | hand a b =>
    have hz : sz (.hand a b) = sz a + sz b + 1 := rfl
    have h3 : is a 3 = true ∧ is b 1 = true := by simpa [is] using hi
    rw [S_hand]
    exact settled_hand a b v w hv (Lib.hid (ih a (by omega) (by omega) (.inl h3.1))) (Lib.hid (ih b (by omega) (by omega) (.inl ((is13 b).1 h3.2)))) (Lib.hid (not14 ((S_is a).1 h3.1))) hl
  | going a b =>
    have hz : sz (.going a b) = sz a + sz b + 1 := rfl
    have h3 : is a 3 = true ∧ is b 1 = true := by simpa [is] using hi
    rw [S_going]
    exact settled_going a b v w hv (Lib.hid (ih a (by omega) (by omega) (.inl h3.1))) hl
  | stack a b =>
    have hz : sz (.stack a b) = sz a + sz b + 1 := rfl
    have h3 : is a 4 = true ∧ is b 1 = true := by simpa [is] using hi
    rw [S_stack]
    exact settled_stack a b v w hv (Lib.hid (ih a (by omega) (by omega) (.inr h3.1))) hl
  | par a b =>
    have hz : sz (.par a b) = sz a + sz b + 1 := rfl
    have ia : is a 3 = true ∨ is a 4 = true := by simp [is] at hi; exact hi.imp (·.1) (·.1)
    have ib : is b 3 = true ∨ is b 4 = true := by simp [is] at hi; exact hi.imp (·.2) (·.2)
    rw [S_par]
    exact settled_par a b v w hv (Lib.hid (ih a (by omega) (by omega) ia)) (Lib.hid (ih b (by omega) (by omega) ib)) hl
  | block a =>
    have hz : sz (.block a) = sz a + 1 := rfl
    have h4 : is a 4 = true := by simpa [is] using hi
    rw [S_block]
    refine settled_block a v w hv (Lib.hid (ih a (by omega) (by omega) (.inr h4))) (Lib.hid fun s c e => ?_) hl
    have h5 := (S_is a).2 h4
    have h6 := S_sz a
    rw [e] at h5 h6
    simp [is] at h5
    simp only [sz] at h6
    exact ih c (by omega) (by omega) (.inl ((is13 c).1 h5))
end Go.Proofs.YtpingbiibbmcaaaGreat.Se

namespace Go.Proofs.YtpingbiibbmcaaaGreat.Pl
open Go Go.RowKit Go.Proofs.YtpingbiibbmcaaaGreat.Rw Go.Proofs.YtpingbiibbmcaaaGreat.So Go.Proofs.YtpingbiibbmcaaaGreat.Ro
set_option maxRecDepth 20000

theorem cell_new_l (W : World) (v : Value) (t : TypeId) : (W.alloc (.cells #[v] t)).cell? ⟨W.heap.size, 0, none⟩ = some v ∧ (W.alloc (.cells #[v] t)).frozen? ⟨W.heap.size, 0, none⟩ = false := by
  constructor <;> simp
theorem cell_al {W : World} {a : Addr} {v : Value} (o : Obj) (h : W.cell? a = some v ∧ W.frozen? a = false) : (W.alloc o).cell? a = some v ∧ (W.alloc o).frozen? a = false := by
  have hb := below1 W o
  exact ⟨by rw [hb.cell (Ap.cell_lt h.1)]; exact h.1, by rw [World.frozen?_of_block (hb.block _ (Ap.cell_lt h.1))]; exact h.2⟩
theorem turn_frozen {M : Nat → Prop} {w w' : World} {p : Addr} {u : Value} (ht : Turn M w w') (hc : w.cell? p = some u) (hn : ¬ M p.block) : w'.frozen? p = w.frozen? p :=
  World.frozen?_of_block (ht.block _ (Ap.cell_lt hc) hn)
/-- The point of node k; the first k points; all points. -/
def pt (l : List Nd) (k : Nat) : Nat × Nat := (xl l k, (ov l k).length)
theorem rounds_lt {l : List Nd} {k : Nat} (h : k < rounds l) : k < l.length := by
  unfold rounds at h
  split at h
  · exact h
  · omega
/-! ### Points: a point laid onto the row -/
structure SepG (q : Nat) (A : World) (vp : Value) (bp bx : Nat) : Prop where
  hp : ∀ g, vp.ownBlock = some g → q ≤ g ∧ g < A.heap.size
  hbp : bp < q
  hbx : bx < q
  hne : bx ≠ bp
  hq : q ≤ A.heap.size
section
variable {q : Nat} {A : World} {vp va : Value} {bp bx : Nat} {x n : Nat} {P : List (Nat × Nat)}
end

/-! ### One more leaf or not, laid into its box -/
section
variable {v : Value} {b p bx x k : Nat} {y : Nd} {A : World}
end
end Go.Proofs.YtpingbiibbmcaaaGreat.Pl

namespace Go.Proofs.YtpingbiibbmcaaaGreat.Sp
open Go Go.Proofs.YtpingbiibbmcaaaGreat.Rw Go.Proofs.YtpingbiibbmcaaaGreat.So Go.Proofs.YtpingbiibbmcaaaGreat.Se Go.Proofs.YtpingbiibbmcaaaGreat.Tr Go.Proofs.YtpingbiibbmcaaaGreat.Mn Go.Proofs.YtpingbiibbmcaaaGreat.Do

/-- Has it given way, outside of its blocks, where nothing throws? -/
def gv : Tm → Bool
  | .over s => s == 3
  | .fin s _ => s == 3
  | .seq a _ => gv a
  | .hand a _ => gv a && !bangT a
  | .going a _ => gv a
  | .stack a _ => gv a
  | .par a b => gv a || gv b
  | _ => false
/-- What is in a block has given way just where it will be taken back. -/
def J : Tm → Bool
  | .seq a _ => J a
  | .hand a _ => J a
  | .going a _ => J a
  | .stack a _ => J a
  | .par a b => J a && J b
  | .block a => J a && (!gv a || bangT a)
  | _ => true
theorem stk_bang (a d : Tm) : bangT (stk a d) = bangT a := by cases a <;> rfl
theorem stk_gv (a d : Tm) : gv (stk a d) = gv a := by cases a <;> rfl
theorem stk_J (a d : Tm) : J (stk a d) = J a := by cases a <;> rfl
theorem seq_cs (S : Tm → Tm) (x b : Tm) : (∃ s, x = .over s) ∨ (∃ s c, x = .fin s c) ∨ sSeq S x b = .seq x b := by
  cases x with
  | over s => exact .inl ⟨s, rfl⟩
  | fin s c => exact .inr (.inl ⟨s, c, rfl⟩)
  | _ => exact .inr (.inr rfl)
theorem hand_cs (S : Tm → Tm) (x b : Tm) : (∃ s, x = .over s) ∨ sHand S x b = .hand x b := by
  cases x with
  | over s => exact .inl ⟨s, rfl⟩
  | _ => exact .inr rfl
theorem block_cs (S : Tm → Tm) (x : Tm) : (∃ s c, x = .fin s c) ∨ sBlock S x = .block x := by
  cases x with
  | fin s c => exact .inl ⟨s, c, rfl⟩
  | _ => exact .inr rfl
theorem going_cs (x b : Tm) : (∃ s, x = .over s) ∨ sGoing x b = .going x b := by
  cases x with
  | over s => exact .inl ⟨s, rfl⟩
  | _ => exact .inr rfl
/-- What may come of a term: settled, of a kind, and blocks are as they should. -/
structure Run (t : Tm) : Prop where
  nf : Nf t
  rg : Se.rg t = true
  is3 : is t 3 = true
  j : J t = true
end Go.Proofs.YtpingbiibbmcaaaGreat.Sp
