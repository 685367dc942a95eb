/- Plain: no run has more moves than the most; where no choice is, and nothing throws or gives way, just as many as the least. The document's Trace of what was played, and a trace without what a move does. Plain: what was done by a move. The program's done and after: the walks. The document's Same and Pick: the walks. The program's Of: the walk. CostNumbers, CostOrder, CostCrashes: the walks. A map whose elements read as themselves; an entry set by a composite literal. The document's Digits, word, Text: the walks. slices.Index and slices.Contains over moves: the walks. The document's Next, Refuse: the walks. A row of texts of the call's own, of whose block all cells are texts: what reads as nodes lies elsewhere. -/
import Derived.Test.YtpingbiibbmcaaaGreatQ26
import Derived.Test.YtpingbiibbmcaaaGreatQ27
import Derived.Test.YtpingbiibbmcaaaGreatQ04
import Derived.Test.YtpingbiibbmcaaaGreatQ11
import Derived.Test.YtpingbiibbmcaaaGreatQ18
import Derived.Test.YtpingbiibbmcaaaGreatQ25
import Derived.Test.YtpingbiibbmcaaaGreatQ06
import Derived.Laws.ResultCell
import Derived.Laws.Rows
import Derived.Maps.Views
import Derived.Maps.OwnOps
import Derived.Deep.DeepCutAuto
import Derived.Lib.ItoaLen
import Derived.Deep.QuietTactic
import Derived.BigQuiet
import Derived.Test.YtpingbiibbmcaaaGreatQ03
import Derived.OwnWalk
import Derived.Test.YtpingbiibbmcaaaGreatQ09

namespace Go.Proofs.YtpingbiibbmcaaaGreat.Co
open Go Go.RowKit Go.Proofs.YtpingbiibbmcaaaGreat.Rw Go.Proofs.YtpingbiibbmcaaaGreat.So Go.Proofs.YtpingbiibbmcaaaGreat.Se Go.Proofs.YtpingbiibbmcaaaGreat.Do Go.Proofs.YtpingbiibbmcaaaGreat.Sp Go.Proofs.YtpingbiibbmcaaaGreat.Me Go.Proofs.YtpingbiibbmcaaaGreat.St Go.Proofs.YtpingbiibbmcaaaGreat.Ru
set_option maxRecDepth 20000

theorem play_most (l : List Nd) (ps : List Int) : (play l ps).n + cr false (play l ps).l ≤ cr false l := by
  induction ps generalizing l with
  | nil => exact Nat.le_of_eq (Nat.zero_add _)
  | cons z ps ih =>
    by_cases h : enR l = []
    · rw [show play l (z :: ps) = ⟨l, [], 0⟩ from fold_stop (z :: ps) (r := ⟨l, [], 0⟩) h]
      exact Nat.le_of_eq (Nat.zero_add _)
    · rw [play_cons l z ps h]
      have h1 := ih (nxL l (pkM l z))
      have h2 := cr_fall (pk_in h z)
      simp only
      omega
theorem all_bare : ∀ t : Tm, (∀ n ∈ Se.flat t, n.k = 1 ∨ n.k = 5 ∨ n.k = 7) → bare t = true := by
  intro t
  induction t with
  | act s => intro _; rfl
  | seq a b ia ib =>
    intro h
    have h' : ∀ n ∈ nOf 5 :: (Se.flat a ++ Se.flat b), n.k = 1 ∨ n.k = 5 ∨ n.k = 7 := h
    simp only [bare, Bool.and_eq_true]
    exact ⟨ia fun n hn => h' n (List.mem_cons_of_mem _ (List.mem_append_left _ hn)), ib fun n hn => h' n (List.mem_cons_of_mem _ (List.mem_append_right _ hn))⟩
  | par a b ia ib =>
    intro h
    have h' : ∀ n ∈ nOf 7 :: (Se.flat a ++ Se.flat b), n.k = 1 ∨ n.k = 5 ∨ n.k = 7 := h
    simp only [bare, Bool.and_eq_true]
    exact ⟨ia fun n hn => h' n (List.mem_cons_of_mem _ (List.mem_append_left _ hn)), ib fun n hn => h' n (List.mem_cons_of_mem _ (List.mem_append_right _ hn))⟩
  | skip => intro h; exact absurd (h (nOf 2) (List.mem_cons_self ..)) (by decide)
  | throw => intro h; exact absurd (h (nOf 3) (List.mem_cons_self ..)) (by decide)
  | yield => intro h; exact absurd (h (nOf 4) (List.mem_cons_self ..)) (by decide)
  | over s => intro h; exact absurd (h (nOver s) (List.mem_cons_self ..)) (by show ¬ ((11 : Int) = 1 ∨ (11 : Int) = 5 ∨ (11 : Int) = 7); decide)
  | fin s c _ => intro h; exact absurd (h (nEnd s) (List.mem_cons_self ..)) (by show ¬ ((14 : Int) = 1 ∨ (14 : Int) = 5 ∨ (14 : Int) = 7); decide)
  | block a _ => intro h; exact absurd (h (nOf 9) (List.mem_cons_self ..)) (by decide)
  | alt a b _ _ => intro h; exact absurd (h (nOf 6) (List.mem_cons_self ..)) (by decide)
  | hand a b _ _ => intro h; exact absurd (h (nOf 8) (List.mem_cons_self ..)) (by decide)
  | pair a b _ _ => intro h; exact absurd (h (nOf 10) (List.mem_cons_self ..)) (by decide)
  | going a b _ _ => intro h; exact absurd (h (nOf 12) (List.mem_cons_self ..)) (by decide)
  | stack a b _ _ => intro h; exact absurd (h (nOf 13) (List.mem_cons_self ..)) (by decide)
theorem play_least (ps : List Int) : ∀ t : Tm, Goes t → Nf t → bare t = true → (play (Se.flat t) ps).n + cr true (play (Se.flat t) ps).l = cr true (Se.flat t) := by
  induction ps with
  | nil => intro t _ _ _; exact Nat.zero_add _
  | cons z ps ih =>
    intro t hg hn hb
    by_cases h : enR (Se.flat t) = []
    · rw [show play (Se.flat t) (z :: ps) = ⟨Se.flat t, [], 0⟩ from fold_stop (z :: ps) (r := ⟨Se.flat t, [], 0⟩) h]
      exact Nat.zero_add _
    · rw [play_cons _ z ps h]
      obtain ⟨mo', h1, e⟩ := en_mo hg hn (pk_in h z)
      obtain ⟨b1, b2⟩ := mv_bare t true 0 mo' h1 hb
      obtain ⟨c1, c2⟩ := S_bare mo'.r b1
      have hr := mo_goes hg h1
      have := ih (S mo'.r) hr.S (S_nf _) c1
      rw [e, (nx_of hg hn h1).1]
      simp only
      rw [cr_go true hg]
      rw [cr_go true hr.S] at this
      have c3 : cst true (S mo'.r) = le (S mo'.r) := rfl
      have c4 : cst true t = le t := rfl
      omega
/-- What CostRuns says. -/
theorem runs_cost {l : List Nd} (h0 : st l ≠ []) (ps : List Int) : (play (st l) ps).n ≤ cr false (st l) ∧ cr false (st l) ≤ cr false l ∧ (cnt (st l) [1, 5, 7] = (st l).length → endB (play (st l) ps).l = true → (play (st l) ps).n = cr true (st l)) := by
  refine ⟨by have := play_most (st l) ps; omega, st_fall l, fun hc he => ?_⟩
  obtain ⟨t, rfl, hg, e⟩ := st_some h0
  rw [e] at hc he ⊢
  have hS := hg.S
  have hb : bare (S t) = true := by
    refine all_bare _ fun n hn => ?_
    have := List.countP_eq_length.1 hc n hn
    simpa using this
  have hp := play_least ps (S t) hS (S_nf _) hb
  have hz : cr true (play (Se.flat (S t)) ps).l = 0 := by
    generalize (play (Se.flat (S t)) ps).l = x at he
    by_cases h : of x = 0
    · exact cr_no _ h
    · obtain ⟨u, rfl, hu⟩ := goes_of h
      obtain ⟨s, rfl⟩ := end_iff.1 he
      rw [cr_go _ hu]
      rfl
  omega
end Go.Proofs.YtpingbiibbmcaaaGreat.Co

namespace Go.Proofs.YtpingbiibbmcaaaGreat.Ru
open Go Go.RowKit Go.Proofs.YtpingbiibbmcaaaGreat.Rw Go.Proofs.YtpingbiibbmcaaaGreat.So Go.Proofs.YtpingbiibbmcaaaGreat.Se Go.Proofs.YtpingbiibbmcaaaGreat.Tr Go.Proofs.YtpingbiibbmcaaaGreat.Mn Go.Proofs.YtpingbiibbmcaaaGreat.Do Go.Proofs.YtpingbiibbmcaaaGreat.Sp Go.Proofs.YtpingbiibbmcaaaGreat.Me Go.Proofs.YtpingbiibbmcaaaGreat.St
set_option maxRecDepth 20000

/-- What stood when a call began stands behind it. -/
theorem kc {W w1 : World} {p : Addr} {u : Value} (hb : Below W.heap.size W w1) (h : W.cell? p = some u) : w1.cell? p = some u := by rw [hb.cell (Ap.cell_lt h)]; exact h
theorem kf {W w1 : World} {p : Addr} (hb : Below W.heap.size W w1) (h : W.frozen? p = false) (hlt : p.block < W.heap.size) : w1.frozen? p = false := by rw [hb.frozen hlt]; exact h
/-- A block of which no cell is a text is not one of nodes, or of texts. -/
theorem rd_off {w w' : World} {g size n : Nat} {v : Value} {cs : List Value} {xs : Array Value} {T : TypeId} {fr : Nat × Nat} (h : Ap.Rd w size v n cs) (j : Nat) (hj : 0 < n → ∃ s, cs[j]? = some (.string s)) (hg : w.heap[g]? = some (.cells xs T fr)) (hx : ∀ u ∈ xs.toList, ∀ s, u ≠ .string s) (hm : w.grownBy w' (some g)) : Ap.Rd w' size v n cs := by
  obtain ⟨hl, a, cap, hv, hc, hn, hcell⟩ := h
  refine ⟨hl, a, cap, hv, hc, hn, fun h0 => ?_⟩
  obtain ⟨b, off, ha, hk⟩ := hcell h0
  obtain ⟨s, hs⟩ := hj h0
  have hb : b ≠ g := by
    rintro rfl
    have h1 := hk j _ hs
    simp only [World.cell?, hg] at h1
    have h2 : xs[off + j]? = some (.string s) := h1
    exact hx _ (Array.mem_toList_iff.2 (Array.mem_of_getElem? h2)) s rfl
  refine ⟨b, off, ha, fun i u hu => ?_⟩
  have h1 := hk i u hu
  rw [World.cell?_of_block (hm.block _ (Ap.cell_lt h1) (fun e => hb (Option.some.inj e)))]
  exact h1
theorem nds_off {w w' : World} {g : Nat} {v : Value} {l : List Nd} {xs : Array Value} {T : TypeId} {fr : Nat × Nat} (h : Nds w v l) (hg : w.heap[g]? = some (.cells xs T fr)) (hx : ∀ u ∈ xs.toList, ∀ s, u ≠ .string s) (hm : w.grownBy w' (some g)) : Nds w' v l :=
  rd_off h 1 (fun h0 => by
    cases l with
    | nil => cases h0
    | cons x l => exact ⟨x.n, rfl⟩) hg hx hm
theorem strs_off {w w' : World} {g : Nat} {v : Value} {l : List ByteArray} {xs : Array Value} {T : TypeId} {fr : Nat × Nat} (h : Tr.Strs w v l) (hg : w.heap[g]? = some (.cells xs T fr)) (hx : ∀ u ∈ xs.toList, ∀ s, u ≠ .string s) (hm : w.grownBy w' (some g)) : Tr.Strs w' v l :=
  rd_off h 0 (fun h0 => by
    cases l with
    | nil => cases h0
    | cons x l => exact ⟨x, rfl⟩) hg hx hm
theorem two_set (w : World) (b : Nat) (x y : Value) : w.grownBy ((w.setCell ⟨b, 0, none⟩ x).setCell ⟨b, 1, none⟩ y) (some b) :=
  ⟨rfl, rfl, rfl, by simp [World.setCell], fun k _ hk => by rw [Below.heap_setCell _ _ _ k fun e => hk (by rw [e]), Below.heap_setCell _ _ _ k fun e => hk (by rw [e])]⟩
theorem two_cells {w : World} {b : Nat} {u v : Value} (x y : Value) (h0 : w.cell? ⟨b, 0, none⟩ = some u) (h1 : w.cell? ⟨b, 1, none⟩ = some v) : ((w.setCell ⟨b, 0, none⟩ x).setCell ⟨b, 1, none⟩ y).cell? ⟨b, 0, none⟩ = some x ∧ ((w.setCell ⟨b, 0, none⟩ x).setCell ⟨b, 1, none⟩ y).cell? ⟨b, 1, none⟩ = some y :=
  ⟨by rw [Se.cell_set_o (by omega)]; exact Se.cell_set_eq h0, Se.cell_set_eq (by rw [Se.cell_set_o (by omega)]; exact h1)⟩
theorem new2 (w : World) (o1 o2 : Obj) : ((w.alloc o1).alloc o2).heap[w.heap.size + 1]? = some o2 := by
  show ((w.heap.push o1).push o2)[w.heap.size + 1]? = some o2
  rw [Array.getElem?_push, if_pos (by simp)]
theorem strs_nil (w : World) : Tr.Strs w (.slice none 0 0) [] := ⟨rfl, none, 0, rfl, Nat.le_refl _, fun _ => ⟨rfl, rfl⟩, fun h => absurd h (Nat.lt_irrefl 0)⟩
/-- What a Trace hands back. -/
def TrP (t : Tr) (b : Bool) (w : World) (e : Ending) (w' : World) : Prop := ∃ v, e = .returned (.tuple #[.agg #[v, .int .i64 t.e], .bool b]) ∧ Tr.Strs w' v t.a ∧ Below w.heap.size w w'
/-- What Play hands back. -/
def PlP (r : Rn) (w : World) (e : Ending) (w' : World) : Prop := ∃ y a, e = .returned (.agg #[y, a, .int .i64 r.n]) ∧ Nds w' y r.l ∧ Tr.Strs w' a r.a ∧ Below w.heap.size w w'
end Go.Proofs.YtpingbiibbmcaaaGreat.Ru

namespace Go.Proofs.YtpingbiibbmcaaaGreat.Ru
open Go Go.Proofs.YtpingbiibbmcaaaGreat.Rw Go.Proofs.YtpingbiibbmcaaaGreat.Me Go.Proofs.YtpingbiibbmcaaaGreat.St
set_option maxRecDepth 20000

/-- What was done by a move. -/
noncomputable def didR (l : List Nd) (m : Mv) : List ByteArray := if m.h = 1 then [nxS l m] else []
theorem did_two (l : List Nd) (m : Mv) : didR l m = [] ∨ ∃ s, didR l m = [s] := by
  unfold didR
  split
  · exact .inr ⟨_, rfl⟩
  · exact .inl rfl
end Go.Proofs.YtpingbiibbmcaaaGreat.Ru

namespace Go.Proofs.YtpingbiibbmcaaaGreat.St
open Go Go.RowKit Go.Proofs.YtpingbiibbmcaaaGreat.Rw Go.Proofs.YtpingbiibbmcaaaGreat.So Go.Proofs.YtpingbiibbmcaaaGreat.Se Go.Proofs.YtpingbiibbmcaaaGreat.Do Go.Proofs.YtpingbiibbmcaaaGreat.Sp Go.Proofs.YtpingbiibbmcaaaGreat.Me
set_option maxRecDepth 20000

/-- What stands in the place of a tree of that kind, told by its kids. -/
def mdK (ls : List (List Nd)) (kk h : Int) : List Nd :=
  if h = 2 then ls.getD 0 [] else if h = 3 then ls.getD 1 [] else if h = 4 ∧ kk = 10 then nOf 12 :: (ls.getD 0 [] ++ ls.getD 1 []) else if h = 5 ∧ kk = 10 then [nEnd 3, nOf 2] else if h = 5 then [⟨11, ⟨#[]⟩, 3⟩] else [⟨11, ⟨#[]⟩, 1⟩]
theorem mdR_K (L : List Nd) (h : Int) : mdR L h = mdK (kids L) (kn L 0) h := rfl
/-- The ways of the kinds. -/
def Way (kk h : Int) : Prop := (kk = 1 ∧ h = 1) ∨ (kk = 4 ∧ h = 4) ∨ (kk = 4 ∧ h = 5) ∨ (kk = 6 ∧ h = 2) ∨ (kk = 6 ∧ h = 3) ∨ (kk = 10 ∧ h = 4) ∨ (kk = 10 ∧ h = 5)
set_option maxHeartbeats 2000000 in
theorem done_kid (kk : Int) (k : Nat) (h : Int) (hh : (h = 2 ∧ k = 0) ∨ (h = 3 ∧ k = 1)) (ls : List (List Nd)) (w : World) (h2 : ls.length = 2) :
    Calls Tryz.prog 60 #[.int .i64 kk, .int .i64 h] w (OutF w ls (ls.getD k [])) := by
  have HK := Lib.hid (fun w1 => kid_any k ls w1 (by omega))
  unfold OutF at *
  rcases hh with ⟨rfl, rfl⟩ | ⟨rfl, rfl⟩
  all_goals
    clear h2
    go_enter Tryz.func60, Tryz.ntmps60
    go_wp2_with fail
    refine (HK.out _).mono ?_
    rintro e w1 ⟨f, rfl, hf, hb⟩
    have D := Lib.hid hb
    have F := Lib.hid hf
    obtain ⟨fn, caps, rfl, -⟩ := id hf
    clear hb hf
    go_wp2_with fail
    go_ret
    exact ⟨_, rfl, F.out, D.out⟩
set_option maxHeartbeats 2000000 in
theorem done_begun (ls : List (List Nd)) (w : World) (h2 : ls.length = 2) (hf : ls.flatten.length ≤ 1000000) :
    Calls Tryz.prog 60 #[.int .i64 10, .int .i64 4] w (OutF w ls (nOf 12 :: (ls.getD 0 [] ++ ls.getD 1 []))) := by
  have eg : ∀ args w, (callFunc 77 args).run Tryz.prog w = .ok (.enter 77 args) w := enters_of Tryz.func77 (by kernel_rfl) rfl
  have e : nOf 12 :: (ls.getD 0 [] ++ ls.getD 1 []) = nOf 12 :: ls.flatten := by
    obtain ⟨a, b, rfl⟩ : ∃ a b, ls = [a, b] := by
      match ls, h2 with
      | [a, b], _ => exact ⟨a, b, rfl⟩
    simp
  rw [e]
  have F : Hid (FnV w (.func (.func 77) #[] #[]) ls (nOf 12 :: ls.flatten)) := Lib.hid ⟨_, _, rfl, eg, fun w1 y _ hy => begun_any y ls w1 hy (by omega) hf⟩
  clear eg e h2 hf
  unfold OutF
  go_enter Tryz.func60, Tryz.ntmps60
  go_wp2_with fail
  go_ret
  exact ⟨_, rfl, F.out, Below.refl _ _⟩
set_option maxHeartbeats 2000000 in
theorem done_leaf (kk h sg : Int) (hh : (kk = 1 ∧ h = 1 ∧ sg = 1) ∨ (kk = 4 ∧ h = 4 ∧ sg = 1) ∨ (kk = 4 ∧ h = 5 ∧ sg = 3)) (ls : List (List Nd)) (w : World) :
    Calls Tryz.prog 60 #[.int .i64 kk, .int .i64 h] w (OutF w ls [⟨11, ⟨#[]⟩, sg⟩]) := by
  have HA := Lib.hid (fun s w1 hs => always_any s [⟨11, ⟨#[]⟩, sg⟩] ls w1 hs)
  have N := Lib.hid (Se.nds_new w [⟨11, ⟨#[]⟩, sg⟩] 39)
  have B := Lib.hid (below1 w (.cells (cls [(⟨11, ⟨#[]⟩, sg⟩ : Nd)]).toArray 39))
  unfold OutF at *
  rcases hh with ⟨rfl, rfl, rfl⟩ | ⟨rfl, rfl, rfl⟩ | ⟨rfl, rfl, rfl⟩
  all_goals
    go_enter Tryz.func60, Tryz.ntmps60
    go_wp2_with fail
    refine (HA.out _ _ N.out).mono ?_
    rintro e w1 ⟨f, rfl, hf, hb⟩
    have D := Lib.hid (B.out.trans (hb.mono B.out.size))
    have F := Lib.hid hf
    obtain ⟨fn, caps, rfl, -⟩ := id hf
    clear hb hf
    go_wp2_with fail
    go_ret
    exact ⟨_, rfl, F.out, D.out⟩
set_option maxHeartbeats 2000000 in
theorem done_stop (ls : List (List Nd)) (w : World) :
    Calls Tryz.prog 60 #[.int .i64 10, .int .i64 5] w (OutF w ls [nEnd 3, nOf 2]) := by
  have HA := Lib.hid (fun s w1 hs => always_any s [nEnd 3, nOf 2] ls w1 hs)
  have N := Lib.hid (Se.nds_new w [nEnd 3, nOf 2] 39)
  have B := Lib.hid (below1 w (.cells (cls [nEnd 3, nOf 2]).toArray 39))
  unfold OutF at *
  go_enter Tryz.func60, Tryz.ntmps60
  go_wp2_with fail
  refine (HA.out _ _ N.out).mono ?_
  rintro e w1 ⟨f, rfl, hf, hb⟩
  have D := Lib.hid (B.out.trans (hb.mono B.out.size))
  have F := Lib.hid hf
  obtain ⟨fn, caps, rfl, -⟩ := id hf
  clear hb hf
  go_wp2_with fail
  go_ret
  exact ⟨_, rfl, F.out, D.out⟩
theorem done_any (kk h : Int) (hh : Way kk h) (ls : List (List Nd)) (w : World) (h2 : kk ≠ 1 → kk ≠ 4 → ls.length = 2) (hf : ls.flatten.length ≤ 1000000) :
    Calls Tryz.prog 60 #[.int .i64 kk, .int .i64 h] w (OutF w ls (mdK ls kk h)) := by
  rcases hh with ⟨rfl, rfl⟩ | ⟨rfl, rfl⟩ | ⟨rfl, rfl⟩ | ⟨rfl, rfl⟩ | ⟨rfl, rfl⟩ | ⟨rfl, rfl⟩ | ⟨rfl, rfl⟩
  · exact done_leaf 1 1 1 (.inl ⟨rfl, rfl, rfl⟩) ls w
  · exact done_leaf 4 4 1 (.inr (.inl ⟨rfl, rfl, rfl⟩)) ls w
  · exact done_leaf 4 5 3 (.inr (.inr ⟨rfl, rfl, rfl⟩)) ls w
  · exact done_kid 6 0 2 (.inl ⟨rfl, rfl⟩) ls w (h2 (by decide) (by decide))
  · exact done_kid 6 1 3 (.inr ⟨rfl, rfl⟩) ls w (h2 (by decide) (by decide))
  · exact done_begun ls w (h2 (by decide) (by decide)) hf
  · exact done_stop ls w
theorem kids_rws (v : Value) (l : List Nd) (w : World) (hv : Nds w v l) (hl : l.length ≤ 1000000) :
    Calls Tryz.prog 64 #[v] w fun e w' => ∃ y, e = .returned y ∧ Rws w' y (kids l) ∧ Below w.heap.size w w' := by
  refine (Rx.kidsP_any v l w hv hl).mono ?_
  rintro e w' ⟨y, cs, rfl, h1, h2, hb⟩
  exact ⟨y, rfl, ⟨cs, h1.rd, h2.rwc⟩, hb⟩
set_option maxHeartbeats 2000000 in
theorem after_any (v f : Value) (l X : List Nd) (q : Nat) (w : World) (hv : Nds w v l) (hl : l.length ≤ 400) (hX : X.length ≤ 400) (hq : q < l.length) (hf : FnV w f (kids (l.drop q)) X) (hm : Nms (putR l (q : Int) X)) (hp : (putR l (q : Int) X).length ≤ 1000) :
    Calls Tryz.prog 59 #[v, .int .i64 (q : Int), f] w (OutL (st (putR l (q : Int) X)) w) := by
  unfold OutL
  rcases hv.form with ⟨h0, _⟩ | ⟨b, o, c, rfl, hc, hat⟩
  · rw [h0] at hq; simp at hq
  have HK := Lib.hid (kids_rws _ (l.drop q) w (drop_nds rfl hat q (by omega) hc) (by simp; omega))
  have HP := Lib.hid (fun vx w1 (hb : Below w.heap.size w w1) (hx : Nds w1 vx X) => putP_any _ vx l X (q : Int) w1 (hv.below hb) hx (by omega) (by omega))
  have HS := Lib.hid (fun y w1 (hy : Nds w1 y (putR l (q : Int) X)) => settleP_any y _ w1 hy hp hm)
  unfold OutL at HS
  obtain ⟨fn, caps, rfl, eg, H⟩ := hf
  have HH := Lib.hid H
  obtain ⟨n, hn⟩ : ∃ n, l.length = n := ⟨_, rfl⟩
  rw [hn] at HK HP hq hc ⊢
  have hcap : q < c := by omega
  have hcq : ¬ c = q := by omega
  generalize putR l (q : Int) X = L at HP HS ⊢
  clear hv hat hn hl hX hm hp H
  go_enter Tryz.func59, Tryz.ntmps59
  go_wp2_with fail
  refine HK.out.mono ?_
  rintro e w1 ⟨y1, rfl, h1, hb1⟩
  have D1 := Lib.hid hb1
  have R1 := Lib.hid h1
  obtain ⟨a1, n1, c1, rfl⟩ := rws_slice h1
  clear h1 hb1
  go_wp2_with fail
  refine (HH.out _ _ D1.out R1.out).mono ?_
  rintro e w2 ⟨y2, rfl, h2, hb2⟩
  have D2 := Lib.hid (D1.out.trans (hb2.mono D1.out.size))
  have N2 := Lib.hid h2
  obtain ⟨_, a2, c2, rfl, -⟩ := id h2
  clear h2 hb2
  go_wp2_with fail
  refine (HP.out _ _ D2.out N2.out).mono ?_
  rintro e w3 ⟨y3, rfl, h3, hb3⟩
  have D3 := Lib.hid (D2.out.trans (hb3.mono D2.out.size))
  have N3 : Hid (Nds w3 y3 L) := Lib.hid (Ap.Rd.owned h3)
  obtain ⟨_, a3, c3, rfl, -⟩ := id N3.out
  clear h3 hb3
  go_wp2_with fail
  refine (HS.out _ _ N3.out).mono ?_
  rintro e w4 ⟨y4, rfl, h4, hb4⟩
  have D4 := Lib.hid (D3.out.trans (hb4.mono D3.out.size))
  have N4 := Lib.hid h4
  obtain ⟨_, a4, c4, rfl, -⟩ := id h4
  clear h4 hb4
  go_wp2_with fail
  go_ret
  exact ⟨_, rfl, N4.out, D4.out⟩
end Go.Proofs.YtpingbiibbmcaaaGreat.St

namespace Go.Proofs.YtpingbiibbmcaaaGreat.Me
open Go Go.RowKit Go.Proofs.YtpingbiibbmcaaaGreat.Rw Go.Proofs.YtpingbiibbmcaaaGreat.So Go.Proofs.YtpingbiibbmcaaaGreat.Se Go.Proofs.YtpingbiibbmcaaaGreat.Do
set_option maxRecDepth 20000

/-- A move as a value; a block of one. -/
abbrev mvV (m : Mv) : Value := .agg #[.int .i64 m.p, .int .i64 m.h]
def Bm (w : World) (b : Nat) (m : Mv) : Prop := w.heap[b]? = some (.cells #[.int .i64 m.p, .int .i64 m.h] 42 (0, 0))
theorem Bm.new (w : World) (m : Mv) : Bm (w.alloc (.cells #[.int .i64 m.p, .int .i64 m.h] 42)) w.heap.size m := by
  show (w.heap.push _)[w.heap.size]? = some _
  simp
theorem Bm.lt {w : World} {b : Nat} {m : Mv} (h : Bm w b m) : b < w.heap.size := Nat.lt_of_not_le fun hle => by
  unfold Bm at h
  rw [Array.getElem?_eq_none hle] at h
  cases h
theorem Bm.below {w w' : World} {M b : Nat} {m : Mv} (h : Bm w b m) (hb : Below M w w') (hM : b < M) : Bm w' b m := (hb.block b hM).trans h
theorem Bm.cells {w : World} {b : Nat} {m : Mv} (h : Bm w b m) : w.cell? ⟨b, 0, none⟩ = some (.int .i64 m.p) ∧ w.cell? ⟨b, 1, none⟩ = some (.int .i64 m.h) ∧ w.frozen? ⟨b, 0, none⟩ = false ∧ w.frozen? ⟨b, 1, none⟩ = false := by
  unfold Bm at h
  simp [World.cell?, World.frozen?, h]
theorem setM {w : World} {g : Nat} {c : Array Value} {t : TypeId} {fr : Nat × Nat} (o : Nat) (v : Value) (h : w.heap[g]? = some (.cells c t fr)) : (w.setCell ⟨g, o, none⟩ v).heap[g]? = some (.cells (c.setIfInBounds o v) t fr) := by
  simp only [World.setCell, Array.getElem?_modify, if_true, h]
  rfl
abbrev put2 (w : World) (b : Nat) (x y : Value) : World := (w.setCell ⟨b, 0, none⟩ x).setCell ⟨b, 1, none⟩ y
theorem Bm.put {w : World} {b : Nat} {m : Mv} (h : Bm w b m) (n : Mv) : Bm (put2 w b (.int .i64 n.p) (.int .i64 n.h)) b n := setM 1 _ (setM 0 _ h)
/-- A call that leaves by a move's block and a number. -/
theorem ret_mv {fn : Func} {p u : Tmp} {R : Ending → World → Prop} {a : Act} {w : World} {b : Nat} {m : Mv} {v : Value} (h : fn.results = #[.cell p 42, .tmp u]) (hp : a.tmps.getD p undef = .pointer (some ⟨b, 0, none⟩)) (hu : a.tmps.getD u undef = v) (hb : Bm w b m) (hd : a.defers = [])
    (hR : R (.returned (.tuple #[mvV m, v])) w) : bodyPost Tryz.prog fn R .ret a w :=
  bodyPost_ret (by
    rw [results_cell_tmp h, hp, hu]
    simp [asAddr, run_loadVar_row w b _ 42 _ (0, 0) _ hb Tryz.underlying42 rfl (by kernel_rfl)]) hd hR
end Go.Proofs.YtpingbiibbmcaaaGreat.Me

namespace Go.Proofs.YtpingbiibbmcaaaGreat.Co
open Go Go.RowKit Go.Proofs.YtpingbiibbmcaaaGreat.Rw Go.Proofs.YtpingbiibbmcaaaGreat.So Go.Proofs.YtpingbiibbmcaaaGreat.Se Go.Proofs.YtpingbiibbmcaaaGreat.Do Go.Proofs.YtpingbiibbmcaaaGreat.Sp
set_option maxRecDepth 20000

theorem ow_one (x : Nd) (l : List Nd) : chR (x :: l) = ow x.k + chR l := by
  unfold chR cnt
  rw [List.countP_cons]
  unfold ow
  simp only [List.mem_cons, List.mem_nil_iff, or_false]
  by_cases h : x.k = 1 ∨ x.k = 4 ∨ x.k = 6 ∨ x.k = 10
  · rw [if_pos h]; simp [h]; omega
  · rw [if_neg h]; simp [h]
theorem ch_take {l : List Nd} {k : Nat} (h : k < l.length) : chR (l.take (k + 1)) = chR (l.take k) + ow l[k].k := by
  have e : ∀ a b : List Nd, chR (a ++ b) = chR a + chR b := fun a b => by unfold chR cnt; rw [List.countP_append]
  rw [List.take_succ_eq_append_getElem h, e]
  congr 1
  rw [ow_one]
  rfl
set_option maxHeartbeats 4000000 in
theorem joinN_any (v : Value) (l : List Nd) (w : World) (hv : Nds w v l) (hl : l.length ≤ 1000) : Calls Tryz.prog 34 #[v, fnV 35, fnV 36] w (NumP (chR l : Nat) w) := by
  rcases hv.form with ⟨rfl, a, c, rfl⟩ | ⟨b, off, c, rfl, hc, hat⟩
  · go_enter Tryz.func34, Tryz.ntmps34
    go_wp2_with fail
    go_ret
    exact ⟨rfl, Below.refl _ _⟩
  · by_cases h0 : l.length = 0
    · have h1 : chR l = 0 := by rw [List.eq_nil_of_length_eq_zero h0]; rfl
      rw [h0, h1]
      clear hat hc hl hv
      go_enter Tryz.func34, Tryz.ntmps34
      go_wp2_with fail
      go_ret
      exact ⟨rfl, Below.refl _ _⟩
    have HA := Lib.hid hat
    have HO := Lib.hid (fun k n s w1 => own_any k s n w1)
    unfold NumP at HO
    have HP := Lib.hid (fun a b w1 (h1 : a ≤ 2000) (h2 : b ≤ 2000) => put_any 35 (.inl rfl) a b w1 h1 h2)
    have HT := Lib.hid (fun k (h : k < l.length) => ch_take h)
    have HL := Lib.hid (show chR (l.take l.length) = chR l by rw [List.take_length])
    have HC0 := Lib.hid (show chR (l.take 0) = 0 from rfl)
    obtain ⟨q0, q1, q2⟩ := hat 0 (by omega)
    have HZ := Lib.hid (show chR (l.take 1) = ow l[0].k by rw [ch_take (by omega), HC0.out, Nat.zero_add])
    have HCL := Lib.hid (fun k => Nat.le_trans (chR_len (l.take k)) (by rw [List.length_take]; omega : (l.take k).length ≤ k))
    obtain ⟨n, hn⟩ : ∃ n, l.length = n := ⟨_, rfl⟩
    obtain ⟨x, hx⟩ : ∃ x, l[0] = x := ⟨_, rfl⟩
    rw [hx] at q0 q1 q2 HZ
    simp only [Nat.zero_mul, Nat.add_zero] at q0 q1 q2
    have HN := Lib.hid hn
    have gn : ((n : Int) == 0) = false := beq_eq_false_iff_ne.2 (by omega)
    have gn1 : (1 : Int) ≤ (n : Int) := by omega
    have gn0 : (0 : Int) < (n : Int) := by omega
    rw [hn] at hc hl ⊢
    have HO1 := Lib.hid (own_any x.k x.s x.n w)
    unfold NumP at HO1
    have hno : ow x.k ≤ 1 := by unfold ow; split <;> omega
    generalize ow x.k = z at HZ hno HO1
    clear hat hn hx h0
    go_enter Tryz.func34, Tryz.ntmps34
    go_wp2_with fail
    refine HO1.out.mono ?_
    rintro e w1 ⟨rfl, hb1⟩
    have B1 := Lib.hid hb1
    clear hb1 HO1 q0 q1 q2
    by_cases h1 : n = 1
    · subst h1
      have HR : Hid (chR l = z) := Lib.hid (by rw [← HL.out, HN.out, HZ.out])
      clear HA HO HP HT HL HC0 HCL HZ
      go_wp2_with fail
      all_goals
        refine Go.wp_loop_rounds 1 ?_
        rw [rounds_succ]
        go_wp2_with fail
        go_ret
        exact ⟨by rw [HR.out]; rfl, B1.out⟩
    · have gc : ¬ c = 1 := by omega
      have gc1 : (1 : Int) ≤ (c : Int) := by omega
      clear gn gn0
      go_wp2_with fail
      go_loopw [7, 21] (fun s i wr => ∃ k : Nat, k + 1 ≤ n ∧ s = .int .i64 (chR (l.take (k + 1)) : Nat) ∧ i = .int .i64 k ∧ Hid (Below w.heap.size w wr)) (fun _ i _ => n - (intOf i).toNat)
      case atStart => exact ⟨0, by omega, by rw [HZ.out], rfl, B1⟩
      case round =>
        obtain ⟨k, hk, rfl, rfl, HB⟩ := hrel
        by_cases hlt : k + 1 < n
        · obtain ⟨q0, q1, q2⟩ := HA.out (k + 1) (by rw [HN.out]; exact hlt)
          have hT := HT.out (k + 1) (by rw [HN.out]; exact hlt)
          obtain ⟨y, hy⟩ : ∃ y, l[k + 1]'(by rw [HN.out]; exact hlt) = y := ⟨_, rfl⟩
          rw [hy] at q0 q1 q2 hT
          rw [show off + (k + 1) * 3 = off + 3 + k * 3 by omega] at q0 q1 q2
          have r0 : wr.cell? ⟨b, off + 3 + k * 3, none⟩ = some (.int .i64 y.k) := by rw [HB.out.cell (Ap.cell_lt q0)]; exact q0
          have r1 : wr.cell? ⟨b, off + 3 + k * 3 + 1, none⟩ = some (.string y.n) := by rw [HB.out.cell (Ap.cell_lt q1)]; exact q1
          have r2 : wr.cell? ⟨b, off + 3 + k * 3 + 2, none⟩ = some (.int .i64 y.s) := by rw [HB.out.cell (Ap.cell_lt q2)]; exact q2
          have hcl := HCL.out (k + 1)
          have HO1 := Lib.hid (fun w1 => own_any y.k y.s y.n w1)
          unfold NumP at HO1
          have hno : ow y.k ≤ 1 := by unfold ow; split <;> omega
          generalize ow y.k = z2 at HO1 hno hT
          generalize chR (l.take (k + 1)) = s1 at hT hcl
          have HX := Lib.hid hT
          have HQ := Lib.hid (fun w1 => HP.out s1 z2 w1 (by omega) (by omega))
          rw [show pt 35 s1 z2 = s1 + z2 from rfl] at HQ
          have gk : (k : Int) < (n : Int) - 1 := by omega
          have BA := Lib.hid (fun o => HB.out.trans ((below1 wr o).mono HB.out.size))
          clear q0 q1 q2 hy hT
          go_wp2_with fail
          refine (HO1.out _).mono ?_
          rintro e w2 ⟨rfl, hb2⟩
          have B2 := Lib.hid ((BA.out _).trans (hb2.mono (BA.out _).size))
          clear hb2
          go_wp2_with fail
          refine (HQ.out _).mono ?_
          rintro e w3 ⟨rfl, rfl⟩
          go_wp2_with fail
          go_roundw
          case rel => exact ⟨k + 1, by omega, by rw [HX.out, Int.natCast_add], by go_num, B2⟩
          case measure => simp [intOf]; omega
        · have HR : Hid (chR (l.take (k + 1)) = chR l) := Lib.hid (by rw [show k + 1 = l.length by rw [HN.out]; omega]; exact HL.out)
          have gk : ¬ (k : Int) < (n : Int) - 1 := by omega
          rw [HR.out]
          go_wp2_with fail
          go_ret
          exact ⟨rfl, HB.out⟩
set_option maxHeartbeats 1000000 in
theorem ofP_cost (v : Value) (l : List Nd) (w : World) (hv : Nds w v l) (hl : l.length ≤ 1000) : Calls Tryz.prog 15 #[v] w (NumP (chR l : Nat) w) := by
  have HJ := Lib.hid (joinN_any v l w hv hl)
  unfold NumP at *
  generalize chR l = z at HJ ⊢
  obtain ⟨_, a, c, rfl, -⟩ := hv
  go_enter Tryz.func15, Tryz.ntmps15
  go_wp2_with fail
  refine HJ.out.mono ?_
  rintro e w1 ⟨rfl, hb⟩
  have B := Lib.hid hb
  clear hb
  go_wp2_with fail
  go_ret
  exact ⟨rfl, B.out⟩
end Go.Proofs.YtpingbiibbmcaaaGreat.Co

namespace Go.Proofs.YtpingbiibbmcaaaGreat.Co
open Go Go.RowKit Go.Proofs.YtpingbiibbmcaaaGreat.Rw Go.Proofs.YtpingbiibbmcaaaGreat.So Go.Proofs.YtpingbiibbmcaaaGreat.Se Go.Proofs.YtpingbiibbmcaaaGreat.Do Go.Proofs.YtpingbiibbmcaaaGreat.Sp
set_option maxRecDepth 20000

/-- What a law's walk tells. -/
def Law (w : World) (e : Ending) (w' : World) : Prop := e = .returned (.bool true) ∧ Below w.heap.size w w'
end Go.Proofs.YtpingbiibbmcaaaGreat.Co

namespace Go.Proofs.YtpingbiibbmcaaaGreat.Me
open Go Go.RowKit Go.Maps Go.WideMaps Go.Proofs.YtpingbiibbmcaaaGreat.Rw Go.Proofs.YtpingbiibbmcaaaGreat.So Go.Proofs.YtpingbiibbmcaaaGreat.Se Go.Proofs.YtpingbiibbmcaaaGreat.Do
set_option maxRecDepth 20000

/-- An element that reads as itself. -/
def hE (v : Value) : Option (DataW Value × List MemPlace) := some (.held v, [])
theorem lawI : Keyed Tryz.prog 3 := int_keyed Tryz.underlying3
theorem keyI (k : Int) (h : (Lit.int .i64 k).wf = true) : keyOf Tryz.prog 3 (.int .i64 k) = some (.int .i64 k) := keyOf_int_mk Tryz.underlying3 h
theorem zeroW (w : World) : (zeroValue 95).run Tryz.prog w = .ok (.slice none 0 0) w := by kernel_rfl
/-- A map's datum that gives these rows by kind. -/
def WD (f : Int → Value) (D : DataW Value) : Prop := ∀ k : Int, D.atKey (.int .i64 k) (.held (.slice none 0 0)) = .held (f k)
theorem look {w : World} {b n : Nat} {f : Int → Value} {D : DataW Value} (h : w.ownsMap Tryz.prog 3 hE b n D) (hd : WD f D) (k : Int) (hk : (Lit.int .i64 k).wf = true) :
    (Instr.lookup 96 (.map (some b)) (.int .i64 k) false).run Tryz.prog w = .ok (f k) w := by
  obtain ⟨v, ps, hrun, hv⟩ := h.lookup lawI Tryz.underlying96 (zeroW w) (show hE (.slice none 0 0) = some (.held (.slice none 0 0), []) from rfl) (keyI k hk)
  rw [hd k] at hv
  rw [hrun]
  injection hv with hv
  injection hv with hv
  injection hv with hv
  rw [hv]
end Go.Proofs.YtpingbiibbmcaaaGreat.Me

namespace Go.Proofs.YtpingbiibbmcaaaGreat.Me
open Go Go.RowKit Go.Proofs.YtpingbiibbmcaaaGreat.Rw Go.Proofs.YtpingbiibbmcaaaGreat.So Go.Proofs.YtpingbiibbmcaaaGreat.Se Go.Proofs.YtpingbiibbmcaaaGreat.Do
set_option maxRecDepth 20000

/-- A text of bytes. -/
abbrev tx (L : List UInt8) : ByteArray := ⟨L.toArray⟩
end Go.Proofs.YtpingbiibbmcaaaGreat.Me

namespace Go.Proofs.YtpingbiibbmcaaaGreat.Me
open Go Go.RowKit Go.Proofs.YtpingbiibbmcaaaGreat.Rw Go.Proofs.YtpingbiibbmcaaaGreat.So Go.Proofs.YtpingbiibbmcaaaGreat.Se Go.Proofs.YtpingbiibbmcaaaGreat.Do
set_option maxRecDepth 20000

/-- Where a move stands first. -/
def idxM (x : Mv) : List Mv → Nat → Int
  | [], _ => -1
  | y :: l, k => if x = y then k else idxM x l (k + 1)
theorem idxM_mem (x : Mv) (l : List Mv) (k : Nat) : decide (0 ≤ idxM x l k) = decide (x ∈ l) := by
  induction l generalizing k with
  | nil => simp [idxM]
  | cons y l ih =>
    unfold idxM
    by_cases h : x = y
    · rw [if_pos h, decide_eq_true (show x ∈ y :: l by rw [h]; exact List.mem_cons_self)]
      simp
    · rw [if_neg h, ih (k + 1)]
      simp [h]
theorem idxM_end {x : Mv} {l : List Mv} {k : Nat} (h : ¬ k < l.length) : idxM x (l.drop k) k = -1 := by rw [List.drop_eq_nil_of_le (by omega)]; rfl
theorem idxM_at {x : Mv} {l : List Mv} {k : Nat} (h : k < l.length) : idxM x (l.drop k) k = if x = l[k] then (k : Int) else idxM x (l.drop (k + 1)) (k + 1) := by
  rw [List.drop_eq_getElem_cons h, idxM]
set_option maxHeartbeats 400000 in
theorem idxM_empty (a : Option Addr) (cap : Nat) (xp xh : Int) (w : World) :
    Calls Tryz.prog 90 #[.slice a 0 cap, .agg #[.int .i64 xp, .int .i64 xh]] w fun e w' => e = .returned (.int .i64 (-1)) ∧ Below w.heap.size w w' := by
  go_enter Tryz.func90, Tryz.ntmps90
  go_wp2_with fail
  refine Go.wp_loop_rounds 1 ?_
  rw [rounds_succ]
  go_wp2_with fail
  go_ret
  exact ⟨rfl, below1 _ _⟩
set_option maxHeartbeats 2000000 in
theorem idxM_cells (b off cap : Nat) (l : List Mv) (x : Mv) (w : World) (hat : AtM w b off l) (hl : l.length ≤ 1000000) :
    Calls Tryz.prog 90 #[.slice (some ⟨b, off, none⟩) l.length cap, mvV x] w fun e w' => e = .returned (.int .i64 (idxM x l 0)) ∧ Below w.heap.size w w' := by
  obtain ⟨xp, xh⟩ := x
  have HA := Lib.hid (hat.below (below1 w (.cells #[.int .i64 xp, .int .i64 xh] 42)))
  have HB0 := Lib.hid (Bm.new w ⟨xp, xh⟩)
  have DB := Lib.hid (below1 w (.cells #[.int .i64 xp, .int .i64 xh] 42))
  obtain ⟨wB, hwB⟩ : ∃ wB, w.alloc (.cells #[.int .i64 xp, .int .i64 xh] 42) = wB := ⟨_, rfl⟩
  obtain ⟨bM, hbM⟩ : ∃ bM, w.heap.size = bM := ⟨_, rfl⟩
  have HS : Hid (w.heap.size ≤ wB.heap.size) := Lib.hid (by rw [← hwB]; simp)
  change Hid (Bm (w.alloc (.cells #[.int .i64 xp, .int .i64 xh] 42)) w.heap.size ⟨xp, xh⟩) at HB0
  rw [hwB] at HA HB0 DB
  rw [hbM] at HB0
  clear hat
  go_enter Tryz.func90, Tryz.ntmps90
  go_wp2_with fail
  clear hwB
  go_loopw [8] (fun i wr => ∃ k : Nat, k ≤ l.length ∧ i = .int .i64 k ∧ Hid (Below wB.heap.size wB wr) ∧ Hid (idxM ⟨xp, xh⟩ l 0 = idxM ⟨xp, xh⟩ (l.drop k) k)) (fun i _ => l.length - (intOf i).toNat)
  case atStart => exact ⟨0, Nat.zero_le _, rfl, Lib.hid (Below.refl _ _), Lib.hid rfl⟩
  case round =>
    obtain ⟨k, hk, rfl, HB, HK⟩ := hrel
    by_cases hlt : k < l.length
    · obtain ⟨e1, e2⟩ := (HA.out.below HB.out) k hlt
      obtain ⟨m1, m2, -⟩ := (HB0.out.below HB.out HB0.out.lt).cells
      have HX := Lib.hid (HK.out.trans (idxM_at hlt))
      obtain ⟨y, hy⟩ : ∃ y, l[k] = y := ⟨_, rfl⟩
      rw [hy] at e1 e2 HX
      clear hy
      obtain ⟨yp, yh⟩ := y
      simp only at e1 e2 m1 m2
      have hq : ∀ w, (binOp .eql 42 (.agg #[.int .i64 xp, .int .i64 xh]) (.agg #[.int .i64 yp, .int .i64 yh])).run Tryz.prog w = .ok (.bool (decide ((⟨xp, xh⟩ : Mv) = ⟨yp, yh⟩))) w := fun w => eq_mv ⟨xp, xh⟩ ⟨yp, yh⟩ w
      by_cases hxy : (⟨xp, xh⟩ : Mv) = ⟨yp, yh⟩
      · rw [if_pos hxy] at HX
        rw [decide_eq_true hxy] at hq
        clear hxy
        go_wp2_with fail
        go_quiet (fail)
        go_wp2_with fail
        go_ret
        exact ⟨ret_int HX.out.symm, DB.out.trans ((HB.out.trans (Below.drewN _ _ _)).mono HS.out)⟩
      · rw [if_neg hxy] at HX
        rw [decide_eq_false hxy] at hq
        clear hxy
        go_wp2_with fail
        go_quiet (fail)
        go_wp2_with fail
        go_roundw
        case rel => exact ⟨k + 1, by omega, by go_num, Lib.hid (HB.out.trans (Below.drewN _ _ _)), HX⟩
        case measure => simp [intOf]; omega
    · have HZ : Hid (idxM ⟨xp, xh⟩ l 0 = -1) := Lib.hid (by rw [HK.out, idxM_end hlt])
      go_wp2_with fail
      go_ret
      exact ⟨ret_int HZ.out.symm, DB.out.trans (HB.out.mono HS.out)⟩
theorem idxM_any (v : Value) (l : List Mv) (x : Mv) (w : World) (h : Mvs w v l) (hl : l.length ≤ 1000000) :
    Calls Tryz.prog 90 #[v, mvV x] w fun e w' => e = .returned (.int .i64 (idxM x l 0)) ∧ Below w.heap.size w w' := by
  rcases h.form with ⟨rfl, a, cap, rfl⟩ | ⟨b, off, cap, rfl, _, hat⟩
  · exact idxM_empty a cap x.p x.h w
  · exact idxM_cells b off cap l x w hat hl
set_option maxHeartbeats 400000 in
theorem hasM_any (v : Value) (l : List Mv) (x : Mv) (w : World) (h : Mvs w v l) (hl : l.length ≤ 1000000) :
    Calls Tryz.prog 73 #[v, mvV x] w fun e w' => e = .returned (.bool (decide (x ∈ l))) ∧ Below w.heap.size w w' := by
  obtain ⟨xp, xh⟩ := x
  have H := Lib.hid (h.below (below1 w (.cells #[.int .i64 xp, .int .i64 xh] 42)))
  have D1 := Lib.hid (below1 w (.cells #[.int .i64 xp, .int .i64 xh] 42))
  have HQ := Lib.hid (idxM_mem ⟨xp, xh⟩ l 0)
  obtain ⟨q, hq⟩ : ∃ q, idxM ⟨xp, xh⟩ l 0 = q := ⟨_, rfl⟩
  rw [hq] at HQ
  have HC := Lib.hid hq
  obtain ⟨_, a, cap, rfl, -⟩ := id h
  clear h hq
  go_enter Tryz.func73, Tryz.ntmps73
  go_wp2_with fail
  refine (idxM_any _ l ⟨xp, xh⟩ _ H.out hl).mono ?_
  rw [HC.out]
  rintro e w' ⟨rfl, hb⟩
  have HB := Lib.hid (D1.out.trans (hb.mono D1.out.size))
  clear hb
  go_wp2_with fail
  go_ret
  exact ⟨ret_bool HQ.out, HB.out⟩
end Go.Proofs.YtpingbiibbmcaaaGreat.Me

namespace Go.Proofs.YtpingbiibbmcaaaGreat.St
open Go Go.RowKit Go.Proofs.YtpingbiibbmcaaaGreat.Rw Go.Proofs.YtpingbiibbmcaaaGreat.So Go.Proofs.YtpingbiibbmcaaaGreat.Se Go.Proofs.YtpingbiibbmcaaaGreat.Do Go.Proofs.YtpingbiibbmcaaaGreat.Sp Go.Proofs.YtpingbiibbmcaaaGreat.Me
set_option maxRecDepth 20000

end Go.Proofs.YtpingbiibbmcaaaGreat.St

namespace Go.Proofs.YtpingbiibbmcaaaGreat.Ru
open Go Go.RowKit Go.Proofs.YtpingbiibbmcaaaGreat.Rw Go.Proofs.YtpingbiibbmcaaaGreat.Tr
set_option maxRecDepth 20000

/-- All cells of a slice's own block are texts. -/
def StrB (w : World) (v : Value) : Prop := ∀ g, v.ownBlock = some g → ∃ cur T fr, w.heap[g]? = some (.cells cur T fr) ∧ ∀ u ∈ cur.toList, ∃ s, u = .string s
theorem StrB.nil (w : World) : StrB w (.slice none 0 0) := fun g h => by cases h
theorem StrB.below {w w' : World} {v : Value} (h : StrB w v) (hb : Below w.heap.size w w') : StrB w' v := fun g hg => by
  obtain ⟨cur, T, fr, h1, h2⟩ := h g hg
  exact ⟨cur, T, fr, (hb.block _ (Array.getElem?_eq_some_iff.1 h1).1).trans h1, h2⟩
theorem StrB.by {w w' : World} {v : Value} {r : Nat} (h : StrB w v) (hb : w.grownBy w' (some r)) (hr : v.ownBlock ≠ some r) : StrB w' v := fun g hg => by
  obtain ⟨cur, T, fr, h1, h2⟩ := h g hg
  exact ⟨cur, T, fr, (hb.block _ (Array.getElem?_eq_some_iff.1 h1).1 (fun e => hr (by rw [hg, Option.some.inj e]))).trans h1, h2⟩
/-- Nodes stay where the slice's own block is turned. -/
theorem StrB.nds {w w' : World} {v x : Value} {l : List Nd} (h : StrB w v) (hx : Nds w x l) (hg : w.grownBy w' v.ownBlock) : Nds w' x l := by
  obtain ⟨hl, a, cap, hv, hc, hn, hcell⟩ := hx
  refine ⟨hl, a, cap, hv, hc, hn, fun h0 => ?_⟩
  obtain ⟨b, off, ha, hk⟩ := hcell h0
  have hb : some b ≠ v.ownBlock := by
    intro e
    obtain ⟨cur, T, fr, h1, h2⟩ := h b e.symm
    cases l with
    | nil => cases h0
    | cons n l =>
      have h3 := hk 0 (.int .i64 n.k) rfl
      simp only [World.cell?, h1] at h3
      have h4 : cur[off + 0]? = some (.int .i64 n.k) := h3
      obtain ⟨s, hs⟩ := h2 _ (Array.mem_toList_iff.2 (Array.mem_of_getElem? h4))
      cases hs
  refine ⟨b, off, ha, fun i u hu => ?_⟩
  have h1 := hk i u hu
  rw [World.cell?_of_block (hg.block _ (Ap.cell_lt h1) hb)]
  exact h1
theorem zeros_str (n : Nat) : ∀ u ∈ (Builtin.zeroCells (.string ⟨#[]⟩ : Value).cells n).toList, ∃ s, u = .string s := by
  intro u hu
  simp [Builtin.zeroCells, Value.cells] at hu
  obtain ⟨a, _, rfl⟩ := hu
  exact ⟨⟨#[]⟩, by rw [Nat.mod_one]; rfl⟩
/-- Texts appended to such a row. -/
theorem append_sb {w : World} {base : Nat} {v x : Value} {l m : List ByteArray} (hown : w.ownsRow base 9 1 v l.length (l.map .string)) (hbase : base ≤ w.heap.size) (hx : Tr.Strs w x m) (hlen : l.length + m.length ≤ 2000000000000) (hs : StrB w v) :
    ∃ v' w', (Builtin.append_ #[27, 27] 27 #[v, x]).run Tryz.prog w = .ok v' w' ∧ w'.ownsRow base 9 1 v' (l ++ m).length ((l ++ m).map .string) ∧ w.grownBy w' v.ownBlock ∧ Below base w w' ∧ StrB w' v' := by
  obtain ⟨v', w', h1, h2, h3, h4, h5⟩ := run_append_strs hown hbase hx hlen
  refine ⟨v', w', h1, h2, h3, h4, ?_⟩
  obtain ⟨i0, hi, hz, hs1, hb8⟩ := info_parts infoS
  have news : ∀ u ∈ m.map Value.string, ∃ s, u = Value.string s := fun u hu => by
    obtain ⟨b, _, rfl⟩ := List.mem_map.1 hu
    exact ⟨b, rfl⟩
  have olds : ∀ u ∈ l.map Value.string, ∃ s, u = Value.string s := fun u hu => by
    obtain ⟨b, _, rfl⟩ := List.mem_map.1 hu
    exact ⟨b, rfl⟩
  have one : ∀ u ∈ m.map Value.string, u.oneCell' = true := fun u hu => by
    obtain ⟨b, rfl⟩ := news u hu
    rfl
  by_cases h0 : m.length = 0
  · obtain rfl : m = [] := List.eq_nil_of_length_eq_zero h0
    obtain ⟨a, k, c, rfl, hkc⟩ : ∃ a k c, v = .slice a k c ∧ k ≤ c := by
      obtain ⟨_, ⟨rfl, _⟩ | ⟨g, cap, cur, rfl, _, _, hc, _⟩⟩ := hown
      · exact ⟨none, 0, 0, rfl, Nat.le_refl _⟩
      · exact ⟨_, _, _, rfl, hc⟩
    have := run_append_nothing w 27 27 27 9 i0 Tryz.underlying27 hi a k c hkc x (by rw [hs1]; exact hx.src Tryz.underlying27 one)
    rw [this] at h1
    injection h1 with e1 e2
    rw [← e1, ← e2]
    exact hs
  · obtain ⟨hl, a1, c1, rfl, hc, hn, hcell⟩ := hx
    obtain ⟨b1, o1, rfl, hj⟩ := hcell (by omega)
    have hj' : ∀ j u, (m.map Value.string)[j]? = some u → w.cell? (Addr.add ⟨b1, o1, none⟩ j) = some u := fun j u hu => by rw [Addr.add_lit]; exact hj j u hu
    have hl' : (m.map Value.string).length = m.length * i0.size := by rw [hs1]; exact hl
    obtain ⟨hlo, ⟨rfl, hz0⟩ | ⟨g, cap, cur, rfl, hbg, hg, hnc, hcm, hcs, htake⟩⟩ := id hown
    · have hr := run_append_nil (P := Tryz.prog) w 27 27 9 i0 _ Tryz.underlying27 hi hz ⟨b1, o1, none⟩ m.length c1 _ hl' hj' (by omega) (by omega) (by rw [hb8]; omega)
      rw [hr] at h1
      injection h1 with e1 e2
      rw [← e1, ← e2]
      intro g hgg
      obtain rfl : w.heap.size = g := Option.some.inj hgg
      refine ⟨_, _, _, heap_alloc_new w.drew _, fun u hu => ?_⟩
      simp only [Array.toList_append, List.mem_append] at hu
      rcases hu with hu | hu
      · exact news u hu
      · exact zeros_str _ u hu
    · by_cases hroom : l.length + m.length ≤ cap
      · have hfit : l.length * i0.size + (m.map Value.string).length ≤ cur.size := by rw [hs1, hcs, List.length_map]; omega
        have hr := run_append_room (P := Tryz.prog) w 27 27 9 i0 Tryz.underlying27 hi g l.length cap cur hg ⟨b1, o1, none⟩ m.length c1 _ hl' hj' one hroom hfit
        rw [hr] at h1
        injection h1 with e1 e2
        rw [← e1, ← e2]
        intro g' hgg
        obtain rfl : g = g' := Option.some.inj hgg
        obtain ⟨cur', T', fr', k1, k2⟩ := hs g rfl
        rw [hg] at k1
        injection k1 with k1
        injection k1 with k3 k4 k5
        subst k3
        refine ⟨_, _, _, setRow_heap w g cur _ _ _ hg, fun u hu => ?_⟩
        simp only [List.mem_append] at hu
        rcases hu with (hu | hu) | hu
        · exact k2 u (List.mem_of_mem_take hu)
        · exact news u hu
        · exact k2 u (List.mem_of_mem_drop hu)
      · have holds := hown.cells (g := g) rfl
        have hr := run_append_grow (P := Tryz.prog) w 27 27 9 i0 _ Tryz.underlying27 hi hz ⟨g, 0, none⟩ l.length cap _ (by rw [hs1]; exact hlo) holds ⟨b1, o1, none⟩ m.length c1 _ hl' hj' (by omega) (by omega) (growslice_fits (by omega) (by rw [hb8]; omega))
        rw [hr] at h1
        injection h1 with e1 e2
        rw [← e1, ← e2]
        intro g' hgg
        obtain rfl : w.heap.size = g' := Option.some.inj hgg
        refine ⟨_, _, _, heap_alloc_new w.drew _, fun u hu => ?_⟩
        simp only [Array.toList_append, List.mem_append] at hu
        rcases hu with (hu | hu) | hu
        · exact olds u hu
        · exact news u hu
        · exact zeros_str _ u hu
end Go.Proofs.YtpingbiibbmcaaaGreat.Ru
