/- The program's Put at any place; what stands in a tree's place, as function values; after. The document's Same and Pick: the walks. The program's done and after: the walks. The document's Digits, word, Text: the walks. The document's Next, Refuse: the walks. A map whose elements read as themselves; an entry set by a composite literal. slices.Index and slices.Contains over moves: the walks. What the laws of move ask of the program; few; MoveEnabled: the walks. The document's Next, Refuse, of any row and move. The program's ways: the map that it makes; always. Arguments of move's laws: a move. What the laws of step ask of the program; few; StepNext: the walks. -/
import Derived.Test.YtaapnkoooofalaaQ09
import Derived.Test.YtaapnkoooofalaaQ27
import Derived.Test.YtaapnkoooofalaaQ05
import Derived.Test.YtaapnkoooofalaaQ22
import Derived.Shelf.Abstract
import Derived.Test.YtaapnkoooofalaaQ26
import Derived.Laws.ResultCell
import Derived.Laws.Rows
import Derived.Lib.ItoaLen
import Derived.Test.YtaapnkoooofalaaQ03
import Derived.OwnWalk
import Derived.Maps.Views
import Derived.Maps.OwnOps
import Derived.Deep.DeepCutAuto
import Derived.Deep.QuietTactic
import Derived.BigQuiet
import Derived.Lib.LaidTab
import Derived.Test.YtaapnkoooofalaaQ04
import Derived.OpenShut

namespace Go.Proofs.Ytaapnkoooofalaa.St
open Go Go.RowKit Rw So Se Do Sp Me
set_option maxRecDepth 20000
theorem putP_any (v vx : Value) (l x : List Nd) (z : Int) (w : World) (hv : Nds w v l) (hx : Nds w vx x) (hl : l.length ≤ 1000) (hxl : x.length ≤ 1000) :
    Calls Try.prog 10 #[v, .int .i64 z, vx] w fun e w' => ∃ y, e = .returned y ∧ w'.ownsRow w.heap.size 28 3 y (putR l z x).length (cls (putR l z x)) ∧ Below w.heap.size w w' := by
  by_cases h0 : szA l z = 0
  · have e : putR l z x = l := by
      unfold putR
      unfold szA at h0
      split
      · rfl
      · rename_i h
        rw [if_neg h] at h0
        exact if_pos h0
    rw [e]
    exact putP_none v vx l x z w hv hx hl h0
  · have hb : ¬ (z < 0 ∨ z ≥ l.length) := fun h => h0 (if_pos h)
    obtain ⟨q, rfl⟩ : ∃ q : Nat, z = (q : Int) := ⟨z.toNat, by omega⟩
    have e0 : szA l (q : Int) = size (l.drop q) := if_neg hb
    have e : putR l (q : Int) x = l.take q ++ x ++ l.drop (q + size (l.drop q)) := by
      unfold putR
      rw [if_neg hb]
      show putN l q x = _
      exact if_neg (by rw [← e0]; exact h0)
    rw [e]
    have hS := sizeAt_any v l (q : Int) w hv hl
    rw [e0] at hS h0
    have hsz := size_le (l.drop q)
    rw [List.length_drop] at hsz
    rcases hv.form with ⟨h1, _⟩ | ⟨b, o, c, rfl, hc, hat⟩
    · rw [h1] at hb; simp at hb
    · exact putP_some b o c l.length x.length (q + x.length + (l.length - (q + size (l.drop q)))) q (size (l.drop q)) (q + size (l.drop q)) vx (l.take q) x (l.drop (q + size (l.drop q))) w _ rfl
        (fun w1 hb1 => (take_nds rfl hat q (by omega) hc).below hb1) (fun w1 hb1 => hx.below hb1) (fun _ w1 hb1 => (drop_nds rfl hat _ (by omega) hc).below hb1)
        (by rw [List.length_take]; omega) rfl (by rw [List.length_drop]) (by omega) (by omega) rfl (by omega) hc rfl hl hxl hS
def FnV (w : World) (f : Value) (ls : List (List Nd)) (X : List Nd) : Prop :=
  ∃ fn caps, f = .func (.func fn) #[] caps ∧ (∀ args w, (callFunc fn args).run Try.prog w = .ok (.enter fn args) w) ∧
    ∀ w1 y, Below w.heap.size w w1 → Rws w1 y ls → Calls Try.prog fn (#[y] ++ caps) w1 fun e w' => ∃ y', e = .returned y' ∧ Nds w' y' X ∧ Below w1.heap.size w1 w'
theorem FnV.below {w w' : World} {f : Value} {ls : List (List Nd)} {X : List Nd} (h : FnV w f ls X) (hb : Below w.heap.size w w') : FnV w' f ls X := by
  obtain ⟨fn, caps, e, eg, H⟩ := h
  exact ⟨fn, caps, e, eg, fun w1 y hb1 hy => H w1 y (hb.trans (hb1.mono hb.size)) hy⟩
def OutF (w : World) (ls : List (List Nd)) (X : List Nd) (e : Ending) (w' : World) : Prop := ∃ f, e = .returned f ∧ FnV w' f ls X ∧ Below w.heap.size w w'
theorem rws_get {w : World} {y : Value} {ls : List (List Nd)} (h : Rws w y ls) (k : Nat) (hk : k < ls.length) : ∃ b o c a, y = .slice (some ⟨b, o, none⟩) ls.length c ∧ w.cell? ⟨b, o + k, none⟩ = some a ∧ Nds w a (ls.getD k []) := by
  rcases Rx.rws_form h with ⟨rfl, _⟩ | ⟨b, o, c, rfl, hat⟩
  · simp at hk
  · obtain ⟨a, h1, h2⟩ := hat k hk
    refine ⟨b, o, c, a, rfl, h1, ?_⟩
    rwa [List.getD_eq_getElem?_getD, List.getElem?_eq_getElem hk, Option.getD_some]
theorem kid1_any (k B : Nat) (y : Value) (ls : List (List Nd)) (w : World) (hB : w.cell? ⟨B, 0, none⟩ = some (.int .i64 (k : Int))) (hy : Rws w y ls) (hk : k < ls.length) :
    Calls Try.prog 64 #[y, .pointer (some ⟨B, 0, none⟩)] w fun e w' => ∃ y', e = .returned y' ∧ Nds w' y' (ls.getD k []) ∧ Below w.heap.size w w' := by
  obtain ⟨b, o, c, a, rfl, h1, h2⟩ := rws_get hy k hk
  obtain ⟨_, aa, cc, rfl, -⟩ := id h2
  have H2 := Lib.hid h2
  clear hy h2
  generalize (ls.getD k []).length = m at *
  go_enter Try.func64, Try.ntmps64
  go_wp2_with fail
  go_ret
  exact ⟨_, rfl, H2.out, Below.refl _ _⟩
theorem kid_any (k : Nat) (ls : List (List Nd)) (w : World) (hk : k < ls.length) :
    Calls Try.prog 49 #[.int .i64 (k : Int)] w (OutF w ls (ls.getD k [])) := by
  have eg : ∀ args w, (callFunc 64 args).run Try.prog w = .ok (.enter 64 args) w := enters_of Try.func64 (by kernel_rfl) rfl
  have hb := below1 w (.cells #[.int .i64 (k : Int)] 3)
  have hc : (w.alloc (.cells #[.int .i64 (k : Int)] 3)).cell? ⟨w.heap.size, 0, none⟩ = some (.int .i64 (k : Int)) := by rw [World.cell?_alloc_new]; rfl
  have F : Hid (FnV (w.alloc (.cells #[.int .i64 (k : Int)] 3)) (.func (.func 64) #[] #[.pointer (some ⟨w.heap.size, 0, none⟩)]) ls (ls.getD k [])) := Lib.hid ⟨_, _, rfl, eg, fun w1 y hb1 hy => kid1_any k _ y ls w1 (by rw [hb1.cell (Ap.cell_lt hc)]; exact hc) hy hk⟩
  have D := Lib.hid hb
  have hmf : ∀ fn first cap w, (Instr.makeFunc fn first cap).run Try.prog w = .ok (.func fn first cap) w := fun _ _ _ _ => rfl
  clear eg hb hc
  unfold OutF
  go_enter Try.func49, Try.ntmps49
  go_wp2_with fail
  go_ret
  exact ⟨_, rfl, F.out, D.out⟩
theorem always1_any (B : Nat) (y s : Value) (X : List Nd) (w : World) (hB : w.cell? ⟨B, 0, none⟩ = some s) (hs : Nds w s X) (hy : ∃ a n c, y = .slice a n c) :
    Calls Try.prog 55 #[y, .pointer (some ⟨B, 0, none⟩)] w fun e w' => ∃ y', e = .returned y' ∧ Nds w' y' X ∧ Below w.heap.size w w' := by
  obtain ⟨a, n, c, rfl⟩ := hy
  obtain ⟨_, aa, cc, rfl, -⟩ := id hs
  have H := Lib.hid hs
  clear hs
  generalize X.length = m at *
  go_enter Try.func55, Try.ntmps55
  go_wp2_with fail
  go_ret
  exact ⟨_, rfl, H.out, Below.refl _ _⟩
theorem rws_slice {w : World} {y : Value} {ls : List (List Nd)} (h : Rws w y ls) : ∃ a n c, y = .slice a n c := by
  obtain ⟨cs, ⟨_, a, c, rfl, -⟩, -⟩ := h
  exact ⟨_, _, _, rfl⟩
theorem always_any (s : Value) (X : List Nd) (ls : List (List Nd)) (w : World) (hs : Nds w s X) :
    Calls Try.prog 37 #[s] w (OutF w ls X) := by
  have eg : ∀ args w, (callFunc 55 args).run Try.prog w = .ok (.enter 55 args) w := enters_of Try.func55 (by kernel_rfl) rfl
  obtain ⟨_, aa, cc, rfl, -⟩ := id hs
  obtain ⟨m, hm⟩ : ∃ m, X.length = m := ⟨_, rfl⟩
  rw [hm] at hs ⊢
  have hb := below1 w (.cells #[.slice aa m cc] 22)
  have hc : (w.alloc (.cells #[.slice aa m cc] 22)).cell? ⟨w.heap.size, 0, none⟩ = some (.slice aa m cc) := by rw [World.cell?_alloc_new]; rfl
  have F : Hid (FnV (w.alloc (.cells #[.slice aa m cc] 22)) (.func (.func 55) #[] #[.pointer (some ⟨w.heap.size, 0, none⟩)]) ls X) := Lib.hid ⟨_, _, rfl, eg, fun w1 y hb1 hy => always1_any _ y _ X w1 (by rw [hb1.cell (Ap.cell_lt hc)]; exact hc) ((hs.below hb).below hb1) (rws_slice hy)⟩
  have D := Lib.hid hb
  have hmf : ∀ fn first cap w, (Instr.makeFunc fn first cap).run Try.prog w = .ok (.func fn first cap) w := fun _ _ _ _ => rfl
  clear eg hb hc hs hm
  unfold OutF
  go_enter Try.func37, Try.ntmps37
  go_wp2_with fail
  go_ret
  exact ⟨_, rfl, F.out, D.out⟩
theorem begun_any (y : Value) (ls : List (List Nd)) (w : World) (hy : Rws w y ls) (hl : ls.length ≤ 1000) (hf : ls.flatten.length ≤ 1000000) :
    Calls Try.prog 50 #[y] w fun e w' => ∃ y', e = .returned y' ∧ Nds w' y' (nOf 12 :: ls.flatten) ∧ Below w.heap.size w w' := by
  have HM := Lib.hid (Rx.makeP_any (nOf 12) y ls w hy hl hf)
  obtain ⟨L, hL⟩ : ∃ L, nOf 12 :: ls.flatten = L := ⟨_, rfl⟩
  rw [hL] at HM ⊢
  obtain ⟨a, n, c, rfl⟩ := rws_slice hy
  clear hy hL hf
  go_enter Try.func50, Try.ntmps50
  go_wp2_with fail
  refine HM.out.mono ?_
  rintro e w1 ⟨y1, rfl, hn, hb⟩
  have N1 : Hid (Nds w1 y1 L) := Lib.hid hn.rd
  have D := Lib.hid hb
  obtain ⟨_, a1, c1, rfl, -⟩ := id N1.out
  clear hn hb
  go_wp2_with fail
  go_ret
  exact ⟨_, rfl, N1.out, D.out⟩
end Go.Proofs.Ytaapnkoooofalaa.St

namespace Go.Proofs.Ytaapnkoooofalaa.Me
open Go Go.RowKit Rw So Se Do
set_option maxRecDepth 20000
abbrev mvV (m : Mv) : Value := .agg #[.int .i64 m.p, .int .i64 m.h]
def Bm (w : World) (b : Nat) (m : Mv) : Prop := w.heap[b]? = some (.cells #[.int .i64 m.p, .int .i64 m.h] 33 (0, 0))
theorem Bm.new (w : World) (m : Mv) : Bm (w.alloc (.cells #[.int .i64 m.p, .int .i64 m.h] 33)) w.heap.size m := by
  show (w.heap.push _)[w.heap.size]? = some _
  simp
theorem Bm.lt {w : World} {b : Nat} {m : Mv} (h : Bm w b m) : b < w.heap.size := Nat.lt_of_not_le fun hle => by
  unfold Bm at h
  rw [Array.getElem?_eq_none hle] at h
  cases h
theorem Bm.below {w w' : World} {M b : Nat} {m : Mv} (h : Bm w b m) (hb : Below M w w') (hM : b < M) : Bm w' b m := (hb.block b hM).trans h
theorem Bm.cells {w : World} {b : Nat} {m : Mv} (h : Bm w b m) : w.cell? ⟨b, 0, none⟩ = some (.int .i64 m.p) ∧ w.cell? ⟨b, 1, none⟩ = some (.int .i64 m.h) ∧ w.frozen? ⟨b, 0, none⟩ = false ∧ w.frozen? ⟨b, 1, none⟩ = false := by
  unfold Bm at h
  simp [World.cell?, World.frozen?, h]
theorem setM {w : World} {g : Nat} {c : Array Value} {t : TypeId} {fr : Nat × Nat} (o : Nat) (v : Value) (h : w.heap[g]? = some (.cells c t fr)) : (w.setCell ⟨g, o, none⟩ v).heap[g]? = some (.cells (c.setIfInBounds o v) t fr) := by
  simp only [World.setCell, Array.getElem?_modify, if_true, h]
  rfl
abbrev put2 (w : World) (b : Nat) (x y : Value) : World := (w.setCell ⟨b, 0, none⟩ x).setCell ⟨b, 1, none⟩ y
theorem Bm.put {w : World} {b : Nat} {m : Mv} (h : Bm w b m) (n : Mv) : Bm (put2 w b (.int .i64 n.p) (.int .i64 n.h)) b n := setM 1 _ (setM 0 _ h)
theorem ret_mv {fn : Func} {p u : Tmp} {R : Ending → World → Prop} {a : Act} {w : World} {b : Nat} {m : Mv} {v : Value} (h : fn.results = #[.cell p 33, .tmp u]) (hp : a.tmps.getD p undef = .pointer (some ⟨b, 0, none⟩)) (hu : a.tmps.getD u undef = v) (hb : Bm w b m) (hd : a.defers = [])
    (hR : R (.returned (.tuple #[mvV m, v])) w) : bodyPost Try.prog fn R .ret a w :=
  bodyPost_ret (by
    rw [results_cell_tmp h, hp, hu]
    simp [asAddr, run_loadVar_row w b _ 33 _ (0, 0) _ hb Try.underlying33 rfl (by kernel_rfl)]) hd hR
end Go.Proofs.Ytaapnkoooofalaa.Me

namespace Go.Proofs.Ytaapnkoooofalaa.St
open Go Go.RowKit Rw So Se Do Sp Me
set_option maxRecDepth 20000
def mdK (ls : List (List Nd)) (kk h : Int) : List Nd :=
  if h = 2 then ls.getD 0 [] else if h = 3 then ls.getD 1 [] else if h = 4 ∧ kk = 10 then nOf 12 :: (ls.getD 0 [] ++ ls.getD 1 []) else if h = 5 ∧ kk = 10 then [nEnd 3, nOf 2] else if h = 5 then [⟨11, ⟨#[]⟩, 3⟩] else [⟨11, ⟨#[]⟩, 1⟩]
theorem mdR_K (L : List Nd) (h : Int) : mdR L h = mdK (kids L) (kn L 0) h := rfl
def Way (kk h : Int) : Prop := (kk = 1 ∧ h = 1) ∨ (kk = 4 ∧ h = 4) ∨ (kk = 4 ∧ h = 5) ∨ (kk = 6 ∧ h = 2) ∨ (kk = 6 ∧ h = 3) ∨ (kk = 10 ∧ h = 4) ∨ (kk = 10 ∧ h = 5)
set_option maxHeartbeats 2000000 in
theorem done_kid (kk : Int) (k : Nat) (h : Int) (hh : (h = 2 ∧ k = 0) ∨ (h = 3 ∧ k = 1)) (ls : List (List Nd)) (w : World) (h2 : ls.length = 2) :
    Calls Try.prog 31 #[.int .i64 kk, .int .i64 h] w (OutF w ls (ls.getD k [])) := by
  have HK := Lib.hid (fun w1 => kid_any k ls w1 (by omega))
  unfold OutF at *
  rcases hh with ⟨rfl, rfl⟩ | ⟨rfl, rfl⟩
  all_goals
    clear h2
    go_enter Try.func31, Try.ntmps31
    go_wp2_with fail
    refine (HK.out _).mono ?_
    rintro e w1 ⟨f, rfl, hf, hb⟩
    have D := Lib.hid hb
    have F := Lib.hid hf
    obtain ⟨fn, caps, rfl, -⟩ := id hf
    clear hb hf
    go_wp2_with fail
    go_ret
    exact ⟨_, rfl, F.out, D.out⟩
set_option maxHeartbeats 2000000 in
theorem done_begun (ls : List (List Nd)) (w : World) (h2 : ls.length = 2) (hf : ls.flatten.length ≤ 1000000) :
    Calls Try.prog 31 #[.int .i64 10, .int .i64 4] w (OutF w ls (nOf 12 :: (ls.getD 0 [] ++ ls.getD 1 []))) := by
  have eg : ∀ args w, (callFunc 50 args).run Try.prog w = .ok (.enter 50 args) w := enters_of Try.func50 (by kernel_rfl) rfl
  have e : nOf 12 :: (ls.getD 0 [] ++ ls.getD 1 []) = nOf 12 :: ls.flatten := by
    obtain ⟨a, b, rfl⟩ : ∃ a b, ls = [a, b] := by
      match ls, h2 with
      | [a, b], _ => exact ⟨a, b, rfl⟩
    simp
  rw [e]
  have F : Hid (FnV w (.func (.func 50) #[] #[]) ls (nOf 12 :: ls.flatten)) := Lib.hid ⟨_, _, rfl, eg, fun w1 y _ hy => begun_any y ls w1 hy (by omega) hf⟩
  clear eg e h2 hf
  unfold OutF
  go_enter Try.func31, Try.ntmps31
  go_wp2_with fail
  go_ret
  exact ⟨_, rfl, F.out, Below.refl _ _⟩
set_option maxHeartbeats 2000000 in
theorem done_leaf (kk h sg : Int) (hh : (kk = 1 ∧ h = 1 ∧ sg = 1) ∨ (kk = 4 ∧ h = 4 ∧ sg = 1) ∨ (kk = 4 ∧ h = 5 ∧ sg = 3)) (ls : List (List Nd)) (w : World) :
    Calls Try.prog 31 #[.int .i64 kk, .int .i64 h] w (OutF w ls [⟨11, ⟨#[]⟩, sg⟩]) := by
  have HA := Lib.hid (fun s w1 hs => always_any s [⟨11, ⟨#[]⟩, sg⟩] ls w1 hs)
  have N := Lib.hid (Se.nds_new w [⟨11, ⟨#[]⟩, sg⟩] 28)
  have B := Lib.hid (below1 w (.cells (cls [(⟨11, ⟨#[]⟩, sg⟩ : Nd)]).toArray 28))
  unfold OutF at *
  rcases hh with ⟨rfl, rfl, rfl⟩ | ⟨rfl, rfl, rfl⟩ | ⟨rfl, rfl, rfl⟩
  all_goals
    go_enter Try.func31, Try.ntmps31
    go_wp2_with fail
    refine (HA.out _ _ N.out).mono ?_
    rintro e w1 ⟨f, rfl, hf, hb⟩
    have D := Lib.hid (B.out.trans (hb.mono B.out.size))
    have F := Lib.hid hf
    obtain ⟨fn, caps, rfl, -⟩ := id hf
    clear hb hf
    go_wp2_with fail
    go_ret
    exact ⟨_, rfl, F.out, D.out⟩
set_option maxHeartbeats 2000000 in
theorem done_stop (ls : List (List Nd)) (w : World) :
    Calls Try.prog 31 #[.int .i64 10, .int .i64 5] w (OutF w ls [nEnd 3, nOf 2]) := by
  have HA := Lib.hid (fun s w1 hs => always_any s [nEnd 3, nOf 2] ls w1 hs)
  have N := Lib.hid (Se.nds_new w [nEnd 3, nOf 2] 28)
  have B := Lib.hid (below1 w (.cells (cls [nEnd 3, nOf 2]).toArray 28))
  unfold OutF at *
  go_enter Try.func31, Try.ntmps31
  go_wp2_with fail
  refine (HA.out _ _ N.out).mono ?_
  rintro e w1 ⟨f, rfl, hf, hb⟩
  have D := Lib.hid (B.out.trans (hb.mono B.out.size))
  have F := Lib.hid hf
  obtain ⟨fn, caps, rfl, -⟩ := id hf
  clear hb hf
  go_wp2_with fail
  go_ret
  exact ⟨_, rfl, F.out, D.out⟩
theorem done_any (kk h : Int) (hh : Way kk h) (ls : List (List Nd)) (w : World) (h2 : kk ≠ 1 → kk ≠ 4 → ls.length = 2) (hf : ls.flatten.length ≤ 1000000) :
    Calls Try.prog 31 #[.int .i64 kk, .int .i64 h] w (OutF w ls (mdK ls kk h)) := by
  rcases hh with ⟨rfl, rfl⟩ | ⟨rfl, rfl⟩ | ⟨rfl, rfl⟩ | ⟨rfl, rfl⟩ | ⟨rfl, rfl⟩ | ⟨rfl, rfl⟩ | ⟨rfl, rfl⟩
  · exact done_leaf 1 1 1 (.inl ⟨rfl, rfl, rfl⟩) ls w
  · exact done_leaf 4 4 1 (.inr (.inl ⟨rfl, rfl, rfl⟩)) ls w
  · exact done_leaf 4 5 3 (.inr (.inr ⟨rfl, rfl, rfl⟩)) ls w
  · exact done_kid 6 0 2 (.inl ⟨rfl, rfl⟩) ls w (h2 (by decide) (by decide))
  · exact done_kid 6 1 3 (.inr ⟨rfl, rfl⟩) ls w (h2 (by decide) (by decide))
  · exact done_begun ls w (h2 (by decide) (by decide)) hf
  · exact done_stop ls w
theorem kids_rws (v : Value) (l : List Nd) (w : World) (hv : Nds w v l) (hl : l.length ≤ 1000000) :
    Calls Try.prog 48 #[v] w fun e w' => ∃ y, e = .returned y ∧ Rws w' y (kids l) ∧ Below w.heap.size w w' := by
  refine (Rx.kidsP_any v l w hv hl).mono ?_
  rintro e w' ⟨y, cs, rfl, h1, h2, hb⟩
  exact ⟨y, rfl, ⟨cs, h1.rd, h2.rwc⟩, hb⟩
set_option maxHeartbeats 2000000 in
theorem after_any (v f : Value) (l X : List Nd) (q : Nat) (w : World) (hv : Nds w v l) (hl : l.length ≤ 400) (hX : X.length ≤ 400) (hq : q < l.length) (hf : FnV w f (kids (l.drop q)) X) (hm : Nms (putR l (q : Int) X)) (hp : (putR l (q : Int) X).length ≤ 1000) :
    Calls Try.prog 30 #[v, .int .i64 (q : Int), f] w (OutL (st (putR l (q : Int) X)) w) := by
  unfold OutL
  rcases hv.form with ⟨h0, _⟩ | ⟨b, o, c, rfl, hc, hat⟩
  · rw [h0] at hq; simp at hq
  have HK := Lib.hid (kids_rws _ (l.drop q) w (drop_nds rfl hat q (by omega) hc) (by simp; omega))
  have HP := Lib.hid (fun vx w1 (hb : Below w.heap.size w w1) (hx : Nds w1 vx X) => putP_any _ vx l X (q : Int) w1 (hv.below hb) hx (by omega) (by omega))
  have HS := Lib.hid (fun y w1 (hy : Nds w1 y (putR l (q : Int) X)) => settleP_any y _ w1 hy hp hm)
  unfold OutL at HS
  obtain ⟨fn, caps, rfl, eg, H⟩ := hf
  have HH := Lib.hid H
  obtain ⟨n, hn⟩ : ∃ n, l.length = n := ⟨_, rfl⟩
  rw [hn] at HK HP hq hc ⊢
  have hcap : q < c := by omega
  have hcq : ¬ c = q := by omega
  generalize putR l (q : Int) X = L at HP HS ⊢
  clear hv hat hn hl hX hm hp H
  go_enter Try.func30, Try.ntmps30
  go_wp2_with fail
  refine HK.out.mono ?_
  rintro e w1 ⟨y1, rfl, h1, hb1⟩
  have D1 := Lib.hid hb1
  have R1 := Lib.hid h1
  obtain ⟨a1, n1, c1, rfl⟩ := rws_slice h1
  clear h1 hb1
  go_wp2_with fail
  refine (HH.out _ _ D1.out R1.out).mono ?_
  rintro e w2 ⟨y2, rfl, h2, hb2⟩
  have D2 := Lib.hid (D1.out.trans (hb2.mono D1.out.size))
  have N2 := Lib.hid h2
  obtain ⟨_, a2, c2, rfl, -⟩ := id h2
  clear h2 hb2
  go_wp2_with fail
  refine (HP.out _ _ D2.out N2.out).mono ?_
  rintro e w3 ⟨y3, rfl, h3, hb3⟩
  have D3 := Lib.hid (D2.out.trans (hb3.mono D2.out.size))
  have N3 : Hid (Nds w3 y3 L) := Lib.hid (Ap.Rd.owned h3)
  obtain ⟨_, a3, c3, rfl, -⟩ := id N3.out
  clear h3 hb3
  go_wp2_with fail
  refine (HS.out _ _ N3.out).mono ?_
  rintro e w4 ⟨y4, rfl, h4, hb4⟩
  have D4 := Lib.hid (D3.out.trans (hb4.mono D3.out.size))
  have N4 := Lib.hid h4
  obtain ⟨_, a4, c4, rfl, -⟩ := id h4
  clear h4 hb4
  go_wp2_with fail
  go_ret
  exact ⟨_, rfl, N4.out, D4.out⟩
end Go.Proofs.Ytaapnkoooofalaa.St

namespace Go.Proofs.Ytaapnkoooofalaa.Me
open Go Go.RowKit Rw So Se Do
set_option maxRecDepth 20000
abbrev tx (L : List UInt8) : ByteArray := ⟨L.toArray⟩
theorem digit (d : Nat) (h : d < 10) : (⟨#[48, 49, 50, 51, 52, 53, 54, 55, 56, 57]⟩ : ByteArray).extract d (d + 1) = tx [UInt8.ofNat (48 + d)] := by
  have : ∀ d : Fin 10, (⟨#[48, 49, 50, 51, 52, 53, 54, 55, 56, 57]⟩ : ByteArray).extract d.val (d.val + 1) = tx [UInt8.ofNat (48 + d.val)] := by decide
  exact this ⟨d, h⟩
end Go.Proofs.Ytaapnkoooofalaa.Me

namespace Go.Proofs.Ytaapnkoooofalaa.St
open Go Go.RowKit Rw So Se Do Sp Me
set_option maxRecDepth 20000
theorem bm_keep {w : World} {b : Nat} {m : Mv} (h : Bm w b m) : ∀ w', Below w.heap.size w w' → w'.cell? ⟨b, 0, none⟩ = some (.int .i64 m.p) ∧ w'.cell? ⟨b, 1, none⟩ = some (.int .i64 m.h) := fun _ hb => ⟨(h.below hb h.lt).cells.1, (h.below hb h.lt).cells.2.1⟩
def RNx (b off n c p bM : Nat) (hh : Int) (nm : ByteArray) (U R Z : List Nd) (k : Nat) (v : Value) (w' : World) : Prop := match k with
  | 0 => v = .slice (some ⟨b, off, none⟩) n c
  | 1 => v = .pointer (some ⟨bM, 0, none⟩)
  | 2 => v = .int .i64 (p : Int)
  | 3 => v = .slice (some ⟨b, off, none⟩) n c
  | 4 => v = .pointer (some ⟨bM, 0, none⟩)
  | 5 => v = .int .i64 (p : Int)
  | 6 => v = .slice (some ⟨b, off + p * 3, none⟩) (n - p) (c - p)
  | 7 => v = .pointer (some ⟨bM, 1, none⟩)
  | 8 => v = .int .i64 hh
  | 9 => Nds w' v U
  | 10 => Nds w' v R
  | 11 => Nds w' v Z
  | 12 => v = .string nm
  | 13 => Nds w' v Z
  | 14 => v = .string nm
  | 15 => v = .int .i64 0
  | _ => True
theorem RNx.below {b off n c p bM : Nat} {hh : Int} {nm : ByteArray} {U R Z : List Nd} {k : Nat} {v : Value} {w w' : World} (h : RNx b off n c p bM hh nm U R Z k v w) (hb : Below w.heap.size w w') : RNx b off n c p bM hh nm U R Z k v w' := by
  unfold RNx at h ⊢
  split at h
  case h_10 => exact Nds.below h hb
  case h_11 => exact Nds.below h hb
  case h_12 => exact Nds.below h hb
  case h_14 => exact Nds.below h hb
  all_goals exact h
theorem RNx.put {w4 : World} {b off n c p bM : Nat} {hh : Int} {nm : ByteArray} {U R Z : List Nd} {v : Value} {w w' : World} {f : Nat → Bool} {us : Nat → Value} {i : Nat} (g : Rg.Kept (fun w' => Below w4.heap.size w4 w') (RNx b off n c p bM hh nm U R Z) f us w) (hb : Below w.heap.size w w') (hv : RNx b off n c p bM hh nm U R Z i v w') :
    Rg.Kept (fun w' => Below w4.heap.size w4 w') (RNx b off n c p bM hh nm U R Z) (Rg.upd f i true) (Rg.upd us i v) w' :=
  Rg.Kept.put (Base := fun w' => Below w4.heap.size w4 w') (R := RNx b off n c p bM hh nm U R Z) (fun _ _ h hb => h.trans (hb.mono h.size)) (fun _ _ _ _ h hb => RNx.below h hb) g hb hv
def RRf (b off n c p bM : Nat) (U R Z : List Nd) (k : Nat) (v : Value) (w' : World) : Prop := match k with
  | 0 => v = .slice (some ⟨b, off, none⟩) n c
  | 1 => v = .pointer (some ⟨bM, 0, none⟩)
  | 2 => v = .int .i64 (p : Int)
  | 3 => Nds w' v U
  | 4 => Nds w' v R
  | 5 => Nds w' v Z
  | 6 => Nds w' v Z
  | 7 => v = .int .i64 0
  | _ => True
theorem RRf.below {b off n c p bM : Nat} {U R Z : List Nd} {k : Nat} {v : Value} {w w' : World} (h : RRf b off n c p bM U R Z k v w) (hb : Below w.heap.size w w') : RRf b off n c p bM U R Z k v w' := by
  unfold RRf at h ⊢
  split at h
  case h_4 => exact Nds.below h hb
  case h_5 => exact Nds.below h hb
  case h_6 => exact Nds.below h hb
  case h_7 => exact Nds.below h hb
  all_goals exact h
theorem RRf.put {w4 : World} {b off n c p bM : Nat} {U R Z : List Nd} {v : Value} {w w' : World} {f : Nat → Bool} {us : Nat → Value} {i : Nat} (g : Rg.Kept (fun w' => Below w4.heap.size w4 w') (RRf b off n c p bM U R Z) f us w) (hb : Below w.heap.size w w') (hv : RRf b off n c p bM U R Z i v w') :
    Rg.Kept (fun w' => Below w4.heap.size w4 w') (RRf b off n c p bM U R Z) (Rg.upd f i true) (Rg.upd us i v) w' :=
  Rg.Kept.put (Base := fun w' => Below w4.heap.size w4 w') (R := RRf b off n c p bM U R Z) (fun _ _ h hb => h.trans (hb.mono h.size)) (fun _ _ _ _ h hb => RRf.below h hb) g hb hv
end Go.Proofs.Ytaapnkoooofalaa.St

namespace Go.Proofs.Ytaapnkoooofalaa.Me
open Go Go.RowKit Go.Maps Go.WideMaps Rw So Se Do
set_option maxRecDepth 20000
def hE (v : Value) : Option (DataW Value × List MemPlace) := some (.held v, [])
theorem lawI : Keyed Try.prog 3 := int_keyed Try.underlying3
theorem keyI (k : Int) (h : (Lit.int .i64 k).wf = true) : keyOf Try.prog 3 (.int .i64 k) = some (.int .i64 k) := keyOf_int_mk Try.underlying3 h
theorem zeroW (w : World) : (zeroValue 68).run Try.prog w = .ok (.slice none 0 0) w := by kernel_rfl
def WD (f : Int → Value) (D : DataW Value) : Prop := ∀ k : Int, D.atKey (.int .i64 k) (.held (.slice none 0 0)) = .held (f k)
theorem look {w : World} {b n : Nat} {f : Int → Value} {D : DataW Value} (h : w.ownsMap Try.prog 3 hE b n D) (hd : WD f D) (k : Int) (hk : (Lit.int .i64 k).wf = true) :
    (Instr.lookup 69 (.map (some b)) (.int .i64 k) false).run Try.prog w = .ok (f k) w := by
  obtain ⟨v, ps, hrun, hv⟩ := h.lookup lawI Try.underlying69 (zeroW w) (show hE (.slice none 0 0) = some (.held (.slice none 0 0), []) from rfl) (keyI k hk)
  rw [hd k] at hv
  rw [hrun]
  injection hv with hv
  injection hv with hv
  injection hv with hv
  rw [hv]
end Go.Proofs.Ytaapnkoooofalaa.Me

namespace Go.Proofs.Ytaapnkoooofalaa.Me
open Go Go.RowKit Rw So Se Do
set_option maxRecDepth 20000
def idxM (x : Mv) : List Mv → Nat → Int
  | [], _ => -1
  | y :: l, k => if x = y then k else idxM x l (k + 1)
theorem idxM_mem (x : Mv) (l : List Mv) (k : Nat) : decide (0 ≤ idxM x l k) = decide (x ∈ l) := by
  induction l generalizing k with
  | nil => simp [idxM]
  | cons y l ih =>
    unfold idxM
    by_cases h : x = y
    · rw [if_pos h, decide_eq_true (show x ∈ y :: l by rw [h]; exact List.mem_cons_self)]
      simp
    · rw [if_neg h, ih (k + 1)]
      simp [h]
theorem idxM_end {x : Mv} {l : List Mv} {k : Nat} (h : ¬ k < l.length) : idxM x (l.drop k) k = -1 := by rw [List.drop_eq_nil_of_le (by omega)]; rfl
theorem idxM_at {x : Mv} {l : List Mv} {k : Nat} (h : k < l.length) : idxM x (l.drop k) k = if x = l[k] then (k : Int) else idxM x (l.drop (k + 1)) (k + 1) := by
  rw [List.drop_eq_getElem_cons h, idxM]
set_option maxHeartbeats 400000 in
theorem idxM_empty (a : Option Addr) (cap : Nat) (xp xh : Int) (w : World) :
    Calls Try.prog 62 #[.slice a 0 cap, .agg #[.int .i64 xp, .int .i64 xh]] w fun e w' => e = .returned (.int .i64 (-1)) ∧ Below w.heap.size w w' := by
  go_enter Try.func62, Try.ntmps62
  go_wp2_with fail
  refine Go.wp_loop_rounds 1 ?_
  rw [rounds_succ]
  go_wp2_with fail
  go_ret
  exact ⟨rfl, below1 _ _⟩
set_option maxHeartbeats 2000000 in
theorem idxM_cells (b off cap : Nat) (l : List Mv) (x : Mv) (w : World) (hat : AtM w b off l) (hl : l.length ≤ 1000000) :
    Calls Try.prog 62 #[.slice (some ⟨b, off, none⟩) l.length cap, mvV x] w fun e w' => e = .returned (.int .i64 (idxM x l 0)) ∧ Below w.heap.size w w' := by
  obtain ⟨xp, xh⟩ := x
  have HA := Lib.hid (hat.below (below1 w (.cells #[.int .i64 xp, .int .i64 xh] 33)))
  have HB0 := Lib.hid (Bm.new w ⟨xp, xh⟩)
  have DB := Lib.hid (below1 w (.cells #[.int .i64 xp, .int .i64 xh] 33))
  obtain ⟨wB, hwB⟩ : ∃ wB, w.alloc (.cells #[.int .i64 xp, .int .i64 xh] 33) = wB := ⟨_, rfl⟩
  obtain ⟨bM, hbM⟩ : ∃ bM, w.heap.size = bM := ⟨_, rfl⟩
  have HS : Hid (w.heap.size ≤ wB.heap.size) := Lib.hid (by rw [← hwB]; simp)
  change Hid (Bm (w.alloc (.cells #[.int .i64 xp, .int .i64 xh] 33)) w.heap.size ⟨xp, xh⟩) at HB0
  rw [hwB] at HA HB0 DB
  rw [hbM] at HB0
  clear hat
  go_enter Try.func62, Try.ntmps62
  go_wp2_with fail
  clear hwB
  go_loopw [8] (fun i wr => ∃ k : Nat, k ≤ l.length ∧ i = .int .i64 k ∧ Hid (Below wB.heap.size wB wr) ∧ Hid (idxM ⟨xp, xh⟩ l 0 = idxM ⟨xp, xh⟩ (l.drop k) k)) (fun i _ => l.length - (intOf i).toNat)
  case atStart => exact ⟨0, Nat.zero_le _, rfl, Lib.hid (Below.refl _ _), Lib.hid rfl⟩
  case round =>
    obtain ⟨k, hk, rfl, HB, HK⟩ := hrel
    by_cases hlt : k < l.length
    · obtain ⟨e1, e2⟩ := (HA.out.below HB.out) k hlt
      obtain ⟨m1, m2, -⟩ := (HB0.out.below HB.out HB0.out.lt).cells
      have HX := Lib.hid (HK.out.trans (idxM_at hlt))
      obtain ⟨y, hy⟩ : ∃ y, l[k] = y := ⟨_, rfl⟩
      rw [hy] at e1 e2 HX
      clear hy
      obtain ⟨yp, yh⟩ := y
      simp only at e1 e2 m1 m2
      have hq : ∀ w, (binOp .eql 33 (.agg #[.int .i64 xp, .int .i64 xh]) (.agg #[.int .i64 yp, .int .i64 yh])).run Try.prog w = .ok (.bool (decide ((⟨xp, xh⟩ : Mv) = ⟨yp, yh⟩))) w := fun w => eq_mv ⟨xp, xh⟩ ⟨yp, yh⟩ w
      by_cases hxy : (⟨xp, xh⟩ : Mv) = ⟨yp, yh⟩
      · rw [if_pos hxy] at HX
        rw [decide_eq_true hxy] at hq
        clear hxy
        go_wp2_with fail
        go_quiet (fail)
        go_wp2_with fail
        go_ret
        exact ⟨ret_int HX.out.symm, DB.out.trans ((HB.out.trans (Below.drewN _ _ _)).mono HS.out)⟩
      · rw [if_neg hxy] at HX
        rw [decide_eq_false hxy] at hq
        clear hxy
        go_wp2_with fail
        go_quiet (fail)
        go_wp2_with fail
        go_roundw
        case rel => exact ⟨k + 1, by omega, by go_num, Lib.hid (HB.out.trans (Below.drewN _ _ _)), HX⟩
        case measure => simp [intOf]; omega
    · have HZ : Hid (idxM ⟨xp, xh⟩ l 0 = -1) := Lib.hid (by rw [HK.out, idxM_end hlt])
      go_wp2_with fail
      go_ret
      exact ⟨ret_int HZ.out.symm, DB.out.trans (HB.out.mono HS.out)⟩
theorem idxM_any (v : Value) (l : List Mv) (x : Mv) (w : World) (h : Mvs w v l) (hl : l.length ≤ 1000000) :
    Calls Try.prog 62 #[v, mvV x] w fun e w' => e = .returned (.int .i64 (idxM x l 0)) ∧ Below w.heap.size w w' := by
  rcases h.form with ⟨rfl, a, cap, rfl⟩ | ⟨b, off, cap, rfl, _, hat⟩
  · exact idxM_empty a cap x.p x.h w
  · exact idxM_cells b off cap l x w hat hl
set_option maxHeartbeats 400000 in
theorem hasM_any (v : Value) (l : List Mv) (x : Mv) (w : World) (h : Mvs w v l) (hl : l.length ≤ 1000000) :
    Calls Try.prog 47 #[v, mvV x] w fun e w' => e = .returned (.bool (decide (x ∈ l))) ∧ Below w.heap.size w w' := by
  obtain ⟨xp, xh⟩ := x
  have H := Lib.hid (h.below (below1 w (.cells #[.int .i64 xp, .int .i64 xh] 33)))
  have D1 := Lib.hid (below1 w (.cells #[.int .i64 xp, .int .i64 xh] 33))
  have HQ := Lib.hid (idxM_mem ⟨xp, xh⟩ l 0)
  obtain ⟨q, hq⟩ : ∃ q, idxM ⟨xp, xh⟩ l 0 = q := ⟨_, rfl⟩
  rw [hq] at HQ
  have HC := Lib.hid hq
  obtain ⟨_, a, cap, rfl, -⟩ := id h
  clear h hq
  go_enter Try.func47, Try.ntmps47
  go_wp2_with fail
  refine (idxM_any _ l ⟨xp, xh⟩ _ H.out hl).mono ?_
  rw [HC.out]
  rintro e w' ⟨rfl, hb⟩
  have HB := Lib.hid (D1.out.trans (hb.mono D1.out.size))
  clear hb
  go_wp2_with fail
  go_ret
  exact ⟨ret_bool HQ.out, HB.out⟩
end Go.Proofs.Ytaapnkoooofalaa.Me

namespace Go.Proofs.Ytaapnkoooofalaa.Me
open Go Go.RowKit Rw So Se Do
set_option maxRecDepth 20000
def In64 (n : Int) : Prop := -9223372036854775808 ≤ n ∧ n ≤ 9223372036854775807
structure Con : Prop where
  en : ∀ (v : Value) (l : List Nd) (w : World), Nds w v l → l.length ≤ 1000 → Nms l → Calls Try.prog 13 #[v] w fun e w' => ∃ y, e = .returned y ∧ Mvs w' y (enR l) ∧ Below w.heap.size w w'
  is : ∀ (v : Value) (l : List Nd) (m : Mv) (w : World), Nds w v l → l.length ≤ 1000 → Nms l → Calls Try.prog 29 #[v, mvV m] w fun e w' => e = .returned (.bool (decide (m ∈ enR l))) ∧ Below w.heap.size w w'
  pk : ∀ (v : Value) (l : List Nd) (n : Int) (w : World), Nds w v l → l.length ≤ 1000 → Nms l → In64 n → Calls Try.prog 20 #[v, .int .i64 n] w fun e w' => e = .returned (.tuple #[mvV (pkM l n), .int .i64 (pkE l)]) ∧ Below w.heap.size w w'
def txC : Array Value := #[.string ⟨#[]⟩, .string ⟨#[100, 111]⟩, .string ⟨#[108, 101, 102, 116]⟩, .string ⟨#[114, 105, 103, 104, 116]⟩, .string ⟨#[103, 111]⟩, .string ⟨#[115, 116, 111, 112]⟩]
def Tx (w : World) : Prop := w.var? Try.prog "redress/move.texts" = some txC ∧ Lib.TabIs Try.prog w "internal/strconv.uint64pow10" .u64 Lib.pow10Tab
theorem var_below {P : Program} {w w' : World} {name : String} {cs : Array Value} (h : w.var? P name = some cs) (hb : Below w.heap.size w w') : w'.var? P name = some cs := by
  unfold World.var? at *
  cases hg : P.globalNamed name with
  | none => simp [hg] at h
  | some g =>
    simp only [hg, Option.bind_some] at h ⊢
    have hlt : g < w.heap.size := by
      rcases Nat.lt_or_ge g w.heap.size with h' | h'
      · exact h'
      · rw [Array.getElem?_eq_none h'] at h; simp at h
    rw [hb.block g hlt]
    exact h
theorem Tx.below {w w' : World} (h : Tx w) (hb : Below w.heap.size w w') : Tx w' := ⟨var_below h.1 hb, var_below h.2 hb⟩
end Go.Proofs.Ytaapnkoooofalaa.Me

namespace Go.Proofs.Ytaapnkoooofalaa.St
open Go Go.RowKit Rw So Se Do Sp Me
set_option maxRecDepth 20000
theorem nds_nil (w : World) : Nds w (.slice none 0 0) [] := ⟨rfl, none, 0, rfl, Nat.le_refl _, fun _ => ⟨rfl, rfl⟩, fun h => absurd h (Nat.lt_irrefl 0)⟩
end Go.Proofs.Ytaapnkoooofalaa.St

namespace Go.Proofs.Ytaapnkoooofalaa.Me
open Go Go.RowKit Go.Maps Go.WideMaps Rw So Se Do
set_option maxRecDepth 20000
abbrev Wy := Int × Nat
def wcls : List Wy → List Value
  | [] => []
  | p :: l => .int .i64 p.1 :: .func (.func p.2) #[] #[] :: wcls l
theorem wcls_len : ∀ l : List Wy, (wcls l).length = l.length * 2
  | [] => rfl
  | p :: l => by simp [wcls, wcls_len l]; omega
theorem wcls_at : ∀ (l : List Wy) (k : Nat) (h : k < l.length), (wcls l)[k * 2]? = some (.int .i64 l[k].1) ∧ (wcls l)[k * 2 + 1]? = some (.func (.func l[k].2) #[] #[])
  | [], k, h => by simp at h
  | x :: l, 0, _ => ⟨rfl, rfl⟩
  | x :: l, k + 1, h => by
    have := wcls_at l k (by simpa using h)
    simpa [wcls, show (k + 1) * 2 = k * 2 + 1 + 1 by omega] using this
def Wys (w : World) (v : Value) (l : List Wy) : Prop := Ap.Rd w 2 v l.length (wcls l)
theorem Wys.below {w w' : World} {v : Value} {l : List Wy} (h : Wys w v l) (hb : Below w.heap.size w w') : Wys w' v l := Ap.Rd.below h hb
theorem wys_new (w : World) (l : List Wy) (ty : TypeId) : Wys (w.alloc (.cells (wcls l).toArray ty)) (.slice (some ⟨w.heap.size, 0, none⟩) l.length l.length) l := by
  refine ⟨wcls_len l, some ⟨w.heap.size, 0, none⟩, l.length, rfl, Nat.le_refl _, fun h => (by cases h), fun _ => ⟨w.heap.size, 0, rfl, fun j u hu => ?_⟩⟩
  rw [Nat.zero_add, World.cell?_alloc_new]
  simpa using hu
theorem Wys.grown {w w' : World} {b : Nat} {v : Value} {l : List Wy} (h : Wys w v l) (hg : w.grownBy w' (some b)) (hb : ∀ p c, v = .slice (some p) l.length c → p.block ≠ b) : Wys w' v l := by
  obtain ⟨hn, a, cap, rfl, hle, h0, hcell⟩ := h
  refine ⟨hn, a, cap, rfl, hle, h0, fun hp => ?_⟩
  obtain ⟨c, off, rfl, hj⟩ := hcell hp
  refine ⟨c, off, rfl, fun j u hu => ?_⟩
  have hc := hj j u hu
  exact hg.cell hc (fun e => hb _ _ rfl (Option.some.inj e))
def wyF (v1 v6 v4 : Value) (k : Int) : Value := if k = 1 then v1 else if k = 6 then v6 else if k = 4 ∨ k = 10 then v4 else .slice none 0 0
theorem wd_all (v1 v6 v4 : Value) : WD (wyF v1 v6 v4) (((((DataW.map []).put (.int .i64 1) (.held v1)).put (.int .i64 6) (.held v6)).put (.int .i64 4) (.held v4)).put (.int .i64 10) (.held v4)) := by
  intro k
  have m0 : IsMap (DataW.map [] : DataW Value) := isMap_empty
  have m1 := m0.put (.int .i64 1) (.held v1)
  have m2 := m1.put (.int .i64 6) (.held v6)
  have m3 := m2.put (.int .i64 4) (.held v4)
  have ne : ∀ {a b : Int}, a ≠ b → (Lit.int .i64 a) ≠ .int .i64 b := fun h e => h (by injection e)
  unfold wyF
  by_cases h10 : k = 10
  · subst h10
    rw [atKey_put_same m3 (by simp [WideAt.IsKeyLit])]
    rfl
  · rw [atKey_put_other (ne h10)]
    by_cases h4 : k = 4
    · subst h4
      rw [atKey_put_same m2 (by simp [WideAt.IsKeyLit])]
      rfl
    · rw [atKey_put_other (ne h4)]
      by_cases h6 : k = 6
      · subst h6
        rw [atKey_put_same m1 (by simp [WideAt.IsKeyLit])]
        rfl
      · rw [atKey_put_other (ne h6)]
        by_cases h1 : k = 1
        · subst h1
          rw [atKey_put_same m0 (by simp [WideAt.IsKeyLit])]
          rfl
        · rw [atKey_put_other (ne h1), if_neg h1, if_neg h6, if_neg (by omega)]
          rfl
set_option maxHeartbeats 400000 in
theorem always_any (v : Value) (z : Int) (w : World) (n c : Nat) (a : Option Addr) (hv : v = .slice a n c) : Calls Try.prog 60 #[v, .int .i64 z] w fun e w' => e = .returned (.bool true) ∧ Below w.heap.size w w' := by
  subst hv
  go_enter Try.func60, Try.ntmps60
  go_wp2_with fail
  go_ret
  exact ⟨rfl, Below.refl _ _⟩
def Gmw (w wr : World) (n : Nat) (D : DataW Value) (rows : List (Value × List Wy)) : Prop :=
  wr.ownsMap Try.prog 3 hE (w.heap.size + 1) n D ∧ Below w.heap.size w wr ∧ w.heap.size + 2 ≤ wr.heap.size ∧ ∀ r ∈ rows, Wys wr r.1 r.2 ∧ ∃ b c, r.1 = .slice (some ⟨b, 0, none⟩) r.2.length c ∧ b ≠ w.heap.size + 1
theorem Gmw.start (w : World) (L : List Wy) (ty : TypeId) : Gmw w ((w.alloc (.cells (wcls L).toArray ty)).alloc (.map #[] 0)) 0 (.map []) [(.slice (some ⟨w.heap.size, 0, none⟩) L.length L.length, L)] := by
  have h1 := below1 w (.cells (wcls L).toArray ty)
  have hs : (w.alloc (.cells (wcls L).toArray ty)).heap.size = w.heap.size + 1 := by simp
  refine ⟨?_, h1.alloc h1.size _, by simp, fun r hr => ?_⟩
  · rw [← hs]
    exact World.ownsMap_made _ _ _ _
  · obtain rfl := List.mem_singleton.1 hr
    exact ⟨(wys_new w L ty).below (below1 _ _), _, _, rfl, by omega⟩
theorem Gmw.add {w wr : World} {n : Nat} {D : DataW Value} {rows : List (Value × List Wy)} (h : Gmw w wr n D rows) (L : List Wy) (ty : TypeId) :
    Gmw w (wr.alloc (.cells (wcls L).toArray ty)) n D ((.slice (some ⟨wr.heap.size, 0, none⟩) L.length L.length, L) :: rows) := by
  obtain ⟨h1, h2, h3, h4⟩ := h
  refine ⟨h1.alloc _, h2.alloc h2.size _, by simp; omega, fun r hr => ?_⟩
  rcases List.mem_cons.1 hr with rfl | hr
  · exact ⟨wys_new wr L ty, _, _, rfl, by omega⟩
  · obtain ⟨k1, k2⟩ := h4 r hr
    exact ⟨k1.below (below1 _ _), k2⟩
theorem Gmw.set {w wr w1 : World} {n m : Nat} {D D' : DataW Value} {rows : List (Value × List Wy)} (h : Gmw w wr n D rows) (ho : w1.ownsMap Try.prog 3 hE (w.heap.size + 1) m D') (hg : wr.grownBy w1 (some (w.heap.size + 1))) : Gmw w w1 m D' rows := by
  obtain ⟨h1, h2, h3, h4⟩ := h
  refine ⟨ho, h2.grown hg h2.size (fun k hk => by injection hk with hk; omega), Nat.le_trans h3 hg.size, fun r hr => ?_⟩
  obtain ⟨k1, b, c, k2, k3⟩ := h4 r hr
  refine ⟨k1.grown hg (fun p c' e => ?_), b, c, k2, k3⟩
  rw [k2] at e
  injection e with e1 _ _
  injection e1 with e1
  rw [← e1]
  exact k3
theorem Gmw.ins {w wr : World} {n : Nat} {D : DataW Value} {rows : List (Value × List Wy)} (h : Gmw w wr n D rows) (hn : n < maxLen) (k : Int) (hk : (Lit.int .i64 k).wf = true) (v : Value) :
    ∃ w1, (Instr.mapUpdate 69 (.map (some (w.heap.size + 1))) (.int .i64 k) v).run Try.prog wr = .ok () w1 ∧ Gmw w w1 (n + 1) (D.put (.int .i64 k) (.held v)) rows := by
  obtain ⟨w1, h1, h2, h3⟩ := h.1.update lawI Try.underlying69 hn (keyI k hk) (ps := []) (show hE v = some (.held v, []) from rfl)
  exact ⟨w1, h1, h.set h2 h3⟩
set_option maxHeartbeats 2000000 in
theorem ways_any (w : World) :
    Calls Try.prog 46 #[] w fun e w' => ∃ b v1 v6 v4, e = .returned (.map (some b)) ∧ (∃ D, w'.ownsMap Try.prog 3 hE b 4 D ∧ WD (wyF v1 v6 v4) D) ∧
      Wys w' v1 [(1, 60)] ∧ Wys w' v6 [(2, 60), (3, 60)] ∧ Wys w' v4 [(4, 60), (5, 61)] ∧ Below w.heap.size w w' := by
  have hmm := @run_makeMap Try.prog
  have G0 := (Gmw.start w [(4, 60), (5, 61)] 73).add [(1, 60)] 73
  rw [show ((w.alloc (.cells (wcls [(4, 60), (5, 61)]).toArray 73)).alloc (.map #[] 0)).heap.size = w.heap.size + 1 + 1 by simp] at G0
  obtain ⟨w1, r1, G1⟩ := G0.ins (by decide) 1 (by decide) (.slice (some ⟨w.heap.size + 1 + 1, 0, none⟩) 1 1)
  obtain ⟨w2, r2, G2⟩ := (G1.add [(2, 60), (3, 60)] 73).ins (by decide) 6 (by decide) (.slice (some ⟨w1.heap.size, 0, none⟩) 2 2)
  obtain ⟨w3, r3, G3⟩ := G2.ins (by decide) 4 (by decide) (.slice (some ⟨w.heap.size, 0, none⟩) 2 2)
  obtain ⟨w4, r4, G4⟩ := G3.ins (by decide) 10 (by decide) (.slice (some ⟨w.heap.size, 0, none⟩) 2 2)
  change (Instr.mapUpdate 69 (.map (some (w.heap.size + 1))) (.int .i64 1) (.slice (some ⟨w.heap.size + 1 + 1, 0, none⟩) 1 1)).run Try.prog
    (((w.alloc (.cells #[.int .i64 4, .func (.func 60) #[] #[], .int .i64 5, .func (.func 61) #[] #[]] 73)).alloc (.map #[] 0)).alloc (.cells #[.int .i64 1, .func (.func 60) #[] #[]] 73)) = _ at r1
  change (Instr.mapUpdate 69 (.map (some (w.heap.size + 1))) (.int .i64 6) (.slice (some ⟨w1.heap.size, 0, none⟩) 2 2)).run Try.prog
    (w1.alloc (.cells #[.int .i64 2, .func (.func 60) #[] #[], .int .i64 3, .func (.func 60) #[] #[]] 73)) = _ at r2
  have HG := Lib.hid G4
  clear G0 G1 G2 G3 G4
  go_enter Try.func46, Try.ntmps46
  go_wp2_with fail
  go_ret
  obtain ⟨h1, h2, -, h4⟩ := HG.out
  refine ⟨_, .slice (some ⟨w.heap.size + 1 + 1, 0, none⟩) 1 1, .slice (some ⟨w1.heap.size, 0, none⟩) 2 2, .slice (some ⟨w.heap.size, 0, none⟩) 2 2, rfl, ⟨_, h1, wd_all _ _ _⟩, ?_, ?_, ?_, h2⟩
  · exact (h4 _ (List.mem_cons_of_mem _ (List.mem_cons_self ..))).1
  · exact (h4 _ (List.mem_cons_self ..)).1
  · exact (h4 _ (List.mem_cons_of_mem _ (List.mem_cons_of_mem _ (List.mem_cons_self ..)))).1
end Go.Proofs.Ytaapnkoooofalaa.Me

namespace Go.Proofs.Ytaapnkoooofalaa.Me
set_option maxRecDepth 100000
open Go Go.RowKit Go.ChangeShapes Go.WideShapes Rw
section
variable {H : Type} {enc : TypeId × Value → H} {W : World} {base : Nat} {v : Value} {d : DataW H} {p : List MemPlace}
theorem in64_of {n : Int} (h : (Lit.int .i64 n).wf = true) : In64 n := by
  have hmin : IntKind.i64.min = -9223372036854775808 := rfl
  have hmax : IntKind.i64.max = 9223372036854775807 := rfl
  simp only [Lit.wf, Bool.and_eq_true, decide_eq_true_eq] at h
  unfold In64
  omega
theorem cMove : Try.prog.cellsOf 33 = 2 := by kernel_rfl
theorem mv_arg (hok : Value.okWide Try.prog W .any base 33 v) (h : DataW.Trod enc Try.prog W 0 (fun _ => true) true 33 v d p) : ∃ z : Mv, v = mvV z ∧ In64 z.p := by
  obtain ⟨cs, rfl, hsz⟩ := okWide_struct Try.underlying33 hok
  obtain ⟨fuel, hf⟩ := h
  obtain ⟨y0, y1, n, _, hl, hy0, hy1⟩ := trod_struct2 Try.underlying33 hf
  rw [cMove] at hl
  obtain ⟨l⟩ := cs
  match l, hl with
  | [a, c], _ =>
    rw [show Try.prog.cellsOf 3 = 1 by kernel_rfl] at hy0 hy1
    obtain ⟨k0, e0, _, hw0⟩ := DataW.trod_int Try.underlying3 hy0
    obtain ⟨k1, e1, _, _⟩ := DataW.trod_int Try.underlying3 hy1
    have e0' : a = .int .i64 k0 := List.head_eq_of_cons_eq (show [a] = [.int .i64 k0] from e0)
    have e1' : c = .int .i64 k1 := List.head_eq_of_cons_eq (show [c] = [.int .i64 k1] from e1)
    subst e0'
    subst e1'
    exact ⟨⟨k0, k1⟩, rfl, in64_of hw0⟩
end
end Go.Proofs.Ytaapnkoooofalaa.Me

namespace Go.Proofs.Ytaapnkoooofalaa.St
open Go Go.RowKit Rw So Se Do Sp Me
set_option maxRecDepth 20000
structure Con : Prop where
  put : ∀ (v vx : Value) (l x : List Nd) (z : Int) (w : World), Nds w v l → Nds w vx x → l.length ≤ 1000 → x.length ≤ 1000 → Calls Try.prog 10 #[v, .int .i64 z, vx] w fun e w' => ∃ y, e = .returned y ∧ w'.ownsRow w.heap.size 28 3 y (putR l z x).length (cls (putR l z x)) ∧ Below w.heap.size w w'
  nx : ∀ (v : Value) (l : List Nd) (m : Mv) (w : World), Nds w v l → l.length ≤ 1000 → Nms l → Calls Try.prog 14 #[v, mvV m] w fun e w' => ∃ y, e = .returned (.tuple #[y, .string (nxS l m), .int .i64 (nxE l m)]) ∧ Nds w' y (nxL l m) ∧ Below w.heap.size w w'
  rf : ∀ (v : Value) (l : List Nd) (m : Mv) (w : World), Nds w v l → l.length ≤ 1000 → Nms l → Calls Try.prog 17 #[v, mvV m] w fun e w' => ∃ y, e = .returned (.tuple #[y, .int .i64 (rfE l m)]) ∧ Nds w' y (rfL l m) ∧ Below w.heap.size w w'
def Alive : Prop := ∀ w : World, Calls Try.prog 9 #[] w fun e w' => e = .returned (.bool true) ∧ Below w.heap.size w w'
set_option maxHeartbeats 1000000 in
theorem few_any (v : Value) (l : List Nd) (w : World) (h : Nds w v l) :
    Calls Try.prog 8 #[v] w fun e w' => e = .returned (.bool (Do.fewB l)) ∧ w = w' := by
  have hr : Do.fewB l = (decide (l.length ≤ 100) && decide (depth l ≤ 24)) := rfl
  rw [hr]
  by_cases h1 : l.length ≤ 100
  · have HD := Lib.hid (depthR_any v l w h (by omega))
    obtain ⟨d, hd⟩ : ∃ d, depth l = d := ⟨_, rfl⟩
    rw [hd] at HD ⊢
    rw [decide_eq_true h1, Bool.true_and]
    obtain ⟨_, a, cap, rfl, -⟩ := h
    clear hr hd
    go_enter Try.func8, Try.ntmps8
    go_wp2_with fail
    refine HD.out.mono ?_
    rintro e w' ⟨rfl, rfl⟩
    go_wp2_with fail
    go_ret
    exact ⟨ret_bool (decide_eq_decide.2 (by omega)), rfl⟩
  · rw [decide_eq_false h1, Bool.false_and]
    obtain ⟨_, a, cap, rfl, -⟩ := h
    have h2 : ¬ (l.length : Int) ≤ 100 := by omega
    clear hr
    go_enter Try.func8, Try.ntmps8
    go_wp2_with fail
    go_ret
    exact ⟨rfl, rfl⟩
theorem rfL_len (l : List Nd) (m : Mv) : (rfL l m).length ≤ 1000000 := by
  by_cases h : m ∈ enR l ∧ m.h = 1
  · obtain ⟨t, rfl, hg, hn⟩ := en_set h.1
    obtain ⟨mo, h1, rfl⟩ := en_mo hg hn h.1
    have h2 : mo.h = 1 := h.2
    obtain ⟨s, hs, _, hp, _⟩ := refused hn h1 h2
    rw [(rf_of hg hn h1 h2).1, Se.flat_len]
    have := (rf_goes hg hp hs).S.2.1
    omega
  · rw [show rfL l m = [] from if_neg h]; simp
end Go.Proofs.Ytaapnkoooofalaa.St
