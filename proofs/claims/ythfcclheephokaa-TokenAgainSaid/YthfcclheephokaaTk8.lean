/- TokenRows: the walk. -/
import Derived.Test.YthfcclheephokaaTk7
import Derived.Test.YthfcclheephokaaTk5
import Derived.Test.YthfcclheephokaaTko
namespace Go.Proofs.Ythfcclheephokaa.To
open Go Go.RowKit
set_option maxRecDepth 20000

theorem sz32 : ByteArray.size ⟨#[32]⟩ = 1 := rfl
/-- What is written so far is read as these tokens, whatever stands behind it that is no letter. -/
def Reads (S : ByteArray) (W : List Tk) : Prop := ∀ r, noLet r → F (S.data.toList ++ r) 0 = (F r S.size).pre W
theorem Reads.start : Reads ⟨#[]⟩ [] := fun r _ => by rw [Res.pre_nil]; rfl
theorem Reads.one {S u : ByteArray} {W : List Tk} {t : Tk} (h : Reads S W) (hu : prt t = some u) : Reads ((S ++ ⟨#[32]⟩) ++ u) (W ++ [⟨t.k, (S.size : Int) + 1, t.n⟩]) := fun r hr => by
  have h1 := (prt_read hu r (S.size + 1) hr).1
  rw [app_list, app_list, List.append_assoc, List.append_assoc, h _ (by exact let32)]
  show (F (32 :: (u.data.toList ++ r)) S.size).pre W = _
  rw [F_blank, h1, Res.pre_snoc]
  simp only [ByteArray.size_append, sz32]
  rfl
theorem Reads.two {S u : ByteArray} {W : List Tk} {t : Tk} (h : Reads S W) (hu : prt t = some u) : Reads (((S ++ ⟨#[32]⟩) ++ ⟨#[32]⟩) ++ u) (W ++ [⟨t.k, (S.size : Int) + 1 + 1, t.n⟩]) := fun r hr => by
  have h1 := (prt_read hu r (S.size + 1 + 1) hr).1
  rw [app_list, app_list, app_list, List.append_assoc, List.append_assoc, List.append_assoc, h _ (by exact let32)]
  show (F (32 :: 32 :: (u.data.toList ++ r)) S.size).pre W = _
  rw [F_blank, F_blank, h1, Res.pre_snoc]
  simp only [ByteArray.size_append, sz32]
  rfl
theorem Reads.lex {S : ByteArray} {W : List Tk} (h : Reads S W) (hs : S.size ≤ 1000) : lexR S = .ok W := by
  have := h [] trivial
  rw [List.append_nil, F_nil] at this
  unfold lexR
  rw [if_neg (by omega), this]
  simp [Res.pre]
theorem own_set {w : World} {base size n g o : Nat} {e : TypeId} {v x : Value} {xs : List Value} (h : w.ownsRow base e size v n xs) (hg : ∀ k, v.ownBlock = some k → k ≠ g) : (w.setCell ⟨g, o, none⟩ x).ownsRow base e size v n xs := by
  obtain ⟨hl, h | ⟨k, cap, cur, rfl, hb, hh, h1, h2, h3, h4⟩⟩ := h
  · exact ⟨hl, .inl h⟩
  · exact ⟨hl, .inr ⟨k, cap, cur, rfl, hb, by rw [heap_set w g o x k (hg k rfl)]; exact hh, h1, h2, h3, h4⟩⟩
/-- A row of the call's own, and one token more. -/
def Wt (w wr : World) (v : Value) (W : List Tk) : Prop := wr.ownsRow w.heap.size 34 3 v W.length (cls W) ∧ Below w.heap.size w wr
theorem Wt.start (w : World) : Wt w w (.slice none 0 0) [] := ⟨⟨rfl, .inl ⟨rfl, rfl⟩⟩, Below.refl _ _⟩
theorem Wt.below {w wr wr' : World} {v : Value} {W : List Tk} (h : Wt w wr v W) (hb : Below wr.heap.size wr wr') : Wt w wr' v W := ⟨Ap.own_below h.1 hb, h.2.trans (hb.mono h.2.size)⟩
theorem Wt.set {w wr : World} {v x : Value} {W : List Tk} {g o : Nat} (h : Wt w wr v W) (hg : w.heap.size ≤ g) (hn : ∀ k, v.ownBlock = some k → k ≠ g) : Wt w (wr.setCell ⟨g, o, none⟩ x) v W := ⟨own_set h.1 hn, below_set h.2 g o x hg⟩
theorem Wt.next {w wr : World} {v : Value} {W : List Tk} (t : Tk) (h : Wt w wr v W) (hl : W.length ≤ 100000) :
    ∃ v' w', (Builtin.append_ #[27, 27] 27 #[v, .slice (some ⟨wr.heap.size, 0, none⟩) 1 1]).run Try.prog (wr.alloc (.cells #[.int .i64 t.k, .int .i64 t.a, .string t.n] 34)) = .ok v' w' ∧ Wt w w' v' (W ++ [t]) := by
  obtain ⟨hown, hb⟩ := h
  obtain ⟨i0, hi, hz, hs1, hb8⟩ := info_parts infoT
  obtain ⟨v', w', h1, h2, h3, h4, h5⟩ := Ap.run_append_one (P := Try.prog) (ty := 27) Try.underlying27 hi hz hs1 hb8 (by rfl) (by omega) hown hb.size #[.int .i64 t.k, .int .i64 t.a, .string t.n] rfl
    (by intro u hu; simp at hu; rcases hu with rfl | rfl | rfl <;> rfl) (by unfold maxLen; omega) (by omega)
  refine ⟨v', w', h1, ?_, hb.trans h4⟩
  rw [cls_append, List.length_append]
  exact h2
/-- A slice of integers that reads as these. -/
def Ints (w : World) (v : Value) (l : List Int) : Prop := Ap.Rd w 1 v l.length (l.map (.int .i64))
/-- Where the cells stand, if there are any. -/
def AtO (w : World) (a : Option Addr) (l : List Tk) : Prop := ∀ k, (h : k < l.length) → ∃ b off, a = some ⟨b, off, none⟩ ∧ w.cell? ⟨b, off + k * 3, none⟩ = some (.int .i64 l[k].k) ∧ w.cell? ⟨b, off + k * 3 + 1, none⟩ = some (.int .i64 l[k].a) ∧ w.cell? ⟨b, off + k * 3 + 2, none⟩ = some (.string l[k].n)
theorem AtO.below {w w' : World} {a : Option Addr} {l : List Tk} (h : AtO w a l) (hb : Below w.heap.size w w') : AtO w' a l := fun k hk => by
  obtain ⟨b, off, ha, e1, e2, e3⟩ := h k hk
  exact ⟨b, off, ha, by rw [hb.cell (Ap.cell_lt e1)]; exact e1, by rw [hb.cell (Ap.cell_lt e2)]; exact e2, by rw [hb.cell (Ap.cell_lt e3)]; exact e3⟩
def IntO (w : World) (a : Option Addr) (l : List Int) : Prop := ∀ k, (h : k < l.length) → ∃ b off, a = some ⟨b, off, none⟩ ∧ w.cell? ⟨b, off + k, none⟩ = some (.int .i64 l[k])
theorem IntO.below {w w' : World} {a : Option Addr} {l : List Int} (h : IntO w a l) (hb : Below w.heap.size w w') : IntO w' a l := fun k hk => by
  obtain ⟨b, off, ha, e1⟩ := h k hk
  exact ⟨b, off, ha, by rw [hb.cell (Ap.cell_lt e1)]; exact e1⟩
theorem tks_o {w : World} {v : Value} {l : List Tk} (h : Tks w v l) : ∃ a c, v = .slice a l.length c ∧ l.length ≤ c ∧ AtO w a l := by
  rcases h.form with ⟨rfl, a, cap, rfl⟩ | ⟨b, off, cap, rfl, hc, hat⟩
  · exact ⟨a, cap, rfl, Nat.zero_le _, fun k hk => absurd hk (Nat.not_lt_zero k)⟩
  · exact ⟨_, cap, rfl, hc, fun k hk => ⟨b, off, rfl, hat k hk⟩⟩
theorem ints_o {w : World} {v : Value} {l : List Int} (h : Ints w v l) : ∃ a c, v = .slice a l.length c ∧ l.length ≤ c ∧ IntO w a l := by
  obtain ⟨_, a, cap, rfl, hle, _, hcell⟩ := h
  refine ⟨a, cap, rfl, hle, fun k hk => ?_⟩
  obtain ⟨b, off, rfl, hj⟩ := hcell (by omega)
  exact ⟨b, off, rfl, hj _ _ (by rw [List.getElem?_map, List.getElem?_eq_getElem hk]; rfl)⟩

set_option maxHeartbeats 2000000 in
theorem rows_law (con : Con) (v1 v2 : Value) (l : List Tk) (bl : List Int) (w : World) (h1 : Tks w v1 l) (h2 : Ints w v2 bl) (hn : ∀ t ∈ l, t.n.size ≤ 140737488355328) : Calls Try.prog 5 #[v1, v2] w fun e w' => e = .returned (.bool true) ∧ Below w.heap.size w w' := by
  have CON := Lib.hid con
  have HN := Lib.hid hn
  obtain ⟨a1, c1, rfl, hc1, hat⟩ := tks_o h1
  obtain ⟨a2, c2, rfl, hc2, hit⟩ := ints_o h2
  have HA := Lib.hid hat
  have HI := Lib.hid hit
  clear h1 h2 hat hit hn
  by_cases hbig : l.length ≤ 60 ∧ bl.length ≤ 60
  case neg =>
    by_cases q1 : l.length ≤ 60
    · have q2 : ¬ bl.length ≤ 60 := fun h => hbig ⟨q1, h⟩
      clear hbig
      go_enter Try.func5, Try.ntmps5
      go_wp2_with fail
      refine (alive_any CON.out _).mono ?_
      rintro e wb ⟨rfl, hb⟩
      have HB := Lib.hid hb
      clear hb
      go_wp2_with fail
      go_ret
      exact ⟨rfl, HB.out⟩
    · clear hbig
      go_enter Try.func5, Try.ntmps5
      go_wp2_with fail
      refine (alive_any CON.out _).mono ?_
      rintro e wb ⟨rfl, hb⟩
      have HB := Lib.hid hb
      clear hb
      go_wp2_with fail
      go_ret
      exact ⟨rfl, HB.out⟩
  obtain ⟨q1, q2⟩ := hbig
  go_enter Try.func5, Try.ntmps5
  go_wp2_with fail
  go_loopw [5, 6, 25] (fun sv wv iv wr => ∃ (k : Nat) (S : ByteArray) (W : List Tk), k ≤ l.length ∧ iv = .int .i64 k ∧ sv = .string S ∧ S.size ≤ 10 * k ∧ W.length ≤ k ∧ Hid (Reads S W) ∧ Hid (Wt w wr wv W)) (fun _ _ i _ => l.length - (intOf i).toNat)
  case atStart => exact ⟨0, ⟨#[]⟩, [], Nat.zero_le _, rfl, rfl, by decide, Nat.zero_le _, Lib.hid Reads.start, Lib.hid (Wt.start w)⟩
  case round =>
    obtain ⟨k, S, W, hk, rfl, rfl, hS, hW, HR, HWt⟩ := hrel
    by_cases hlt : k < l.length
    · obtain ⟨b, off, rfl, e1, e2, e3⟩ := HA.out.below HWt.out.2 k hlt
      have HX := Lib.hid (HN.out l[k] (List.getElem_mem hlt))
      obtain ⟨x, hx⟩ : ∃ x, l[k] = x := ⟨_, rfl⟩
      rw [hx] at e1 e2 e3 HX
      have B1 := Lib.hid (below_any wr (.cells #[.int .i64 x.k, .int .i64 x.a, .string x.n] 34))
      have K1 := Lib.hid (Blk.new wr x 34)
      have PR := Lib.hid (fun w' => printR_any x w' HX.out)
      clear hx
      cases hu : prt x with
      | none =>
        rw [hu] at PR
        go_wp2_with fail
        refine (PR.out _).mono ?_
        rintro e wb ⟨rfl, hb⟩
        have BB := Lib.hid (HWt.out.2.trans ((B1.out.trans (hb.mono B1.out.size)).mono HWt.out.2.size))
        clear hb
        go_wp2_with fail
        refine (alive_any CON.out _).mono ?_
        rintro e wd ⟨rfl, hb⟩
        have HB5 := Lib.hid (BB.out.trans (hb.mono BB.out.size))
        clear hb
        go_wp2_with fail
        go_ret
        exact ⟨rfl, HB5.out⟩
      | some u =>
        rw [hu] at PR
        have hu8 := (prt_read hu [] 0 trivial).2.2
        have HG : Hid (w.heap.size ≤ wr.heap.size) := HWt.out.2.size
        have HNB := Lib.hid (fun (g : Nat) hg => Nat.ne_of_lt (Ap.own_lt HWt.out.1 g hg))
        go_wp2_with fail
        refine (PR.out _).mono ?_
        rintro e wb ⟨rfl, hb⟩
        have KB := Lib.hid (K1.out.below hb)
        have WB := Lib.hid ((HWt.out.below B1.out).below hb)
        clear hb e1 e2 e3
        by_cases hkb : k < bl.length
        · obtain ⟨b3, o3, rfl, f1⟩ := HI.out.below WB.out.2 k hkb
          obtain ⟨j, hj, hjj⟩ := and1 bl[k]
          obtain ⟨y, hy⟩ : ∃ y, bl[k] = y := ⟨_, rfl⟩
          rw [hy] at f1 hjj
          clear hy
          have hj2 : j = 0 ∨ j = 1 := by omega
          rcases hj2 with rfl | rfl
          · have gj : ((0 : Int) == 1) = false := rfl
            have HRD := Lib.hid (HR.out.one hu)
            have KS := Lib.hid (KB.out.set ((S.size : Int) + 1))
            have WS := Lib.hid (WB.out.set (o := 1) (x := .int .i64 ((S.size : Int) + 1)) HG.out HNB.out)
            have HSZ : Hid (((S ++ ⟨#[32]⟩) ++ u).size ≤ 10 * (k + 1)) := by show _ ≤ _; simp only [ByteArray.size_append, sz32]; omega
            have HWL : Hid ((W ++ [(⟨x.k, (S.size : Int) + 1, x.n⟩ : Tk)]).length ≤ k + 1) := by show _ ≤ _; simp; omega
            obtain ⟨d1, d2, d3, d4⟩ := KB.out
            obtain ⟨v', w', hrun, hwt⟩ := WS.out.next ⟨x.k, (S.size : Int) + 1, x.n⟩ (by omega)
            rw [show (wb.setCell ⟨wr.heap.size, 1, none⟩ (.int .i64 ((S.size : Int) + 1))).heap.size = wb.heap.size by simp [World.setCell]] at hrun
            have R := Lib.hid hrun
            have HWT := Lib.hid hwt
            clear hrun hwt
            go_wp2_with (at_builtin; refine Ap.wpList_append_run (by rfl) (.tmp 60) (.tmp 62) _ _ rfl _ _ rfl rfl v' w' R.out ?_)
            go_roundw
            case rel => exact ⟨k + 1, _, _, by omega, by go_num, rfl, HSZ.out, HWL.out, HRD, HWT⟩
            case measure => simp [intOf]; omega
          · have gj : ((1 : Int) == 1) = true := rfl
            have HRD := Lib.hid (HR.out.two hu)
            have KS := Lib.hid (KB.out.set ((S.size : Int) + 1 + 1))
            have WS := Lib.hid (WB.out.set (o := 1) (x := .int .i64 ((S.size : Int) + 1 + 1)) HG.out HNB.out)
            have HSZ : Hid (((S ++ ⟨#[32]⟩ ++ ⟨#[32]⟩) ++ u).size ≤ 10 * (k + 1)) := by show _ ≤ _; simp only [ByteArray.size_append, sz32]; omega
            have HWL : Hid ((W ++ [(⟨x.k, (S.size : Int) + 1 + 1, x.n⟩ : Tk)]).length ≤ k + 1) := by show _ ≤ _; simp; omega
            obtain ⟨d1, d2, d3, d4⟩ := KB.out
            obtain ⟨v', w', hrun, hwt⟩ := WS.out.next ⟨x.k, (S.size : Int) + 1 + 1, x.n⟩ (by omega)
            rw [show (wb.setCell ⟨wr.heap.size, 1, none⟩ (.int .i64 ((S.size : Int) + 1 + 1))).heap.size = wb.heap.size by simp [World.setCell]] at hrun
            have R := Lib.hid hrun
            have HWT := Lib.hid hwt
            clear hrun hwt
            go_wp2_with (at_builtin; refine Ap.wpList_append_run (by rfl) (.tmp 60) (.tmp 62) _ _ rfl _ _ rfl rfl v' w' R.out ?_)
            go_roundw
            case rel => exact ⟨k + 1, _, _, by omega, by go_num, rfl, HSZ.out, HWL.out, HRD, HWT⟩
            case measure => simp [intOf]; omega
        · have gl : decide ((k : Int) < (bl.length : Int)) = false := by simp; omega
          have HRD := Lib.hid (HR.out.one hu)
          have KS := Lib.hid (KB.out.set ((S.size : Int) + 1))
          have WS := Lib.hid (WB.out.set (o := 1) (x := .int .i64 ((S.size : Int) + 1)) HG.out HNB.out)
          have HSZ : Hid (((S ++ ⟨#[32]⟩) ++ u).size ≤ 10 * (k + 1)) := by show _ ≤ _; simp only [ByteArray.size_append, sz32]; omega
          have HWL : Hid ((W ++ [(⟨x.k, (S.size : Int) + 1, x.n⟩ : Tk)]).length ≤ k + 1) := by show _ ≤ _; simp; omega
          obtain ⟨d1, d2, d3, d4⟩ := KB.out
          obtain ⟨v', w', hrun, hwt⟩ := WS.out.next ⟨x.k, (S.size : Int) + 1, x.n⟩ (by omega)
          rw [show (wb.setCell ⟨wr.heap.size, 1, none⟩ (.int .i64 ((S.size : Int) + 1))).heap.size = wb.heap.size by simp [World.setCell]] at hrun
          have R := Lib.hid hrun
          have HWT := Lib.hid hwt
          clear hrun hwt
          go_wp2_with (at_builtin; refine Ap.wpList_append_run (by rfl) (.tmp 60) (.tmp 62) _ _ rfl _ _ rfl rfl v' w' R.out ?_)
          go_roundw
          case rel => exact ⟨k + 1, _, _, by omega, by go_num, rfl, HSZ.out, HWL.out, HRD, HWT⟩
          case measure => simp [intOf]; omega
    · have HL := Lib.hid (HR.out.lex (show S.size ≤ 1000 by omega))
      have L1 := Lib.hid (fun w' => CON.out.lex S w' (by omega))
      rw [HL.out, lp_ok] at L1
      have HTW := Lib.hid (Ap.Rd.owned HWt.out.1)
      have HBW := Lib.hid HWt.out.2
      go_wp2_with fail
      refine (L1.out _).mono ?_
      rintro e wa ⟨ya, rfl, hta, hba⟩
      have TA := Lib.hid hta
      have BA := Lib.hid (HBW.out.trans (hba.mono HBW.out.size))
      have TB := Lib.hid (HTW.out.below hba)
      clear hta hba
      go_wp2_with fail
      refine (alive_any CON.out _).mono ?_
      rintro e wc ⟨rfl, hbc⟩
      have BC := Lib.hid (BA.out.trans (hbc.mono BA.out.size))
      have TA3 := Lib.hid (TA.out.below hbc)
      have TB3 := Lib.hid (TB.out.below hbc)
      clear hbc
      go_wp2_with fail
      refine (olds_any ya W _ TA3.out (by omega)).mono ?_
      rintro e wd ⟨yd, rfl, htd, hbd⟩
      have BD := Lib.hid (BC.out.trans (hbd.mono BC.out.size))
      have TD := Lib.hid htd
      have TB4 := Lib.hid (TB3.out.below hbd)
      clear htd hbd
      go_wp2_with fail
      refine (sameR_any yd _ W W _ TD.out TB4.out (by omega)).mono ?_
      rw [show sameN W W = true from decide_eq_true rfl]
      rintro e we ⟨rfl, hbe⟩
      have BE := Lib.hid (BD.out.trans (hbe.mono BD.out.size))
      clear hbe
      go_wp2_with fail
      go_ret
      exact ⟨rfl, BE.out⟩
end Go.Proofs.Ythfcclheephokaa.To
