/- The document's Digits, word, Text: the walks. A map whose elements read as themselves; an entry set by a composite literal. slices.Index and slices.Contains over moves: the walks. What the laws of move ask of the program; few; MoveEnabled: the walks. The program's ways: the map that it makes; always. Arguments of move's laws: a move. -/
import Derived.Test.YtdkaoiomndkbjaaDoorQ21
import Derived.Lib.ItoaLen
import Derived.Maps.Views
import Derived.Maps.OwnOps
import Derived.Deep.DeepCutAuto
import Derived.Deep.QuietTactic
import Derived.BigQuiet
import Derived.Lib.LaidTab
import Derived.Test.YtdkaoiomndkbjaaDoorQ04
import Derived.OpenShut

namespace Go.Proofs.YtdkaoiomndkbjaaDoor.Me
open Go Go.RowKit Rw So Se Do
set_option maxRecDepth 20000
abbrev tx (L : List UInt8) : ByteArray := ⟨L.toArray⟩
theorem tx_add (L M : List UInt8) : tx L ++ tx M = tx (L ++ M) := by
  apply ByteArray.ext
  simp [ByteArray.data_append]
theorem digit (d : Nat) (h : d < 10) : (⟨#[48, 49, 50, 51, 52, 53, 54, 55, 56, 57]⟩ : ByteArray).extract d (d + 1) = tx [UInt8.ofNat (48 + d)] := by
  have : ∀ d : Fin 10, (⟨#[48, 49, 50, 51, 52, 53, 54, 55, 56, 57]⟩ : ByteArray).extract d.val (d.val + 1) = tx [UInt8.ofNat (48 + d.val)] := by decide
  exact this ⟨d, h⟩
theorem dec_len (n : Int) (h0 : -9223372036854775808 ≤ n) (h1 : n ≤ 9223372036854775807) : (Lib.decDigits n.natAbs).length ≤ 21 := by
  have := Lib.itoa_length_le n h0 h1
  unfold Lib.itoa at this
  split at this
  · rw [List.length_cons] at this
    omega
  · rw [show n.natAbs = n.toNat by omega]
    exact this
theorem dg_len {n0 n : Int} {L : List UInt8} (h : n0.natAbs = n.natAbs ∧ L = [] ∨ n ≠ 0 ∧ Dg n0 n L) (hb : (Lib.decDigits n0.natAbs).length ≤ 21) : L.length ≤ 21 := by
  rcases h with ⟨_, rfl⟩ | ⟨_, h⟩
  · simp
  · unfold Dg at h
    rw [h, List.length_append] at hb
    omega
set_option maxHeartbeats 2000000 in
theorem digitsR_any (n : Int) (w : World) (hn : -9223372036854775808 ≤ n ∧ n ≤ 9223372036854775807) :
    Calls Tryd.prog 18 #[.int .i64 n] w fun e w' => e = .returned (.string (tx (Lib.itoa n))) ∧ w = w' := by
  have HDL := Lib.hid (dec_len n hn.1 hn.2)
  obtain ⟨hn1, hn2⟩ := hn
  obtain ⟨s, hs⟩ : ∃ s : List UInt8, (if n < 0 then [45] else []) = s := ⟨_, rfl⟩
  have HIT : Hid (Lib.itoa n = s ++ Lib.decDigits n.natAbs) := Lib.hid (by
    unfold Lib.itoa
    rw [← hs]
    split
    · rfl
    · rw [show n.natAbs = n.toNat by omega]; rfl)
  have HS : Hid (s.length ≤ 1) := Lib.hid (by rw [← hs]; split <;> simp)
  by_cases h0 : n < 0
  · rw [if_pos h0] at hs
    subst hs
    go_enter Tryd.func18, Tryd.ntmps18
    go_wp2_with fail
    go_loopw [0, 4, 6] (fun nv ov _ wr => ∃ (m : Int) (L : List UInt8), nv = .int .i64 m ∧ ov = .string (tx L) ∧ -9223372036854775808 ≤ m ∧ m ≤ 9223372036854775807 ∧ L.length ≤ 21 ∧ w = wr ∧ Hid (n.natAbs = m.natAbs ∧ L = [] ∨ m ≠ 0 ∧ Dg n m L)) (fun nv _ _ _ => (intOf nv).natAbs)
    case atStart => exact ⟨n, [], rfl, rfl, hn1, hn2, by simp, rfl, Lib.hid (.inl ⟨rfl, rfl⟩)⟩
    case round =>
      obtain ⟨m, L, rfl, rfl, hm1, hm2, hL, rfl, HD⟩ := hrel
      have hld := ld_lt m
      have hb1 : -10 < m.tmod 10 ∧ m.tmod 10 < 10 := by unfold ld at hld; omega
      obtain ⟨d, hd⟩ : ∃ d, ld m = d := ⟨_, rfl⟩
      rw [hd] at hld
      by_cases hneg : m.tmod 10 < 0
      · have hdi : -(m.tmod 10) = (d : Int) := by unfold ld at hd; omega
        by_cases hz : m.tdiv 10 = 0
        · have g : (m.tdiv 10 == 0) = true := by rw [hz]; rfl
          have HL := Lib.hid (Dg.last HD.out hz)
          rw [hd] at HL
          clear hz
          go_wp2_with fail
          go_ret
          rw [digit d hld, tx_add, show (⟨#[45]⟩ : ByteArray) = tx [45] from rfl, tx_add, HIT.out, HL.out]
          exact ⟨rfl, rfl⟩
        · have g : (m.tdiv 10 == 0) = false := beq_eq_false_iff_ne.2 hz
          have HM := Lib.hid (Dg.more HD.out hz)
          rw [hd] at HM
          have HZ := Lib.hid hz
          have ha := (dg_abs m).2
          have hnz : m.natAbs ≠ 0 := by
            intro h
            apply hz
            rw [Int.natAbs_eq_zero.1 h]
            rfl
          clear hz
          go_wp2_with fail
          go_roundw
          case rel => exact ⟨m.tdiv 10, UInt8.ofNat (48 + d) :: L, rfl, by rw [digit d hld, tx_add]; rfl, by omega, by omega, dg_len (.inr ⟨HZ.out, HM.out⟩) HDL.out, by trivial, Lib.hid (.inr ⟨HZ.out, HM.out⟩)⟩
          case measure => show (m.tdiv 10).natAbs < m.natAbs; omega
      · have hdi : m.tmod 10 = (d : Int) := by unfold ld at hd; omega
        by_cases hz : m.tdiv 10 = 0
        · have g : (m.tdiv 10 == 0) = true := by rw [hz]; rfl
          have HL := Lib.hid (Dg.last HD.out hz)
          rw [hd] at HL
          clear hz
          go_wp2_with fail
          go_ret
          rw [digit d hld, tx_add, show (⟨#[45]⟩ : ByteArray) = tx [45] from rfl, tx_add, HIT.out, HL.out]
          exact ⟨rfl, rfl⟩
        · have g : (m.tdiv 10 == 0) = false := beq_eq_false_iff_ne.2 hz
          have HM := Lib.hid (Dg.more HD.out hz)
          rw [hd] at HM
          have HZ := Lib.hid hz
          have ha := (dg_abs m).2
          have hnz : m.natAbs ≠ 0 := by
            intro h
            apply hz
            rw [Int.natAbs_eq_zero.1 h]
            rfl
          clear hz
          go_wp2_with fail
          go_roundw
          case rel => exact ⟨m.tdiv 10, UInt8.ofNat (48 + d) :: L, rfl, by rw [digit d hld, tx_add]; rfl, by omega, by omega, dg_len (.inr ⟨HZ.out, HM.out⟩) HDL.out, by trivial, Lib.hid (.inr ⟨HZ.out, HM.out⟩)⟩
          case measure => show (m.tdiv 10).natAbs < m.natAbs; omega
  · rw [if_neg h0] at hs
    subst hs
    go_enter Tryd.func18, Tryd.ntmps18
    go_wp2_with fail
    go_loopw [0, 4, 6] (fun nv ov _ wr => ∃ (m : Int) (L : List UInt8), nv = .int .i64 m ∧ ov = .string (tx L) ∧ -9223372036854775808 ≤ m ∧ m ≤ 9223372036854775807 ∧ L.length ≤ 21 ∧ w = wr ∧ Hid (n.natAbs = m.natAbs ∧ L = [] ∨ m ≠ 0 ∧ Dg n m L)) (fun nv _ _ _ => (intOf nv).natAbs)
    case atStart => exact ⟨n, [], rfl, rfl, hn1, hn2, by simp, rfl, Lib.hid (.inl ⟨rfl, rfl⟩)⟩
    case round =>
      obtain ⟨m, L, rfl, rfl, hm1, hm2, hL, rfl, HD⟩ := hrel
      have hld := ld_lt m
      have hb1 : -10 < m.tmod 10 ∧ m.tmod 10 < 10 := by unfold ld at hld; omega
      obtain ⟨d, hd⟩ : ∃ d, ld m = d := ⟨_, rfl⟩
      rw [hd] at hld
      by_cases hneg : m.tmod 10 < 0
      · have hdi : -(m.tmod 10) = (d : Int) := by unfold ld at hd; omega
        by_cases hz : m.tdiv 10 = 0
        · have g : (m.tdiv 10 == 0) = true := by rw [hz]; rfl
          have HL := Lib.hid (Dg.last HD.out hz)
          rw [hd] at HL
          clear hz
          go_wp2_with fail
          go_ret
          rw [digit d hld, tx_add, show (⟨#[]⟩ : ByteArray) = tx [] from rfl, tx_add, HIT.out, HL.out]
          exact ⟨rfl, rfl⟩
        · have g : (m.tdiv 10 == 0) = false := beq_eq_false_iff_ne.2 hz
          have HM := Lib.hid (Dg.more HD.out hz)
          rw [hd] at HM
          have HZ := Lib.hid hz
          have ha := (dg_abs m).2
          have hnz : m.natAbs ≠ 0 := by
            intro h
            apply hz
            rw [Int.natAbs_eq_zero.1 h]
            rfl
          clear hz
          go_wp2_with fail
          go_roundw
          case rel => exact ⟨m.tdiv 10, UInt8.ofNat (48 + d) :: L, rfl, by rw [digit d hld, tx_add]; rfl, by omega, by omega, dg_len (.inr ⟨HZ.out, HM.out⟩) HDL.out, by trivial, Lib.hid (.inr ⟨HZ.out, HM.out⟩)⟩
          case measure => show (m.tdiv 10).natAbs < m.natAbs; omega
      · have hdi : m.tmod 10 = (d : Int) := by unfold ld at hd; omega
        by_cases hz : m.tdiv 10 = 0
        · have g : (m.tdiv 10 == 0) = true := by rw [hz]; rfl
          have HL := Lib.hid (Dg.last HD.out hz)
          rw [hd] at HL
          clear hz
          go_wp2_with fail
          go_ret
          rw [digit d hld, tx_add, show (⟨#[]⟩ : ByteArray) = tx [] from rfl, tx_add, HIT.out, HL.out]
          exact ⟨rfl, rfl⟩
        · have g : (m.tdiv 10 == 0) = false := beq_eq_false_iff_ne.2 hz
          have HM := Lib.hid (Dg.more HD.out hz)
          rw [hd] at HM
          have HZ := Lib.hid hz
          have ha := (dg_abs m).2
          have hnz : m.natAbs ≠ 0 := by
            intro h
            apply hz
            rw [Int.natAbs_eq_zero.1 h]
            rfl
          clear hz
          go_wp2_with fail
          go_roundw
          case rel => exact ⟨m.tdiv 10, UInt8.ofNat (48 + d) :: L, rfl, by rw [digit d hld, tx_add]; rfl, by omega, by omega, dg_len (.inr ⟨HZ.out, HM.out⟩) HDL.out, by trivial, Lib.hid (.inr ⟨HZ.out, HM.out⟩)⟩
          case measure => show (m.tdiv 10).natAbs < m.natAbs; omega
def hwT (h : Int) : List UInt8 := if h = 1 then [100, 111] else if h = 2 then [108, 101, 102, 116] else if h = 3 then [114, 105, 103, 104, 116] else if h = 4 then [103, 111] else if h = 5 then [115, 116, 111, 112] else []
def txM (m : Mv) : ByteArray := if hwT m.h = [] then tx [] else tx (hwT m.h ++ [32] ++ Lib.itoa m.p)
theorem how_cases (h : Int) : h = 1 ∨ h = 2 ∨ h = 3 ∨ h = 4 ∨ h = 5 ∨ (h ≠ 1 ∧ h ≠ 2 ∧ h ≠ 3 ∧ h ≠ 4 ∧ h ≠ 5) := by omega
set_option maxHeartbeats 1000000 in
theorem wordR_any (h : Int) (w : World) : Calls Tryd.prog 17 #[.int .i64 h] w fun e w' => e = .returned (.string (tx (hwT h))) ∧ w = w' := by
  rcases how_cases h with rfl | rfl | rfl | rfl | rfl | ⟨h1, h2, h3, h4, h5⟩
  case inr.inr.inr.inr.inr =>
    have hr : Hid (hwT h = []) := Lib.hid (by unfold hwT; rw [if_neg h1, if_neg h2, if_neg h3, if_neg h4, if_neg h5])
    have g1 : (h == 1) = false := beq_eq_false_iff_ne.2 h1
    have g2 : (h == 2) = false := beq_eq_false_iff_ne.2 h2
    have g3 : (h == 3) = false := beq_eq_false_iff_ne.2 h3
    have g4 : (h == 4) = false := beq_eq_false_iff_ne.2 h4
    have g5 : (h == 5) = false := beq_eq_false_iff_ne.2 h5
    clear h1 h2 h3 h4 h5
    go_enter Tryd.func17, Tryd.ntmps17
    go_wp2_with fail
    go_ret
    rw [hr.out]
    exact ⟨rfl, rfl⟩
  all_goals
    go_enter Tryd.func17, Tryd.ntmps17
    go_wp2_with fail
    go_ret
    exact ⟨rfl, rfl⟩
theorem hwT_len (h : Int) : (hwT h).length ≤ 5 := by
  rcases how_cases h with rfl | rfl | rfl | rfl | rfl | ⟨h1, h2, h3, h4, h5⟩
  case inr.inr.inr.inr.inr => unfold hwT; rw [if_neg h1, if_neg h2, if_neg h3, if_neg h4, if_neg h5]; simp
  all_goals decide
set_option maxHeartbeats 1000000 in
theorem textR_any (m : Mv) (w : World) (hn : -9223372036854775808 ≤ m.p ∧ m.p ≤ 9223372036854775807) :
    Calls Tryd.prog 8 #[mvV m] w fun e w' => e = .returned (.string (txM m)) ∧ Below w.heap.size w w' := by
  obtain ⟨p, h⟩ := m
  have HW := Lib.hid (wordR_any h)
  have HD := Lib.hid (fun w => digitsR_any p w hn)
  have HL1 := Lib.hid (hwT_len h)
  have HL2 := Lib.hid (Lib.itoa_length_le p hn.1 hn.2)
  have HT : Hid (txM ⟨p, h⟩ = if hwT h = [] then tx [] else tx (hwT h ++ [32] ++ Lib.itoa p)) := Lib.hid rfl
  rw [HT.out]
  generalize hwT h = A at HW HL1 ⊢
  generalize Lib.itoa p = B at HD HL2 ⊢
  clear HT hn
  by_cases h0 : A = []
  · subst h0
    rw [if_pos rfl]
    go_enter Tryd.func8, Tryd.ntmps8
    go_wp2_with fail
    refine (HW.out _).mono ?_
    rintro e w1 ⟨rfl, rfl⟩
    go_wp2_with fail
    go_ret
    exact ⟨rfl, below1 _ _⟩
  · rw [if_neg h0]
    have g0 : A.isEmpty = false := by
      cases A with
      | nil => exact absurd rfl h0
      | cons _ _ => rfl
    have l1 : A.length ≤ 5 := HL1.out
    have l2 : B.length ≤ 21 := HL2.out
    clear h0
    go_enter Tryd.func8, Tryd.ntmps8
    go_wp2_with fail
    refine (HW.out _).mono ?_
    rintro e w1 ⟨rfl, rfl⟩
    go_wp2_with fail
    go_quiet (first | (refine Calls.quiet_of_same ((HW.out _).mono fun _ _ h => ⟨h.1, h.2.symm⟩)) | (refine Calls.quiet_of_same ((HD.out _).mono fun _ _ h => ⟨h.1, h.2.symm⟩)))
    go_wp2_with fail
    go_ret
    rw [show (⟨#[32]⟩ : ByteArray) = tx [32] from rfl, tx_add, tx_add]
    exact ⟨rfl, (below1 w _).trans (Below.drewN _ _ _)⟩
end Go.Proofs.YtdkaoiomndkbjaaDoor.Me

namespace Go.Proofs.YtdkaoiomndkbjaaDoor.Me
open Go Go.RowKit Go.Maps Go.WideMaps Rw So Se Do
set_option maxRecDepth 20000
def hE (v : Value) : Option (DataW Value × List MemPlace) := some (.held v, [])
theorem lawI : Keyed Tryd.prog 3 := int_keyed Tryd.underlying3
theorem keyI (k : Int) (h : (Lit.int .i64 k).wf = true) : keyOf Tryd.prog 3 (.int .i64 k) = some (.int .i64 k) := keyOf_int_mk Tryd.underlying3 h
theorem zeroW (w : World) : (zeroValue 59).run Tryd.prog w = .ok (.slice none 0 0) w := by kernel_rfl
def WD (f : Int → Value) (D : DataW Value) : Prop := ∀ k : Int, D.atKey (.int .i64 k) (.held (.slice none 0 0)) = .held (f k)
theorem look {w : World} {b n : Nat} {f : Int → Value} {D : DataW Value} (h : w.ownsMap Tryd.prog 3 hE b n D) (hd : WD f D) (k : Int) (hk : (Lit.int .i64 k).wf = true) :
    (Instr.lookup 60 (.map (some b)) (.int .i64 k) false).run Tryd.prog w = .ok (f k) w := by
  obtain ⟨v, ps, hrun, hv⟩ := h.lookup lawI Tryd.underlying60 (zeroW w) (show hE (.slice none 0 0) = some (.held (.slice none 0 0), []) from rfl) (keyI k hk)
  rw [hd k] at hv
  rw [hrun]
  injection hv with hv
  injection hv with hv
  injection hv with hv
  rw [hv]
end Go.Proofs.YtdkaoiomndkbjaaDoor.Me

namespace Go.Proofs.YtdkaoiomndkbjaaDoor.Me
open Go Go.RowKit Rw So Se Do
set_option maxRecDepth 20000
def idxM (x : Mv) : List Mv → Nat → Int
  | [], _ => -1
  | y :: l, k => if x = y then k else idxM x l (k + 1)
theorem idxM_mem (x : Mv) (l : List Mv) (k : Nat) : decide (0 ≤ idxM x l k) = decide (x ∈ l) := by
  induction l generalizing k with
  | nil => simp [idxM]
  | cons y l ih =>
    unfold idxM
    by_cases h : x = y
    · rw [if_pos h, decide_eq_true (show x ∈ y :: l by rw [h]; exact List.mem_cons_self)]
      simp
    · rw [if_neg h, ih (k + 1)]
      simp [h]
theorem idxM_end {x : Mv} {l : List Mv} {k : Nat} (h : ¬ k < l.length) : idxM x (l.drop k) k = -1 := by rw [List.drop_eq_nil_of_le (by omega)]; rfl
theorem idxM_at {x : Mv} {l : List Mv} {k : Nat} (h : k < l.length) : idxM x (l.drop k) k = if x = l[k] then (k : Int) else idxM x (l.drop (k + 1)) (k + 1) := by
  rw [List.drop_eq_getElem_cons h, idxM]
set_option maxHeartbeats 400000 in
theorem idxM_empty (a : Option Addr) (cap : Nat) (xp xh : Int) (w : World) :
    Calls Tryd.prog 45 #[.slice a 0 cap, .agg #[.int .i64 xp, .int .i64 xh]] w fun e w' => e = .returned (.int .i64 (-1)) ∧ Below w.heap.size w w' := by
  go_enter Tryd.func45, Tryd.ntmps45
  go_wp2_with fail
  refine Go.wp_loop_rounds 1 ?_
  rw [rounds_succ]
  go_wp2_with fail
  go_ret
  exact ⟨rfl, below1 _ _⟩
set_option maxHeartbeats 2000000 in
theorem idxM_cells (b off cap : Nat) (l : List Mv) (x : Mv) (w : World) (hat : AtM w b off l) (hl : l.length ≤ 1000000) :
    Calls Tryd.prog 45 #[.slice (some ⟨b, off, none⟩) l.length cap, mvV x] w fun e w' => e = .returned (.int .i64 (idxM x l 0)) ∧ Below w.heap.size w w' := by
  obtain ⟨xp, xh⟩ := x
  have HA := Lib.hid (hat.below (below1 w (.cells #[.int .i64 xp, .int .i64 xh] 23)))
  have HB0 := Lib.hid (Bm.new w ⟨xp, xh⟩)
  have DB := Lib.hid (below1 w (.cells #[.int .i64 xp, .int .i64 xh] 23))
  obtain ⟨wB, hwB⟩ : ∃ wB, w.alloc (.cells #[.int .i64 xp, .int .i64 xh] 23) = wB := ⟨_, rfl⟩
  obtain ⟨bM, hbM⟩ : ∃ bM, w.heap.size = bM := ⟨_, rfl⟩
  have HS : Hid (w.heap.size ≤ wB.heap.size) := Lib.hid (by rw [← hwB]; simp)
  change Hid (Bm (w.alloc (.cells #[.int .i64 xp, .int .i64 xh] 23)) w.heap.size ⟨xp, xh⟩) at HB0
  rw [hwB] at HA HB0 DB
  rw [hbM] at HB0
  clear hat
  go_enter Tryd.func45, Tryd.ntmps45
  go_wp2_with fail
  clear hwB
  go_loopw [8] (fun i wr => ∃ k : Nat, k ≤ l.length ∧ i = .int .i64 k ∧ Hid (Below wB.heap.size wB wr) ∧ Hid (idxM ⟨xp, xh⟩ l 0 = idxM ⟨xp, xh⟩ (l.drop k) k)) (fun i _ => l.length - (intOf i).toNat)
  case atStart => exact ⟨0, Nat.zero_le _, rfl, Lib.hid (Below.refl _ _), Lib.hid rfl⟩
  case round =>
    obtain ⟨k, hk, rfl, HB, HK⟩ := hrel
    by_cases hlt : k < l.length
    · obtain ⟨e1, e2⟩ := (HA.out.below HB.out) k hlt
      obtain ⟨m1, m2, -⟩ := (HB0.out.below HB.out HB0.out.lt).cells
      have HX := Lib.hid (HK.out.trans (idxM_at hlt))
      obtain ⟨y, hy⟩ : ∃ y, l[k] = y := ⟨_, rfl⟩
      rw [hy] at e1 e2 HX
      clear hy
      obtain ⟨yp, yh⟩ := y
      simp only at e1 e2 m1 m2
      have hq : ∀ w, (binOp .eql 23 (.agg #[.int .i64 xp, .int .i64 xh]) (.agg #[.int .i64 yp, .int .i64 yh])).run Tryd.prog w = .ok (.bool (decide ((⟨xp, xh⟩ : Mv) = ⟨yp, yh⟩))) w := fun w => eq_mv ⟨xp, xh⟩ ⟨yp, yh⟩ w
      by_cases hxy : (⟨xp, xh⟩ : Mv) = ⟨yp, yh⟩
      · rw [if_pos hxy] at HX
        rw [decide_eq_true hxy] at hq
        clear hxy
        go_wp2_with fail
        go_quiet (fail)
        go_wp2_with fail
        go_ret
        exact ⟨ret_int HX.out.symm, DB.out.trans ((HB.out.trans (Below.drewN _ _ _)).mono HS.out)⟩
      · rw [if_neg hxy] at HX
        rw [decide_eq_false hxy] at hq
        clear hxy
        go_wp2_with fail
        go_quiet (fail)
        go_wp2_with fail
        go_roundw
        case rel => exact ⟨k + 1, by omega, by go_num, Lib.hid (HB.out.trans (Below.drewN _ _ _)), HX⟩
        case measure => simp [intOf]; omega
    · have HZ : Hid (idxM ⟨xp, xh⟩ l 0 = -1) := Lib.hid (by rw [HK.out, idxM_end hlt])
      go_wp2_with fail
      go_ret
      exact ⟨ret_int HZ.out.symm, DB.out.trans (HB.out.mono HS.out)⟩
theorem idxM_any (v : Value) (l : List Mv) (x : Mv) (w : World) (h : Mvs w v l) (hl : l.length ≤ 1000000) :
    Calls Tryd.prog 45 #[v, mvV x] w fun e w' => e = .returned (.int .i64 (idxM x l 0)) ∧ Below w.heap.size w w' := by
  rcases h.form with ⟨rfl, a, cap, rfl⟩ | ⟨b, off, cap, rfl, _, hat⟩
  · exact idxM_empty a cap x.p x.h w
  · exact idxM_cells b off cap l x w hat hl
set_option maxHeartbeats 400000 in
theorem hasM_any (v : Value) (l : List Mv) (x : Mv) (w : World) (h : Mvs w v l) (hl : l.length ≤ 1000000) :
    Calls Tryd.prog 32 #[v, mvV x] w fun e w' => e = .returned (.bool (decide (x ∈ l))) ∧ Below w.heap.size w w' := by
  obtain ⟨xp, xh⟩ := x
  have H := Lib.hid (h.below (below1 w (.cells #[.int .i64 xp, .int .i64 xh] 23)))
  have D1 := Lib.hid (below1 w (.cells #[.int .i64 xp, .int .i64 xh] 23))
  have HQ := Lib.hid (idxM_mem ⟨xp, xh⟩ l 0)
  obtain ⟨q, hq⟩ : ∃ q, idxM ⟨xp, xh⟩ l 0 = q := ⟨_, rfl⟩
  rw [hq] at HQ
  have HC := Lib.hid hq
  obtain ⟨_, a, cap, rfl, -⟩ := id h
  clear h hq
  go_enter Tryd.func32, Tryd.ntmps32
  go_wp2_with fail
  refine (idxM_any _ l ⟨xp, xh⟩ _ H.out hl).mono ?_
  rw [HC.out]
  rintro e w' ⟨rfl, hb⟩
  have HB := Lib.hid (D1.out.trans (hb.mono D1.out.size))
  clear hb
  go_wp2_with fail
  go_ret
  exact ⟨ret_bool HQ.out, HB.out⟩
end Go.Proofs.YtdkaoiomndkbjaaDoor.Me

namespace Go.Proofs.YtdkaoiomndkbjaaDoor.Me
open Go Go.RowKit Rw So Se Do
set_option maxRecDepth 20000
def In64 (n : Int) : Prop := -9223372036854775808 ≤ n ∧ n ≤ 9223372036854775807
structure Con : Prop where
  en : ∀ (v : Value) (l : List Nd) (w : World), Nds w v l → l.length ≤ 1000 → Nms l → Calls Tryd.prog 10 #[v] w fun e w' => ∃ y, e = .returned y ∧ Mvs w' y (enR l) ∧ Below w.heap.size w w'
  is : ∀ (v : Value) (l : List Nd) (m : Mv) (w : World), Nds w v l → l.length ≤ 1000 → Nms l → Calls Tryd.prog 15 #[v, mvV m] w fun e w' => e = .returned (.bool (decide (m ∈ enR l))) ∧ Below w.heap.size w w'
  pk : ∀ (v : Value) (l : List Nd) (n : Int) (w : World), Nds w v l → l.length ≤ 1000 → Nms l → In64 n → Calls Tryd.prog 11 #[v, .int .i64 n] w fun e w' => e = .returned (.tuple #[mvV (pkM l n), .int .i64 (pkE l)]) ∧ Below w.heap.size w w'
def txC : Array Value := #[.string ⟨#[]⟩, .string ⟨#[100, 111]⟩, .string ⟨#[108, 101, 102, 116]⟩, .string ⟨#[114, 105, 103, 104, 116]⟩, .string ⟨#[103, 111]⟩, .string ⟨#[115, 116, 111, 112]⟩]
def Tx (w : World) : Prop := w.var? Tryd.prog "redress/move.texts" = some txC ∧ Lib.TabIs Tryd.prog w "internal/strconv.uint64pow10" .u64 Lib.pow10Tab
theorem var_below {P : Program} {w w' : World} {name : String} {cs : Array Value} (h : w.var? P name = some cs) (hb : Below w.heap.size w w') : w'.var? P name = some cs := by
  unfold World.var? at *
  cases hg : P.globalNamed name with
  | none => simp [hg] at h
  | some g =>
    simp only [hg, Option.bind_some] at h ⊢
    have hlt : g < w.heap.size := by
      rcases Nat.lt_or_ge g w.heap.size with h' | h'
      · exact h'
      · rw [Array.getElem?_eq_none h'] at h; simp at h
    rw [hb.block g hlt]
    exact h
theorem Tx.below {w w' : World} (h : Tx w) (hb : Below w.heap.size w w') : Tx w' := ⟨var_below h.1 hb, var_below h.2 hb⟩
def TxP : Prop := ∀ (m : Mv) (w : World), Tx w → In64 m.p → Calls Tryd.prog 7 #[mvV m] w fun e w' => e = .returned (.string (txM m)) ∧ Below w.heap.size w w'
def Alive : Prop := ∀ w : World, Tx w → Calls Tryd.prog 6 #[] w fun e w' => e = .returned (.bool true) ∧ Below w.heap.size w w'
set_option maxHeartbeats 1000000 in
theorem few_any (v : Value) (l : List Nd) (w : World) (h : Nds w v l) :
    Calls Tryd.prog 9 #[v] w fun e w' => e = .returned (.bool (Do.fewB l)) ∧ w = w' := by
  have hr : Do.fewB l = (decide (l.length ≤ 100) && decide (depth l ≤ 24)) := rfl
  rw [hr]
  by_cases h1 : l.length ≤ 100
  · have HD := Lib.hid (depthR_any v l w h (by omega))
    obtain ⟨d, hd⟩ : ∃ d, depth l = d := ⟨_, rfl⟩
    rw [hd] at HD ⊢
    rw [decide_eq_true h1, Bool.true_and]
    obtain ⟨_, a, cap, rfl, -⟩ := h
    clear hr hd
    go_enter Tryd.func9, Tryd.ntmps9
    go_wp2_with fail
    refine HD.out.mono ?_
    rintro e w' ⟨rfl, rfl⟩
    go_wp2_with fail
    go_ret
    exact ⟨ret_bool (decide_eq_decide.2 (by omega)), rfl⟩
  · rw [decide_eq_false h1, Bool.false_and]
    obtain ⟨_, a, cap, rfl, -⟩ := h
    have h2 : ¬ (l.length : Int) ≤ 100 := by omega
    clear hr
    go_enter Tryd.func9, Tryd.ntmps9
    go_wp2_with fail
    go_ret
    exact ⟨rfl, rfl⟩
end Go.Proofs.YtdkaoiomndkbjaaDoor.Me

namespace Go.Proofs.YtdkaoiomndkbjaaDoor.Me
open Go Go.RowKit Go.Maps Go.WideMaps Rw So Se Do
set_option maxRecDepth 20000
abbrev Wy := Int × Nat
def wcls : List Wy → List Value
  | [] => []
  | p :: l => .int .i64 p.1 :: .func (.func p.2) #[] #[] :: wcls l
theorem wcls_len : ∀ l : List Wy, (wcls l).length = l.length * 2
  | [] => rfl
  | p :: l => by simp [wcls, wcls_len l]; omega
theorem wcls_at : ∀ (l : List Wy) (k : Nat) (h : k < l.length), (wcls l)[k * 2]? = some (.int .i64 l[k].1) ∧ (wcls l)[k * 2 + 1]? = some (.func (.func l[k].2) #[] #[])
  | [], k, h => by simp at h
  | x :: l, 0, _ => ⟨rfl, rfl⟩
  | x :: l, k + 1, h => by
    have := wcls_at l k (by simpa using h)
    simpa [wcls, show (k + 1) * 2 = k * 2 + 1 + 1 by omega] using this
def Wys (w : World) (v : Value) (l : List Wy) : Prop := Ap.Rd w 2 v l.length (wcls l)
theorem Wys.below {w w' : World} {v : Value} {l : List Wy} (h : Wys w v l) (hb : Below w.heap.size w w') : Wys w' v l := Ap.Rd.below h hb
theorem wys_new (w : World) (l : List Wy) (ty : TypeId) : Wys (w.alloc (.cells (wcls l).toArray ty)) (.slice (some ⟨w.heap.size, 0, none⟩) l.length l.length) l := by
  refine ⟨wcls_len l, some ⟨w.heap.size, 0, none⟩, l.length, rfl, Nat.le_refl _, fun h => (by cases h), fun _ => ⟨w.heap.size, 0, rfl, fun j u hu => ?_⟩⟩
  rw [Nat.zero_add, World.cell?_alloc_new]
  simpa using hu
theorem Wys.grown {w w' : World} {b : Nat} {v : Value} {l : List Wy} (h : Wys w v l) (hg : w.grownBy w' (some b)) (hb : ∀ p c, v = .slice (some p) l.length c → p.block ≠ b) : Wys w' v l := by
  obtain ⟨hn, a, cap, rfl, hle, h0, hcell⟩ := h
  refine ⟨hn, a, cap, rfl, hle, h0, fun hp => ?_⟩
  obtain ⟨c, off, rfl, hj⟩ := hcell hp
  refine ⟨c, off, rfl, fun j u hu => ?_⟩
  have hc := hj j u hu
  exact hg.cell hc (fun e => hb _ _ rfl (Option.some.inj e))
def wyF (v1 v6 v4 : Value) (k : Int) : Value := if k = 1 then v1 else if k = 6 then v6 else if k = 4 ∨ k = 10 then v4 else .slice none 0 0
theorem wd_all (v1 v6 v4 : Value) : WD (wyF v1 v6 v4) (((((DataW.map []).put (.int .i64 1) (.held v1)).put (.int .i64 6) (.held v6)).put (.int .i64 4) (.held v4)).put (.int .i64 10) (.held v4)) := by
  intro k
  have m0 : IsMap (DataW.map [] : DataW Value) := isMap_empty
  have m1 := m0.put (.int .i64 1) (.held v1)
  have m2 := m1.put (.int .i64 6) (.held v6)
  have m3 := m2.put (.int .i64 4) (.held v4)
  have ne : ∀ {a b : Int}, a ≠ b → (Lit.int .i64 a) ≠ .int .i64 b := fun h e => h (by injection e)
  unfold wyF
  by_cases h10 : k = 10
  · subst h10
    rw [atKey_put_same m3 (by simp [WideAt.IsKeyLit])]
    rfl
  · rw [atKey_put_other (ne h10)]
    by_cases h4 : k = 4
    · subst h4
      rw [atKey_put_same m2 (by simp [WideAt.IsKeyLit])]
      rfl
    · rw [atKey_put_other (ne h4)]
      by_cases h6 : k = 6
      · subst h6
        rw [atKey_put_same m1 (by simp [WideAt.IsKeyLit])]
        rfl
      · rw [atKey_put_other (ne h6)]
        by_cases h1 : k = 1
        · subst h1
          rw [atKey_put_same m0 (by simp [WideAt.IsKeyLit])]
          rfl
        · rw [atKey_put_other (ne h1), if_neg h1, if_neg h6, if_neg (by omega)]
          rfl
set_option maxHeartbeats 400000 in
theorem always_any (v : Value) (z : Int) (w : World) (n c : Nat) (a : Option Addr) (hv : v = .slice a n c) : Calls Tryd.prog 48 #[v, .int .i64 z] w fun e w' => e = .returned (.bool true) ∧ Below w.heap.size w w' := by
  subst hv
  go_enter Tryd.func48, Tryd.ntmps48
  go_wp2_with fail
  go_ret
  exact ⟨rfl, Below.refl _ _⟩
def Gmw (w wr : World) (n : Nat) (D : DataW Value) (rows : List (Value × List Wy)) : Prop :=
  wr.ownsMap Tryd.prog 3 hE (w.heap.size + 1) n D ∧ Below w.heap.size w wr ∧ w.heap.size + 2 ≤ wr.heap.size ∧ ∀ r ∈ rows, Wys wr r.1 r.2 ∧ ∃ b c, r.1 = .slice (some ⟨b, 0, none⟩) r.2.length c ∧ b ≠ w.heap.size + 1
theorem Gmw.start (w : World) (L : List Wy) (ty : TypeId) : Gmw w ((w.alloc (.cells (wcls L).toArray ty)).alloc (.map #[] 0)) 0 (.map []) [(.slice (some ⟨w.heap.size, 0, none⟩) L.length L.length, L)] := by
  have h1 := below1 w (.cells (wcls L).toArray ty)
  have hs : (w.alloc (.cells (wcls L).toArray ty)).heap.size = w.heap.size + 1 := by simp
  refine ⟨?_, h1.alloc h1.size _, by simp, fun r hr => ?_⟩
  · rw [← hs]
    exact World.ownsMap_made _ _ _ _
  · obtain rfl := List.mem_singleton.1 hr
    exact ⟨(wys_new w L ty).below (below1 _ _), _, _, rfl, by omega⟩
theorem Gmw.add {w wr : World} {n : Nat} {D : DataW Value} {rows : List (Value × List Wy)} (h : Gmw w wr n D rows) (L : List Wy) (ty : TypeId) :
    Gmw w (wr.alloc (.cells (wcls L).toArray ty)) n D ((.slice (some ⟨wr.heap.size, 0, none⟩) L.length L.length, L) :: rows) := by
  obtain ⟨h1, h2, h3, h4⟩ := h
  refine ⟨h1.alloc _, h2.alloc h2.size _, by simp; omega, fun r hr => ?_⟩
  rcases List.mem_cons.1 hr with rfl | hr
  · exact ⟨wys_new wr L ty, _, _, rfl, by omega⟩
  · obtain ⟨k1, k2⟩ := h4 r hr
    exact ⟨k1.below (below1 _ _), k2⟩
theorem Gmw.set {w wr w1 : World} {n m : Nat} {D D' : DataW Value} {rows : List (Value × List Wy)} (h : Gmw w wr n D rows) (ho : w1.ownsMap Tryd.prog 3 hE (w.heap.size + 1) m D') (hg : wr.grownBy w1 (some (w.heap.size + 1))) : Gmw w w1 m D' rows := by
  obtain ⟨h1, h2, h3, h4⟩ := h
  refine ⟨ho, h2.grown hg h2.size (fun k hk => by injection hk with hk; omega), Nat.le_trans h3 hg.size, fun r hr => ?_⟩
  obtain ⟨k1, b, c, k2, k3⟩ := h4 r hr
  refine ⟨k1.grown hg (fun p c' e => ?_), b, c, k2, k3⟩
  rw [k2] at e
  injection e with e1 _ _
  injection e1 with e1
  rw [← e1]
  exact k3
theorem Gmw.ins {w wr : World} {n : Nat} {D : DataW Value} {rows : List (Value × List Wy)} (h : Gmw w wr n D rows) (hn : n < maxLen) (k : Int) (hk : (Lit.int .i64 k).wf = true) (v : Value) :
    ∃ w1, (Instr.mapUpdate 60 (.map (some (w.heap.size + 1))) (.int .i64 k) v).run Tryd.prog wr = .ok () w1 ∧ Gmw w w1 (n + 1) (D.put (.int .i64 k) (.held v)) rows := by
  obtain ⟨w1, h1, h2, h3⟩ := h.1.update lawI Tryd.underlying60 hn (keyI k hk) (ps := []) (show hE v = some (.held v, []) from rfl)
  exact ⟨w1, h1, h.set h2 h3⟩
set_option maxHeartbeats 2000000 in
theorem ways_any (w : World) :
    Calls Tryd.prog 35 #[] w fun e w' => ∃ b v1 v6 v4, e = .returned (.map (some b)) ∧ (∃ D, w'.ownsMap Tryd.prog 3 hE b 4 D ∧ WD (wyF v1 v6 v4) D) ∧
      Wys w' v1 [(1, 48)] ∧ Wys w' v6 [(2, 48), (3, 48)] ∧ Wys w' v4 [(4, 48), (5, 13)] ∧ Below w.heap.size w w' := by
  have hmm := @run_makeMap Tryd.prog
  have G0 := (Gmw.start w [(4, 48), (5, 13)] 63).add [(1, 48)] 63
  rw [show ((w.alloc (.cells (wcls [(4, 48), (5, 13)]).toArray 63)).alloc (.map #[] 0)).heap.size = w.heap.size + 1 + 1 by simp] at G0
  obtain ⟨w1, r1, G1⟩ := G0.ins (by decide) 1 (by decide) (.slice (some ⟨w.heap.size + 1 + 1, 0, none⟩) 1 1)
  obtain ⟨w2, r2, G2⟩ := (G1.add [(2, 48), (3, 48)] 63).ins (by decide) 6 (by decide) (.slice (some ⟨w1.heap.size, 0, none⟩) 2 2)
  obtain ⟨w3, r3, G3⟩ := G2.ins (by decide) 4 (by decide) (.slice (some ⟨w.heap.size, 0, none⟩) 2 2)
  obtain ⟨w4, r4, G4⟩ := G3.ins (by decide) 10 (by decide) (.slice (some ⟨w.heap.size, 0, none⟩) 2 2)
  change (Instr.mapUpdate 60 (.map (some (w.heap.size + 1))) (.int .i64 1) (.slice (some ⟨w.heap.size + 1 + 1, 0, none⟩) 1 1)).run Tryd.prog
    (((w.alloc (.cells #[.int .i64 4, .func (.func 48) #[] #[], .int .i64 5, .func (.func 13) #[] #[]] 63)).alloc (.map #[] 0)).alloc (.cells #[.int .i64 1, .func (.func 48) #[] #[]] 63)) = _ at r1
  change (Instr.mapUpdate 60 (.map (some (w.heap.size + 1))) (.int .i64 6) (.slice (some ⟨w1.heap.size, 0, none⟩) 2 2)).run Tryd.prog
    (w1.alloc (.cells #[.int .i64 2, .func (.func 48) #[] #[], .int .i64 3, .func (.func 48) #[] #[]] 63)) = _ at r2
  have HG := Lib.hid G4
  clear G0 G1 G2 G3 G4
  go_enter Tryd.func35, Tryd.ntmps35
  go_wp2_with fail
  go_ret
  obtain ⟨h1, h2, -, h4⟩ := HG.out
  refine ⟨_, .slice (some ⟨w.heap.size + 1 + 1, 0, none⟩) 1 1, .slice (some ⟨w1.heap.size, 0, none⟩) 2 2, .slice (some ⟨w.heap.size, 0, none⟩) 2 2, rfl, ⟨_, h1, wd_all _ _ _⟩, ?_, ?_, ?_, h2⟩
  · exact (h4 _ (List.mem_cons_of_mem _ (List.mem_cons_self ..))).1
  · exact (h4 _ (List.mem_cons_self ..)).1
  · exact (h4 _ (List.mem_cons_of_mem _ (List.mem_cons_of_mem _ (List.mem_cons_self ..)))).1
end Go.Proofs.YtdkaoiomndkbjaaDoor.Me

namespace Go.Proofs.YtdkaoiomndkbjaaDoor.Me
set_option maxRecDepth 100000
open Go Go.RowKit Go.ChangeShapes Go.WideShapes Rw
section
variable {H : Type} {enc : TypeId × Value → H} {W : World} {base : Nat} {v : Value} {d : DataW H} {p : List MemPlace}
theorem in64_of {n : Int} (h : (Lit.int .i64 n).wf = true) : In64 n := by
  have hmin : IntKind.i64.min = -9223372036854775808 := rfl
  have hmax : IntKind.i64.max = 9223372036854775807 := rfl
  simp only [Lit.wf, Bool.and_eq_true, decide_eq_true_eq] at h
  unfold In64
  omega
theorem cMove : Tryd.prog.cellsOf 23 = 2 := by kernel_rfl
theorem mv_arg (hok : Value.okWide Tryd.prog W .any base 23 v) (h : DataW.Trod enc Tryd.prog W 0 (fun _ => true) true 23 v d p) : ∃ z : Mv, v = mvV z ∧ In64 z.p := by
  obtain ⟨cs, rfl, hsz⟩ := okWide_struct Tryd.underlying23 hok
  obtain ⟨fuel, hf⟩ := h
  obtain ⟨y0, y1, n, _, hl, hy0, hy1⟩ := trod_struct2 Tryd.underlying23 hf
  rw [cMove] at hl
  obtain ⟨l⟩ := cs
  match l, hl with
  | [a, c], _ =>
    rw [show Tryd.prog.cellsOf 3 = 1 by kernel_rfl] at hy0 hy1
    obtain ⟨k0, e0, _, hw0⟩ := DataW.trod_int Tryd.underlying3 hy0
    obtain ⟨k1, e1, _, _⟩ := DataW.trod_int Tryd.underlying3 hy1
    have e0' : a = .int .i64 k0 := List.head_eq_of_cons_eq (show [a] = [.int .i64 k0] from e0)
    have e1' : c = .int .i64 k1 := List.head_eq_of_cons_eq (show [c] = [.int .i64 k1] from e1)
    subst e0'
    subst e1'
    exact ⟨⟨k0, k1⟩, rfl, in64_of hw0⟩
end
end Go.Proofs.YtdkaoiomndkbjaaDoor.Me
