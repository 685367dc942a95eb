/- Nodes appended; rows of rows of nodes, and parts of rows. The program's order of traces: cmp.Compare, slices.Compare, cmp.Or, the method against and Compare: the walks. How many nodes are of some kinds: plain. Nodes that are compared as structs. What the cards of the laws of meanings share. The document's merge of two rows of traces: the walk. The document's Kids. The program's order of traces: the method against, and Compare: the walks. The program's Size and Depth: measure. Rows of a call's own: what Kids makes. -/
import Derived.Test.YtghnonbcojbohaaGreatDoorQ05
import Derived.Laws.AppendOwn
import Derived.Laws.StructEq
import Derived.Test.YtghnonbcojbohaaGreatDoorQ04
import Derived.Sort.Grow
import Derived.Test.YtghnonbcojbohaaGreatDoorQ01
import Derived.Laws.MakeOwn
import Derived.OwnWalk
import Derived.WalkMore
import Derived.Deep.LoopGhost

namespace Go.Proofs.YtghnonbcojbohaaGreatDoor.Rw
open Go Go.RowKit
set_option maxRecDepth 20000

theorem infoN : (Tryz.prog.info? 48).map (fun i => (i.zero, i.size, i.bytes)) = some (some (.agg #[.int .i64 0, .string ⟨#[]⟩, .int .i64 0]), 3, 32) := by kernel_rfl
theorem cls_one {l : List Nd} : ∀ u ∈ cls l, u.oneCell' = true := by
  induction l with
  | nil => intro u hu; cases hu
  | cons x l ih =>
    intro u hu
    rw [cls, List.mem_append] at hu
    rcases hu with hu | hu
    · simp [cl] at hu
      rcases hu with rfl | rfl | rfl <;> rfl
    · exact ih u hu

/-- Nodes of any slice appended to a row that the call owns. -/
theorem run_append_nds {w : World} {base : Nat} {v x : Value} {l m : List Nd} (hown : w.ownsRow base 48 3 v l.length (cls l)) (hbase : base ≤ w.heap.size) (hx : Nds w x m) (hlen : l.length + m.length ≤ 2000000) :
    ∃ v' w', (Builtin.append_ #[22, 22] 22 #[v, x]).run Tryz.prog w = .ok v' w' ∧ w'.ownsRow base 48 3 v' (l ++ m).length (cls (l ++ m)) ∧ w.grownBy w' v.ownBlock ∧ Below base w w' ∧ Ap.Fresh w v v' := by
  obtain ⟨i0, hi, hz, hs1, hb8⟩ := info_parts infoN
  obtain ⟨v', w', h1, h2, h3, h4, h5⟩ := Ap.run_append_rd (P := Tryz.prog) (ty := 22) Tryz.underlying22 hi hz hs1 hb8 (by rfl) (by omega) hown hbase hx
    cls_one (by unfold maxLen; omega) (by omega)
  exact ⟨v', w', h1, by rw [cls_append]; simpa using h2, h3, h4, h5⟩
/-- A node's block. -/
abbrev nb (x : Nd) : Obj := .cells #[.int .i64 x.k, .string x.n, .int .i64 x.s] 48
theorem below1 (w : World) (x : Obj) : Below w.heap.size w (w.alloc x) := (Below.refl _ _).alloc (Nat.le_refl _) _
/-- Rows of rows of nodes. -/
def RwC (w : World) : List Value → List (List Nd) → Prop
  | [], [] => True
  | a :: cs, r :: rs => Nds w a r ∧ RwC w cs rs
  | _, _ => False
theorem RwC.below {w w' : World} (hb : Below w.heap.size w w') : ∀ {cs : List Value} {ls : List (List Nd)}, RwC w cs ls → RwC w' cs ls
  | [], [], _ => trivial
  | _ :: _, _ :: _, h => ⟨h.1.below hb, RwC.below hb h.2⟩
  | [], _ :: _, h => h.elim
  | _ :: _, [], h => h.elim
theorem RwC.snoc {w : World} {a : Value} {r : List Nd} (ha : Nds w a r) : ∀ {cs : List Value} {ls : List (List Nd)}, RwC w cs ls → RwC w (cs ++ [a]) (ls ++ [r])
  | [], [], _ => ⟨ha, trivial⟩
  | _ :: _, _ :: _, h => ⟨h.1, RwC.snoc ha h.2⟩
  | [], _ :: _, h => h.elim
  | _ :: _, [], h => h.elim
theorem RwC.len {w : World} : ∀ {cs : List Value} {ls : List (List Nd)}, RwC w cs ls → cs.length = ls.length
  | [], [], _ => rfl
  | _ :: _, _ :: _, h => by rw [List.length_cons, List.length_cons, RwC.len h.2]
  | [], _ :: _, h => h.elim
  | _ :: _, [], h => h.elim
def Rws (w : World) (v : Value) (ls : List (List Nd)) : Prop := ∃ cs, Ap.Rd w 1 v ls.length cs ∧ RwC w cs ls
theorem Rws.below {w w' : World} {v : Value} {ls : List (List Nd)} (h : Rws w v ls) (hb : Below w.heap.size w w') : Rws w' v ls := by
  obtain ⟨cs, h1, h2⟩ := h
  exact ⟨cs, h1.below hb, h2.below hb⟩
theorem infoR : (Tryz.prog.info? 22).map (fun i => (i.zero, i.size, i.bytes)) = some (some (.slice none 0 0), 1, 24) := by kernel_rfl
/-- A part of a slice. -/
theorem part_nds {w : World} {b off : Nat} {l : List Nd} (h : At w b off l) (p n c : Nat) (hp : p + n ≤ l.length) (hn : n ≤ c) : Nds w (.slice (some ⟨b, off + p * 3, none⟩) n c) ((l.drop p).take n) := by
  have hlen : ((l.drop p).take n).length = n := by rw [List.length_take, List.length_drop]; omega
  unfold Nds
  rw [hlen]
  refine ⟨by rw [cls_len, hlen], _, c, rfl, hn, fun e => (by cases e), fun _ => ⟨b, off + p * 3, rfl, fun j u hu => ?_⟩⟩
  have hj : j < n * 3 := by
    have := (List.getElem?_eq_some_iff.1 hu).1
    rw [cls_len, hlen] at this
    exact this
  have hk : j / 3 < ((l.drop p).take n).length := by rw [hlen]; omega
  obtain ⟨h1, h2, h3⟩ := cls_at _ (j / 3) hk
  have hkl : p + j / 3 < l.length := by omega
  have hx : ((l.drop p).take n)[j / 3] = l[p + j / 3] := by simp
  rw [hx] at h1 h2 h3
  obtain ⟨g1, g2, g3⟩ := h (p + j / 3) hkl
  have hr : j % 3 = 0 ∨ j % 3 = 1 ∨ j % 3 = 2 := by omega
  rcases hr with hr | hr | hr
  · have : j = j / 3 * 3 := by omega
    rw [← this, hu] at h1
    rw [Option.some.inj h1, show off + p * 3 + j = off + (p + j / 3) * 3 by omega]
    exact g1
  · have : j = j / 3 * 3 + 1 := by omega
    rw [← this, hu] at h2
    rw [Option.some.inj h2, show off + p * 3 + j = off + (p + j / 3) * 3 + 1 by omega]
    exact g2
  · have : j = j / 3 * 3 + 2 := by omega
    rw [← this, hu] at h3
    rw [Option.some.inj h3, show off + p * 3 + j = off + (p + j / 3) * 3 + 2 by omega]
    exact g3
/-- One kid more. -/
theorem kids_next {l : List Nd} {k p d c' d' : Nat} (h : Far l 0 k p d) (ht : T (l.drop p) = some (c', d')) : kidsN (k + 1) (l.drop 1) = kidsN k (l.drop 1) ++ [(l.drop p).take c'] := by
  obtain ⟨c, hs, rfl⟩ := h
  rw [Nat.zero_add] at hs ht
  rw [kidsN, hs]
  simp only [Option.getD_some, List.drop_drop, Nat.zero_add]
  have : size (l.drop (1 + c)) = c' := by unfold size; rw [ht]
  rw [this]
theorem kids_more {l : List Nd} {k p d : Nat} (h0 : 0 < l.length) (hs : size l ≠ 0) (h : Far l 0 k p d) (hk : (k : Int) < ar l[0].k) : ∃ c' d', T (l.drop p) = some (c', d') := by
  cases ht : T (l.drop p) with
  | some x => exact ⟨x.1, x.2, rfl⟩
  | none =>
    exfalso
    have h1 := h.stop ht
    have hn : ¬ ar l[0].k < 0 := by omega
    have := walk_none (l := l) (i := 0) h0 hn hk h1
    rw [List.drop_zero] at this
    exact hs (size_pos.2 this)
theorem kids_of {l : List Nd} (h0 : 0 < l.length) (hs : size l ≠ 0) : kids l = kidsN (ar l[0].k).toNat (l.drop 1) := by
  cases l with
  | nil => simp at h0
  | cons n r =>
    unfold kids
    rw [if_neg hs]
    rfl
end Go.Proofs.YtghnonbcojbohaaGreatDoor.Rw

namespace Go.Proofs.YtghnonbcojbohaaGreatDoor.Tr
open Go Go.RowKit
set_option maxRecDepth 20000

/-- Below 0, 0, above 0. -/
def sg3 (c : Int) : Int := if c < 0 then -1 else if 0 < c then 1 else 0
/-- How one text stands to another. -/
def cmpS (x y : ByteArray) : Int := if ls x y then -1 else if ls y x then 1 else 0
/-- How one number stands to another. -/
def cmpI (x y : Int) : Int := if x < y then -1 else if y < x then 1 else 0

set_option maxHeartbeats 400000 in
theorem nanS (x : ByteArray) (w : World) : Calls Tryz.prog 179 #[.string x] w fun e w' => e = .returned (.bool false) ∧ w' = w := by
  have hxx : (x.toList == x.toList) = true := by simp
  go_enter Tryz.func179, Tryz.ntmps179
  go_wp2_with fail
  go_ret
  exact ⟨rfl, rfl⟩
set_option maxHeartbeats 400000 in
theorem nanI (x : Int) (w : World) : Calls Tryz.prog 150 #[.int .i64 x] w fun e w' => e = .returned (.bool false) ∧ w' = w := by
  go_enter Tryz.func150, Tryz.ntmps150
  go_wp2_with fail
  go_ret
  exact ⟨rfl, rfl⟩

set_option maxHeartbeats 1000000 in
theorem cmpS_any (x y : ByteArray) (w : World) : Calls Tryz.prog 149 #[.string x, .string y] w fun e w' => e = .returned (.int .i64 (cmpS x y)) ∧ w' = w := by
  cases hx : ls x y with
  | true =>
    have hx' : Op.bytesLess x.toList y.toList = true := hx
    have HX := Lib.hid hx
    clear hx
    go_enter Tryz.func149, Tryz.ntmps149
    go_wp2_with (go_at_call 179; refine (nanS _ _).mono ?_; rintro e w' ⟨rfl, rfl⟩)
    go_ret
    exact ⟨ret_int (by rw [cmpS, HX.out]; rfl), rfl⟩
  | false =>
    have hx' : Op.bytesLess x.toList y.toList = false := hx
    have hy' := eq_of_ls hx
    have HX := Lib.hid hx
    clear hx
    cases hy : ls y x with
    | true =>
      rw [hy] at hy'
      have HY := Lib.hid hy
      clear hy
      go_enter Tryz.func149, Tryz.ntmps149
      go_wp2_with (go_at_call 179; refine (nanS _ _).mono ?_; rintro e w' ⟨rfl, rfl⟩)
      go_ret
      exact ⟨ret_int (by rw [cmpS, HX.out, HY.out]; rfl), rfl⟩
    | false =>
      rw [hy] at hy'
      have HY := Lib.hid hy
      clear hy
      go_enter Tryz.func149, Tryz.ntmps149
      go_wp2_with (go_at_call 179; refine (nanS _ _).mono ?_; rintro e w' ⟨rfl, rfl⟩)
      go_ret
      exact ⟨ret_int (by rw [cmpS, HX.out, HY.out]; rfl), rfl⟩

set_option maxHeartbeats 1000000 in
theorem cmpI_any (x y : Int) (w : World) : Calls Tryz.prog 94 #[.int .i64 x, .int .i64 y] w fun e w' => e = .returned (.int .i64 (cmpI x y)) ∧ w' = w := by
  by_cases h1 : x < y
  · go_enter Tryz.func94, Tryz.ntmps94
    go_wp2_with (go_at_call 150; refine (nanI _ _).mono ?_; rintro e w' ⟨rfl, rfl⟩)
    go_ret
    exact ⟨ret_int (by rw [cmpI, if_pos h1]), rfl⟩
  · by_cases h2 : y < x
    · go_enter Tryz.func94, Tryz.ntmps94
      go_wp2_with (go_at_call 150; refine (nanI _ _).mono ?_; rintro e w' ⟨rfl, rfl⟩)
      go_ret
      exact ⟨ret_int (by rw [cmpI, if_neg (by omega), if_pos h2]), rfl⟩
    · go_enter Tryz.func94, Tryz.ntmps94
      go_wp2_with (go_at_call 150; refine (nanI _ _).mono ?_; rintro e w' ⟨rfl, rfl⟩)
      go_ret
      exact ⟨ret_int (by rw [cmpI, if_neg (by omega), if_neg (by omega)]), rfl⟩

theorem sg3_at (l m : List ByteArray) (k : Nat) (h1 : k < l.length) (h2 : k < m.length) :
    sg3 (row (l.drop k) (m.drop k)) = if cmpS l[k] m[k] = 0 then sg3 (row (l.drop (k + 1)) (m.drop (k + 1))) else cmpS l[k] m[k] := by
  rw [row_at l m k h1 h2, cmpS]
  cases ls l[k] m[k] with
  | true => rfl
  | false =>
    cases ls m[k] l[k] with
    | true => rfl
    | false => rfl
theorem sg3_over (l m : List ByteArray) (k : Nat) (h1 : k < l.length) (h2 : ¬ k < m.length) (h3 : k ≤ m.length) : sg3 (row (l.drop k) (m.drop k)) = 1 := by
  rw [row_end l m k (by omega) h3 (.inr h2), sg3, if_neg (by omega), if_pos (by omega)]
theorem sg3_end (l m : List ByteArray) (k : Nat) (h1 : k = l.length) (h3 : k ≤ m.length) : sg3 (row (l.drop k) (m.drop k)) = if l.length < m.length then -1 else 0 := by
  rw [row_end l m k (by omega) h3 (.inl (by omega)), sg3]
  by_cases h : l.length < m.length
  · rw [if_pos (by omega), if_pos h]
  · rw [if_neg (by omega), if_neg (by omega), if_neg h]

set_option maxHeartbeats 1000000 in
theorem rowc_cells (b1 o1 c1 b2 o2 c2 : Nat) (l m : List ByteArray) (w : World) (hl : l.length ≤ 1000000000000) (_hm : m.length ≤ 1000000000000)
    (h1 : ∀ k, (h : k < l.length) → w.cell? ⟨b1, o1 + k, none⟩ = some (.string l[k])) (h2 : ∀ k, (h : k < m.length) → w.cell? ⟨b2, o2 + k, none⟩ = some (.string m[k])) :
    Calls Tryz.prog 93 #[.slice (some ⟨b1, o1, none⟩) l.length c1, .slice (some ⟨b2, o2, none⟩) m.length c2] w fun e w' => e = .returned (.int .i64 (sg3 (row l m))) ∧ w' = w := by
  have H1 := Lib.hid h1
  have H2 := Lib.hid h2
  clear h1 h2
  go_enter Tryz.func93, Tryz.ntmps93
  go_wp2_with fail
  go_loopw [11] (fun i wr => ∃ k : Nat, k ≤ l.length ∧ k ≤ m.length ∧ i = .int .i64 k ∧ wr = w ∧ sg3 (row l m) = sg3 (row (l.drop k) (m.drop k))) (fun i _ => l.length - (intOf i).toNat)
  case atStart => exact ⟨0, Nat.zero_le _, Nat.zero_le _, rfl, rfl, rfl⟩
  case round =>
    obtain ⟨k, hk1, hk2, rfl, rfl, hrow⟩ := hrel
    have HROW := Lib.hid hrow
    clear hrow
    by_cases hlt : k < l.length
    · have e1 := H1.out k hlt
      by_cases hlt2 : k < m.length
      · have e2 := H2.out k hlt2
        have HA := Lib.hid (HROW.out.trans (sg3_at l m k hlt hlt2))
        obtain ⟨x, hx⟩ : ∃ x, l[k] = x := ⟨_, rfl⟩
        obtain ⟨y, hy⟩ : ∃ y, m[k] = y := ⟨_, rfl⟩
        rw [hx] at e1 HA
        rw [hy] at e2 HA
        clear hx hy
        obtain ⟨c, hc⟩ : ∃ c, cmpS x y = c := ⟨_, rfl⟩
        have HC := Lib.hid (cmpS_any x y)
        rw [hc] at HA HC
        clear hc
        by_cases h0 : c = 0
        · subst h0
          go_wp2_with (go_at_call 149; refine (HC.out _).mono ?_; rintro e w' ⟨rfl, rfl⟩)
          go_roundw
          case rel => exact ⟨k + 1, by omega, by omega, by go_num, (by first | rfl | trivial), HA.out⟩
          case measure => simp [intOf]; omega
        · have H0 := Lib.hid h0
          go_wp2_with (go_at_call 149; refine (HC.out _).mono ?_; rintro e w' ⟨rfl, rfl⟩)
          go_ret
          exact ⟨ret_int (by rw [HA.out, if_neg H0.out]), rfl⟩
      · have HE := Lib.hid (HROW.out.trans (sg3_over l m k hlt hlt2 hk2))
        go_wp2_with fail
        go_ret
        exact ⟨ret_int HE.out.symm, rfl⟩
    · have HE := Lib.hid (HROW.out.trans (sg3_end l m k (by omega) hk2))
      by_cases hlm : l.length < m.length
      · rw [if_pos hlm] at HE
        go_wp2_with fail
        go_ret
        exact ⟨ret_int HE.out.symm, rfl⟩
      · rw [if_neg hlm] at HE
        go_wp2_with fail
        go_ret
        exact ⟨ret_int HE.out.symm, rfl⟩

set_option maxHeartbeats 400000 in
theorem rowc_empty_l (a1 a2 : Option Addr) (c1 c2 n : Nat) (w : World) (_hn : n ≤ 1000000000000) :
    Calls Tryz.prog 93 #[.slice a1 0 c1, .slice a2 n c2] w fun e w' => e = .returned (.int .i64 (if 0 < n then -1 else 0)) ∧ w' = w := by
  by_cases h : 0 < n
  · rw [if_pos h]
    go_enter Tryz.func93, Tryz.ntmps93
    go_wp2_with fail
    refine Go.wp_loop_rounds 1 ?_
    rw [rounds_succ]
    go_wp2_with fail
    go_ret
    exact ⟨rfl, rfl⟩
  · rw [if_neg h]
    go_enter Tryz.func93, Tryz.ntmps93
    go_wp2_with fail
    refine Go.wp_loop_rounds 1 ?_
    rw [rounds_succ]
    go_wp2_with fail
    go_ret
    exact ⟨rfl, rfl⟩
set_option maxHeartbeats 400000 in
theorem rowc_empty_r (b1 o1 c1 : Nat) (a2 : Option Addr) (c2 n : Nat) (w : World) (x : ByteArray) (_hn : n ≤ 1000000000000) (h0 : 0 < n) (h1 : w.cell? ⟨b1, o1, none⟩ = some (.string x)) :
    Calls Tryz.prog 93 #[.slice (some ⟨b1, o1, none⟩) n c1, .slice a2 0 c2] w fun e w' => e = .returned (.int .i64 1) ∧ w' = w := by
  go_enter Tryz.func93, Tryz.ntmps93
  go_wp2_with fail
  refine Go.wp_loop_rounds 1 ?_
  rw [rounds_succ]
  go_wp2_with fail
  go_ret
  exact ⟨rfl, rfl⟩

theorem rowc_any (v1 v2 : Value) (l m : List ByteArray) (w : World) (h1 : Strs w v1 l) (h2 : Strs w v2 m) (hl : l.length ≤ 1000000000000) (hm : m.length ≤ 1000000000000) :
    Calls Tryz.prog 93 #[v1, v2] w fun e w' => e = .returned (.int .i64 (sg3 (row l m))) ∧ w' = w := by
  have hL : ∀ m : List ByteArray, sg3 (row [] m) = if 0 < m.length then -1 else 0 := fun m => by
    have := sg3_end [] m 0 rfl (Nat.zero_le _)
    simpa using this
  rcases h1.form with ⟨rfl, a1, c1, rfl⟩ | ⟨b1, o1, c1, rfl, hc1⟩
  · obtain ⟨_, a2, c2, rfl, _⟩ := h2
    rw [hL]
    exact rowc_empty_l a1 a2 c1 c2 m.length w hm
  · by_cases h0 : 0 < l.length
    · rcases h2.form with ⟨rfl, a2, c2, rfl⟩ | ⟨b2, o2, c2, rfl, hc2⟩
      · rw [row_nil_r, sg3, if_neg (by omega), if_pos (by omega)]
        exact rowc_empty_r b1 o1 c1 a2 c2 l.length w l[0] hl h0 (hc1 0 h0)
      · exact rowc_cells b1 o1 c1 b2 o2 c2 l m w hl hm hc1 hc2
    · obtain rfl : l = [] := List.eq_nil_of_length_eq_zero (by omega)
      obtain ⟨_, a2, c2, rfl, _⟩ := h2
      rw [hL]
      exact rowc_empty_l _ a2 c1 c2 m.length w hm

set_option maxHeartbeats 400000 in
theorem or2_any (x y : Int) (b : Nat) (w : World) (h1 : w.cell? ⟨b, 0, none⟩ = some (.int .i64 x)) (h2 : w.cell? ⟨b, 1, none⟩ = some (.int .i64 y)) :
    Calls Tryz.prog 92 #[.slice (some ⟨b, 0, none⟩) 2 2] w fun e w' => e = .returned (.int .i64 (if x = 0 then y else x)) ∧ w' = w := by
  by_cases hx : x = 0
  · rw [if_pos hx]
    subst hx
    by_cases hy : y = 0
    · subst hy
      go_enter Tryz.func92, Tryz.ntmps92
      go_wp2_with fail
      refine Go.wp_loop_rounds 3 ?_
      rw [rounds_succ]
      go_wp2_with fail
      rw [rounds_succ]
      go_wp2_with fail
      rw [rounds_succ]
      go_wp2_with fail
      go_ret
      exact ⟨rfl, rfl⟩
    · go_enter Tryz.func92, Tryz.ntmps92
      go_wp2_with fail
      refine Go.wp_loop_rounds 2 ?_
      rw [rounds_succ]
      go_wp2_with fail
      rw [rounds_succ]
      go_wp2_with fail
      go_ret
      exact ⟨rfl, rfl⟩
  · rw [if_neg hx]
    go_enter Tryz.func92, Tryz.ntmps92
    go_wp2_with fail
    refine Go.wp_loop_rounds 1 ?_
    rw [rounds_succ]
    go_wp2_with fail
    go_ret
    exact ⟨rfl, rfl⟩
theorem cmp_or (p q : Tr) : (if sg3 (row p.a q.a) = 0 then cmpI p.e q.e else sg3 (row p.a q.a)) = cmp p q := by
  rcases Int.lt_trichotomy (row p.a q.a) 0 with h | h | h
  · have e : sg3 (row p.a q.a) = -1 := by rw [sg3, if_pos h]
    rw [e, if_neg (by decide)]
    have := cmp_neg (p := p) (q := q) |>.2 (.inl h)
    have := cmp_bd p q
    omega
  · have e : sg3 (row p.a q.a) = 0 := by rw [h]; rfl
    rw [e, if_pos rfl, cmpI, cmp]
    simp [h]
    repeat' split
    all_goals omega
  · have e : sg3 (row p.a q.a) = 1 := by rw [sg3, if_neg (by omega), if_pos h]
    rw [e, if_neg (by decide)]
    have h2 : row q.a p.a < 0 := (row_anti _ _).2 h
    have := cmp_neg (p := q) (q := p) |>.2 (.inl h2)
    have := cmp_anti p q
    have := cmp_bd p q
    omega
end Go.Proofs.YtghnonbcojbohaaGreatDoor.Tr

namespace Go.Proofs.YtghnonbcojbohaaGreatDoor.Rw
open Go Go.RowKit
set_option maxRecDepth 20000

theorem cnt_yes (l : List Nd) (ks : List Int) (k : Nat) (h : k < l.length) (hm : l[k].k ∈ ks) : cnt (l.take (k + 1)) ks = cnt (l.take k) ks + 1 := by
  unfold cnt
  rw [List.take_succ_eq_append_getElem h, List.countP_append]
  simp [hm]
theorem cnt_no (l : List Nd) (ks : List Int) (k : Nat) (h : k < l.length) (hm : ¬ l[k].k ∈ ks) : cnt (l.take (k + 1)) ks = cnt (l.take k) ks := by
  unfold cnt
  rw [List.take_succ_eq_append_getElem h, List.countP_append]
  simp [hm]
theorem has_take (ks : List Int) (a : Int) (j : Nat) (h : j < ks.length) : decide (a ∈ ks.take (j + 1)) = (decide (a ∈ ks.take j) || (ks[j] == a)) := by
  rw [List.take_succ_eq_append_getElem h, Bool.eq_iff_iff]
  simp only [decide_eq_true_eq, List.mem_append, List.mem_singleton, Bool.or_eq_true, beq_iff_eq]
  exact or_congr_right eq_comm
/-- The inner loop: whether one of the first kinds is the node's. -/
theorem has_start (ks : List Int) (a : Int) : decide (a ∈ ks.take 0) = false := by simp
end Go.Proofs.YtghnonbcojbohaaGreatDoor.Rw

namespace Go.Proofs.YtghnonbcojbohaaGreatDoor.Rw
open Go Go.RowKit
set_option maxRecDepth 20000

theorem nd_ext {x y : Nd} : x = y ↔ x.k = y.k ∧ x.n = y.n ∧ x.s = y.s := by
  cases x; cases y; simp
theorem eql_nd (d : Nat) (x y : Nd) (w : World) : (Op.equalIn (d + 2) 48 (.agg #[.int .i64 x.k, .string x.n, .int .i64 x.s]) (.agg #[.int .i64 y.k, .string y.n, .int .i64 y.s])).run Tryz.prog w = .ok (decide (x = y)) w := by
  rw [run_equalIn_struct w (d + 1) _ _ _ (by kernel_rfl) (by kernel_rfl)]
  simp only [Program.fieldsOf, Tryz.underlying48]
  by_cases h1 : x.k = y.k
  · by_cases h2 : x.n = y.n
    · by_cases h3 : x.s = y.s
      · rw [decide_eq_true (nd_ext.2 ⟨h1, h2, h3⟩), h1, h2, h3]
        simp [go_sem, Op.eqFields]
      · rw [decide_eq_false (fun e => h3 (nd_ext.1 e).2.2), h1, h2]
        simp [go_sem, Op.eqFields, h3]
    · have e2 : (x.n.toList == y.n.toList) = false := by
        rw [ByteArray.toList_eq y.n]
        exact str_ne' fun e => h2 (by rw [e])
      rw [decide_eq_false (fun e => h2 (nd_ext.1 e).2.1), h1]
      simp [go_sem, Op.eqFields, e2]
  · rw [decide_eq_false (fun e => h1 (nd_ext.1 e).1)]
    simp [go_sem, Op.eqFields, h1]
end Go.Proofs.YtghnonbcojbohaaGreatDoor.Rw

namespace Go.Proofs.YtghnonbcojbohaaGreatDoor.Mn
open Go Go.ChangeShapes Go.WideShapes Go.ChangeAt Go.RowKit
open Rw (Nd Nds)
set_option maxRecDepth 100000
theorem bNode : Tryz.prog.bytesOf 48 = 32 := by kernel_rfl
theorem nds_len {H : Type} {d : DataW H} {l : List Nd} (hd : Rw.nodesD l d) (h : (d.weights Tryz.prog 22).all (· ≤ reachBytes) = true) : l.length ≤ 140737488355328 := by
  rcases hd with ⟨rfl, _⟩ | ⟨sp, rfl⟩
  · exact Nat.zero_le _
  · rw [DataW.weights, Tryz.underlying22] at h
    simp only [List.all_cons, List.all_append, Bool.and_eq_true, bNode] at h
    have h1 := h.1
    simp [reachBytes] at h1
    omega
end Go.Proofs.YtghnonbcojbohaaGreatDoor.Mn

namespace Go.Proofs.YtghnonbcojbohaaGreatDoor.Tr
open Go Go.RowKit
set_option maxRecDepth 20000

theorem infoT : (Tryz.prog.info? 67).map (fun i => (i.zero, i.size, i.bytes)) = some (some (.agg #[.slice none 0 0, .int .i64 0]), 2, 32) := by kernel_rfl

theorem TrCells.snoc {w : World} {a : Value} {t : Tr} (ha : Strs w a t.a) : ∀ {cs : List Value} {ts : List Tr}, TrCells w cs ts → TrCells w (cs ++ [a, .int .i64 t.e]) (ts ++ [t])
  | [], [], _ => ⟨ha, rfl, trivial⟩
  | _ :: _ :: _, _ :: _, h => ⟨h.1, h.2.1, TrCells.snoc ha h.2.2⟩
  | [], _ :: _, h => h.elim
  | [_], [], h => h.elim
  | [_], _ :: _, h => h.elim
  | _ :: _ :: _, [], h => h.elim

theorem mg_lt (l m : List Tr) (p q : Nat) (h1 : p < l.length) (h2 : q < m.length) (h : cmp l[p] m[q] < 0) :
    mg (l.length + m.length + 1 - p - q) (l.drop p) (m.drop q) = l[p] :: mg (l.length + m.length + 1 - (p + 1) - q) (l.drop (p + 1)) (m.drop q) := by
  rw [List.drop_eq_getElem_cons h1, List.drop_eq_getElem_cons h2, show l.length + m.length + 1 - p - q = (l.length + m.length + 1 - (p + 1) - q) + 1 by omega, mg, if_pos h]
theorem mg_eq (l m : List Tr) (p q : Nat) (h1 : p < l.length) (h2 : q < m.length) (h : cmp l[p] m[q] = 0) :
    mg (l.length + m.length + 1 - p - q) (l.drop p) (m.drop q) = l[p] :: mg (l.length + m.length + 1 - (p + 1) - (q + 1)) (l.drop (p + 1)) (m.drop (q + 1)) := by
  rw [List.drop_eq_getElem_cons h1, List.drop_eq_getElem_cons h2, show l.length + m.length + 1 - p - q = (l.length + m.length + 1 - (p + 1) - q) + 1 by omega, mg, if_neg (by omega), if_pos h,
    mg_fuel _ (l.length + m.length + 1 - (p + 1) - (q + 1)) _ _ (by simp; omega) (by simp; omega)]
theorem mg_gt (l m : List Tr) (p q : Nat) (h1 : p < l.length) (h2 : q < m.length) (h : 0 < cmp l[p] m[q]) :
    mg (l.length + m.length + 1 - p - q) (l.drop p) (m.drop q) = m[q] :: mg (l.length + m.length + 1 - p - (q + 1)) (l.drop p) (m.drop (q + 1)) := by
  rw [List.drop_eq_getElem_cons h1, List.drop_eq_getElem_cons h2, show l.length + m.length + 1 - p - q = (l.length + m.length + 1 - p - (q + 1)) + 1 by omega, mg, if_neg (by omega), if_neg (by omega)]
theorem mg_l (l m : List Tr) (p q : Nat) (h1 : p < l.length) (h2 : q = m.length) :
    mg (l.length + m.length + 1 - p - q) (l.drop p) (m.drop q) = l[p] :: mg (l.length + m.length + 1 - (p + 1) - q) (l.drop (p + 1)) (m.drop q) := by
  subst h2
  rw [List.drop_eq_getElem_cons h1, List.drop_length, show l.length + m.length + 1 - p - m.length = (l.length + m.length + 1 - (p + 1) - m.length) + 1 by omega]
  obtain ⟨n, hn⟩ : ∃ n, l.length + m.length + 1 - (p + 1) - m.length = n + 1 := ⟨l.length - p - 1, by omega⟩
  rw [hn]
  cases l.drop (p + 1) <;> simp [mg]
theorem mg_r (l m : List Tr) (p q : Nat) (h1 : p = l.length) (h2 : q < m.length) :
    mg (l.length + m.length + 1 - p - q) (l.drop p) (m.drop q) = m[q] :: mg (l.length + m.length + 1 - p - (q + 1)) (l.drop p) (m.drop (q + 1)) := by
  subst h1
  rw [List.drop_eq_getElem_cons h2, List.drop_length, show l.length + m.length + 1 - l.length - q = (l.length + m.length + 1 - l.length - (q + 1)) + 1 by omega]
  obtain ⟨n, hn⟩ : ∃ n, l.length + m.length + 1 - l.length - (q + 1) = n + 1 := ⟨m.length - q - 1, by omega⟩
  rw [hn]
  simp [mg]
theorem mg_end (l m : List Tr) (p q n : Nat) (h1 : p = l.length) (h2 : q = m.length) : mg n (l.drop p) (m.drop q) = [] := by
  subst h1; subst h2
  cases n <;> simp [mg]

end Go.Proofs.YtghnonbcojbohaaGreatDoor.Tr

namespace Go.Proofs.YtghnonbcojbohaaGreatDoor.Rw
open Go Go.RowKit
set_option maxRecDepth 20000

set_option maxHeartbeats 1000000 in
theorem kids_none (v : Value) (l : List Nd) (w : World) (hv : Nds w v l) (hl : l.length ≤ 1000000) (hs : size l = 0) :
    Calls Tryz.prog 65 #[v] w fun e w' => e = .returned (.slice none 0 0) ∧ w = w' := by
  have HV := Lib.hid hv
  have HS := Lib.hid hs
  obtain ⟨_, a, cap, rfl, -⟩ := hv
  clear hs
  go_enter Tryz.func65, Tryz.ntmps65
  go_wp2_with fail
  refine (sizeR_any _ l _ HV.out hl).mono ?_
  rw [HS.out]
  rintro e w' ⟨rfl, rfl⟩
  go_wp2_with fail
  go_ret
  exact ⟨rfl, rfl⟩

/-- What the loop has made: the first k kids, in a row of its own. -/
def Made (w wr : World) (v : Value) (l : List Nd) (k p : Nat) : Prop := ∃ cs d, Far l 0 k p d ∧ wr.ownsRow w.heap.size 22 1 v k cs ∧ RwC w cs (kidsN k (l.drop 1)) ∧ Below w.heap.size w wr
theorem Made.start (w : World) (l : List Nd) : Made w w (.slice none 0 0) l 0 1 := ⟨[], 0, Far.start l 0, ⟨rfl, .inl ⟨rfl, rfl⟩⟩, trivial, Below.refl _ _⟩
theorem Made.next {w wr : World} {v : Value} {l : List Nd} {k p c' d' b off cap : Nat} (h : Made w wr v l k p) (ht : T (l.drop p) = some (c', d')) (hat : At w b off l) (hp : p + c' ≤ l.length) (hc : c' ≤ cap) (hk : k ≤ 2) :
    ∃ v' w', (Builtin.append_ #[54, 54] 54 #[v, .slice (some ⟨wr.heap.size, 0, none⟩) 1 1]).run Tryz.prog (wr.alloc (.cells #[.slice (some ⟨b, off + p * 3, none⟩) c' cap] 22)) = .ok v' w' ∧ Made w w' v' l (k + 1) (p + c') := by
  obtain ⟨cs, d, hfar, hown, hrw, hb⟩ := h
  obtain ⟨i0, hi, hz, hs1, hb8⟩ := info_parts infoR
  obtain ⟨v', w', h1, h2, h3, h4, h5⟩ := Ap.run_append_one (P := Tryz.prog) (ty := 54) Tryz.underlying54 hi hz hs1 hb8 (by rfl) (by omega) hown hb.size #[.slice (some ⟨b, off + p * 3, none⟩) c' cap] rfl
    (by intro u hu; simp at hu; subst hu; rfl) (by unfold maxLen; omega) (by omega)
  refine ⟨v', w', h1, cs ++ [.slice (some ⟨b, off + p * 3, none⟩) c' cap], max d d', hfar.next ht, h2, ?_, hb.trans h4⟩
  rw [kids_next hfar ht]
  exact hrw.snoc (part_nds hat p c' cap hp hc)

set_option maxHeartbeats 2000000 in
theorem kids_cells (b off cap : Nat) (l : List Nd) (w : World) (hn : Nds w (.slice (some ⟨b, off, none⟩) l.length cap) l) (hat : At w b off l) (hl : l.length ≤ 1000000) (hcap : l.length ≤ cap) (hs : size l ≠ 0) :
    Calls Tryz.prog 65 #[.slice (some ⟨b, off, none⟩) l.length cap] w fun e w' => ∃ y, e = .returned y ∧ Rws w' y (kids l) ∧ Below w.heap.size w w' := by
  have h0 : 0 < l.length := by have := size_le l; omega
  have HN := Lib.hid hn
  have HA := Lib.hid hat
  have HS := Lib.hid hs
  have hz := size_le l
  have HM := Lib.hid (fun k p d => kids_more (k := k) (p := p) (d := d) h0 hs)
  have HK := Lib.hid (kids_of h0 hs)
  have hbd := ar_le l[0].k
  have e0 := (hat 0 h0).1
  rw [Nat.zero_mul, Nat.add_zero] at e0
  obtain ⟨z, hzz⟩ : ∃ z, size l = z := ⟨_, rfl⟩
  have HZ := Lib.hid hzz
  rw [hzz] at hs hz
  have gz : ((z : Int) == 0) = false := by rw [beq_eq_false_iff_ne]; omega
  obtain ⟨kk, hkk⟩ : ∃ kk, l[0].k = kk := ⟨_, rfl⟩
  rw [hkk] at hbd e0 HM HK
  obtain ⟨x, hx⟩ : ∃ x, ar kk = x := ⟨_, rfl⟩
  have HX := Lib.hid hx
  rw [hx] at hbd HM HK
  have E0 := Lib.hid e0
  clear hn hat hkk hx hzz e0
  go_enter Tryz.func65, Tryz.ntmps65
  go_wp2_with fail
  refine (sizeR_any _ l _ HN.out hl).mono ?_
  rw [HZ.out]
  rintro e w' ⟨rfl, rfl⟩
  go_wp2_with fail
  go_loopw [3, 4, 5] (fun o a i wr => ∃ k p : Nat, (k : Int) ≤ max x 0 ∧ p ≤ l.length ∧ a = .int .i64 p ∧ i = .int .i64 k ∧ Hid (Made w wr o l k p)) (fun _ _ i _ => (x - intOf i).toNat)
  case atStart => exact ⟨0, 1, by omega, by omega, rfl, rfl, Lib.hid (Made.start w l)⟩
  case round =>
    obtain ⟨k, p, hk, hp, rfl, rfl, HD⟩ := hrel
    have HB : Hid (Below w.heap.size w wr) := by obtain ⟨_, _, _, _, _, hb⟩ := HD.out; exact hb
    have c0 : wr.cell? ⟨b, off, none⟩ = some (.int .i64 kk) := by rw [HB.out.cell (Ap.cell_lt E0.out)]; exact E0.out
    by_cases hkl : (k : Int) < x
    · obtain ⟨c', d', ht⟩ : ∃ c' d', T (l.drop p) = some (c', d') := by
        obtain ⟨_, d, hfar, _⟩ := HD.out
        exact HM.out k p d hfar hkl
      have hb' := T_bd ht
      rw [List.length_drop] at hb'
      obtain ⟨q, hq⟩ : ∃ q, p + c' = q := ⟨_, rfl⟩
      obtain rfl : c' = q - p := by omega
      have HT := Lib.hid ht
      have HQ : Hid (WalkPost p (some (q - p, d')) = fun w e w' => e = .returned (.tuple #[.int .i64 (q : Int), .int .i64 (d' : Int)]) ∧ w = w') := by
        funext w e w'
        unfold WalkPost
        have hnx : nx p (some (q - p, d')) = (q : Int) := by simp only [nx]; omega
        rw [hnx]
        rfl
      obtain ⟨v', w', hrun, hmade⟩ := HD.out.next (cap := cap - p) ht HA.out (by omega) (by omega) (by omega)
      rw [hq] at hmade
      have R := Lib.hid hrun
      have HD' := Lib.hid hmade
      have i1 : p ≤ q := by omega
      have i2 : q ≤ cap := by omega
      have i3 : p < cap := by omega
      have i4 : q ≤ l.length := by omega
      clear ht hb' hq hrun hmade
      go_wp2_with fail
      refine (arR_any _ _).mono ?_
      rw [HX.out]
      rintro e w'' ⟨rfl, rfl⟩
      go_wp2_with fail
      refine (walk_any _ l p _ (HN.out.below HB.out) hl hp).mono ?_
      rw [HT.out, HQ.out]
      rintro e w'' ⟨rfl, rfl⟩
      go_wp2_with (at_builtin; refine Ap.wpList_append_run (by rfl) (.tmp 26) (.tmp 31) _ _ rfl _ _ rfl rfl v' w' R.out ?_)
      go_roundw
      case rel => exact ⟨k + 1, q, by omega, i4, rfl, by go_num, HD'⟩
      case measure => simp [intOf]; omega
    · go_wp2_with fail
      refine (arR_any _ _).mono ?_
      rw [HX.out]
      rintro e w'' ⟨rfl, rfl⟩
      go_wp2_with fail
      go_ret
      refine ⟨_, rfl, ?_, HB.out⟩
      obtain ⟨cs, d, _, hown, hrw, hb⟩ := HD.out
      rw [HK.out, show x.toNat = k by omega]
      refine ⟨cs, ?_, hrw.below hb⟩
      rw [kidsN_len]
      exact Ap.Rd.owned hown
theorem kidsR_any (v : Value) (l : List Nd) (w : World) (hv : Nds w v l) (hl : l.length ≤ 1000000) :
    Calls Tryz.prog 65 #[v] w fun e w' => ∃ y, e = .returned y ∧ Rws w' y (kids l) ∧ Below w.heap.size w w' := by
  by_cases hs : size l = 0
  · refine (kids_none v l w hv hl hs).mono ?_
    rintro e w' ⟨rfl, rfl⟩
    refine ⟨_, rfl, ⟨[], ?_, ?_⟩, Below.refl _ _⟩
    · unfold kids
      rw [if_pos hs]
      exact ⟨rfl, none, 0, rfl, Nat.le_refl _, fun _ => ⟨rfl, rfl⟩, fun h => absurd h (Nat.lt_irrefl 0)⟩
    · unfold kids
      rw [if_pos hs]
      trivial
  · rcases hv.form with ⟨rfl, _, _, rfl⟩ | ⟨b, off, cap, rfl, hc, hat⟩
    · exact absurd rfl hs
    · exact kids_cells b off cap l w hv hat hl hc hs
end Go.Proofs.YtghnonbcojbohaaGreatDoor.Rw

namespace Go.Proofs.YtghnonbcojbohaaGreatDoor.Tr
open Go Go.RowKit
set_option maxRecDepth 20000

theorem below_grow (w : World) (n : Nat) (os : Array Obj) : Below w.heap.size w (Go.Sort.grow (w.drewN n) os) :=
  ⟨rfl, rfl, rfl, by simp [Go.Sort.grow, World.drewN], fun k hk => by
    show (w.heap ++ os)[k]? = w.heap[k]?
    rw [Array.getElem?_append_left hk]⟩
theorem grow2_eq (w : World) (x y : Obj) : (w.alloc x).alloc y = Go.Sort.grow w #[x, y] := by
  rw [Go.Sort.alloc_eq_grow, Go.Sort.alloc_eq_grow, Go.Sort.grow_grow]
  rfl
theorem grow3_eq (w : World) (x y z : Obj) : ((w.alloc x).alloc y).alloc z = Go.Sort.grow w #[x, y, z] := by
  rw [grow2_eq, Go.Sort.alloc_eq_grow, Go.Sort.grow_grow]
  rfl
theorem grow3_drew (w : World) (x y z : Obj) : (((w.alloc x).alloc y).alloc z).drew = Go.Sort.grow (w.drewN 1) #[x, y, z] := by
  rw [grow3_eq]
  rfl
theorem strs_alloc2 {w : World} {v : Value} {l : List ByteArray} (h : Strs w v l) (x y : Obj) : Strs (((w.alloc x).alloc y).drew) v l :=
  h.below (((Below.refl _ _).alloc (Nat.le_refl _) x).alloc (by simp) y).drew

set_option maxHeartbeats 2000000 in
theorem against_any (v1 v2 : Value) (p q : Tr) (w : World) (h1 : Strs w v1 p.a) (h2 : Strs w v2 q.a) (hl : p.a.length ≤ 1000000000000) (hm : q.a.length ≤ 1000000000000) :
    Calls Tryz.prog 54 #[.agg #[v1, .int .i64 p.e], .agg #[v2, .int .i64 q.e]] w fun e w' => e = .returned (.int .i64 (cmp p q)) ∧ ∃ n os, w' = Go.Sort.grow (w.drewN n) os := by
  have H1 := Lib.hid (strs_alloc2 h1)
  have H2 := Lib.hid (strs_alloc2 h2)
  obtain ⟨_, a1, c1, rfl, -⟩ := h1
  obtain ⟨_, a2, c2, rfl, -⟩ := h2
  have HC := Lib.hid (cmp_or p q)
  obtain ⟨x, hx⟩ : ∃ x, sg3 (row p.a q.a) = x := ⟨_, rfl⟩
  obtain ⟨y, hy⟩ : ∃ y, cmpI p.e q.e = y := ⟨_, rfl⟩
  have R1 : Hid (∀ w, Strs w (.slice a1 p.a.length c1) p.a → Strs w (.slice a2 q.a.length c2) q.a → Calls Tryz.prog 93 #[.slice a1 p.a.length c1, .slice a2 q.a.length c2] w fun e w' => e = .returned (.int .i64 x) ∧ w' = w) := Lib.hid (fun w ha hb => by rw [← hx]; exact rowc_any _ _ _ _ w ha hb hl hm)
  have R2 : Hid (∀ w, Calls Tryz.prog 94 #[.int .i64 p.e, .int .i64 q.e] w fun e w' => e = .returned (.int .i64 y) ∧ w' = w) := Lib.hid (fun w => by rw [← hy]; exact cmpI_any _ _ w)
  rw [hx, hy] at HC
  have R3 : Hid (∀ b w, w.cell? ⟨b, 0, none⟩ = some (.int .i64 x) → w.cell? ⟨b, 1, none⟩ = some (.int .i64 y) → Calls Tryz.prog 92 #[.slice (some ⟨b, 0, none⟩) 2 2] w fun e w' => e = .returned (.int .i64 (cmp p q)) ∧ w' = w) := Lib.hid (fun b w ha hb => by rw [← HC.out]; exact or2_any x y b w ha hb)
  clear hx hy HC
  go_enter Tryz.func54, Tryz.ntmps54
  go_wp2_with fail
  go_region_held3 (fun w' => w'.cell? ⟨w.heap.size, 0, none⟩ = some (.slice a1 p.a.length c1) ∧ w'.cell? ⟨w.heap.size, 1, none⟩ = some (.int .i64 p.e) ∧ w'.cell? ⟨w.heap.size + 1, 0, none⟩ = some (.slice a2 q.a.length c2) ∧ w'.cell? ⟨w.heap.size + 1, 1, none⟩ = some (.int .i64 q.e)) (first | (simp [go_sem]; done) | go_keep | fail) (first
    | (go_at_call 93
       refine (R1.out _ (H1.out _ _) (H2.out _ _)).mono ?_
       rintro e w' ⟨rfl, rfl⟩)
    | (go_at_call 94
       refine (R2.out _).mono ?_
       rintro e w' ⟨rfl, rfl⟩)
    | (go_at_call 92
       refine (R3.out _ _ (by simp [go_sem]) (by simp [go_sem])).mono ?_
       rintro e w' ⟨rfl, rfl⟩)
    | fail)
  go_wp2_with fail
  go_ret
  exact ⟨rfl, 1, _, grow3_drew _ _ _ _⟩

/-- The program's test whether two traces of a row are the same one. -/
def EqPost (p q : Tr) (w : World) (e : Ending) (w' : World) : Prop := e = .returned (.bool (cmp p q == 0)) ∧ Below w.heap.size w w'
set_option maxHeartbeats 1000000 in
theorem set1_any (v1 v2 : Value) (p q : Tr) (w : World) (h1 : Strs w v1 p.a) (h2 : Strs w v2 q.a) (hl : p.a.length ≤ 1000000000000) (hm : q.a.length ≤ 1000000000000) :
    Calls Tryz.prog 56 #[.agg #[v1, .int .i64 p.e], .agg #[v2, .int .i64 q.e]] w (EqPost p q w) := by
  have H1 := Lib.hid (fun x y => h1.below (((Below.refl _ _).alloc (Nat.le_refl _) x).alloc (by simp) y))
  have H2 := Lib.hid (fun x y => h2.below (((Below.refl _ _).alloc (Nat.le_refl _) x).alloc (by simp) y))
  obtain ⟨_, a1, c1, rfl, -⟩ := h1
  obtain ⟨_, a2, c2, rfl, -⟩ := h2
  have HB : Hid (∀ x y n os, Below w.heap.size w (Go.Sort.grow (((w.alloc x).alloc y).drewN n) os)) := Lib.hid fun x y n os => (((Below.refl _ _).alloc (Nat.le_refl _) _).alloc (by simp) _).trans ((below_grow _ n os).mono (by simp; omega))
  unfold EqPost
  cases hc : cmp p q == 0 with
  | true =>
    have hc' : cmp p q = 0 := by simpa using hc
    have A := Lib.hid (fun w ha hb => against_any (.slice a1 p.a.length c1) (.slice a2 q.a.length c2) p q w ha hb hl hm)
    rw [hc'] at A
    clear hc hc'
    go_enter Tryz.func56, Tryz.ntmps56
    go_wp2_with (go_at_call 54; refine (A.out _ (H1.out _ _) (H2.out _ _)).mono ?_; rintro e w' ⟨rfl, n, os, rfl⟩)
    go_ret
    exact ⟨rfl, HB.out _ _ n os⟩
  | false =>
    have hc' : cmp p q ≠ 0 := by simpa using hc
    have A := Lib.hid (fun w ha hb => against_any (.slice a1 p.a.length c1) (.slice a2 q.a.length c2) p q w ha hb hl hm)
    generalize cmp p q = c at A hc' ⊢
    clear hc
    go_enter Tryz.func56, Tryz.ntmps56
    go_wp2_with (go_at_call 54; refine (A.out _ (H1.out _ _) (H2.out _ _)).mono ?_; rintro e w' ⟨rfl, n, os, rfl⟩)
    go_ret
    exact ⟨by simp [hc'], HB.out _ _ n os⟩
end Go.Proofs.YtghnonbcojbohaaGreatDoor.Tr

namespace Go.Proofs.YtghnonbcojbohaaGreatDoor.Rx
open Go Go.RowKit Rw
set_option maxRecDepth 20000

theorem infoI : (Tryz.prog.info? 3).map (fun i => (i.zero, i.size, i.bytes)) = some (some (.int .i64 0), 1, 8) := by kernel_rfl
def ic (st : List Nat) : List Value := st.map fun (k : Nat) => .int .i64 (k : Int)
/-- A row of numbers in a block of the call's own. -/
def Stk (base : Nat) (w : World) (g cap : Nat) (st : List Nat) : Prop := w.ownsRow base 3 1 (.slice (some ⟨g, 0, none⟩) st.length cap) st.length (ic st)
theorem Stk.parts {base : Nat} {w : World} {g cap : Nat} {st : List Nat} (h : Stk base w g cap st) : ∃ cur : Array Value, w.heap[g]? = some (.cells cur 3 (0, 0)) ∧ base ≤ g ∧ cap ≤ maxLen ∧ cur.size = cap ∧ st.length ≤ cap ∧ cur.toList.take st.length = ic st := by
  obtain ⟨_, ⟨h0, _⟩ | ⟨g', cap', cur, hv, hb, hg, hn, hm, hs, ht⟩⟩ := h
  · cases h0
  · cases hv
    exact ⟨cur, hg, hb, hm, by simpa using hs, hn, by simpa using ht⟩
theorem Stk.of {base : Nat} {w : World} {g cap : Nat} {st : List Nat} {cur : Array Value} (hg : w.heap[g]? = some (.cells cur 3 (0, 0))) (hb : base ≤ g) (hm : cap ≤ maxLen) (hs : cur.size = cap) (hn : st.length ≤ cap) (ht : cur.toList.take st.length = ic st) : Stk base w g cap st :=
  ⟨by simp [ic], .inr ⟨g, cap, cur, rfl, hb, hg, hn, hm, by simpa using hs, by simpa using ht⟩⟩
theorem Stk.cell {base : Nat} {w : World} {g cap : Nat} {st : List Nat} (h : Stk base w g cap st) (j : Nat) (hj : j < st.length) : w.cell? ⟨g, j, none⟩ = some (.int .i64 (st[j] : Int)) := by
  obtain ⟨cur, hg, _, _, hs, hn, ht⟩ := h.parts
  have : cur.toList[j]? = (ic st)[j]? := by rw [← ht, List.getElem?_take_of_lt hj]
  simp only [ic, List.getElem?_map, List.getElem?_eq_getElem hj, Option.map_some] at this
  simp only [World.cell?, hg]
  simpa using this
theorem Stk.soft {base : Nat} {w : World} {g cap : Nat} {st : List Nat} (h : Stk base w g cap st) (j : Nat) : w.frozen? ⟨g, j, none⟩ = false := by
  obtain ⟨cur, hg, _⟩ := h.parts
  simp [World.frozen?, hg]
theorem Stk.cap {base : Nat} {w : World} {g cap : Nat} {st : List Nat} (h : Stk base w g cap st) : st.length ≤ cap ∧ cap ≤ maxLen := by
  obtain ⟨cur, _, _, hm, _, hn, _⟩ := h.parts
  exact ⟨hn, hm⟩
theorem heap_setCell (w : World) (g o : Nat) (v : Value) (k : Nat) : (w.setCell ⟨g, o, none⟩ v).heap[k]? = if g = k then (w.heap[k]?).map (fun x => match x with | .cells c elem frozen => .cells (c.setIfInBounds o v) elem frozen | o => o) else w.heap[k]? := by
  simp only [World.setCell, Array.getElem?_modify]
  by_cases h : g = k
  · simp [h]
    rfl
  · simp [h]
/-- The nearest number that is above zero made one fewer; what stood behind it is gone. -/
theorem Stk.down {base : Nat} {w : World} {g cap : Nat} {st : List Nat} (h : Stk base w g cap st) (i y : Nat) (hi : i < st.length) : Stk base (w.setCell ⟨g, i, none⟩ (.int .i64 (y : Int))) g cap (st.take i ++ [y]) := by
  obtain ⟨cur, hg, hb, hm, hs, hn, ht⟩ := h.parts
  refine Stk.of (cur := cur.setIfInBounds i (.int .i64 (y : Int))) (by simp [heap_setCell, hg]) hb hm (by simpa using hs) (by simp; omega) ?_
  have hl : (st.take i ++ [y]).length = i + 1 := by simp; omega
  rw [hl]
  refine List.ext_getElem? fun j => ?_
  rw [List.getElem?_take]
  by_cases hj : j < i + 1
  · rw [if_pos hj, Array.getElem?_toList, Array.getElem?_setIfInBounds]
    by_cases hji : j = i
    · subst hji
      rw [if_pos rfl, if_pos (by omega)]
      simp [ic, List.length_take, Nat.min_eq_left (Nat.le_of_lt hi)]
    · have e : cur.toList[j]? = (ic st)[j]? := by rw [← ht, List.getElem?_take_of_lt (by omega)]
      rw [if_neg (by omega), ← Array.getElem?_toList, e]
      simp only [ic, List.getElem?_map]
      rw [List.getElem?_append_left (by simp; omega), List.getElem?_take_of_lt (by omega)]
  · rw [if_neg hj, List.getElem?_eq_none (by simp [ic]; omega)]
theorem below_setCell {B : Nat} {w0 w : World} (h : Below B w0 w) (g o : Nat) (v : Value) (hg : B ≤ g) : Below B w0 (w.setCell ⟨g, o, none⟩ v) :=
  ⟨h.os, h.tape, h.output, by rw [show (w.setCell ⟨g, o, none⟩ v).heap.size = w.heap.size by simp [World.setCell]]; exact h.size, fun k hk => by rw [heap_setCell, if_neg (by omega)]; exact h.block k hk⟩
theorem Stk.push {base : Nat} {w : World} {g cap : Nat} {st : List Nat} (a : Nat) (h : Stk base w g cap st) (hbase : base ≤ w.heap.size) (hlen : st.length ≤ 2000000) :
    ∃ g' cap' w', (Builtin.append_ #[50, 50] 50 #[.slice (some ⟨g, 0, none⟩) st.length cap, .slice (some ⟨w.heap.size, 0, none⟩) 1 1]).run Tryz.prog (w.alloc (.cells #[.int .i64 (a : Int)] 3)) = .ok (.slice (some ⟨g', 0, none⟩) (st.length + 1) cap') w' ∧ Stk base w' g' cap' (st ++ [a]) ∧ Below base w w' := by
  obtain ⟨i0, hi, hz, hs1, hb8⟩ := info_parts infoI
  obtain ⟨v', w', h1, h2, h3, h4, h5⟩ := Ap.run_append_one (P := Tryz.prog) (ty := 50) Tryz.underlying50 hi hz hs1 hb8 (by rfl) (by omega) h hbase #[.int .i64 (a : Int)] rfl
    (by intro u hu; simp at hu; subst hu; rfl) (by unfold maxLen; omega) (by omega)
  have hform : ∃ g' cap', v' = .slice (some ⟨g', 0, none⟩) (st.length + 1) cap' := by
    obtain ⟨_, ⟨_, h0⟩ | ⟨g', cap', cur, hv, _⟩⟩ := h2
    · omega
    · exact ⟨g', cap', hv⟩
  obtain ⟨g', cap', rfl⟩ := hform
  refine ⟨g', cap', w', h1, ?_, h4⟩
  unfold Stk
  have e : ic (st ++ [a]) = ic st ++ [.int .i64 (a : Int)] := by simp [ic]
  rw [e, show (st ++ [a]).length = st.length + 1 by simp]
  exact h2
theorem pop_last {st : List Nat} {i : Nat} (h : i < st.length) : (st.take (i + 1)).reverse = st[i] :: (st.take i).reverse := by
  rw [List.take_succ_eq_append_getElem h, List.reverse_append]
  rfl
/-- What is still to be told. -/
def Rest (l : List Nd) (k : Nat) (st : List Nat) (d : Nat) : Prop := Rx.ms (l.drop k) st.reverse d k = (size l, depth l)
theorem Rest.start (l : List Nd) : Rest l 0 [] 0 := ms_of l
theorem Rest.stop {l : List Nd} {k d : Nat} {st : List Nat} (h : Rest l k st d) (hk : k < l.length) (ha : ar l[k].k < 0) : size l = 0 ∧ depth l = 0 := by
  unfold Rest at h
  rw [List.drop_eq_getElem_cons hk, Rx.ms, if_pos ha] at h
  exact ⟨(congrArg Prod.fst h).symm, (congrArg Prod.snd h).symm⟩
theorem Rest.out {l : List Nd} {k d : Nat} {st : List Nat} (h : Rest l k st d) (hk : ¬ k < l.length) : size l = 0 ∧ depth l = 0 := by
  unfold Rest at h
  rw [List.drop_eq_nil_of_le (by omega), Rx.ms] at h
  exact ⟨(congrArg Prod.fst h).symm, (congrArg Prod.snd h).symm⟩
theorem Rest.end {l : List Nd} {k d a : Nat} {st : List Nat} (h : Rest l k st d) (hk : k < l.length) (ha : ar l[k].k = (a : Int)) (hp : pop (st ++ [a]).reverse = none) : size l = k + 1 ∧ depth l = max d (st.length + 1) := by
  unfold Rest at h
  rw [List.reverse_concat] at hp
  rw [List.drop_eq_getElem_cons hk, Rx.ms, if_neg (by omega), ha, Int.toNat_natCast, hp, List.length_reverse] at h
  exact ⟨(congrArg Prod.fst h).symm, (congrArg Prod.snd h).symm⟩
theorem Rest.more {l : List Nd} {k d a : Nat} {st s : List Nat} (h : Rest l k st d) (hk : k < l.length) (ha : ar l[k].k = (a : Int)) (hp : pop (st ++ [a]).reverse = some s.reverse) : Rest l (k + 1) s (max d (st.length + 1)) := by
  unfold Rest at h ⊢
  rw [List.reverse_concat] at hp
  rw [List.drop_eq_getElem_cons hk, Rx.ms, if_neg (by omega), ha, Int.toNat_natCast, hp, List.length_reverse] at h
  exact h
end Go.Proofs.YtghnonbcojbohaaGreatDoor.Rx

namespace Go.Proofs.YtghnonbcojbohaaGreatDoor.Rw
open Go Go.RowKit
set_option maxRecDepth 20000

/-- A row of the call's own that may be written into; out: a block in which it does not lie. -/
def Own1 (base : Nat) (out : Option Nat) (w : World) (a : Value) (r : List Nd) : Prop :=
  Ap.RdO (fun g => base ≤ g ∧ some g ≠ out) w 3 a r.length (cls r) ∧ ∀ b off cap, a = .slice (some ⟨b, off, none⟩) r.length cap → ∀ j, j < r.length * 3 → w.frozen? ⟨b, off + j, none⟩ = false
def OwnC (base : Nat) (out : Option Nat) (w : World) : List Value → List (List Nd) → Prop
  | [], [] => True
  | a :: cs, r :: rs => Own1 base out w a r ∧ OwnC base out w cs rs
  | _, _ => False
def blk : Value → Option Nat
  | .slice (some a) _ _ => some a.block
  | _ => none
def KidsPost (ls : List (List Nd)) (w : World) (e : Ending) (w' : World) : Prop :=
  ∃ y cs, e = .returned y ∧ Ap.RdO (fun g => w.heap.size ≤ g) w' 1 y ls.length cs ∧ OwnC w.heap.size (blk y) w' cs ls ∧ Below w.heap.size w w'
theorem OwnC.rwc {base : Nat} {out : Option Nat} {w : World} : ∀ {cs : List Value} {ls : List (List Nd)}, OwnC base out w cs ls → RwC w cs ls
  | [], [], _ => trivial
  | _ :: _, _ :: _, h => ⟨h.1.1.rd, OwnC.rwc h.2⟩
  | [], _ :: _, h => h.elim
  | _ :: _, [], h => h.elim
end Go.Proofs.YtghnonbcojbohaaGreatDoor.Rw
