/- Rows of nodes in memory; the document's Arity and Walk over them. Plain: how tokens are read as a tree, with fuel; more fuel changes nothing, and there is enough. Rows of tokens in memory; the document's letter, kind, named, Word, Same. Plain: the size and the depth of the tree with which a row begins, told node by node with a stack of how many trees are still to begin. -/
import Derived.Test.YtdhaghabhdeakaaProg
import Derived.Test.YtdhaghabhdeakaaQ01
import Derived.WalkKit
import Derived.WalkSpells
import Derived.WalkLawsBesides
import Derived.Lib.Hide
import Derived.Test.YtdhaghabhdeakaaQ02
import Derived.Deep.QuietTactic
import Derived.BigQuiet
import Derived.Laws.StructEq

namespace Go.Proofs.Ytdhaghabhdeakaa.Rw
open Go Go.RowKit
set_option maxRecDepth 20000

theorem ret_int {k : IntKind} {a b : Int} (h : a = b) : Ending.returned (.int k a) = .returned (.int k b) := congrArg (fun z => Ending.returned (.int k z)) h
theorem ret_bool {a b : Bool} (h : a = b) : Ending.returned (.bool a) = .returned (.bool b) := by rw [h]

/-- A node's cells. -/
def cl (x : Nd) : List Value := [.int .i64 x.k, .string x.n, .int .i64 x.s]
def cls : List Nd → List Value
  | [] => []
  | x :: l => cl x ++ cls l
theorem cls_len : ∀ l : List Nd, (cls l).length = l.length * 3
  | [] => rfl
  | x :: l => by rw [cls, List.length_append, cls_len l]; simp [cl]; omega
theorem cls_append : ∀ l m : List Nd, cls (l ++ m) = cls l ++ cls m
  | [], _ => rfl
  | x :: l, m => by rw [List.cons_append, cls, cls_append l m, cls, List.append_assoc]
theorem cls_at : ∀ (l : List Nd) (k : Nat) (h : k < l.length), (cls l)[k * 3]? = some (.int .i64 l[k].k) ∧ (cls l)[k * 3 + 1]? = some (.string l[k].n) ∧ (cls l)[k * 3 + 2]? = some (.int .i64 l[k].s)
  | [], k, h => by simp at h
  | x :: l, 0, _ => ⟨rfl, rfl, rfl⟩
  | x :: l, k + 1, h => by
    have := cls_at l k (by simpa using h)
    simpa [cls, cl, show (k + 1) * 3 = k * 3 + 1 + 1 + 1 by omega] using this
/-- A slice of nodes that reads as these. -/
def Nds (w : World) (v : Value) (l : List Nd) : Prop := Ap.Rd w 3 v l.length (cls l)
theorem Nds.below {w w' : World} {v : Value} {l : List Nd} (h : Nds w v l) (hb : Below w.heap.size w w') : Nds w' v l := Ap.Rd.below h hb
/-- Node k's three cells. -/
def At (w : World) (b off : Nat) (l : List Nd) : Prop := ∀ k, (h : k < l.length) → w.cell? ⟨b, off + k * 3, none⟩ = some (.int .i64 l[k].k) ∧ w.cell? ⟨b, off + k * 3 + 1, none⟩ = some (.string l[k].n) ∧ w.cell? ⟨b, off + k * 3 + 2, none⟩ = some (.int .i64 l[k].s)
theorem Nds.form {w : World} {v : Value} {l : List Nd} (h : Nds w v l) :
    (l = [] ∧ ∃ a cap, v = .slice a 0 cap) ∨ ∃ b off cap, v = .slice (some ⟨b, off, none⟩) l.length cap ∧ l.length ≤ cap ∧ At w b off l := by
  obtain ⟨_, a, cap, rfl, hle, _, hcell⟩ := h
  by_cases h0 : 0 < l.length
  · obtain ⟨b, off, rfl, hj⟩ := hcell h0
    refine Or.inr ⟨b, off, cap, rfl, hle, fun k hk => ?_⟩
    obtain ⟨h1, h2, h3⟩ := cls_at l k hk
    exact ⟨hj _ _ h1, by rw [Nat.add_assoc]; exact hj _ _ h2, by rw [Nat.add_assoc]; exact hj _ _ h3⟩
  · have : l = [] := List.eq_nil_of_length_eq_zero (by omega)
    subst this
    exact Or.inl ⟨rfl, a, cap, rfl⟩

theorem cases15 (k : Int) : k = 1 ∨ k = 2 ∨ k = 3 ∨ k = 4 ∨ k = 5 ∨ k = 6 ∨ k = 7 ∨ k = 8 ∨ k = 9 ∨ k = 10 ∨ k = 11 ∨ k = 12 ∨ k = 13 ∨ k = 14 ∨ (k ≠ 1 ∧ k ≠ 2 ∧ k ≠ 3 ∧ k ≠ 4 ∧ k ≠ 5 ∧ k ≠ 6 ∧ k ≠ 7 ∧ k ≠ 8 ∧ k ≠ 9 ∧ k ≠ 10 ∧ k ≠ 11 ∧ k ≠ 12 ∧ k ≠ 13 ∧ k ≠ 14) := by omega
theorem ar_no {k : Int} (h : k ≠ 1 ∧ k ≠ 2 ∧ k ≠ 3 ∧ k ≠ 4 ∧ k ≠ 5 ∧ k ≠ 6 ∧ k ≠ 7 ∧ k ≠ 8 ∧ k ≠ 9 ∧ k ≠ 10 ∧ k ≠ 11 ∧ k ≠ 12 ∧ k ≠ 13 ∧ k ≠ 14) : ar k = -1 := by
  unfold ar
  rw [if_neg (by omega), if_neg (by omega), if_neg (by omega)]

set_option maxHeartbeats 1000000 in
theorem arR_any (k : Int) (w : World) : Calls Try.prog 60 #[.int .i64 k] w fun e w' => e = .returned (.int .i64 (ar k)) ∧ w = w' := by
  rcases cases15 k with rfl | rfl | rfl | rfl | rfl | rfl | rfl | rfl | rfl | rfl | rfl | rfl | rfl | rfl | h
  case inr.inr.inr.inr.inr.inr.inr.inr.inr.inr.inr.inr.inr.inr =>
    have hr := Lib.hid (ar_no h)
    obtain ⟨h1, h2, h3, h4, h5, h6, h7, h8, h9, h10, h11, h12, h13, h14⟩ := h
    have b1 : (k == 1) = false := by simp [h1]
    have b2 : (k == 2) = false := by simp [h2]
    have b3 : (k == 3) = false := by simp [h3]
    have b4 : (k == 4) = false := by simp [h4]
    have b5 : (k == 5) = false := by simp [h5]
    have b6 : (k == 6) = false := by simp [h6]
    have b7 : (k == 7) = false := by simp [h7]
    have b8 : (k == 8) = false := by simp [h8]
    have b9 : (k == 9) = false := by simp [h9]
    have b10 : (k == 10) = false := by simp [h10]
    have b11 : (k == 11) = false := by simp [h11]
    have b12 : (k == 12) = false := by simp [h12]
    have b13 : (k == 13) = false := by simp [h13]
    have b14 : (k == 14) = false := by simp [h14]
    clear h1 h2 h3 h4 h5 h6 h7 h8 h9 h10 h11 h12 h13 h14
    go_enter Try.func60, Try.ntmps60
    go_wp2_with fail
    go_ret
    exact ⟨ret_int hr.out.symm, rfl⟩
  all_goals
    go_enter Try.func60, Try.ntmps60
    go_wp2_with fail
    go_ret
    exact ⟨rfl, rfl⟩

/-- Where the tree at a place ends, below 0 if there is none; its depth. -/
def nx (i : Nat) : Option (Nat × Nat) → Int
  | none => -1
  | some (c, _) => i + c
def dp : Option (Nat × Nat) → Int
  | none => 0
  | some (_, d) => d
def WalkPost (i : Nat) (r : Option (Nat × Nat)) (w : World) (e : Ending) (w' : World) : Prop := e = .returned (.tuple #[.int .i64 (nx i r), .int .i64 (dp r)]) ∧ w = w'
theorem T_at {l : List Nd} {i : Nat} (h : i < l.length) (hk : ¬ ar l[i].k < 0) : T (l.drop i) = match S (ar l[i].k).toNat (l.drop (i + 1)) with
    | none => none
    | some (c, d) => some (c + 1, d + 1) := by
  rw [List.drop_eq_getElem_cons h, T_cons, if_neg hk]
  rfl
theorem T_no {l : List Nd} {i : Nat} (h : i < l.length) (hk : ar l[i].k < 0) : T (l.drop i) = none := by
  rw [List.drop_eq_getElem_cons h, T_cons, if_pos hk]
/-- How far k kids have come. -/
def Far (l : List Nd) (i k p d : Nat) : Prop := ∃ c, S k (l.drop (i + 1)) = some (c, d) ∧ p = i + 1 + c
theorem Far.start (l : List Nd) (i : Nat) : Far l i 0 (i + 1) 0 := ⟨0, S_zero _, rfl⟩
theorem Far.le {l : List Nd} {i k p d : Nat} (h : Far l i k p d) (hi : i < l.length) : p ≤ l.length ∧ i < p ∧ d ≤ l.length := by
  obtain ⟨c, hs, rfl⟩ := h
  have := S_bd hs
  rw [List.length_drop] at this
  omega
theorem Far.stop {l : List Nd} {i k p d : Nat} (h : Far l i k p d) (ht : T (l.drop p) = none) : S (k + 1) (l.drop (i + 1)) = none := by
  obtain ⟨c, hs, rfl⟩ := h
  rw [S_succ, hs]
  simp only [List.drop_drop]
  rw [ht]
theorem Far.next {l : List Nd} {i k p d c' d' : Nat} (h : Far l i k p d) (ht : T (l.drop p) = some (c', d')) : Far l i (k + 1) (p + c') (max d d') := by
  obtain ⟨c, hs, rfl⟩ := h
  refine ⟨c + c', ?_, by omega⟩
  rw [S_succ, hs]
  simp only [List.drop_drop]
  rw [ht]
theorem Far.done {l : List Nd} {i k p d : Nat} (h : Far l i k p d) (hi : i < l.length) (hk : ¬ ar l[i].k < 0) (hx : k = (ar l[i].k).toNat) : nx i (T (l.drop i)) = p ∧ dp (T (l.drop i)) = d + 1 := by
  obtain ⟨c, hs, rfl⟩ := h
  rw [T_at hi hk, ← hx, hs]
  simp only [nx, dp]
  omega
theorem walk_none {l : List Nd} {i k : Nat} (h : i < l.length) (hk : ¬ ar l[i].k < 0) (hlt : (k : Int) < ar l[i].k) (hs : S (k + 1) (l.drop (i + 1)) = none) : T (l.drop i) = none := by
  have := S_none hs ((ar l[i].k).toNat - (k + 1))
  rw [show k + 1 + ((ar l[i].k).toNat - (k + 1)) = (ar l[i].k).toNat by omega] at this
  rw [T_at h hk, this]

set_option maxHeartbeats 2000000 in
theorem walk_out (a : Option Addr) (n cap i : Nat) (w : World) (h : n ≤ i) :
    Calls Try.prog 51 #[.slice a n cap, .int .i64 i] w (WalkPost i none w) := by
  have g0 : decide ((i : Int) ≥ (n : Int)) = true := by simp; omega
  have g1 : decide ((n : Int) ≤ (i : Int)) = true := by simp; omega
  go_enter Try.func51, Try.ntmps51
  go_wp2_with fail
  go_ret2
  exact ⟨rfl, rfl⟩

set_option maxHeartbeats 4000000 in
theorem walk_cells (b off cap : Nat) (l : List Nd) (hl : l.length ≤ 1000000) : ∀ (m i : Nat) (w : World), l.length - i ≤ m → i ≤ l.length → At w b off l →
    Calls Try.prog 51 #[.slice (some ⟨b, off, none⟩) l.length cap, .int .i64 i] w (WalkPost i (T (l.drop i)) w) := by
  intro m
  induction m with
  | zero =>
    intro i w hm hi _
    rw [List.drop_eq_nil_of_le (by omega), T_nil]
    exact walk_out _ _ _ _ _ (by omega)
  | succ m ih =>
    intro i w hm hi hat
    by_cases hlt : i < l.length
    case neg =>
      rw [List.drop_eq_nil_of_le (by omega), T_nil]
      exact walk_out _ _ _ _ _ (by omega)
    have IH := Lib.hid ih
    have HA := Lib.hid hat
    have hc := (hat i hlt).1
    clear ih hat
    have g1 : decide (l.length ≤ i) = false := by simp; omega
    by_cases hk : ar l[i].k < 0
    · have HT := Lib.hid (T_no hlt hk)
      have hbd := ar_le l[i].k
      obtain ⟨kk, hkk⟩ : ∃ kk, l[i].k = kk := ⟨_, rfl⟩
      rw [hkk] at hc hk hbd
      obtain ⟨x, hx⟩ : ∃ x, ar kk = x := ⟨_, rfl⟩
      rw [hx] at hk hbd
      have HX := Lib.hid hx
      clear hkk hx
      go_enter Try.func51, Try.ntmps51
      go_wp2_with fail
      refine (arR_any _ _).mono ?_
      rw [HX.out]
      rintro e w' ⟨rfl, rfl⟩
      go_wp2_with fail
      go_ret2
      rw [HT.out]
      exact ⟨rfl, rfl⟩
    · have HT := Lib.hid (T_at hlt hk)
      have HN := Lib.hid (fun k => walk_none (k := k) hlt hk)
      have HK := Lib.hid hk
      have hbd := ar_le l[i].k
      obtain ⟨kk, hkk⟩ : ∃ kk, l[i].k = kk := ⟨_, rfl⟩
      rw [hkk] at hc hk hbd HT HN
      obtain ⟨x, hx⟩ : ∃ x, ar kk = x := ⟨_, rfl⟩
      rw [hx] at hk hbd HT HN
      have HX := Lib.hid hx
      have HKK : Hid (ar l[i].k = x) := by rw [hkk]; exact hx
      have g2 : decide (x < 0) = false := by simpa using hk
      clear hkk hx
      go_enter Try.func51, Try.ntmps51
      go_wp2_with fail
      refine (arR_any _ _).mono ?_
      rw [HX.out]
      rintro e w' ⟨rfl, rfl⟩
      go_wp2_with fail
      go_loop [6, 7, 8] (fun n d k => ∃ (kk p dd : Nat), (kk : Int) ≤ x ∧ p ≤ l.length ∧ dd ≤ l.length ∧ i < p ∧ Hid (Far l i kk p dd) ∧ n = .int .i64 p ∧ d = .int .i64 dd ∧ k = .int .i64 kk) (fun _ _ k => (x - intOf k).toNat)
      case atStart => exact ⟨0, i + 1, 0, by omega, by omega, by omega, by omega, Lib.hid (Far.start l i), by go_num, rfl, rfl⟩
      case round =>
        obtain ⟨k, p, d, hkx, hp, hd, hip, HF, rfl, rfl, rfl⟩ := hrel
        by_cases hkl : (k : Int) < x
        · cases ht : T (l.drop p) with
          | none =>
            have HZ := Lib.hid (HN.out k hkl (HF.out.stop ht))
            have HT' := Lib.hid ht
            clear ht
            go_wp2_with fail
            refine (arR_any _ _).mono ?_
            rw [HX.out]
            rintro e w' ⟨rfl, rfl⟩
            go_wp2_with fail
            refine (IH.out p _ (by omega) hp HA.out).mono ?_
            rw [HT'.out]
            rintro e w' ⟨rfl, rfl⟩
            go_wp2_with fail
            go_ret2
            rw [HZ.out]
            exact ⟨rfl, rfl⟩
          | some y =>
            obtain ⟨c', d'⟩ := y
            have HF' := Lib.hid (HF.out.next ht)
            have hq' := HF'.out.le hlt
            have HT' := Lib.hid ht
            have hb' := T_bd ht
            rw [List.length_drop] at hb'
            clear ht
            obtain ⟨q, hq⟩ : ∃ q, p + c' = q := ⟨_, rfl⟩
            have hnx : nx p (some (c', d')) = (q : Int) := by simp only [nx]; omega
            have hdp : dp (some (c', d')) = (d' : Int) := rfl
            have HQ : Hid (WalkPost p (some (c', d')) = fun w e w' => e = .returned (.tuple #[.int .i64 (q : Int), .int .i64 (d' : Int)]) ∧ w = w') := by
              funext w e w'
              unfold WalkPost
              rw [hnx, hdp]
            rw [hq] at HF' hq'
            clear hnx hdp
            have g2 : decide ((q : Int) < 0) = false := by simp
            by_cases hdd : d < d'
            · have hmx : max d d' = d' := Nat.max_eq_right (by omega)
              rw [hmx] at HF' hq'
              clear hmx hq
              go_wp2_with fail
              refine (arR_any _ _).mono ?_
              rw [HX.out]
              rintro e w' ⟨rfl, rfl⟩
              go_wp2_with fail
              refine (IH.out p _ (by omega) hp HA.out).mono ?_
              rw [HT'.out, HQ.out]
              rintro e w' ⟨rfl, rfl⟩
              go_wp2_with fail
              go_round
              case rel => exact ⟨k + 1, q, d', by omega, by omega, by omega, by omega, HF', rfl, rfl, by go_num⟩
              case measure => simp [intOf]; omega
            · have hmx : max d d' = d := Nat.max_eq_left (by omega)
              rw [hmx] at HF' hq'
              clear hmx hq
              go_wp2_with fail
              refine (arR_any _ _).mono ?_
              rw [HX.out]
              rintro e w' ⟨rfl, rfl⟩
              go_wp2_with fail
              refine (IH.out p _ (by omega) hp HA.out).mono ?_
              rw [HT'.out, HQ.out]
              rintro e w' ⟨rfl, rfl⟩
              go_wp2_with fail
              go_round
              case rel => exact ⟨k + 1, q, d, by omega, by omega, by omega, by omega, HF', rfl, rfl, by go_num⟩
              case measure => simp [intOf]; omega
        · have HD := Lib.hid (HF.out.done hlt (by have := HK.out; omega) (by rw [HKK.out]; omega))
          go_wp2_with fail
          refine (arR_any _ _).mono ?_
          rw [HX.out]
          rintro e w' ⟨rfl, rfl⟩
          go_wp2_with fail
          go_ret2
          exact ⟨by rw [HD.out.1, HD.out.2]; rfl, rfl⟩
theorem walk_any (v : Value) (l : List Nd) (i : Nat) (w : World) (h : Nds w v l) (hl : l.length ≤ 1000000) (hi : i ≤ l.length) :
    Calls Try.prog 51 #[v, .int .i64 i] w (WalkPost i (T (l.drop i)) w) := by
  rcases h.form with ⟨rfl, a, cap, rfl⟩ | ⟨b, off, cap, rfl, _, hat⟩
  · rw [List.drop_nil, T_nil]
    exact walk_out _ _ _ _ _ (Nat.zero_le _)
  · exact walk_cells b off cap l hl _ i w (Nat.le_refl _) hi hat
end Go.Proofs.Ytdhaghabhdeakaa.Rw

namespace Go.Proofs.Ytdhaghabhdeakaa.Pa
open Rw

abbrev Kn := Int × ByteArray
def kd (q : List Kn) (i : Nat) : Int := match q[i]? with | some t => t.1 | none => 0
def nmAt (q : List Kn) (i : Nat) : ByteArray := match q[i]? with | some t => t.2 | none => ⟨#[]⟩
def nOf (k : Int) : Nd := ⟨k, ⟨#[]⟩, 0⟩
def w1 : ByteArray := ⟨#[115, 107, 105, 112]⟩
def w2 : ByteArray := ⟨#[116, 104, 114, 111, 119]⟩
def w3 : ByteArray := ⟨#[121, 105, 101, 108, 100]⟩
def w4 : ByteArray := ⟨#[115, 107, 105, 112, 112]⟩
def w5 : ByteArray := ⟨#[116, 104, 114, 111, 119, 119]⟩
def w6 : ByteArray := ⟨#[121, 105, 101, 108, 100, 100]⟩
/-- The tree of a name. -/
def name (n : ByteArray) : List Nd :=
  if n = w1 then [nOf 2] else if n = w2 then [nOf 3] else if n = w3 then [nOf 4]
  else if n = w4 then [nOf 10, nOf 2, nOf 2] else if n = w5 then [nOf 10, nOf 3, nOf 2] else if n = w6 then [nOf 10, nOf 4, nOf 2]
  else [⟨1, n, 0⟩]
/-- A tree, where the next token stands, and whether it could not go on. -/
structure Got where
  L : List Nd
  next : Nat
  bad : Bool
deriving DecidableEq
/-- The sign, and the node, of a level. -/
def sg (k : Nat) : Int := if k = 1 then 6 else if k = 2 then 8 else if k = 3 then 5 else 7
def two (k : Int) (g h : Got) : Got := ⟨nOf k :: (g.L ++ h.L), h.next, h.bad⟩
mutual
def lv : Nat → List Kn → Nat → Nat → Option Got
  | 0, _, _, _ => none
  | f + 1, q, p, k => if k = 4 then pr f q p else (lv f q p (k + 1)).bind (mo f q k)
def mo : Nat → List Kn → Nat → Got → Option Got
  | 0, _, _, _ => none
  | f + 1, q, k, g => if g.bad = false ∧ kd q g.next = sg k then (lv f q (g.next + 1) (k + 1)).bind fun h => mo f q k (two (sg k) g h) else some g
def pr : Nat → List Kn → Nat → Option Got
  | 0, _, _ => none
  | f + 1, q, p => (ato f q p).bind fun g => if g.bad = true ∨ kd q g.next ≠ 9 then some g else (ato f q (g.next + 1)).map (two 10 g)
def ato : Nat → List Kn → Nat → Option Got
  | 0, _, _ => none
  | f + 1, q, p =>
    if kd q p = 10 then some ⟨name (nmAt q p), p + 1, false⟩
    else if kd q p ≠ 1 ∧ kd q p ≠ 3 then some ⟨[], p, true⟩
    else (lv f q (p + 1) 0).bind fun g => if g.bad = true then some g else if kd q g.next ≠ kd q p + 1 then some ⟨[], g.next, true⟩
      else some ⟨if kd q p = 3 then nOf 9 :: g.L else g.L, g.next + 1, false⟩
end
theorem lv_succ (f : Nat) (q : List Kn) (p k : Nat) : lv (f + 1) q p k = if k = 4 then pr f q p else (lv f q p (k + 1)).bind (mo f q k) := by rw [lv]
theorem mo_succ (f : Nat) (q : List Kn) (k : Nat) (g : Got) : mo (f + 1) q k g = if g.bad = false ∧ kd q g.next = sg k then (lv f q (g.next + 1) (k + 1)).bind fun h => mo f q k (two (sg k) g h) else some g := by rw [mo]
theorem pr_succ (f : Nat) (q : List Kn) (p : Nat) : pr (f + 1) q p = (ato f q p).bind fun g => if g.bad = true ∨ kd q g.next ≠ 9 then some g else (ato f q (g.next + 1)).map (two 10 g) := by rw [pr]
theorem ato_succ (f : Nat) (q : List Kn) (p : Nat) : ato (f + 1) q p = if kd q p = 10 then some ⟨name (nmAt q p), p + 1, false⟩ else if kd q p ≠ 1 ∧ kd q p ≠ 3 then some ⟨[], p, true⟩
    else (lv f q (p + 1) 0).bind fun g => if g.bad = true then some g else if kd q g.next ≠ kd q p + 1 then some ⟨[], g.next, true⟩ else some ⟨if kd q p = 3 then nOf 9 :: g.L else g.L, g.next + 1, false⟩ := by rw [ato]

/-- More fuel changes nothing. -/
theorem mono (f : Nat) : (∀ q p k g, lv f q p k = some g → lv (f + 1) q p k = some g) ∧ (∀ q k g r, mo f q k g = some r → mo (f + 1) q k g = some r) ∧ (∀ q p g, pr f q p = some g → pr (f + 1) q p = some g) ∧ (∀ q p g, ato f q p = some g → ato (f + 1) q p = some g) := by
  induction f with
  | zero => exact ⟨fun _ _ _ _ h => (by rw [lv] at h; cases h), fun _ _ _ _ h => (by rw [mo] at h; cases h), fun _ _ _ h => (by rw [pr] at h; cases h), fun _ _ _ h => (by rw [ato] at h; cases h)⟩
  | succ f ih =>
    obtain ⟨i1, i2, i3, i4⟩ := ih
    refine ⟨fun q p k g h => ?_, fun q k g r h => ?_, fun q p g h => ?_, fun q p g h => ?_⟩
    · rw [lv_succ] at h ⊢
      split at h
      · rename_i hk
        rw [if_pos hk]
        exact i3 _ _ _ h
      · rename_i hk
        rw [if_neg hk]
        obtain ⟨x, hx, hm⟩ := Option.bind_eq_some_iff.1 h
        rw [i1 _ _ _ _ hx]
        exact i2 _ _ _ _ hm
    · rw [mo_succ] at h ⊢
      split at h
      · rename_i hk
        rw [if_pos hk]
        obtain ⟨x, hx, hm⟩ := Option.bind_eq_some_iff.1 h
        rw [i1 _ _ _ _ hx]
        exact i2 _ _ _ _ hm
      · rename_i hk
        rw [if_neg hk]
        exact h
    · rw [pr_succ] at h ⊢
      obtain ⟨x, hx, hm⟩ := Option.bind_eq_some_iff.1 h
      rw [i4 _ _ _ hx]
      simp only [Option.bind_some]
      split at hm
      · rename_i hk
        rw [if_pos hk]
        exact hm
      · rename_i hk
        rw [if_neg hk]
        obtain ⟨y, hy, hz⟩ := Option.map_eq_some_iff.1 hm
        rw [i4 _ _ _ hy, ← hz]
        rfl
    · rw [ato_succ] at h ⊢
      split at h
      · rename_i hk
        rw [if_pos hk]
        exact h
      · rename_i hk
        rw [if_neg hk]
        split at h
        · rename_i hk2
          rw [if_pos hk2]
          exact h
        · rename_i hk2
          rw [if_neg hk2]
          obtain ⟨x, hx, hm⟩ := Option.bind_eq_some_iff.1 h
          rw [i1 _ _ _ _ hx]
          exact hm
theorem lv_more {f : Nat} {q : List Kn} {p k : Nat} {g : Got} (h : lv f q p k = some g) : ∀ n, lv (f + n) q p k = some g
  | 0 => h
  | n + 1 => (mono (f + n)).1 _ _ _ _ (lv_more h n)
theorem mo_more {f : Nat} {q : List Kn} {k : Nat} {g r : Got} (h : mo f q k g = some r) : ∀ n, mo (f + n) q k g = some r
  | 0 => h
  | n + 1 => (mono (f + n)).2.1 _ _ _ _ (mo_more h n)
theorem pr_more {f : Nat} {q : List Kn} {p : Nat} {g : Got} (h : pr f q p = some g) : ∀ n, pr (f + n) q p = some g
  | 0 => h
  | n + 1 => (mono (f + n)).2.2.1 _ _ _ (pr_more h n)
theorem ato_more {f : Nat} {q : List Kn} {p : Nat} {g : Got} (h : ato f q p = some g) : ∀ n, ato (f + n) q p = some g
  | 0 => h
  | n + 1 => (mono (f + n)).2.2.2 _ _ _ (ato_more h n)

/-- What is read, with fuel enough. -/
def LvR (q : List Kn) (p k : Nat) (g : Got) : Prop := ∃ f, lv f q p k = some g
def MoR (q : List Kn) (k : Nat) (g r : Got) : Prop := ∃ f, mo f q k g = some r
def PrR (q : List Kn) (p : Nat) (g : Got) : Prop := ∃ f, pr f q p = some g
def AtR (q : List Kn) (p : Nat) (g : Got) : Prop := ∃ f, ato f q p = some g
theorem LvR.one {q : List Kn} {p k : Nat} {g r : Got} (h : LvR q p k g) (h' : LvR q p k r) : g = r := by
  obtain ⟨f, h⟩ := h
  obtain ⟨f', h'⟩ := h'
  have e1 := lv_more h f'
  have e2 := lv_more h' f
  rw [Nat.add_comm f' f, e1] at e2
  exact Option.some.inj e2
theorem LvR.pair {q : List Kn} {p : Nat} {g : Got} (h : PrR q p g) : LvR q p 4 g := by
  obtain ⟨f, h⟩ := h
  exact ⟨f + 1, by rw [lv_succ, if_pos rfl]; exact h⟩
theorem LvR.of {q : List Kn} {p k : Nat} {g r : Got} (hk : k ≠ 4) (h : LvR q p (k + 1) g) (hm : MoR q k g r) : LvR q p k r := by
  obtain ⟨f, h⟩ := h
  obtain ⟨f', hm⟩ := hm
  refine ⟨f + f' + 1, ?_⟩
  rw [lv_succ, if_neg hk, lv_more h f', Option.bind_some, Nat.add_comm f f']
  exact mo_more hm f
theorem MoR.stop {q : List Kn} {k : Nat} {g : Got} (h : ¬ (g.bad = false ∧ kd q g.next = sg k)) : MoR q k g g := ⟨1, by rw [mo_succ, if_neg h]⟩
theorem MoR.step {q : List Kn} {k : Nat} {g h r : Got} (h1 : g.bad = false) (h2 : kd q g.next = sg k) (hl : LvR q (g.next + 1) (k + 1) h) (hm : MoR q k (two (sg k) g h) r) : MoR q k g r := by
  obtain ⟨f, hl⟩ := hl
  obtain ⟨f', hm⟩ := hm
  refine ⟨f + f' + 1, ?_⟩
  rw [mo_succ, if_pos ⟨h1, h2⟩, lv_more hl f', Option.bind_some, Nat.add_comm f f']
  exact mo_more hm f
theorem PrR.one {q : List Kn} {p : Nat} {g : Got} (h : AtR q p g) (hn : g.bad = true ∨ kd q g.next ≠ 9) : PrR q p g := by
  obtain ⟨f, h⟩ := h
  exact ⟨f + 1, by rw [pr_succ, h, Option.bind_some, if_pos hn]⟩
theorem PrR.two {q : List Kn} {p : Nat} {g h : Got} (hg : AtR q p g) (h1 : g.bad = false) (h2 : kd q g.next = 9) (hh : AtR q (g.next + 1) h) : PrR q p (two 10 g h) := by
  obtain ⟨f, hg⟩ := hg
  obtain ⟨f', hh⟩ := hh
  refine ⟨f + f' + 1, ?_⟩
  rw [pr_succ, ato_more hg f', Option.bind_some, if_neg (by rw [h1, h2]; simp), Nat.add_comm f f', ato_more hh f]
  rfl
theorem AtR.name {q : List Kn} {p : Nat} (h : kd q p = 10) : AtR q p ⟨name (nmAt q p), p + 1, false⟩ := ⟨1, by rw [ato_succ, if_pos h]⟩
theorem AtR.open {q : List Kn} {p : Nat} {g : Got} (h : kd q p = 1) (hg : LvR q (p + 1) 0 g) (hb : g.bad = false) (hc : kd q g.next = 2) : AtR q p ⟨g.L, g.next + 1, false⟩ := by
  obtain ⟨f, hg⟩ := hg
  refine ⟨f + 1, ?_⟩
  rw [ato_succ, h, if_neg (by decide), if_neg (by decide), hg, Option.bind_some, hb, hc]
  simp
theorem AtR.from {q : List Kn} {p : Nat} {g : Got} (h : kd q p = 3) (hg : LvR q (p + 1) 0 g) (hb : g.bad = false) (hc : kd q g.next = 4) : AtR q p ⟨nOf 9 :: g.L, g.next + 1, false⟩ := by
  obtain ⟨f, hg⟩ := hg
  refine ⟨f + 1, ?_⟩
  rw [ato_succ, h, if_neg (by decide), if_neg (by decide), hg, Option.bind_some, hb, hc]
  simp

/-- The next token stands no earlier. -/
theorem ahead (f : Nat) : (∀ q p k g, lv f q p k = some g → p ≤ g.next) ∧ (∀ q k g r, mo f q k g = some r → g.next ≤ r.next) ∧ (∀ q p g, pr f q p = some g → p ≤ g.next) ∧ (∀ q p g, ato f q p = some g → p ≤ g.next) := by
  induction f with
  | zero => exact ⟨fun _ _ _ _ h => (by rw [lv] at h; cases h), fun _ _ _ _ h => (by rw [mo] at h; cases h), fun _ _ _ h => (by rw [pr] at h; cases h), fun _ _ _ h => (by rw [ato] at h; cases h)⟩
  | succ f ih =>
    obtain ⟨i1, i2, i3, i4⟩ := ih
    refine ⟨fun q p k g h => ?_, fun q k g r h => ?_, fun q p g h => ?_, fun q p g h => ?_⟩
    · rw [lv_succ] at h
      split at h
      · exact i3 _ _ _ h
      · obtain ⟨x, hx, hm⟩ := Option.bind_eq_some_iff.1 h
        exact Nat.le_trans (i1 _ _ _ _ hx) (i2 _ _ _ _ hm)
    · rw [mo_succ] at h
      split at h
      · obtain ⟨x, hx, hm⟩ := Option.bind_eq_some_iff.1 h
        have h1 := i1 _ _ _ _ hx
        have h2 := i2 _ _ _ _ hm
        simp only [two] at h2
        omega
      · cases h
        exact Nat.le_refl _
    · rw [pr_succ] at h
      obtain ⟨x, hx, hm⟩ := Option.bind_eq_some_iff.1 h
      have h1 := i4 _ _ _ hx
      split at hm
      · cases hm
        exact h1
      · obtain ⟨y, hy, hz⟩ := Option.map_eq_some_iff.1 hm
        have h2 := i4 _ _ _ hy
        subst hz
        simp only [two]
        omega
    · rw [ato_succ] at h
      split at h
      · cases h
        exact Nat.le_succ _
      · split at h
        · cases h
          exact Nat.le_refl _
        · obtain ⟨x, hx, hm⟩ := Option.bind_eq_some_iff.1 h
          have h1 := i1 _ _ _ _ hx
          split at hm
          · cases hm
            omega
          · split at hm
            · cases hm
              show p ≤ x.next
              omega
            · cases hm
              show p ≤ x.next + 1
              omega
theorem kd_out {q : List Kn} {i : Nat} (h : q.length ≤ i) : kd q i = 0 := by unfold kd; rw [List.getElem?_eq_none h]
theorem sg_ne (k : Nat) : sg k ≠ 0 := by
  unfold sg
  repeat' split
  all_goals decide
/-- There is fuel enough. -/
theorem enough (f : Nat) : (∀ (q : List Kn) p k, k ≤ 4 → 8 * (q.length + 1 - p) + 7 - k ≤ f → (lv f q p k).isSome = true) ∧ (∀ (q : List Kn) k g, k ≤ 3 → 8 * (q.length + 1 - g.next) + 1 ≤ f → (mo f q k g).isSome = true) ∧ (∀ (q : List Kn) p, 8 * (q.length + 1 - p) + 2 ≤ f → (pr f q p).isSome = true) ∧ (∀ (q : List Kn) p, 8 * (q.length + 1 - p) + 1 ≤ f → (ato f q p).isSome = true) := by
  induction f with
  | zero => exact ⟨fun _ _ _ _ h => (by omega), fun _ _ _ _ h => (by omega), fun _ _ h => (by omega), fun _ _ h => (by omega)⟩
  | succ f ih =>
    obtain ⟨i1, i2, i3, i4⟩ := ih
    refine ⟨fun q p k hk h => ?_, fun q k g hk h => ?_, fun q p h => ?_, fun q p h => ?_⟩
    · rw [lv_succ]
      split
      · exact i3 q p (by omega)
      · obtain ⟨x, hx⟩ := Option.isSome_iff_exists.1 (i1 q p (k + 1) (by omega) (by omega))
        have := (ahead f).1 _ _ _ _ hx
        rw [hx, Option.bind_some]
        exact i2 q k x (by omega) (by omega)
    · rw [mo_succ]
      split
      · rename_i hc
        have hlt : g.next < q.length := by
          apply Nat.lt_of_not_le
          intro hle
          rw [kd_out hle] at hc
          exact sg_ne k hc.2.symm
        obtain ⟨x, hx⟩ := Option.isSome_iff_exists.1 (i1 q (g.next + 1) (k + 1) (by omega) (by omega))
        have := (ahead f).1 _ _ _ _ hx
        rw [hx, Option.bind_some]
        exact i2 q k _ hk (by simp only [two]; omega)
      · rfl
    · rw [pr_succ]
      obtain ⟨x, hx⟩ := Option.isSome_iff_exists.1 (i4 q p (by omega))
      have := (ahead f).2.2.2 _ _ _ hx
      rw [hx, Option.bind_some]
      split
      · rfl
      · obtain ⟨y, hy⟩ := Option.isSome_iff_exists.1 (i4 q (x.next + 1) (by omega))
        rw [hy]
        rfl
    · rw [ato_succ]
      split
      · rfl
      · split
        · rfl
        · rename_i hc
          have hlt : p < q.length := by
            apply Nat.lt_of_not_le
            intro hle
            rw [kd_out hle] at hc
            exact hc ⟨by decide, by decide⟩
          obtain ⟨x, hx⟩ := Option.isSome_iff_exists.1 (i1 q (p + 1) 0 (by omega) (by omega))
          rw [hx, Option.bind_some]
          split
          · rfl
          · split <;> rfl
theorem LvR.some (q : List Kn) (p k : Nat) (hk : k ≤ 4) : ∃ g, LvR q p k g := by
  obtain ⟨g, hg⟩ := Option.isSome_iff_exists.1 ((enough (8 * (q.length + 1) + 7)).1 q p k hk (by omega))
  exact ⟨g, _, hg⟩
end Go.Proofs.Ytdhaghabhdeakaa.Pa

namespace Go.Proofs.Ytdhaghabhdeakaa.To
open Go Go.RowKit
set_option maxRecDepth 20000

theorem ret_int {k : IntKind} {a b : Int} (h : a = b) : Ending.returned (.int k a) = .returned (.int k b) := congrArg (fun z => Ending.returned (.int k z)) h
theorem ret_bool {a b : Bool} (h : a = b) : Ending.returned (.bool a) = .returned (.bool b) := by rw [h]
theorem Below.drewN (B n : Nat) (w : World) : Below B w (w.drewN n) := by
  induction n with
  | zero => exact Below.refl _ _
  | succ n ih => exact ih.drew

theorem below_any (w : World) (o : Obj) : Below w.heap.size w (w.alloc o) := (Below.refl _ _).alloc (Nat.le_refl _) _
/-- A token's cells. -/
def cl (x : Tk) : List Value := [.int .i64 x.k, .int .i64 x.a, .string x.n]
def cls : List Tk → List Value
  | [] => []
  | x :: l => cl x ++ cls l
theorem cls_len : ∀ l : List Tk, (cls l).length = l.length * 3
  | [] => rfl
  | x :: l => by rw [cls, List.length_append, cls_len l]; simp [cl]; omega
theorem cls_append : ∀ l m : List Tk, cls (l ++ m) = cls l ++ cls m
  | [], _ => rfl
  | x :: l, m => by rw [List.cons_append, cls, cls_append l m, cls, List.append_assoc]
theorem cls_at : ∀ (l : List Tk) (k : Nat) (h : k < l.length), (cls l)[k * 3]? = some (.int .i64 l[k].k) ∧ (cls l)[k * 3 + 1]? = some (.int .i64 l[k].a) ∧ (cls l)[k * 3 + 2]? = some (.string l[k].n)
  | [], k, h => by simp at h
  | x :: l, 0, _ => ⟨rfl, rfl, rfl⟩
  | x :: l, k + 1, h => by
    have := cls_at l k (by simpa using h)
    simpa [cls, cl, show (k + 1) * 3 = k * 3 + 1 + 1 + 1 by omega] using this
/-- A slice of tokens that reads as these. -/
def Tks (w : World) (v : Value) (l : List Tk) : Prop := Ap.Rd w 3 v l.length (cls l)
theorem Tks.below {w w' : World} {v : Value} {l : List Tk} (h : Tks w v l) (hb : Below w.heap.size w w') : Tks w' v l := Ap.Rd.below h hb
/-- Token k's three cells. -/
def At (w : World) (b off : Nat) (l : List Tk) : Prop := ∀ k, (h : k < l.length) → w.cell? ⟨b, off + k * 3, none⟩ = some (.int .i64 l[k].k) ∧ w.cell? ⟨b, off + k * 3 + 1, none⟩ = some (.int .i64 l[k].a) ∧ w.cell? ⟨b, off + k * 3 + 2, none⟩ = some (.string l[k].n)
theorem Tks.form {w : World} {v : Value} {l : List Tk} (h : Tks w v l) :
    (l = [] ∧ ∃ a cap, v = .slice a 0 cap) ∨ ∃ b off cap, v = .slice (some ⟨b, off, none⟩) l.length cap ∧ l.length ≤ cap ∧ At w b off l := by
  obtain ⟨_, a, cap, rfl, hle, _, hcell⟩ := h
  by_cases h0 : 0 < l.length
  · obtain ⟨b, off, rfl, hj⟩ := hcell h0
    refine Or.inr ⟨b, off, cap, rfl, hle, fun k hk => ?_⟩
    obtain ⟨h1, h2, h3⟩ := cls_at l k hk
    exact ⟨hj _ _ h1, by rw [Nat.add_assoc]; exact hj _ _ h2, by rw [Nat.add_assoc]; exact hj _ _ h3⟩
  · have : l = [] := List.eq_nil_of_length_eq_zero (by omega)
    subst this
    exact Or.inl ⟨rfl, a, cap, rfl⟩

theorem str_ne {s : ByteArray} {l : List UInt8} (h : ¬ s = ⟨l.toArray⟩) : (l == s.toList) = false := by
  rw [beq_eq_false_iff_ne]
  intro e
  apply h
  have : s.data.toList = s.toList := (ByteArray.toList_eq s).symm
  rw [← this] at e
  cases s with
  | mk d => simp at e; subst e; rfl
theorem str_ne' {s : ByteArray} {l : List UInt8} (h : ¬ s = ⟨l.toArray⟩) : (s.toList == l) = false := by
  have := str_ne h
  rw [beq_eq_false_iff_ne] at this ⊢
  exact fun e => this e.symm
theorem empty_of {n : ByteArray} (h : n.size = 0) : n = ⟨#[]⟩ := by
  obtain ⟨d⟩ := n
  have : d = #[] := Array.eq_empty_of_size_eq_zero h
  rw [this]
theorem not_empty {n : ByteArray} (h : ¬ n = ⟨#[]⟩) : (n.toList == []) = false := str_ne' (l := []) h

/-- Is a byte a letter? -/
theorem letR_any (b : UInt8) (w : World) : Calls Try.prog 47 #[.int .u8 (b.toNat : Int)] w fun e w' => e = .returned (.bool (letB b)) ∧ w = w' := by
  by_cases h1 : 97 ≤ b.toNat
  · have d1 : decide ((b.toNat : Int) ≥ 97) = true := by simp; omega
    by_cases h2 : b.toNat ≤ 122
    · have d2 : decide ((b.toNat : Int) ≤ 122) = true := by simp; omega
      have hr : letB b = true := by unfold letB; rw [decide_eq_true h1, decide_eq_true h2]; rfl
      rw [hr]
      clear hr h1 h2
      go_enter Try.func47, Try.ntmps47
      go_wp2_with fail
      go_ret
      exact ⟨by first | rfl | (simp; omega), rfl⟩
    · have d2 : decide ((b.toNat : Int) ≤ 122) = false := by simp; omega
      have hr : letB b = false := by unfold letB; rw [decide_eq_false h2, Bool.and_false]
      rw [hr]
      clear hr h1 h2
      go_enter Try.func47, Try.ntmps47
      go_wp2_with fail
      go_ret
      exact ⟨by first | rfl | (simp; omega), rfl⟩
  · have d1 : decide ((b.toNat : Int) ≥ 97) = false := by simp; omega
    have hr : letB b = false := by unfold letB; rw [decide_eq_false h1, Bool.false_and]
    rw [hr]
    clear hr h1
    go_enter Try.func47, Try.ntmps47
    go_wp2_with fail
    go_ret
    exact ⟨by first | rfl | (simp; omega), rfl⟩
theorem sig_bytes (b : UInt8) : b = 40 ∨ b = 41 ∨ b = 91 ∨ b = 93 ∨ b = 59 ∨ b = 43 ∨ b = 124 ∨ b = 62 ∨ b = 47 ∨ (sig b = 0 ∧ b.toNat ≠ 40 ∧ b.toNat ≠ 41 ∧ b.toNat ≠ 91 ∧ b.toNat ≠ 93 ∧ b.toNat ≠ 59 ∧ b.toNat ≠ 43 ∧ b.toNat ≠ 124 ∧ b.toNat ≠ 62 ∧ b.toNat ≠ 47) := by
  have h : ∀ i : Fin 256, (fun b : UInt8 => b = 40 ∨ b = 41 ∨ b = 91 ∨ b = 93 ∨ b = 59 ∨ b = 43 ∨ b = 124 ∨ b = 62 ∨ b = 47 ∨ (sig b = 0 ∧ b.toNat ≠ 40 ∧ b.toNat ≠ 41 ∧ b.toNat ≠ 91 ∧ b.toNat ≠ 93 ∧ b.toNat ≠ 59 ∧ b.toNat ≠ 43 ∧ b.toNat ≠ 124 ∧ b.toNat ≠ 62 ∧ b.toNat ≠ 47)) (UInt8.ofNat i.val) := by decide +kernel
  have := h ⟨b.toNat, b.toNat_lt⟩
  simp only [UInt8.ofNat_toNat] at this
  exact this
set_option maxHeartbeats 1000000 in
theorem kindR_any (b : UInt8) (w : World) : Calls Try.prog 48 #[.int .u8 (b.toNat : Int)] w fun e w' => e = .returned (.int .i64 (sig b)) ∧ w = w' := by
  have l0 : (({ data := #[40, 41, 91, 93, 59, 43, 124, 62, 47] } : ByteArray)[0]'(by decide)).toNat = 40 := rfl
  have l1 : (({ data := #[40, 41, 91, 93, 59, 43, 124, 62, 47] } : ByteArray)[1]'(by decide)).toNat = 41 := rfl
  have l2 : (({ data := #[40, 41, 91, 93, 59, 43, 124, 62, 47] } : ByteArray)[2]'(by decide)).toNat = 91 := rfl
  have l3 : (({ data := #[40, 41, 91, 93, 59, 43, 124, 62, 47] } : ByteArray)[3]'(by decide)).toNat = 93 := rfl
  have l4 : (({ data := #[40, 41, 91, 93, 59, 43, 124, 62, 47] } : ByteArray)[4]'(by decide)).toNat = 59 := rfl
  have l5 : (({ data := #[40, 41, 91, 93, 59, 43, 124, 62, 47] } : ByteArray)[5]'(by decide)).toNat = 43 := rfl
  have l6 : (({ data := #[40, 41, 91, 93, 59, 43, 124, 62, 47] } : ByteArray)[6]'(by decide)).toNat = 124 := rfl
  have l7 : (({ data := #[40, 41, 91, 93, 59, 43, 124, 62, 47] } : ByteArray)[7]'(by decide)).toNat = 62 := rfl
  have l8 : (({ data := #[40, 41, 91, 93, 59, 43, 124, 62, 47] } : ByteArray)[8]'(by decide)).toNat = 47 := rfl
  rcases sig_bytes b with rfl | rfl | rfl | rfl | rfl | rfl | rfl | rfl | rfl | h
  case inr.inr.inr.inr.inr.inr.inr.inr.inr =>
    obtain ⟨h0, h1, h2, h3, h4, h5, h6, h7, h8, h9⟩ := h
    rw [h0]
    obtain ⟨n, hn⟩ : ∃ n, b.toNat = n := ⟨_, rfl⟩
    rw [hn] at h1 h2 h3 h4 h5 h6 h7 h8 h9 ⊢
    have b1 : ((40 : Int) == (n : Int)) = false := by rw [beq_eq_false_iff_ne]; omega
    have b2 : ((41 : Int) == (n : Int)) = false := by rw [beq_eq_false_iff_ne]; omega
    have b3 : ((91 : Int) == (n : Int)) = false := by rw [beq_eq_false_iff_ne]; omega
    have b4 : ((93 : Int) == (n : Int)) = false := by rw [beq_eq_false_iff_ne]; omega
    have b5 : ((59 : Int) == (n : Int)) = false := by rw [beq_eq_false_iff_ne]; omega
    have b6 : ((43 : Int) == (n : Int)) = false := by rw [beq_eq_false_iff_ne]; omega
    have b7 : ((124 : Int) == (n : Int)) = false := by rw [beq_eq_false_iff_ne]; omega
    have b8 : ((62 : Int) == (n : Int)) = false := by rw [beq_eq_false_iff_ne]; omega
    have b9 : ((47 : Int) == (n : Int)) = false := by rw [beq_eq_false_iff_ne]; omega
    clear h0 h1 h2 h3 h4 h5 h6 h7 h8 h9 hn
    go_enter Try.func48, Try.ntmps48
    go_wp2_with fail
    refine Go.wp_loop_rounds 10 ?_
    repeat
      rw [rounds_succ]
      go_wp2_with fail
    go_ret
    exact ⟨rfl, rfl⟩
  all_goals
    go_enter Try.func48, Try.ntmps48
    go_wp2_with fail
    refine Go.wp_loop_rounds 10 ?_
    repeat
      rw [rounds_succ]
      go_wp2_with fail
    go_ret
    exact ⟨rfl, rfl⟩
end Go.Proofs.Ytdhaghabhdeakaa.To

namespace Go.Proofs.Ytdhaghabhdeakaa.Rx
open Rw

/-- The nearest node that still wants a tree, with one fewer to want; the nearest stands first. -/
def pop : List Nat → Option (List Nat)
  | [] => none
  | 0 :: s => pop s
  | (k + 1) :: s => some (k :: s)
def ms : List Nd → List Nat → Nat → Nat → Nat × Nat
  | [], _, _, _ => (0, 0)
  | n :: r, st, d, k => if ar n.k < 0 then (0, 0) else match pop ((ar n.k).toNat :: st) with
    | none => (k + 1, max d (st.length + 1))
    | some s => ms r s (max d (st.length + 1)) (k + 1)
theorem pop_len : ∀ (st s : List Nat), pop st = some s → s.length ≤ st.length
  | [], _, h => by cases h
  | 0 :: st, s, h => by have := pop_len st s h; simp; omega
  | (_ + 1) :: st, s, h => by cases h; simp

theorem S_front : ∀ (j : Nat) (r : List Nd), S (j + 1) r = match T r with
    | none => none
    | some (c, d) => match S j (r.drop c) with
      | none => none
      | some (c', d') => some (c + c', max d d')
  | 0, r => by
    rw [S_succ, S_zero]
    simp only [List.drop_zero]
    cases T r with
    | none => rfl
    | some x => obtain ⟨c, d⟩ := x; simp [S_zero]
  | j + 1, r => by
    rw [S_succ, S_front j r]
    cases T r with
    | none => rfl
    | some x =>
      obtain ⟨c, d⟩ := x
      simp only
      rw [S_succ]
      cases S j (r.drop c) with
      | none => rfl
      | some y =>
        obtain ⟨c', d'⟩ := y
        simp only [List.drop_drop]
        cases T (r.drop (c + c')) with
        | none => rfl
        | some z =>
          obtain ⟨c2, d2⟩ := z
          simp only [Option.some.injEq, Prod.mk.injEq]
          omega

/-- Behind a tree, or behind some trees: what is still to come, or the end. -/
def aft (l : List Nd) (st : List Nat) (d k : Nat) : Option (Nat × Nat) → Nat × Nat
  | none => (0, 0)
  | some (c, dd) => match pop st with
    | none => (k + c, max d (st.length + dd))
    | some s => ms (l.drop c) s (max d (st.length + dd)) (k + c)
theorem ms_T : ∀ (m : Nat) (l : List Nd) (st : List Nat) (d k : Nat), l.length ≤ m → ms l st d k = aft l st d k (T l)
  | _, [], st, d, k, _ => by rw [T_nil]; rfl
  | 0, n :: r, _, _, _, h => by simp at h
  | m + 1, n :: r, st, d, k, h => by
    have hr : r.length ≤ m := by simpa using h
    have hS : ∀ (j : Nat) (l : List Nd) (st : List Nat) (d k : Nat), l.length ≤ m → ms l (j :: st) d k = match S (j + 1) l with
        | none => (0, 0)
        | some (c, dd) => match pop st with
          | none => (k + c, max d (st.length + 1 + dd))
          | some s => ms (l.drop c) s (max d (st.length + 1 + dd)) (k + c) := by
      intro j
      induction j with
      | zero =>
        intro l st d k hl
        rw [ms_T m l _ _ _ hl, S_front]
        cases T l with
        | none => rfl
        | some x => obtain ⟨c, dd⟩ := x; simp only [aft, pop, S_zero, List.length_cons, Nat.add_zero, Nat.max_zero]
      | succ j ih =>
        intro l st d k hl
        rw [ms_T m l _ _ _ hl, S_front]
        cases T l with
        | none => rfl
        | some x =>
          obtain ⟨c, dd⟩ := x
          simp only [aft, pop, List.length_cons]
          rw [ih (l.drop c) st _ _ (by rw [List.length_drop]; omega)]
          cases S (j + 1) (l.drop c) with
          | none => rfl
          | some y =>
            obtain ⟨c', d'⟩ := y
            simp only [List.drop_drop]
            rw [show max (max d (st.length + 1 + dd)) (st.length + 1 + d') = max d (st.length + 1 + max dd d') by omega, Nat.add_assoc]
    rw [T_cons, ms]
    by_cases hk : ar n.k < 0
    · rw [if_pos hk, if_pos hk]
      rfl
    · rw [if_neg hk, if_neg hk]
      obtain ⟨a, ha⟩ : ∃ a, (ar n.k).toNat = a := ⟨_, rfl⟩
      rw [ha]
      cases a with
      | zero =>
        rw [S_zero]
        simp only [aft, pop]
        cases pop st with
        | none => rfl
        | some s => rfl
      | succ j =>
        simp only [pop]
        rw [hS j r st _ _ hr]
        cases S (j + 1) r with
        | none => rfl
        | some x =>
          obtain ⟨c, dd⟩ := x
          simp only [aft, List.drop_succ_cons]
          rw [show max (max d (st.length + 1)) (st.length + 1 + dd) = max d (st.length + (dd + 1)) by omega, show k + 1 + c = k + (c + 1) by omega]
/-- The size and the depth. -/
theorem ms_of (l : List Nd) : ms l [] 0 0 = (size l, depth l) := by
  rw [ms_T l.length l [] 0 0 (Nat.le_refl _)]
  unfold size depth
  cases T l with
  | none => rfl
  | some x => obtain ⟨c, d⟩ := x; simp [aft, pop]
end Go.Proofs.Ytdhaghabhdeakaa.Rx
