/- Rows of nodes in memory; the document's Arity and Walk over them. -/
import Derived.Test.YtpkbpooiaddcaaaProg
import Derived.Test.YtpkbpooiaddcaaaRwm
import Derived.Test.YtpkbpooiaddcaaaAp
import Derived.WalkKit
import Derived.WalkSpells
import Derived.WalkLawsBesides
import Derived.Lib.Hide
namespace Go.Proofs.Ytpkbpooiaddcaaa.Rw
open Go Go.RowKit
set_option maxRecDepth 20000

theorem ret_int {k : IntKind} {a b : Int} (h : a = b) : Ending.returned (.int k a) = .returned (.int k b) := congrArg (fun z => Ending.returned (.int k z)) h
theorem ret_bool {a b : Bool} (h : a = b) : Ending.returned (.bool a) = .returned (.bool b) := by rw [h]

/-- A node's cells. -/
def cl (x : Nd) : List Value := [.int .i64 x.k, .string x.n, .int .i64 x.s]
def cls : List Nd → List Value
  | [] => []
  | x :: l => cl x ++ cls l
theorem cls_len : ∀ l : List Nd, (cls l).length = l.length * 3
  | [] => rfl
  | x :: l => by rw [cls, List.length_append, cls_len l]; simp [cl]; omega
theorem cls_append : ∀ l m : List Nd, cls (l ++ m) = cls l ++ cls m
  | [], _ => rfl
  | x :: l, m => by rw [List.cons_append, cls, cls_append l m, cls, List.append_assoc]
theorem cls_at : ∀ (l : List Nd) (k : Nat) (h : k < l.length), (cls l)[k * 3]? = some (.int .i64 l[k].k) ∧ (cls l)[k * 3 + 1]? = some (.string l[k].n) ∧ (cls l)[k * 3 + 2]? = some (.int .i64 l[k].s)
  | [], k, h => by simp at h
  | x :: l, 0, _ => ⟨rfl, rfl, rfl⟩
  | x :: l, k + 1, h => by
    have := cls_at l k (by simpa using h)
    simpa [cls, cl, show (k + 1) * 3 = k * 3 + 1 + 1 + 1 by omega] using this
/-- A slice of nodes that reads as these. -/
def Nds (w : World) (v : Value) (l : List Nd) : Prop := Ap.Rd w 3 v l.length (cls l)
theorem Nds.below {w w' : World} {v : Value} {l : List Nd} (h : Nds w v l) (hb : Below w.heap.size w w') : Nds w' v l := Ap.Rd.below h hb
/-- Node k's three cells. -/
def At (w : World) (b off : Nat) (l : List Nd) : Prop := ∀ k, (h : k < l.length) → w.cell? ⟨b, off + k * 3, none⟩ = some (.int .i64 l[k].k) ∧ w.cell? ⟨b, off + k * 3 + 1, none⟩ = some (.string l[k].n) ∧ w.cell? ⟨b, off + k * 3 + 2, none⟩ = some (.int .i64 l[k].s)
theorem Nds.form {w : World} {v : Value} {l : List Nd} (h : Nds w v l) :
    (l = [] ∧ ∃ a cap, v = .slice a 0 cap) ∨ ∃ b off cap, v = .slice (some ⟨b, off, none⟩) l.length cap ∧ l.length ≤ cap ∧ At w b off l := by
  obtain ⟨_, a, cap, rfl, hle, _, hcell⟩ := h
  by_cases h0 : 0 < l.length
  · obtain ⟨b, off, rfl, hj⟩ := hcell h0
    refine Or.inr ⟨b, off, cap, rfl, hle, fun k hk => ?_⟩
    obtain ⟨h1, h2, h3⟩ := cls_at l k hk
    exact ⟨hj _ _ h1, by rw [Nat.add_assoc]; exact hj _ _ h2, by rw [Nat.add_assoc]; exact hj _ _ h3⟩
  · have : l = [] := List.eq_nil_of_length_eq_zero (by omega)
    subst this
    exact Or.inl ⟨rfl, a, cap, rfl⟩

theorem cases15 (k : Int) : k = 1 ∨ k = 2 ∨ k = 3 ∨ k = 4 ∨ k = 5 ∨ k = 6 ∨ k = 7 ∨ k = 8 ∨ k = 9 ∨ k = 10 ∨ k = 11 ∨ k = 12 ∨ k = 13 ∨ k = 14 ∨ (k ≠ 1 ∧ k ≠ 2 ∧ k ≠ 3 ∧ k ≠ 4 ∧ k ≠ 5 ∧ k ≠ 6 ∧ k ≠ 7 ∧ k ≠ 8 ∧ k ≠ 9 ∧ k ≠ 10 ∧ k ≠ 11 ∧ k ≠ 12 ∧ k ≠ 13 ∧ k ≠ 14) := by omega
theorem ar_no {k : Int} (h : k ≠ 1 ∧ k ≠ 2 ∧ k ≠ 3 ∧ k ≠ 4 ∧ k ≠ 5 ∧ k ≠ 6 ∧ k ≠ 7 ∧ k ≠ 8 ∧ k ≠ 9 ∧ k ≠ 10 ∧ k ≠ 11 ∧ k ≠ 12 ∧ k ≠ 13 ∧ k ≠ 14) : ar k = -1 := by
  unfold ar
  rw [if_neg (by omega), if_neg (by omega), if_neg (by omega)]

set_option maxHeartbeats 1000000 in
theorem arR_any (k : Int) (w : World) : Calls Try.prog 41 #[.int .i64 k] w fun e w' => e = .returned (.int .i64 (ar k)) ∧ w = w' := by
  rcases cases15 k with rfl | rfl | rfl | rfl | rfl | rfl | rfl | rfl | rfl | rfl | rfl | rfl | rfl | rfl | h
  case inr.inr.inr.inr.inr.inr.inr.inr.inr.inr.inr.inr.inr.inr =>
    have hr := Lib.hid (ar_no h)
    obtain ⟨h1, h2, h3, h4, h5, h6, h7, h8, h9, h10, h11, h12, h13, h14⟩ := h
    have b1 : (k == 1) = false := by simp [h1]
    have b2 : (k == 2) = false := by simp [h2]
    have b3 : (k == 3) = false := by simp [h3]
    have b4 : (k == 4) = false := by simp [h4]
    have b5 : (k == 5) = false := by simp [h5]
    have b6 : (k == 6) = false := by simp [h6]
    have b7 : (k == 7) = false := by simp [h7]
    have b8 : (k == 8) = false := by simp [h8]
    have b9 : (k == 9) = false := by simp [h9]
    have b10 : (k == 10) = false := by simp [h10]
    have b11 : (k == 11) = false := by simp [h11]
    have b12 : (k == 12) = false := by simp [h12]
    have b13 : (k == 13) = false := by simp [h13]
    have b14 : (k == 14) = false := by simp [h14]
    clear h1 h2 h3 h4 h5 h6 h7 h8 h9 h10 h11 h12 h13 h14
    go_enter Try.func41, Try.ntmps41
    go_wp2_with fail
    go_ret
    exact ⟨ret_int hr.out.symm, rfl⟩
  all_goals
    go_enter Try.func41, Try.ntmps41
    go_wp2_with fail
    go_ret
    exact ⟨rfl, rfl⟩

/-- Where the tree at a place ends, below 0 if there is none; its depth. -/
def nx (i : Nat) : Option (Nat × Nat) → Int
  | none => -1
  | some (c, _) => i + c
def dp : Option (Nat × Nat) → Int
  | none => 0
  | some (_, d) => d
def WalkPost (i : Nat) (r : Option (Nat × Nat)) (w : World) (e : Ending) (w' : World) : Prop := e = .returned (.tuple #[.int .i64 (nx i r), .int .i64 (dp r)]) ∧ w = w'
theorem T_at {l : List Nd} {i : Nat} (h : i < l.length) (hk : ¬ ar l[i].k < 0) : T (l.drop i) = match S (ar l[i].k).toNat (l.drop (i + 1)) with
    | none => none
    | some (c, d) => some (c + 1, d + 1) := by
  rw [List.drop_eq_getElem_cons h, T_cons, if_neg hk]
  rfl
theorem T_no {l : List Nd} {i : Nat} (h : i < l.length) (hk : ar l[i].k < 0) : T (l.drop i) = none := by
  rw [List.drop_eq_getElem_cons h, T_cons, if_pos hk]
/-- How far k kids have come. -/
def Far (l : List Nd) (i k p d : Nat) : Prop := ∃ c, S k (l.drop (i + 1)) = some (c, d) ∧ p = i + 1 + c
theorem Far.start (l : List Nd) (i : Nat) : Far l i 0 (i + 1) 0 := ⟨0, S_zero _, rfl⟩
theorem Far.le {l : List Nd} {i k p d : Nat} (h : Far l i k p d) (hi : i < l.length) : p ≤ l.length ∧ i < p ∧ d ≤ l.length := by
  obtain ⟨c, hs, rfl⟩ := h
  have := S_bd hs
  rw [List.length_drop] at this
  omega
theorem Far.stop {l : List Nd} {i k p d : Nat} (h : Far l i k p d) (ht : T (l.drop p) = none) : S (k + 1) (l.drop (i + 1)) = none := by
  obtain ⟨c, hs, rfl⟩ := h
  rw [S_succ, hs]
  simp only [List.drop_drop]
  rw [ht]
theorem Far.next {l : List Nd} {i k p d c' d' : Nat} (h : Far l i k p d) (ht : T (l.drop p) = some (c', d')) : Far l i (k + 1) (p + c') (max d d') := by
  obtain ⟨c, hs, rfl⟩ := h
  refine ⟨c + c', ?_, by omega⟩
  rw [S_succ, hs]
  simp only [List.drop_drop]
  rw [ht]
theorem Far.done {l : List Nd} {i k p d : Nat} (h : Far l i k p d) (hi : i < l.length) (hk : ¬ ar l[i].k < 0) (hx : k = (ar l[i].k).toNat) : nx i (T (l.drop i)) = p ∧ dp (T (l.drop i)) = d + 1 := by
  obtain ⟨c, hs, rfl⟩ := h
  rw [T_at hi hk, ← hx, hs]
  simp only [nx, dp]
  omega
theorem walk_none {l : List Nd} {i k : Nat} (h : i < l.length) (hk : ¬ ar l[i].k < 0) (hlt : (k : Int) < ar l[i].k) (hs : S (k + 1) (l.drop (i + 1)) = none) : T (l.drop i) = none := by
  have := S_none hs ((ar l[i].k).toNat - (k + 1))
  rw [show k + 1 + ((ar l[i].k).toNat - (k + 1)) = (ar l[i].k).toNat by omega] at this
  rw [T_at h hk, this]

set_option maxHeartbeats 2000000 in
theorem walk_out (a : Option Addr) (n cap i : Nat) (w : World) (h : n ≤ i) :
    Calls Try.prog 32 #[.slice a n cap, .int .i64 i] w (WalkPost i none w) := by
  have g0 : decide ((i : Int) ≥ (n : Int)) = true := by simp; omega
  have g1 : decide ((n : Int) ≤ (i : Int)) = true := by simp; omega
  go_enter Try.func32, Try.ntmps32
  go_wp2_with fail
  go_ret2
  exact ⟨rfl, rfl⟩

set_option maxHeartbeats 4000000 in
theorem walk_cells (b off cap : Nat) (l : List Nd) (hl : l.length ≤ 1000000) : ∀ (m i : Nat) (w : World), l.length - i ≤ m → i ≤ l.length → At w b off l →
    Calls Try.prog 32 #[.slice (some ⟨b, off, none⟩) l.length cap, .int .i64 i] w (WalkPost i (T (l.drop i)) w) := by
  intro m
  induction m with
  | zero =>
    intro i w hm hi _
    rw [List.drop_eq_nil_of_le (by omega), T_nil]
    exact walk_out _ _ _ _ _ (by omega)
  | succ m ih =>
    intro i w hm hi hat
    by_cases hlt : i < l.length
    case neg =>
      rw [List.drop_eq_nil_of_le (by omega), T_nil]
      exact walk_out _ _ _ _ _ (by omega)
    have IH := Lib.hid ih
    have HA := Lib.hid hat
    have hc := (hat i hlt).1
    clear ih hat
    have g1 : decide (l.length ≤ i) = false := by simp; omega
    by_cases hk : ar l[i].k < 0
    · have HT := Lib.hid (T_no hlt hk)
      have hbd := ar_le l[i].k
      obtain ⟨kk, hkk⟩ : ∃ kk, l[i].k = kk := ⟨_, rfl⟩
      rw [hkk] at hc hk hbd
      obtain ⟨x, hx⟩ : ∃ x, ar kk = x := ⟨_, rfl⟩
      rw [hx] at hk hbd
      have HX := Lib.hid hx
      clear hkk hx
      go_enter Try.func32, Try.ntmps32
      go_wp2_with fail
      refine (arR_any _ _).mono ?_
      rw [HX.out]
      rintro e w' ⟨rfl, rfl⟩
      go_wp2_with fail
      go_ret2
      rw [HT.out]
      exact ⟨rfl, rfl⟩
    · have HT := Lib.hid (T_at hlt hk)
      have HN := Lib.hid (fun k => walk_none (k := k) hlt hk)
      have HK := Lib.hid hk
      have hbd := ar_le l[i].k
      obtain ⟨kk, hkk⟩ : ∃ kk, l[i].k = kk := ⟨_, rfl⟩
      rw [hkk] at hc hk hbd HT HN
      obtain ⟨x, hx⟩ : ∃ x, ar kk = x := ⟨_, rfl⟩
      rw [hx] at hk hbd HT HN
      have HX := Lib.hid hx
      have HKK : Hid (ar l[i].k = x) := by rw [hkk]; exact hx
      have g2 : decide (x < 0) = false := by simpa using hk
      clear hkk hx
      go_enter Try.func32, Try.ntmps32
      go_wp2_with fail
      refine (arR_any _ _).mono ?_
      rw [HX.out]
      rintro e w' ⟨rfl, rfl⟩
      go_wp2_with fail
      go_loop [6, 7, 8] (fun n d k => ∃ (kk p dd : Nat), (kk : Int) ≤ x ∧ p ≤ l.length ∧ dd ≤ l.length ∧ i < p ∧ Hid (Far l i kk p dd) ∧ n = .int .i64 p ∧ d = .int .i64 dd ∧ k = .int .i64 kk) (fun _ _ k => (x - intOf k).toNat)
      case atStart => exact ⟨0, i + 1, 0, by omega, by omega, by omega, by omega, Lib.hid (Far.start l i), by go_num, rfl, rfl⟩
      case round =>
        obtain ⟨k, p, d, hkx, hp, hd, hip, HF, rfl, rfl, rfl⟩ := hrel
        by_cases hkl : (k : Int) < x
        · cases ht : T (l.drop p) with
          | none =>
            have HZ := Lib.hid (HN.out k hkl (HF.out.stop ht))
            have HT' := Lib.hid ht
            clear ht
            go_wp2_with fail
            refine (arR_any _ _).mono ?_
            rw [HX.out]
            rintro e w' ⟨rfl, rfl⟩
            go_wp2_with fail
            refine (IH.out p _ (by omega) hp HA.out).mono ?_
            rw [HT'.out]
            rintro e w' ⟨rfl, rfl⟩
            go_wp2_with fail
            go_ret2
            rw [HZ.out]
            exact ⟨rfl, rfl⟩
          | some y =>
            obtain ⟨c', d'⟩ := y
            have HF' := Lib.hid (HF.out.next ht)
            have hq' := HF'.out.le hlt
            have HT' := Lib.hid ht
            have hb' := T_bd ht
            rw [List.length_drop] at hb'
            clear ht
            obtain ⟨q, hq⟩ : ∃ q, p + c' = q := ⟨_, rfl⟩
            have hnx : nx p (some (c', d')) = (q : Int) := by simp only [nx]; omega
            have hdp : dp (some (c', d')) = (d' : Int) := rfl
            have HQ : Hid (WalkPost p (some (c', d')) = fun w e w' => e = .returned (.tuple #[.int .i64 (q : Int), .int .i64 (d' : Int)]) ∧ w = w') := by
              funext w e w'
              unfold WalkPost
              rw [hnx, hdp]
            rw [hq] at HF' hq'
            clear hnx hdp
            have g2 : decide ((q : Int) < 0) = false := by simp
            by_cases hdd : d < d'
            · have hmx : max d d' = d' := Nat.max_eq_right (by omega)
              rw [hmx] at HF' hq'
              clear hmx hq
              go_wp2_with fail
              refine (arR_any _ _).mono ?_
              rw [HX.out]
              rintro e w' ⟨rfl, rfl⟩
              go_wp2_with fail
              refine (IH.out p _ (by omega) hp HA.out).mono ?_
              rw [HT'.out, HQ.out]
              rintro e w' ⟨rfl, rfl⟩
              go_wp2_with fail
              go_round
              case rel => exact ⟨k + 1, q, d', by omega, by omega, by omega, by omega, HF', rfl, rfl, by go_num⟩
              case measure => simp [intOf]; omega
            · have hmx : max d d' = d := Nat.max_eq_left (by omega)
              rw [hmx] at HF' hq'
              clear hmx hq
              go_wp2_with fail
              refine (arR_any _ _).mono ?_
              rw [HX.out]
              rintro e w' ⟨rfl, rfl⟩
              go_wp2_with fail
              refine (IH.out p _ (by omega) hp HA.out).mono ?_
              rw [HT'.out, HQ.out]
              rintro e w' ⟨rfl, rfl⟩
              go_wp2_with fail
              go_round
              case rel => exact ⟨k + 1, q, d, by omega, by omega, by omega, by omega, HF', rfl, rfl, by go_num⟩
              case measure => simp [intOf]; omega
        · have HD := Lib.hid (HF.out.done hlt (by have := HK.out; omega) (by rw [HKK.out]; omega))
          go_wp2_with fail
          refine (arR_any _ _).mono ?_
          rw [HX.out]
          rintro e w' ⟨rfl, rfl⟩
          go_wp2_with fail
          go_ret2
          exact ⟨by rw [HD.out.1, HD.out.2]; rfl, rfl⟩
theorem walk_any (v : Value) (l : List Nd) (i : Nat) (w : World) (h : Nds w v l) (hl : l.length ≤ 1000000) (hi : i ≤ l.length) :
    Calls Try.prog 32 #[v, .int .i64 i] w (WalkPost i (T (l.drop i)) w) := by
  rcases h.form with ⟨rfl, a, cap, rfl⟩ | ⟨b, off, cap, rfl, _, hat⟩
  · rw [List.drop_nil, T_nil]
    exact walk_out _ _ _ _ _ (Nat.zero_le _)
  · exact walk_cells b off cap l hl _ i w (Nat.le_refl _) hi hat
end Go.Proofs.Ytpkbpooiaddcaaa.Rw
