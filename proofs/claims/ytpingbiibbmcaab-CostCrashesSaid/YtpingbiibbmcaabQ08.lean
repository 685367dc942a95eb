/- Plain: moves of two side by side; a refused action. Plain: the moves of a row; rows of moves in memory. The program's waits, second, kids: the walks. Plain: the move of any number; how many moves there are, and that they rise; numbers in decimal. Plain: what comes of a row by a move; that it is what comes of its tree. Plain: what follows of the costs of rows. What the laws of costs ask of the program; few; the statements' own first look. The program's costs: what a node costs, how costs are put together, how many choices a row has. The statements' own first look at package cost. The program's Of: the walk. CostNumbers, CostOrder, CostCrashes: the walks. The program's tree, Most, Least, Crashed: the walks. -/
import Derived.Test.YtpingbiibbmcaabQ07
import Derived.Test.YtpingbiibbmcaabQ04
import Derived.Lib.ItoaNum
import Derived.Test.YtpingbiibbmcaabQ03
import Derived.Deep.QuietTactic

namespace Go.Proofs.Ytpingbiibbmcaab.Sp
open Go Go.Proofs.Ytpingbiibbmcaab.Rw Go.Proofs.Ytpingbiibbmcaab.So Go.Proofs.Ytpingbiibbmcaab.Se Go.Proofs.Ytpingbiibbmcaab.Tr Go.Proofs.Ytpingbiibbmcaab.Mn Go.Proofs.Ytpingbiibbmcaab.Do

/-- A move farther on. -/
def far (k : Nat) (m : Mo) : Mo := ⟨m.p + k, m.h, m.l, m.r⟩
theorem far_up (k : Nat) (f : Tm → Tm) (l : List Mo) : (l.map (far k)).map (upm f) = (l.map (upm f)).map (far k) := by
  rw [List.map_map, List.map_map]
  rfl
theorem mvs_far (k : Nat) : ∀ (t : Tm) (d : Bool) (i : Nat), mvs d t (i + k) = (mvs d t i).map (far k) := by
  intro t
  induction t with
  | act s => intro d i; rfl
  | alt a b => intro d i; rfl
  | yield => intro d i; cases d <;> rfl
  | pair a b => intro d i; cases d <;> rfl
  | seq a b ia ib => intro d i; simp only [mvs]; rw [show i + k + 1 = i + 1 + k by omega, ia, far_up]
  | hand a b ia ib => intro d i; simp only [mvs]; rw [show i + k + 1 = i + 1 + k by omega, ia, far_up]
  | going a b ia ib => intro d i; simp only [mvs]; rw [show i + k + 1 = i + 1 + k by omega, ia, far_up]
  | stack a b ia ib => intro d i; simp only [mvs]; rw [show i + k + 1 = i + 1 + k by omega, ia, far_up]
  | block a ia => intro d i; simp only [mvs]; rw [show i + k + 1 = i + 1 + k by omega, ia, far_up]
  | par a b ia ib =>
    intro d i
    simp only [mvs]
    rw [show i + k + 1 + sz a = i + 1 + sz a + k by omega, ib, show i + k + 1 = i + 1 + k by omega, ia, far_up, far_up, List.map_append]
  | _ => intro d i; rfl
theorem mv_over {t : Tm} {d : Bool} {i : Nat} {m : Mo} (h : m ∈ mvs d t i) : isOver t = false ∧ isFin t = false := by
  cases t <;> first | exact ⟨rfl, rfl⟩ | exact absurd h (by simp [mvs])
theorem mv_par_l {a b : Tm} {m : Mo} (h : m ∈ mvs true a 0) : (⟨m.p + 1, m.h, m.l, .par m.r b⟩ : Mo) ∈ mvs true (.par a b) 0 := by
  refine List.mem_append_left _ (List.mem_map.2 ⟨far 1 m, ?_, rfl⟩)
  rw [Bool.true_or, mvs_far 1 a true 0]
  exact List.mem_map.2 ⟨m, h, rfl⟩
theorem mv_par_r {a b : Tm} {m : Mo} (h : m ∈ mvs true b 0) : (⟨m.p + (1 + sz a), m.h, m.l, .par a m.r⟩ : Mo) ∈ mvs true (.par a b) 0 := by
  refine List.mem_append_right _ (List.mem_map.2 ⟨far (1 + sz a) m, ?_, rfl⟩)
  have e : mvs true b (0 + 1 + sz a) = (mvs true b 0).map (far (1 + sz a)) := by rw [← mvs_far (1 + sz a) b true 0, ← Nat.add_assoc]
  rw [Bool.true_or, e]
  exact List.mem_map.2 ⟨m, h, rfl⟩
theorem par_stay_r {x b : Tm} (hb : isOver b = false ∧ isFin b = false) : sPar x b = .par x b := by
  cases x <;> try rfl
  · cases b <;> first | rfl | cases hb.1
  · cases b <;> first | rfl | cases hb.2
theorem par_stay_l {a y : Tm} (ha : isOver a = false ∧ isFin a = false) : sPar a y = .par a y := by
  cases a <;> first | rfl | exact Bool.noConfusion ha.1 | exact Bool.noConfusion ha.2
/-- A move of the one, and one of the other, come to the same in either order. -/
theorem beside {a b : Tm} (na : Nf a) (nb : Nf b) {m n : Mo} (hm : m ∈ mvs true a 0) (hn : n ∈ mvs true b 0) :
    S (.par m.r b) = .par (S m.r) b ∧ S (.par a n.r) = .par a (S n.r) ∧
    (⟨n.p + (1 + sz (S m.r)), n.h, n.l, .par (S m.r) n.r⟩ : Mo) ∈ mvs true (.par (S m.r) b) 0 ∧ (⟨m.p + 1, m.h, m.l, .par m.r (S n.r)⟩ : Mo) ∈ mvs true (.par a (S n.r)) 0 ∧
    S (.par (S m.r) n.r) = S (.par m.r (S n.r)) := by
  refine ⟨?_, ?_, mv_par_r hn, mv_par_l hm, ?_⟩
  · rw [S_par, nf_S b nb]; exact par_stay_r (mv_over hn)
  · rw [S_par, nf_S a na]; exact par_stay_l (mv_over hm)
  · rw [S_par, S_par, S_twice, S_twice]
end Go.Proofs.Ytpingbiibbmcaab.Sp

namespace Go.Proofs.Ytpingbiibbmcaab.Me
open Go Go.RowKit Go.Proofs.Ytpingbiibbmcaab.Rw Go.Proofs.Ytpingbiibbmcaab.So Go.Proofs.Ytpingbiibbmcaab.Se Go.Proofs.Ytpingbiibbmcaab.Do
set_option maxRecDepth 20000

/-- A move: where, and how. -/
structure Mv where
  p : Int
  h : Int
deriving DecidableEq
/-- The moves at a place, by its kind. -/
def hw (k : Int) (f : Bool) (z : Int) : List Mv := if k = 1 then [⟨z, 1⟩] else if k = 6 then [⟨z, 2⟩, ⟨z, 3⟩] else ⟨z, 4⟩ :: if f then [⟨z, 5⟩] else []
def kn (l : List Nd) (z : Int) : Int := match l[z.toNat]? with | some x => x.k | none => 0
end Go.Proofs.Ytpingbiibbmcaab.Me

namespace Go.Proofs.Ytpingbiibbmcaab.Do
open Go Go.RowKit Go.Proofs.Ytpingbiibbmcaab.Rw Go.Proofs.Ytpingbiibbmcaab.So Go.Proofs.Ytpingbiibbmcaab.Se
set_option maxRecDepth 20000

end Go.Proofs.Ytpingbiibbmcaab.Do

namespace Go.Proofs.Ytpingbiibbmcaab.Me
open Go Go.RowKit Go.Proofs.Ytpingbiibbmcaab.Rw Go.Proofs.Ytpingbiibbmcaab.So Go.Proofs.Ytpingbiibbmcaab.Se Go.Proofs.Ytpingbiibbmcaab.Do
set_option maxRecDepth 20000

/-- Is there a second move at a place? -/
noncomputable def two (l : List Nd) (z : Int) : Bool := kn l z == 6 || ((kn l z == 4 || kn l z == 10) && fr l z)
end Go.Proofs.Ytpingbiibbmcaab.Me

namespace Go.Proofs.Ytpingbiibbmcaab.St
open Go Go.Proofs.Ytpingbiibbmcaab.Rw Go.Proofs.Ytpingbiibbmcaab.So Go.Proofs.Ytpingbiibbmcaab.Se Go.Proofs.Ytpingbiibbmcaab.Tr Go.Proofs.Ytpingbiibbmcaab.Mn Go.Proofs.Ytpingbiibbmcaab.Do Go.Proofs.Ytpingbiibbmcaab.Sp Go.Proofs.Ytpingbiibbmcaab.Me

end Go.Proofs.Ytpingbiibbmcaab.St

namespace Go.Proofs.Ytpingbiibbmcaab.Co
open Go Go.RowKit Go.Proofs.Ytpingbiibbmcaab.Rw Go.Proofs.Ytpingbiibbmcaab.So Go.Proofs.Ytpingbiibbmcaab.Se Go.Proofs.Ytpingbiibbmcaab.Do Go.Proofs.Ytpingbiibbmcaab.Sp Go.Proofs.Ytpingbiibbmcaab.Me Go.Proofs.Ytpingbiibbmcaab.St
set_option maxRecDepth 20000

theorem crash_step {l : List Nd} {n : Int} (h0 : 0 ≤ n) (h1 : n < 1048576) (hl : l.length ≤ 200) : crash l (n + 1) - crash l n = crash l 0 ∧ crash l 0 = (chR l : Int) + 1 := by
  unfold crash
  rw [if_neg (by omega), if_neg (by omega), if_neg (by omega)]
  constructor
  · rw [← Int.mul_sub]
    congr 1
    omega
  · omega
theorem crash_in (l : List Nd) (n : Int) : 0 ≤ crash l n ∧ crash l n ≤ 4000000000 := by
  unfold crash
  split
  · exact ⟨Int.le_refl _, by omega⟩
  · have := chR_len l
    exact mul_bound (by omega) (by omega) (by omega) (by omega)
/-- The statements' own tree of a choice. -/
abbrev tA : Tm := .alt (.act ⟨#[97]⟩) (.seq (.act ⟨#[97]⟩) (.act ⟨#[97]⟩))
abbrev tB : Tm := .pair (.act ⟨#[97]⟩) (.act ⟨#[97]⟩)
theorem gA : Goes tA := ⟨by decide +kernel, by decide, by decide⟩
theorem gB : Goes tB := ⟨by decide +kernel, by decide, by decide⟩
theorem chA : chR (flat tA) = 4 := by rw [chR_flat]; decide
theorem moA : cr false (flat tA) = 3 := by rw [cr_go _ gA]; decide
theorem leA : cr true (flat tA) = 2 := by rw [cr_go _ gA]; decide
theorem moB : cr false (flat tB) = 3 := by rw [cr_go _ gB]; decide
theorem crA : crash (flat tA) 2 = 15 ∧ crash (flat tA) (-1) = 0 := by
  unfold crash
  rw [chA]
  exact ⟨by decide, by decide⟩
theorem moC : cr false ((flat tA).take 3) = 0 := cr_no _ (by decide +kernel)
end Go.Proofs.Ytpingbiibbmcaab.Co

namespace Go.Proofs.Ytpingbiibbmcaab.Co
open Go Go.RowKit Go.Proofs.Ytpingbiibbmcaab.Rw Go.Proofs.Ytpingbiibbmcaab.So Go.Proofs.Ytpingbiibbmcaab.Se Go.Proofs.Ytpingbiibbmcaab.Do Go.Proofs.Ytpingbiibbmcaab.Sp
set_option maxRecDepth 20000

/-- A call that hands back a number. -/
def NumP (n : Int) (w : World) (e : Ending) (w' : World) : Prop := e = .returned (.int .i64 n) ∧ Below w.heap.size w w'
structure Con : Prop where
  of : ∀ (v : Value) (l : List Nd) (w : World), Nds w v l → l.length ≤ 1000 → Calls Try.prog 7 #[v] w (NumP (chR l) w)
  mo : ∀ (v : Value) (l : List Nd) (w : World), Nds w v l → l.length ≤ 1000 → Nms l → Calls Try.prog 9 #[v] w (NumP (cr false l) w)
  le : ∀ (v : Value) (l : List Nd) (w : World), Nds w v l → l.length ≤ 1000 → Nms l → Calls Try.prog 10 #[v] w (NumP (cr true l) w)
  ch : ∀ (v : Value) (l : List Nd) (n : Int) (w : World), Nds w v l → l.length ≤ 1000 → Calls Try.prog 6 #[v, .int .i64 n] w (NumP (crash l n) w)
def Alive : Prop := ∀ w : World, Calls Try.prog 5 #[] w fun e w' => e = .returned (.bool true) ∧ Below w.heap.size w w'
def fewC (l : List Nd) : Bool := decide (l.length ≤ 100) && decide (depth l ≤ 12)
theorem fewC_len {l : List Nd} (h : fewC l = true) : l.length ≤ 100 := by
  unfold fewC at h
  rw [Bool.and_eq_true, decide_eq_true_eq] at h
  exact h.1
set_option maxHeartbeats 1000000 in
theorem fewC_any (v : Value) (l : List Nd) (w : World) (h : Nds w v l) :
    Calls Try.prog 4 #[v] w fun e w' => e = .returned (.bool (fewC l)) ∧ w = w' := by
  have hr : fewC l = (decide (l.length ≤ 100) && decide (depth l ≤ 12)) := rfl
  rw [hr]
  by_cases h1 : l.length ≤ 100
  · have HD := Lib.hid (depthR_any v l w h (by omega))
    obtain ⟨d, hd⟩ : ∃ d, depth l = d := ⟨_, rfl⟩
    rw [hd] at HD ⊢
    rw [decide_eq_true h1, Bool.true_and]
    obtain ⟨_, a, cap, rfl, -⟩ := h
    clear hr hd
    go_enter Try.func4, Try.ntmps4
    go_wp2_with fail
    refine HD.out.mono ?_
    rintro e w' ⟨rfl, rfl⟩
    go_wp2_with fail
    go_ret
    exact ⟨Rw.ret_bool (decide_eq_decide.2 (by omega)), rfl⟩
  · rw [decide_eq_false h1, Bool.false_and]
    obtain ⟨_, a, cap, rfl, -⟩ := h
    have h2 : ¬ (l.length : Int) ≤ 100 := by omega
    clear hr
    go_enter Try.func4, Try.ntmps4
    go_wp2_with fail
    go_ret
    exact ⟨rfl, rfl⟩
theorem newA (w : World) : Nds (w.alloc (.cells #[.int .i64 6, .string ⟨#[]⟩, .int .i64 0, .int .i64 1, .string ⟨#[97]⟩, .int .i64 0, .int .i64 5, .string ⟨#[]⟩, .int .i64 0, .int .i64 1, .string ⟨#[97]⟩, .int .i64 0, .int .i64 1, .string ⟨#[97]⟩, .int .i64 0] 29)) (.slice (some ⟨w.heap.size, 0, none⟩) 5 5) (flat tA) := Se.nds_new w (flat tA) _
theorem newB (w : World) : Nds (w.alloc (.cells #[.int .i64 10, .string ⟨#[]⟩, .int .i64 0, .int .i64 1, .string ⟨#[97]⟩, .int .i64 0, .int .i64 1, .string ⟨#[97]⟩, .int .i64 0] 29)) (.slice (some ⟨w.heap.size, 0, none⟩) 3 3) (flat tB) := Se.nds_new w (flat tB) _
theorem cut3 {w : World} {b : Nat} (h : Nds w (.slice (some ⟨b, 0, none⟩) 5 5) (flat tA)) : Nds w (.slice (some ⟨b, 0, none⟩) 3 5) ((flat tA).take 3) := by
  rcases h.form with ⟨h0, _⟩ | ⟨b', off, c, hv, _, hat⟩
  · cases h0
  · injection hv with h1 h2 h3
    injection h1 with h1
    injection h1 with h4 h5 h6
    subst h4
    subst h5
    have := part_nds hat 0 3 5 (by decide) (by decide)
    rwa [Nat.zero_mul, Nat.zero_add, List.drop_zero] at this
end Go.Proofs.Ytpingbiibbmcaab.Co

namespace Go.Proofs.Ytpingbiibbmcaab.Co
open Go Go.RowKit Go.Proofs.Ytpingbiibbmcaab.Rw Go.Proofs.Ytpingbiibbmcaab.So Go.Proofs.Ytpingbiibbmcaab.Se Go.Proofs.Ytpingbiibbmcaab.Do Go.Proofs.Ytpingbiibbmcaab.Sp
set_option maxRecDepth 20000

abbrev fnV (f : Nat) : Value := .func (.func f) #[] #[]
/-- What a node costs itself; how the costs behind it are put together. -/
def ow (k : Int) : Nat := if k = 1 ∨ k = 4 ∨ k = 6 ∨ k = 10 then 1 else 0
def tg (k : Int) (f : Nat) : Nat := if k = 6 then f else 12
set_option maxHeartbeats 1000000 in
theorem priced_any (k : Int) (f : Nat) (w : World) : Calls Try.prog 14 #[.int .i64 k, fnV f] w fun e w' => e = .returned (.tuple #[.int .i64 (ow k : Nat), fnV (tg k f)]) ∧ w = w' := by
  rcases cases15 k with rfl | rfl | rfl | rfl | rfl | rfl | rfl | rfl | rfl | rfl | rfl | rfl | rfl | rfl | h
  case inr.inr.inr.inr.inr.inr.inr.inr.inr.inr.inr.inr.inr.inr =>
    obtain ⟨h1, h2, h3, h4, h5, h6, h7, h8, h9, h10, h11, h12, h13, h14⟩ := h
    have g1 : (k == 1) = false := beq_eq_false_iff_ne.2 h1
    have g6 : (k == 6) = false := beq_eq_false_iff_ne.2 h6
    have g4 : (k == 4) = false := beq_eq_false_iff_ne.2 h4
    have g10 : (k == 10) = false := beq_eq_false_iff_ne.2 h10
    have e1 : ow k = 0 := if_neg (by omega)
    have e2 : tg k f = 12 := if_neg h6
    rw [e1, e2]
    clear h1 h2 h3 h4 h5 h6 h7 h8 h9 h10 h11 h12 h13 h14 e1 e2
    go_enter Try.func14, Try.ntmps14
    go_wp2_with fail
    go_ret2
    exact ⟨rfl, rfl⟩
  all_goals
    go_enter Try.func14, Try.ntmps14
    go_wp2_with fail
    go_ret2
    exact ⟨rfl, rfl⟩
/-- How two costs are put together. -/
def pt (f : Nat) (a b : Nat) : Nat := if f = 12 then a + b else if f = 17 then max a b else min a b
abbrev Pf (f : Nat) : Prop := f = 12 ∨ f = 17 ∨ f = 18
set_option maxHeartbeats 1000000 in
theorem put_any (f : Nat) (hf : Pf f) (a b : Nat) (w : World) (ha : a ≤ 2000) (hb : b ≤ 2000) : Calls Try.prog f #[.int .i64 (a : Int), .int .i64 (b : Int)] w fun e w' => e = .returned (.int .i64 (pt f a b : Nat)) ∧ w = w' := by
  rcases hf with rfl | rfl | rfl
  · obtain ⟨c, hc⟩ : ∃ c, pt 12 a b = c := ⟨_, rfl⟩
    have hc2 : (c : Int) = (a : Int) + b := by rw [← hc]; show ((a + b : Nat) : Int) = _; omega
    rw [hc]
    clear hc
    go_enter Try.func12, Try.ntmps12
    go_wp2_with fail
    go_ret
    exact ⟨ret_int (by omega), rfl⟩
  · obtain ⟨c, hc⟩ : ∃ c, pt 17 a b = c := ⟨_, rfl⟩
    have hc2 : c = max a b := by rw [← hc]; rfl
    rw [hc]
    clear hc
    by_cases h : a < b
    · have h' : (a : Int) < b := by omega
      go_enter Try.func17, Try.ntmps17
      go_wp2_with fail
      go_ret
      exact ⟨ret_int (by omega), rfl⟩
    · have h' : ¬ (a : Int) < b := by omega
      go_enter Try.func17, Try.ntmps17
      go_wp2_with fail
      go_ret
      exact ⟨ret_int (by omega), rfl⟩
  · obtain ⟨c, hc⟩ : ∃ c, pt 18 a b = c := ⟨_, rfl⟩
    have hc2 : c = min a b := by rw [← hc]; rfl
    rw [hc]
    clear hc
    by_cases h : b < a
    · have h' : (b : Int) < a := by omega
      go_enter Try.func18, Try.ntmps18
      go_wp2_with fail
      go_ret
      exact ⟨ret_int (by omega), rfl⟩
    · have h' : ¬ (b : Int) < a := by omega
      go_enter Try.func18, Try.ntmps18
      go_wp2_with fail
      go_ret
      exact ⟨ret_int (by omega), rfl⟩
set_option maxHeartbeats 1000000 in
theorem own_any (k s : Int) (n : ByteArray) (w : World) : Calls Try.prog 13 #[.agg #[.int .i64 k, .string n, .int .i64 s]] w (NumP (ow k : Nat) w) := by
  have HP := Lib.hid (fun w1 => priced_any k 12 w1)
  have HB := Lib.hid (fun x => below1 w x)
  generalize tg k 12 = g at HP
  generalize ow k = z at HP ⊢
  go_enter Try.func13, Try.ntmps13
  go_wp2_with fail
  refine (HP.out _).mono ?_
  rintro e w1 ⟨rfl, rfl⟩
  go_wp2_with fail
  go_ret
  exact ⟨rfl, HB.out _⟩
end Go.Proofs.Ytpingbiibbmcaab.Co

namespace Go.Proofs.Ytpingbiibbmcaab.Co
open Go Go.RowKit Go.Proofs.Ytpingbiibbmcaab.Rw Go.Proofs.Ytpingbiibbmcaab.So Go.Proofs.Ytpingbiibbmcaab.Se Go.Proofs.Ytpingbiibbmcaab.Do Go.Proofs.Ytpingbiibbmcaab.Sp
set_option maxRecDepth 20000

set_option maxHeartbeats 4000000 in
theorem alive_of (C : Con) : Alive := by
  intro w
  have oA := Lib.hid (fun v w1 (h : Nds w1 v (flat tA)) => C.of v (flat tA) w1 h (by decide))
  unfold NumP at oA
  rw [chA] at oA
  have mA := Lib.hid (fun v w1 (h : Nds w1 v (flat tA)) => C.mo v (flat tA) w1 h (by decide) (nms_goes gA.1))
  unfold NumP at mA
  rw [moA] at mA
  have lA := Lib.hid (fun v w1 (h : Nds w1 v (flat tA)) => C.le v (flat tA) w1 h (by decide) (nms_goes gA.1))
  unfold NumP at lA
  rw [leA] at lA
  have c2 := Lib.hid (fun v w1 (h : Nds w1 v (flat tA)) => C.ch v (flat tA) 2 w1 h (by decide))
  unfold NumP at c2
  rw [crA.1] at c2
  have c0 := Lib.hid (fun v w1 (h : Nds w1 v (flat tA)) => C.ch v (flat tA) (-1) w1 h (by decide))
  unfold NumP at c0
  rw [crA.2] at c0
  have m3 := Lib.hid (fun v w1 (h : Nds w1 v ((flat tA).take 3)) => C.mo v ((flat tA).take 3) w1 h (by decide) (fun x hx => nms_goes gA.1 x (List.mem_of_mem_take hx)))
  unfold NumP at m3
  rw [moC] at m3
  have mB := Lib.hid (fun v w1 (h : Nds w1 v (flat tB)) => C.mo v (flat tB) w1 h (by decide) (nms_goes gB.1))
  unfold NumP at mB
  rw [moB] at mB
  have D0 := Rw.below1 w (.cells #[.int .i64 1, .string ⟨#[97]⟩, .int .i64 0] 29)
  have z0 : w.heap.size < (w.alloc (.cells #[.int .i64 1, .string ⟨#[97]⟩, .int .i64 0] 29)).heap.size := by simp
  have y0 : (w.alloc (.cells #[.int .i64 1, .string ⟨#[97]⟩, .int .i64 0] 29)).cell? ⟨w.heap.size, 0, none⟩ = some (.int .i64 1) := by simp [go_sem]
  have y1 : (w.alloc (.cells #[.int .i64 1, .string ⟨#[97]⟩, .int .i64 0] 29)).cell? ⟨w.heap.size, 1, none⟩ = some (.string ⟨#[97]⟩) := by simp [go_sem]
  have y2 : (w.alloc (.cells #[.int .i64 1, .string ⟨#[97]⟩, .int .i64 0] 29)).cell? ⟨w.heap.size, 2, none⟩ = some (.int .i64 0) := by simp [go_sem]
  have Y := Lib.hid (fun w1 (hb : Below (w.alloc (.cells #[.int .i64 1, .string ⟨#[97]⟩, .int .i64 0] 29)).heap.size (w.alloc (.cells #[.int .i64 1, .string ⟨#[97]⟩, .int .i64 0] 29)) w1) => (⟨by rw [hb.cell z0]; exact y0, by rw [hb.cell z0]; exact y1, by rw [hb.cell z0]; exact y2⟩ : w1.cell? ⟨w.heap.size, 0, none⟩ = some (.int .i64 1) ∧ w1.cell? ⟨w.heap.size, 1, none⟩ = some (.string ⟨#[97]⟩) ∧ w1.cell? ⟨w.heap.size, 2, none⟩ = some (.int .i64 0)))
  have TW := Lib.hid D0
  have N1 := newA (w.alloc (.cells #[.int .i64 1, .string ⟨#[97]⟩, .int .i64 0] 29))
  rw [show (w.alloc (.cells #[.int .i64 1, .string ⟨#[97]⟩, .int .i64 0] 29)).heap.size = w.heap.size + 1 by simp] at N1
  have D1 := Rw.below1 (w.alloc (.cells #[.int .i64 1, .string ⟨#[97]⟩, .int .i64 0] 29)) (.cells #[.int .i64 6, .string ⟨#[]⟩, .int .i64 0, .int .i64 1, .string ⟨#[97]⟩, .int .i64 0, .int .i64 5, .string ⟨#[]⟩, .int .i64 0, .int .i64 1, .string ⟨#[97]⟩, .int .i64 0, .int .i64 1, .string ⟨#[97]⟩, .int .i64 0] 29)
  have N := Lib.hid N1
  have T := Lib.hid D1
  clear N1 D1 C D0 z0
  go_enter Try.func5, Try.ntmps5
  go_wp2_with fail
  refine (oA.out _ _ N.out).mono ?_
  rintro e w1 ⟨rfl, hb⟩
  replace T := Lib.hid (T.out.trans (hb.mono T.out.size))
  replace N := Lib.hid (N.out.below hb)
  clear hb
  go_wp2_with fail
  refine (mA.out _ _ N.out).mono ?_
  rintro e w2 ⟨rfl, hb⟩
  replace T := Lib.hid (T.out.trans (hb.mono T.out.size))
  replace N := Lib.hid (N.out.below hb)
  clear hb
  go_wp2_with fail
  refine (lA.out _ _ N.out).mono ?_
  rintro e w3 ⟨rfl, hb⟩
  replace T := Lib.hid (T.out.trans (hb.mono T.out.size))
  replace N := Lib.hid (N.out.below hb)
  clear hb
  go_wp2_with fail
  refine (c2.out _ _ N.out).mono ?_
  rintro e w4 ⟨rfl, hb⟩
  replace T := Lib.hid (T.out.trans (hb.mono T.out.size))
  replace N := Lib.hid (N.out.below hb)
  clear hb
  go_wp2_with fail
  refine (c0.out _ _ N.out).mono ?_
  rintro e w5 ⟨rfl, hb⟩
  replace T := Lib.hid (T.out.trans (hb.mono T.out.size))
  replace N := Lib.hid (N.out.below hb)
  clear hb
  go_wp2_with fail
  refine (m3.out _ _ (cut3 N.out)).mono ?_
  rintro e w6 ⟨rfl, hb⟩
  replace T := Lib.hid (T.out.trans (hb.mono T.out.size))
  replace N := Lib.hid (N.out.below hb)
  clear hb
  obtain ⟨x0, x1, x2⟩ := Y.out _ T.out
  have hx := Rw.below1 w6 (.cells #[.int .i64 10, .string ⟨#[]⟩, .int .i64 0, .int .i64 1, .string ⟨#[97]⟩, .int .i64 0, .int .i64 1, .string ⟨#[97]⟩, .int .i64 0] 29)
  replace T := Lib.hid (T.out.trans (hx.mono T.out.size))
  clear hx
  go_wp2_with fail
  refine (mB.out _ _ (newB _)).mono ?_
  rintro e w7 ⟨rfl, hb⟩
  replace T := Lib.hid (T.out.trans (hb.mono T.out.size))
  clear hb N
  go_wp2_with fail
  go_ret
  exact ⟨rfl, TW.out.trans (T.out.mono TW.out.size)⟩
end Go.Proofs.Ytpingbiibbmcaab.Co

namespace Go.Proofs.Ytpingbiibbmcaab.Co
open Go Go.RowKit Go.Proofs.Ytpingbiibbmcaab.Rw Go.Proofs.Ytpingbiibbmcaab.So Go.Proofs.Ytpingbiibbmcaab.Se Go.Proofs.Ytpingbiibbmcaab.Do Go.Proofs.Ytpingbiibbmcaab.Sp
set_option maxRecDepth 20000

theorem ow_one (x : Nd) (l : List Nd) : chR (x :: l) = ow x.k + chR l := by
  unfold chR cnt
  rw [List.countP_cons]
  unfold ow
  simp only [List.mem_cons, List.mem_nil_iff, or_false]
  by_cases h : x.k = 1 ∨ x.k = 4 ∨ x.k = 6 ∨ x.k = 10
  · rw [if_pos h]; simp [h]; omega
  · rw [if_neg h]; simp [h]
theorem ch_take {l : List Nd} {k : Nat} (h : k < l.length) : chR (l.take (k + 1)) = chR (l.take k) + ow l[k].k := by
  have e : ∀ a b : List Nd, chR (a ++ b) = chR a + chR b := fun a b => by unfold chR cnt; rw [List.countP_append]
  rw [List.take_succ_eq_append_getElem h, e]
  congr 1
  rw [ow_one]
  rfl
set_option maxHeartbeats 4000000 in
theorem joinN_any (v : Value) (l : List Nd) (w : World) (hv : Nds w v l) (hl : l.length ≤ 1000) : Calls Try.prog 11 #[v, fnV 12, fnV 13] w (NumP (chR l : Nat) w) := by
  rcases hv.form with ⟨rfl, a, c, rfl⟩ | ⟨b, off, c, rfl, hc, hat⟩
  · go_enter Try.func11, Try.ntmps11
    go_wp2_with fail
    go_ret
    exact ⟨rfl, Below.refl _ _⟩
  · by_cases h0 : l.length = 0
    · have h1 : chR l = 0 := by rw [List.eq_nil_of_length_eq_zero h0]; rfl
      rw [h0, h1]
      clear hat hc hl hv
      go_enter Try.func11, Try.ntmps11
      go_wp2_with fail
      go_ret
      exact ⟨rfl, Below.refl _ _⟩
    have HA := Lib.hid hat
    have HO := Lib.hid (fun k n s w1 => own_any k s n w1)
    unfold NumP at HO
    have HP := Lib.hid (fun a b w1 (h1 : a ≤ 2000) (h2 : b ≤ 2000) => put_any 12 (.inl rfl) a b w1 h1 h2)
    have HT := Lib.hid (fun k (h : k < l.length) => ch_take h)
    have HL := Lib.hid (show chR (l.take l.length) = chR l by rw [List.take_length])
    have HC0 := Lib.hid (show chR (l.take 0) = 0 from rfl)
    obtain ⟨q0, q1, q2⟩ := hat 0 (by omega)
    have HZ := Lib.hid (show chR (l.take 1) = ow l[0].k by rw [ch_take (by omega), HC0.out, Nat.zero_add])
    have HCL := Lib.hid (fun k => Nat.le_trans (chR_len (l.take k)) (by rw [List.length_take]; omega : (l.take k).length ≤ k))
    obtain ⟨n, hn⟩ : ∃ n, l.length = n := ⟨_, rfl⟩
    obtain ⟨x, hx⟩ : ∃ x, l[0] = x := ⟨_, rfl⟩
    rw [hx] at q0 q1 q2 HZ
    simp only [Nat.zero_mul, Nat.add_zero] at q0 q1 q2
    have HN := Lib.hid hn
    have gn : ((n : Int) == 0) = false := beq_eq_false_iff_ne.2 (by omega)
    have gn1 : (1 : Int) ≤ (n : Int) := by omega
    have gn0 : (0 : Int) < (n : Int) := by omega
    rw [hn] at hc hl ⊢
    have HO1 := Lib.hid (own_any x.k x.s x.n w)
    unfold NumP at HO1
    have hno : ow x.k ≤ 1 := by unfold ow; split <;> omega
    generalize ow x.k = z at HZ hno HO1
    clear hat hn hx h0
    go_enter Try.func11, Try.ntmps11
    go_wp2_with fail
    refine HO1.out.mono ?_
    rintro e w1 ⟨rfl, hb1⟩
    have B1 := Lib.hid hb1
    clear hb1 HO1 q0 q1 q2
    by_cases h1 : n = 1
    · subst h1
      have HR : Hid (chR l = z) := Lib.hid (by rw [← HL.out, HN.out, HZ.out])
      clear HA HO HP HT HL HC0 HCL HZ
      go_wp2_with fail
      all_goals
        refine Go.wp_loop_rounds 1 ?_
        rw [rounds_succ]
        go_wp2_with fail
        go_ret
        exact ⟨by rw [HR.out]; rfl, B1.out⟩
    · have gc : ¬ c = 1 := by omega
      have gc1 : (1 : Int) ≤ (c : Int) := by omega
      clear gn gn0
      go_wp2_with fail
      go_loopw [7, 21] (fun s i wr => ∃ k : Nat, k + 1 ≤ n ∧ s = .int .i64 (chR (l.take (k + 1)) : Nat) ∧ i = .int .i64 k ∧ Hid (Below w.heap.size w wr)) (fun _ i _ => n - (intOf i).toNat)
      case atStart => exact ⟨0, by omega, by rw [HZ.out], rfl, B1⟩
      case round =>
        obtain ⟨k, hk, rfl, rfl, HB⟩ := hrel
        by_cases hlt : k + 1 < n
        · obtain ⟨q0, q1, q2⟩ := HA.out (k + 1) (by rw [HN.out]; exact hlt)
          have hT := HT.out (k + 1) (by rw [HN.out]; exact hlt)
          obtain ⟨y, hy⟩ : ∃ y, l[k + 1]'(by rw [HN.out]; exact hlt) = y := ⟨_, rfl⟩
          rw [hy] at q0 q1 q2 hT
          rw [show off + (k + 1) * 3 = off + 3 + k * 3 by omega] at q0 q1 q2
          have r0 : wr.cell? ⟨b, off + 3 + k * 3, none⟩ = some (.int .i64 y.k) := by rw [HB.out.cell (Ap.cell_lt q0)]; exact q0
          have r1 : wr.cell? ⟨b, off + 3 + k * 3 + 1, none⟩ = some (.string y.n) := by rw [HB.out.cell (Ap.cell_lt q1)]; exact q1
          have r2 : wr.cell? ⟨b, off + 3 + k * 3 + 2, none⟩ = some (.int .i64 y.s) := by rw [HB.out.cell (Ap.cell_lt q2)]; exact q2
          have hcl := HCL.out (k + 1)
          have HO1 := Lib.hid (fun w1 => own_any y.k y.s y.n w1)
          unfold NumP at HO1
          have hno : ow y.k ≤ 1 := by unfold ow; split <;> omega
          generalize ow y.k = z2 at HO1 hno hT
          generalize chR (l.take (k + 1)) = s1 at hT hcl
          have HX := Lib.hid hT
          have HQ := Lib.hid (fun w1 => HP.out s1 z2 w1 (by omega) (by omega))
          rw [show pt 12 s1 z2 = s1 + z2 from rfl] at HQ
          have gk : (k : Int) < (n : Int) - 1 := by omega
          have BA := Lib.hid (fun o => HB.out.trans ((below1 wr o).mono HB.out.size))
          clear q0 q1 q2 hy hT
          go_wp2_with fail
          refine (HO1.out _).mono ?_
          rintro e w2 ⟨rfl, hb2⟩
          have B2 := Lib.hid ((BA.out _).trans (hb2.mono (BA.out _).size))
          clear hb2
          go_wp2_with fail
          refine (HQ.out _).mono ?_
          rintro e w3 ⟨rfl, rfl⟩
          go_wp2_with fail
          go_roundw
          case rel => exact ⟨k + 1, by omega, by rw [HX.out, Int.natCast_add], by go_num, B2⟩
          case measure => simp [intOf]; omega
        · have HR : Hid (chR (l.take (k + 1)) = chR l) := Lib.hid (by rw [show k + 1 = l.length by rw [HN.out]; omega]; exact HL.out)
          have gk : ¬ (k : Int) < (n : Int) - 1 := by omega
          rw [HR.out]
          go_wp2_with fail
          go_ret
          exact ⟨rfl, HB.out⟩
set_option maxHeartbeats 1000000 in
theorem ofP_cost (v : Value) (l : List Nd) (w : World) (hv : Nds w v l) (hl : l.length ≤ 1000) : Calls Try.prog 7 #[v] w (NumP (chR l : Nat) w) := by
  have HJ := Lib.hid (joinN_any v l w hv hl)
  unfold NumP at *
  generalize chR l = z at HJ ⊢
  obtain ⟨_, a, c, rfl, -⟩ := hv
  go_enter Try.func7, Try.ntmps7
  go_wp2_with fail
  refine HJ.out.mono ?_
  rintro e w1 ⟨rfl, hb⟩
  have B := Lib.hid hb
  clear hb
  go_wp2_with fail
  go_ret
  exact ⟨rfl, B.out⟩
end Go.Proofs.Ytpingbiibbmcaab.Co

namespace Go.Proofs.Ytpingbiibbmcaab.Co
open Go Go.RowKit Go.Proofs.Ytpingbiibbmcaab.Rw Go.Proofs.Ytpingbiibbmcaab.So Go.Proofs.Ytpingbiibbmcaab.Se Go.Proofs.Ytpingbiibbmcaab.Do Go.Proofs.Ytpingbiibbmcaab.Sp
set_option maxRecDepth 20000

/-- What a law's walk tells. -/
theorem wr64 {n : Int} (h : -9223372036854775808 ≤ n ∧ n ≤ 9223372036854775807) : IntKind.i64.wrap n = n := by rw [IntKind.wrap_i64]; omega
/-- What a law's walk tells. -/
def Law (w : World) (e : Ending) (w' : World) : Prop := e = .returned (.bool true) ∧ Below w.heap.size w w'
set_option maxHeartbeats 2000000 in
theorem crashes_law (C : Con) (v : Value) (l : List Nd) (n : Int) (w : World) (hv : Nds w v l) (_hm : Nms l) : Calls Try.prog 3 #[v, .int .i64 n] w (Law w) := by
  have HF := Lib.hid (fewC_any v l w hv)
  have HA := Lib.hid (alive_of C)
  unfold Alive at HA
  have HV := Lib.hid hv
  unfold Law
  cases hl : fewC l with
  | false =>
    rw [hl] at HF
    obtain ⟨_, a, c, rfl, -⟩ := hv
    clear C hl HV
    go_enter Try.func3, Try.ntmps3
    go_wp2_with fail
    refine HF.out.mono ?_
    rintro e w1 ⟨rfl, rfl⟩
    go_wp2_with fail
    refine (HA.out _).mono ?_
    rintro e w2 ⟨rfl, hb⟩
    have T := Lib.hid hb
    clear hb
    go_wp2_with fail
    go_ret
    exact ⟨rfl, T.out⟩
  | true =>
    rw [hl] at HF
    have hlen := fewC_len hl
    clear hl
    by_cases h0 : n < 0
    · have g0 := h0
      obtain ⟨_, a, c, rfl, -⟩ := hv
      clear C HV
      go_enter Try.func3, Try.ntmps3
      go_wp2_with fail
      refine HF.out.mono ?_
      rintro e w1 ⟨rfl, rfl⟩
      go_wp2_with fail
      refine (HA.out _).mono ?_
      rintro e w2 ⟨rfl, hb⟩
      have T := Lib.hid hb
      clear hb
      go_wp2_with fail
      go_ret
      exact ⟨rfl, T.out⟩
    by_cases h1 : 1048576 ≤ n
    · have g1 := h1
      obtain ⟨_, a, c, rfl, -⟩ := hv
      clear C HV
      go_enter Try.func3, Try.ntmps3
      go_wp2_with fail
      refine HF.out.mono ?_
      rintro e w1 ⟨rfl, rfl⟩
      go_wp2_with fail
      refine (HA.out _).mono ?_
      rintro e w2 ⟨rfl, hb⟩
      have T := Lib.hid hb
      clear hb
      go_wp2_with fail
      go_ret
      exact ⟨rfl, T.out⟩
    have O1 := Lib.hid (fun w1 (hb : Below w.heap.size w w1) => C.of v l w1 (HV.out.below hb) (by omega))
    have K1 := Lib.hid (fun w1 (hb : Below w.heap.size w w1) => C.ch v l (n + 1) w1 (HV.out.below hb) (by omega))
    have K0 := Lib.hid (fun w1 (hb : Below w.heap.size w w1) => C.ch v l n w1 (HV.out.below hb) (by omega))
    have KZ := Lib.hid (fun w1 (hb : Below w.heap.size w w1) => C.ch v l 0 w1 (HV.out.below hb) (by omega))
    unfold NumP at *
    have q := crash_step (l := l) (n := n) (by omega) (by omega) (by omega)
    have b1 := crash_in l (n + 1)
    have b2 := crash_in l n
    have b3 := crash_in l 0
    have b4 := chR_len l
    obtain ⟨x1, hx1⟩ : ∃ x, crash l (n + 1) = x := ⟨_, rfl⟩
    obtain ⟨x2, hx2⟩ : ∃ x, crash l n = x := ⟨_, rfl⟩
    obtain ⟨x3, hx3⟩ : ∃ x, crash l 0 = x := ⟨_, rfl⟩
    rw [hx1] at K1 q b1
    rw [hx2] at K0 q b2
    rw [hx3] at KZ q b3
    generalize chR l = z1 at *
    clear hx1 hx2 hx3
    have Q1 := Lib.hid (show IntKind.i64.wrap (x1 - x2) = x3 from by rw [q.1]; exact wr64 ⟨by omega, by omega⟩)
    have Q2 : x3 = (z1 : Int) + 1 := q.2
    subst Q2
    have q1 : x1 - x2 = (z1 : Int) + 1 := q.1
    have hz : z1 ≤ 1000 := by omega
    clear q b1 b2 b3 b4 hlen
    obtain ⟨_, a, c, rfl, -⟩ := hv
    clear C HV
    go_enter Try.func3, Try.ntmps3
    go_wp2_with fail
    refine HF.out.mono ?_
    rintro e w1 ⟨rfl, rfl⟩
    go_wp2_with fail
    refine (HA.out _).mono ?_
    rintro e w2 ⟨rfl, hb⟩
    have T := Lib.hid hb
    clear hb
    go_wp2_with fail
    refine (K1.out _ T.out).mono ?_
    rintro e w3 ⟨rfl, hb⟩
    replace T := Lib.hid (T.out.trans (hb.mono T.out.size))
    clear hb
    go_wp2_with fail
    refine (K0.out _ T.out).mono ?_
    rintro e w3 ⟨rfl, hb⟩
    replace T := Lib.hid (T.out.trans (hb.mono T.out.size))
    clear hb
    go_wp2_with fail
    refine (KZ.out _ T.out).mono ?_
    rintro e w3 ⟨rfl, hb⟩
    replace T := Lib.hid (T.out.trans (hb.mono T.out.size))
    clear hb
    go_wp2_with fail
    refine (KZ.out _ T.out).mono ?_
    rintro e w3 ⟨rfl, hb⟩
    replace T := Lib.hid (T.out.trans (hb.mono T.out.size))
    clear hb
    go_wp2_with fail
    refine (O1.out _ T.out).mono ?_
    rintro e w3 ⟨rfl, hb⟩
    replace T := Lib.hid (T.out.trans (hb.mono T.out.size))
    clear hb
    go_wp2_with fail
    go_ret
    exact ⟨rfl, T.out⟩
end Go.Proofs.Ytpingbiibbmcaab.Co

namespace Go.Proofs.Ytpingbiibbmcaab.Co
open Go Go.RowKit Go.Proofs.Ytpingbiibbmcaab.Rw Go.Proofs.Ytpingbiibbmcaab.So Go.Proofs.Ytpingbiibbmcaab.Se Go.Proofs.Ytpingbiibbmcaab.Do Go.Proofs.Ytpingbiibbmcaab.Sp
set_option maxRecDepth 20000

theorem eg_pf (f : Nat) (hf : Pf f) : ∀ args w, (callFunc f args).run Try.prog w = .ok (.enter f args) w := by
  rcases hf with rfl | rfl | rfl <;> exact fun _ _ => by simp [go_sem]
/-- A call of the closure on a row: it tells this number. -/
def Tells (caps : Array Value) (w0 : World) (l : List Nd) (x : Nat) : Prop := ∀ (y : Value) (w1 : World), Below w0.heap.size w0 w1 → Nds w1 y l → Calls Try.prog 26 (#[y] ++ caps) w1 (NumP (x : Nat) w1)
set_option maxHeartbeats 2000000 in
theorem joinT0 (f : Nat) (caps : Array Value) (v : Value) (w : World) (hv : Rws w v []) : Calls Try.prog 24 #[v, fnV f, .func (.func 26) #[] caps] w (NumP 0 w) := by
  rcases Rx.rws_form hv with ⟨_, a, c, rfl⟩ | ⟨b, off, c, rfl, hat⟩
  all_goals
    go_enter Try.func24, Try.ntmps24
    go_wp2_with fail
    go_ret
    exact ⟨rfl, Below.refl _ _⟩
set_option maxHeartbeats 2000000 in
theorem joinT1 (f : Nat) (caps : Array Value) (v : Value) (w : World) (l : List Nd) (x : Nat) (hv : Rws w v [l]) (H : Tells caps w l x) : Calls Try.prog 24 #[v, fnV f, .func (.func 26) #[] caps] w (NumP (x : Nat) w) := by
  rcases Rx.rws_form hv with ⟨h0, _⟩ | ⟨b, off, c, rfl, hat⟩
  · cases h0
  obtain ⟨y, hy, hn⟩ := hat 0 (by simp)
  rw [Nat.add_zero] at hy
  have HC := Lib.hid (H y w (Below.refl _ _) hn)
  unfold NumP at HC
  clear hat hn H hv
  go_enter Try.func24, Try.ntmps24
  go_wp2_with fail
  refine HC.out.mono ?_
  rintro e w1 ⟨rfl, hb1⟩
  have B1 := Lib.hid hb1
  clear hb1 HC hy
  go_wp2_with fail
  all_goals
    refine Go.wp_loop_rounds 1 ?_
    rw [rounds_succ]
    go_wp2_with fail
    go_ret
    exact ⟨rfl, B1.out⟩
set_option maxHeartbeats 4000000 in
theorem joinT2 (f : Nat) (hf : Pf f) (caps : Array Value) (v : Value) (w : World) (l m : List Nd) (x z : Nat) (hx : x ≤ 2000) (hz : z ≤ 2000) (hv : Rws w v [l, m]) (H : Tells caps w l x) (G : Tells caps w m z) : Calls Try.prog 24 #[v, fnV f, .func (.func 26) #[] caps] w (NumP (pt f x z : Nat) w) := by
  have hcap : ∃ b off c, v = .slice (some ⟨b, off, none⟩) 2 c ∧ 2 ≤ c ∧ Rx.AtRs w b off [l, m] := by
    obtain ⟨cs, ⟨_, a, c, rfl, hle, _, hcell⟩, hr⟩ := id hv
    rcases Rx.rws_form hv with ⟨h0, _⟩ | ⟨b, off, c', he, hat⟩
    · cases h0
    · injection he with h1 h2 h3
      subst h1
      subst h3
      exact ⟨b, off, c, rfl, hle, hat⟩
  obtain ⟨b, off, c, rfl, hc, hat⟩ := hcap
  obtain ⟨y, hy, hn⟩ := hat 0 (by simp)
  obtain ⟨y2, hy2, hn2⟩ := hat 1 (by simp)
  rw [Nat.add_zero] at hy
  have HC := Lib.hid (H y w (Below.refl _ _) hn)
  have HD := Lib.hid (fun w1 (hb : Below w.heap.size w w1) => G y2 w1 hb (hn2.below hb))
  have HQ := Lib.hid (fun w1 => put_any f hf x z w1 hx hz)
  have HY := Lib.hid (fun w1 (hb : Below w.heap.size w w1) => show w1.cell? ⟨b, off + 1, none⟩ = some y2 by rw [hb.cell (Ap.cell_lt hy2)]; exact hy2)
  unfold NumP at HC HD
  generalize pt f x z = q at HQ ⊢
  have gc : ¬ c = 1 := by omega
  have gc1 : (1 : Int) ≤ (c : Int) := by omega
  have eg := eg_pf f hf
  clear hat hn hn2 H G hv hx hz hy2 hf
  go_enter Try.func24, Try.ntmps24
  go_wp2_with fail
  refine HC.out.mono ?_
  rintro e w1 ⟨rfl, hb1⟩
  have B1 := Lib.hid hb1
  have p1 := HY.out w1 hb1
  clear hb1 HC hy
  go_wp2_with fail
  refine Go.wp_loop_rounds 2 ?_
  rw [rounds_succ]
  go_wp2_with fail
  refine (HD.out _ B1.out).mono ?_
  rintro e w2 ⟨rfl, hb2⟩
  have B2 := Lib.hid (B1.out.trans (hb2.mono B1.out.size))
  clear hb2 HD p1
  go_wp2_with fail
  refine (HQ.out _).mono ?_
  rintro e w3 ⟨rfl, rfl⟩
  go_wp2_with fail
  rw [rounds_succ]
  go_wp2_with fail
  go_ret
  exact ⟨rfl, B2.out⟩
/-- The program's tree on a tree. -/
abbrev fb (b : Bool) : Nat := if b then 18 else 17
theorem fb_pf (b : Bool) : Pf (fb b) := by cases b <;> simp [Pf, fb]
abbrev Wpt (t : Tm) : Prop := ∀ (v : Value) (w : World) (b : Bool), Nds w v (flat t) → Calls Try.prog 21 #[v, fnV (fb b)] w (NumP (cst b t : Nat) w)
set_option maxHeartbeats 1000000 in
theorem clos_any (t : Tm) (IH : Wpt t) (b : Bool) (B : Nat) (v : Value) (w : World) (hv : Nds w v (flat t)) (hB : w.cell? ⟨B, 0, none⟩ = some (fnV (fb b))) : Calls Try.prog 26 #[v, .pointer (some ⟨B, 0, none⟩)] w (NumP (cst b t : Nat) w) := by
  have HC := Lib.hid (IH v w b hv)
  unfold NumP at *
  generalize cst b t = z at HC ⊢
  generalize fnV (fb b) = g at HC hB
  obtain ⟨_, a, c, rfl, -⟩ := hv
  clear IH
  go_enter Try.func26, Try.ntmps26
  go_wp2_with fail
  refine HC.out.mono ?_
  rintro e w1 ⟨rfl, hb⟩
  have B1 := Lib.hid hb
  clear hb
  go_wp2_with fail
  go_ret
  exact ⟨rfl, B1.out⟩
set_option maxHeartbeats 4000000 in
theorem tree_core (t : Tm) (ks : List (List Nd)) (q : Nat) (b : Bool) (v : Value) (w : World) (hv : Nds w v (flat t)) (hs : sz t ≤ 400) (hk : kids (flat t) = ks) (hq : q ≤ 1000)
    (HJ : ∀ (B : Nat) (y : Value) (w1 : World), Rws w1 y ks → w1.cell? ⟨B, 0, none⟩ = some (fnV (fb b)) → Calls Try.prog 24 #[y, fnV (tg (kd t) (fb b)), .func (.func 26) #[] #[.pointer (some ⟨B, 0, none⟩)]] w1 (NumP (q : Nat) w1)) :
    Calls Try.prog 21 #[v, fnV (fb b)] w (NumP (ow (kd t) + q : Nat) w) := by
  have KK := fun w1 (hb : Below w.heap.size w w1) => (Rx.kidsP_any v (flat t) w1 (hv.below hb) (by rw [Se.flat_len]; omega)).mono fun e w2 (h : Rw.KidsPost (kids (flat t)) w1 e w2) => show ∃ y, e = .returned y ∧ Rws w2 y ks ∧ Below w1.heap.size w1 w2 by
    obtain ⟨y, cs, he, h1, h2, hb⟩ := h
    rw [hk] at h1 h2
    exact ⟨y, he, ⟨cs, h1.rd, h2.rwc⟩, hb⟩
  have HK := Lib.hid KK
  have D0 := Lib.hid (below1 w (.cells #[fnV (fb b)] 32))
  obtain ⟨bA, oA, cA, rfl, hcA, hltA, hwA, hatA⟩ := form hv
  obtain ⟨nA, hnA⟩ : ∃ n, sz t = n + 1 := ⟨sz t - 1, by have := sz_pos t; omega⟩
  rw [hnA] at hcA HK ⊢
  have g3A : (0 : Int) < (nA : Int) + 1 := by omega
  have HP := Lib.hid (fun w1 => priced_any (kd t) (fb b) w1)
  have HJ' := Lib.hid HJ
  have how : ow (kd t) ≤ 1 := by unfold ow; split <;> omega
  have HE0 := Lib.hid (fun w1 (hb : Below w.heap.size w w1) => (hwA w1 hb).1)
  generalize tg (kd t) (fb b) = gg at HP HJ'
  generalize ow (kd t) = z at HP how ⊢
  generalize kd t = kk at HP HE0
  generalize fb b = ff at *
  unfold NumP
  clear hnA hatA hv hwA KK HJ hk hs
  have hmf : ∀ fn first cap w, (Instr.makeFunc fn first cap).run Try.prog w = .ok (.func fn first cap) w := fun _ _ _ _ => rfl
  have e0 := HE0.out _ D0.out
  have y0 : (w.alloc (.cells #[fnV ff] 32)).cell? ⟨w.heap.size, 0, none⟩ = some (fnV ff) := by simp [go_sem]
  go_enter Try.func21, Try.ntmps21
  go_wp2_with fail
  go_quiet (first | exact (HP.out _).mono fun e w1 h => ⟨h.1, _, h.2.symm⟩ | fail)
  have BN := Lib.hid (D0.out.trans (Rw.Below.drewN w.heap.size nq (w.alloc (.cells #[fnV ff] 32))))
  have YN : Hid (((w.alloc (.cells #[fnV ff] 32)).drewN nq).cell? ⟨w.heap.size, 0, none⟩ = some (fnV ff)) := Lib.hid (by
    have h := Rw.Below.drewN (w.alloc (.cells #[fnV ff] 32)).heap.size nq (w.alloc (.cells #[fnV ff] 32))
    rw [h.cell (by simp)]
    exact y0)
  clear e0 y0
  go_wp2_with fail
  refine (HK.out _ BN.out).mono ?_
  rintro e w1 ⟨y, rfl, hy, hb1⟩
  have B1 := Lib.hid (BN.out.trans (hb1.mono BN.out.size))
  have Y1 : w1.cell? ⟨w.heap.size, 0, none⟩ = some (fnV ff) := by rw [hb1.cell (Ap.cell_lt YN.out)]; exact YN.out
  have HR := Lib.hid (HJ'.out w.heap.size y w1 hy Y1)
  unfold NumP at HR
  clear hb1 hy Y1 HJ' HK HP HE0
  go_wp2_with fail
  refine HR.out.mono ?_
  rintro e w2 ⟨rfl, hb2⟩
  have B2 := Lib.hid (B1.out.trans (hb2.mono B1.out.size))
  clear hb2
  go_wp2_with fail
  go_ret
  exact ⟨ret_int (by omega), B2.out⟩
end Go.Proofs.Ytpingbiibbmcaab.Co
