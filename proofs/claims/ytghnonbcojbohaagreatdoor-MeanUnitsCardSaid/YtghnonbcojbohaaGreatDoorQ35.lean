/- What the statements call: few, plain, same, texts, act; rows that are too long for anything: the walks. The statements' own first look at package mean: what it asks, plain. The statements' own first look at package mean: the walk. MeanPlain and MeanPaired: the walks. -/
import Derived.Test.YtghnonbcojbohaaGreatDoorQ34
import Derived.Test.YtghnonbcojbohaaGreatDoorQ27
import Derived.Test.YtghnonbcojbohaaGreatDoorQ11
import Derived.Test.YtghnonbcojbohaaGreatDoorQ05

namespace Go.Proofs.YtghnonbcojbohaaGreatDoor.Mn
open Go Go.RowKit Tr
open Rw (Nd Nds)
set_option maxRecDepth 20000

def fewB (l : List Nd) : Bool := decide (l.length ≤ 120) && decide (Rw.depth l ≤ 24)
theorem few_len {l : List Nd} (h : fewB l = true) : l.length ≤ 120 := by
  unfold fewB at h
  rw [Bool.and_eq_true, decide_eq_true_eq] at h
  exact h.1
set_option maxHeartbeats 1000000 in
theorem few_any (v : Value) (l : List Nd) (w : World) (h : Nds w v l) :
    Calls Tryz.prog 10 #[v] w fun e w' => e = .returned (.bool (fewB l)) ∧ w = w' := by
  have H := Lib.hid h
  have hr : fewB l = (decide (l.length ≤ 120) && decide (Rw.depth l ≤ 24)) := rfl
  rw [hr]
  obtain ⟨d, hd⟩ : ∃ d, Rw.depth l = d := ⟨_, rfl⟩
  have HD := Lib.hid hd
  rw [hd]
  obtain ⟨_, a, cap, rfl, -⟩ := h
  clear hr hd
  by_cases h1 : l.length ≤ 120
  · rw [decide_eq_true h1, Bool.true_and]
    go_enter Tryz.func10, Tryz.ntmps10
    go_wp2_with fail
    refine (Rw.depthR_any _ l _ H.out (by omega)).mono ?_
    rw [HD.out]
    rintro e w' ⟨rfl, rfl⟩
    go_wp2_with fail
    go_ret
    exact ⟨ret_bool (decide_eq_decide.2 (by omega)), rfl⟩
  · have g1 : decide (l.length ≤ 120) = false := decide_eq_false h1
    rw [g1, Bool.false_and]
    go_enter Tryz.func10, Tryz.ntmps10
    go_wp2_with fail
    go_ret
    exact ⟨rfl, rfl⟩

/-- Rows that are too long for anything. -/
theorem big_why {l : List Nd} (h : ¬ l.length ≤ 1000) (p : Bool) : why l p = 1 ∧ Rw.whole l = false := by
  have hw : Rw.whole l = false := by
    unfold Rw.whole
    rw [show decide (l.length ≤ 200) = false from decide_eq_false (by omega)]
    simp
  refine ⟨?_, hw⟩
  have ho : So.onB l p = false := by
    cases p
    · rw [Bool.eq_false_iff]
      intro h2
      rw [(on_three h2).1] at hw
      cases hw
    · rw [Bool.eq_false_iff]
      intro h2
      rw [(on_four h2).1] at hw
      cases hw
  unfold why
  rw [ho]
  rfl
theorem big_one (a : Option Addr) (n c : Nat) (h : ¬ n ≤ 1000) (hm : n ≤ 140737488355328) (w : World) :
    Calls Tryz.prog 82 #[.slice a n c] w fun e w' => e = .returned (.bool false) ∧ w = w' := by
  have g1 : ((n : Int) == 0) = false := by rw [beq_eq_false_iff_ne]; omega
  have g2 : decide ((n : Int) > 200) = true := decide_eq_true (by omega)
  have g3 : decide ((200 : Int) < n) = true := decide_eq_true (by omega)
  go_enter Tryz.func82, Tryz.ntmps82
  go_wp2_with fail
  go_ret
  exact ⟨rfl, rfl⟩
theorem big_of (a : Option Addr) (n c : Nat) (h : ¬ n ≤ 1000) (hm : n ≤ 140737488355328) (w : World) :
    Calls Tryz.prog 47 #[.slice a n c] w fun e w' => e = .returned (.int .i64 0) ∧ w = w' := by
  go_enter Tryz.func47, Tryz.ntmps47
  go_wp2_with fail
  refine (big_one a n c h hm w).mono ?_
  rintro e w' ⟨rfl, rfl⟩
  go_wp2_with fail
  go_ret
  exact ⟨rfl, rfl⟩
theorem big_on (a : Option Addr) (n c : Nat) (h : ¬ n ≤ 1000) (hm : n ≤ 140737488355328) (w : World) :
    Calls Tryz.prog 59 #[.slice a n c, .bool false] w fun e w' => e = .returned (.bool false) ∧ w = w' := by
  go_enter Tryz.func59, Tryz.ntmps59
  go_wp2_with fail
  refine (big_of a n c h hm w).mono ?_
  rintro e w' ⟨rfl, rfl⟩
  go_wp2_with fail
  refine (Sx.plP 0 _ (by omega)).mono ?_
  rintro e w2 ⟨rfl, rfl⟩
  go_wp2_with fail
  go_ret
  exact ⟨rfl, rfl⟩
theorem big_fault (a : Option Addr) (n c : Nat) (h : ¬ n ≤ 1000) (hm : n ≤ 140737488355328) (w : World) :
    Calls Tryz.prog 34 #[.slice a n c, .bool false] w fun e w' => e = .returned (.int .i64 1) ∧ w = w' := by
  go_enter Tryz.func34, Tryz.ntmps34
  go_wp2_with fail
  refine (big_on a n c h hm w).mono ?_
  rintro e w' ⟨rfl, rfl⟩
  go_wp2_with fail
  go_ret
  exact ⟨rfl, rfl⟩
theorem big_plain (a : Option Addr) (n c : Nat) (h : ¬ n ≤ 1000) (hm : n ≤ 140737488355328) (w : World) :
    Calls Tryz.prog 12 #[.slice a n c] w fun e w' => e = .returned (.tuple #[.slice none 0 0, .int .i64 1]) ∧ w = w' := by
  go_enter Tryz.func12, Tryz.ntmps12
  go_wp2_with fail
  refine (big_fault a n c h hm w).mono ?_
  rintro e w' ⟨rfl, rfl⟩
  go_wp2_with fail
  go_ret2
  exact ⟨rfl, rfl⟩

/-- The statements' own plain. -/
def isB (l : List Nd) : Bool := why l false == 0
def PlPost (l : List Nd) (w : World) (e : Ending) (w' : World) : Prop := ∃ a c, e = .returned (.tuple #[.slice a (MtR l).length c, .bool (isB l)]) ∧ TsO any w' (.slice a (MtR l).length c) (MtR l) ∧ Below w.heap.size w w'
set_option maxHeartbeats 1000000 in
theorem plain_any (v : Value) (l : List Nd) (w : World) (hv : Nds w v l) (hm : Rw.Nms l) (hlen : l.length ≤ 140737488355328) : Calls Tryz.prog 24 #[v] w (PlPost l w) := by
  by_cases hl : l.length ≤ 1000
  · have HP := Lib.hid (plainP_any v l w hv hl hm)
    unfold PlPost isB
    obtain ⟨_, a, c, rfl, -⟩ := hv
    generalize MtR l = L at HP ⊢
    generalize why l false = z at HP ⊢
    clear hm
    go_enter Tryz.func24, Tryz.ntmps24
    go_wp2_with fail
    refine HP.out.mono ?_
    rintro e w1 ⟨a1, c1, rfl, ht, hb⟩
    have HT := Lib.hid ht
    have HB := Lib.hid hb
    clear ht hb
    go_wp2_with fail
    go_ret2
    exact ⟨_, _, rfl, HT.out, HB.out⟩
  · have hy := (big_why hl false).1
    have e1 : MtR l = [] := by unfold MtR; rw [hy]; rfl
    have e2 : isB l = false := by unfold isB; rw [hy]; rfl
    unfold PlPost
    rw [e1, e2]
    obtain ⟨_, a, c, rfl, -⟩ := hv
    clear hm hy e1 e2
    have HB := Lib.hid (fun w1 => big_plain a l.length c hl hlen w1)
    go_enter Tryz.func24, Tryz.ntmps24
    go_wp2_with fail
    refine (HB.out _).mono ?_
    rintro e w1 ⟨rfl, rfl⟩
    go_wp2_with fail
    go_ret2
    exact ⟨_, _, rfl, ts_nil _ _, Below.refl _ _⟩

set_option maxHeartbeats 1000000 in
theorem same_law (x y : Value) (l m : List Tr) (w : World) (hx : TsO any w x l) (hy : TsO any w y m) (hf : Few l) (hg : Few m) :
    Calls Tryz.prog 28 #[x, y] w fun e w' => e = .returned (.bool (same l m)) ∧ Below w.heap.size w w' := by
  have O1 := Lib.hid (fun w1 (hb : Below w.heap.size w w1) => olds_any x l w1 (hx.trs.below hb) hf.1)
  have O2 := Lib.hid (fun w1 (hb : Below w.heap.size w w1) => olds_any y m w1 (hy.trs.below hb) hg.1)
  have OS := Lib.hid (fun x y w1 h1 h2 => same_any x y l m w1 h1 h2 hf hg)
  obtain ⟨_, ⟨_, a, c, rfl, -⟩, _⟩ := hx
  obtain ⟨_, ⟨_, b, d, rfl, -⟩, _⟩ := hy
  generalize same l m = r at OS ⊢
  clear hf hg
  go_enter Tryz.func28, Tryz.ntmps28
  go_wp2_with fail
  refine (O1.out _ (Below.refl _ _)).mono ?_
  rintro e w1 ⟨v1, rfl, ht1, hb1⟩
  have B1 := Lib.hid hb1
  have T1 := Lib.hid ht1
  clear ht1 hb1
  go_wp2_with fail
  refine (O2.out _ B1.out).mono ?_
  rintro e w2 ⟨v2, rfl, ht2, hb2⟩
  have B2 := Lib.hid (B1.out.trans (hb2.mono B1.out.size))
  have T2 := Lib.hid ht2
  have T1' := Lib.hid (T1.out.below hb2)
  clear ht2 hb2
  go_wp2_with fail
  refine (OS.out _ _ _ T1'.out T2.out).mono ?_
  rintro e w3 ⟨rfl, hb3⟩
  have B3 := Lib.hid (B2.out.trans (hb3.mono B2.out.size))
  clear hb3
  go_wp2_with fail
  go_ret
  exact ⟨rfl, B3.out⟩
theorem same_self (l : List Tr) : same l l = true := (same_iff l l).2 rfl

set_option maxHeartbeats 400000 in
theorem act_any (s : ByteArray) (w : World) : Calls Tryz.prog 26 #[.string s] w fun e w' => e = .returned (.agg #[.int .i64 1, .string s, .int .i64 0]) ∧ Below w.heap.size w w' := by
  go_enter Tryz.func26, Tryz.ntmps26
  go_wp2_with fail
  refine bodyPost_ret (v := .agg #[.int .i64 1, .string s, .int .i64 0]) (by simp [results, Tryz.results26, go_sem]) rfl ⟨rfl, ?_⟩
  exact bel1 w _

/-- The statements' own texts. -/
def txs1 (s : ByteArray) (t : Tr) : ByteArray := s ++ (txt t ++ ⟨#[59]⟩)
def txl (l : List Tr) : ByteArray := l.foldl txs1 ⟨#[]⟩
theorem txl_take {l : List Tr} {k : Nat} (h : k < l.length) : txl (l.take (k + 1)) = txl (l.take k) ++ (txt l[k] ++ ⟨#[59]⟩) := by
  unfold txl
  rw [List.take_succ_eq_append_getElem h, List.foldl_append]
  rfl
theorem txl_size : ∀ (l : List Tr) (B : Nat), (∀ t ∈ l, (txt t).size ≤ B) → (txl l).size ≤ l.length * (B + 1) := by
  intro l B h
  have : ∀ (l : List Tr) (s : ByteArray), (∀ t ∈ l, (txt t).size ≤ B) → (l.foldl txs1 s).size ≤ s.size + l.length * (B + 1) := by
    intro l
    induction l with
    | nil => intro s _; simp
    | cons t l ih =>
      intro s h
      have h1 := ih (txs1 s t) fun u hu => h u (by simp [hu])
      have h2 := h t (by simp)
      have h3 : (txs1 s t).size = s.size + ((txt t).size + 1) := by unfold txs1; rw [ByteArray.size_append, ByteArray.size_append]; rfl
      rw [List.foldl_cons, List.length_cons, Nat.add_mul, Nat.one_mul]
      omega
  have h1 := this l ⟨#[]⟩ h
  have h0 : (⟨#[]⟩ : ByteArray).size = 0 := rfl
  unfold txl
  omega
set_option maxHeartbeats 1000000 in
theorem texts_any (x : Value) (l : List Tr) (w : World) (hT : Sg.Tab w) (hx : TsO any w x l) (hl : l.length ≤ 1000) (hf : ∀ t ∈ l, t.a.length ≤ 1000 ∧ (txs t.a).length ≤ 100000 ∧ (txt t).size ≤ 100000) :
    Calls Tryz.prog 33 #[x] w fun e w' => e = .returned (.string (txl l)) ∧ Below w.heap.size w w' := by
  obtain ⟨ax, cx, rfl, _, hvx⟩ := hx.val
  have HX := Lib.hid hvx
  have HF := Lib.hid hf
  have HT := Lib.hid hT
  clear hvx hx hf hT
  go_enter Tryz.func33, Tryz.ntmps33
  go_wp2_with fail
  go_loopw [3, 8] (fun v i wr => ∃ (k : Nat), k ≤ l.length ∧ i = .int .i64 k ∧ v = .string (txl (l.take k)) ∧ Below w.heap.size w wr) (fun _ i _ => l.length - (intOf i).toNat)
  case atStart => exact ⟨0, Nat.zero_le _, rfl, rfl, Below.refl _ _⟩
  case round =>
    obtain ⟨k, hk, rfl, rfl, hb⟩ := hrel
    have WB := Lib.hid hb
    clear hb
    by_cases hlt : k < l.length
    · obtain ⟨b1, o1, va1, rfl, _, e1, e2, s1⟩ := HX.out k hlt
      have HSK := Lib.hid (txl_take hlt)
      obtain ⟨f1, f2, f3⟩ := HF.out _ (List.getElem_mem hlt)
      have hsz := txl_size (l.take k) 100000 fun t ht => (HF.out t (List.mem_of_mem_take ht)).2.2
      rw [List.length_take, Nat.min_eq_left hk] at hsz
      generalize l[k] = p at *
      obtain ⟨PP, hPP⟩ : ∃ PP, txl (l.take k) = PP := ⟨_, rfl⟩
      rw [hPP] at HSK hsz
      rw [hPP]
      have hsz2 : PP.size ≤ 200000000 := by
        have : k * 100001 ≤ 1000 * 100001 := Nat.mul_le_mul_right _ (by omega)
        omega
      have TX := Lib.hid (fun w1 (hb : Below w.heap.size w w1) => textT_any va1 p w1 (Tab.below HT.out hb) (so_strs (so_below s1 hb)) (by omega) (by omega))
      have q0 : wr.cell? ⟨b1, o1 + k * 2, none⟩ = some va1 := by rw [WB.out.cell (Ap.cell_lt e1)]; exact e1
      have q1 : wr.cell? ⟨b1, o1 + k * 2 + 1, none⟩ = some (.int .i64 p.e) := by rw [WB.out.cell (Ap.cell_lt e2)]; exact e2
      generalize txt p = tp at *
      obtain ⟨_, a3, n3, rfl, _⟩ := id s1
      clear e1 e2 s1 hPP hsz
      have hs1 : (tp ++ ⟨#[59]⟩ : ByteArray).size = tp.size + 1 := by rw [ByteArray.size_append]; rfl
      have hs2 : (PP ++ (tp ++ ⟨#[59]⟩) : ByteArray).size = PP.size + (tp.size + 1) := by rw [ByteArray.size_append, hs1]
      go_wp2_with fail
      refine (TX.out _ (WB.out.alloc WB.out.size _)).mono ?_
      rintro e w1 ⟨rfl, hb1⟩
      have B1 := Lib.hid ((WB.out.alloc WB.out.size _).trans (hb1.mono (WB.out.alloc WB.out.size _).size))
      clear hb1
      go_wp2_with fail
      go_roundw
      case rel => exact ⟨k + 1, by omega, by go_num, by rw [HSK.out], B1.out⟩
      case measure => simp [intOf]; omega
    · have hkl : k = l.length := by omega
      subst hkl
      rw [List.take_length]
      go_wp2_with fail
      go_ret
      exact ⟨rfl, WB.out⟩
end Go.Proofs.YtghnonbcojbohaaGreatDoor.Mn

namespace Go.Proofs.YtghnonbcojbohaaGreatDoor.Mn
open Go Go.RowKit Tr
open Rw (Nd Nds)
set_option maxRecDepth 20000

abbrev nA : Nd := ⟨1, bA, 0⟩
abbrev nB : Nd := ⟨1, bB, 0⟩
abbrev nC : Nd := ⟨1, bC, 0⟩
abbrev nK (k : Int) : Nd := ⟨k, ⟨#[]⟩, 0⟩
def lp : List Nd := [nK 10, nA, nB]
def lt : List Nd := [nK 10, nK 3, nK 2]
def l1 : List Nd := [nK 9, nK 5, nK 10, nA, nB, nK 10, nK 3, nK 2]
def l2 : List Nd := [nK 8, nK 6, nA, nK 3, nC]
theorem y1 : why l1 false = 0 := by decide +kernel
theorem y2 : why l2 false = 0 := by decide +kernel
theorem yp : why lp true = 0 := by decide +kernel
theorem yq : why lp false = 1 := by decide +kernel
theorem sp : smallB lp = true := by decide +kernel
theorem nms_all {l : List Nd} (h : ∀ x ∈ l, x.n.size ≤ 1) : Rw.Nms l := fun x hx => by have := h x hx; omega
theorem m1 : Rw.Nms l1 := nms_all (by decide +kernel)
theorem m2 : Rw.Nms l2 := nms_all (by decide +kernel)
theorem mp : Rw.Nms lp := nms_all (by decide +kernel)
instance : DecidableEq Tr := fun x y => decidable_of_iff (x.a = y.a ∧ x.e = y.e) ⟨fun h => by cases x; cases y; cases h.1; cases h.2; rfl, fun h => by cases h; exact ⟨rfl, rfl⟩⟩
instance : DecidableEq Pr := fun x y => decidable_of_iff (x.p = y.p ∧ x.q = y.q) ⟨fun h => by cases x; cases y; cases h.1; cases h.2; rfl, fun h => by cases h; exact ⟨rfl, rfl⟩⟩
theorem t1 : Mt l1 = [⟨[bA, bB], 1⟩] := by decide +kernel
theorem t2 : Mt l2 = [⟨[bA], 1⟩, ⟨[bC], 1⟩] := by decide +kernel
theorem p3 : Mp lp = [⟨⟨[], 3⟩, ⟨[], 1⟩⟩, ⟨⟨[bA], 1⟩, ⟨[bB], 1⟩⟩] := by decide +kernel
theorem r1 : MtR l1 = [⟨[bA, bB], 1⟩] := by unfold MtR; rw [y1, t1]; rfl
theorem r2 : MtR l2 = [⟨[bA], 1⟩, ⟨[bC], 1⟩] := by unfold MtR; rw [y2, t2]; rfl
theorem r3 : MpR lp = [⟨⟨[], 3⟩, ⟨[], 1⟩⟩, ⟨⟨[bA], 1⟩, ⟨[bB], 1⟩⟩] := by unfold MpR; rw [yp, p3]; rfl
theorem r4 : MbR lp = [⟨[], 1⟩, ⟨[bB], 1⟩] := by unfold MbR; rw [yp, p3]; decide +kernel
theorem r5 : MtR lp = [] := by unfold MtR; rw [yq]; rfl
theorem x1 : txl [⟨[bA, bB], 1⟩] = ⟨#[97, 32, 98, 32, 111, 107, 59]⟩ := by decide +kernel
theorem x2 : txl [⟨[bA], 1⟩, ⟨[bC], 1⟩] = ⟨#[97, 32, 111, 107, 59, 99, 32, 111, 107, 59]⟩ := by decide +kernel
theorem x4 : txl [⟨[], 1⟩, ⟨[bB], 1⟩] = ⟨#[111, 107, 59, 98, 32, 111, 107, 59]⟩ := by decide +kernel
theorem x5 : txt ⟨[], 3⟩ = ⟨#[63]⟩ := by decide +kernel
theorem x6 : txt ⟨[bB], 1⟩ = ⟨#[98, 32, 111, 107]⟩ := by decide +kernel
/-- Nodes in a block that the call has just made. -/
theorem nds_new (w : World) (l : List Nd) (ty : TypeId) : Nds (w.alloc (.cells (Rw.cls l).toArray ty)) (.slice (some ⟨w.heap.size, 0, none⟩) l.length l.length) l := by
  refine ⟨Rw.cls_len l, some ⟨w.heap.size, 0, none⟩, l.length, rfl, Nat.le_refl _, fun h => (by cases h), fun _ => ⟨w.heap.size, 0, rfl, fun j u hu => ?_⟩⟩
  rw [Nat.zero_add, World.cell?_alloc_new]
  simpa using hu
end Go.Proofs.YtghnonbcojbohaaGreatDoor.Mn

namespace Go.Proofs.YtghnonbcojbohaaGreatDoor.Mn
open Go Go.RowKit Tr
open Rw (Nd Nds)
set_option maxRecDepth 20000

/-- A row appended to a full one. -/
theorem app_full {w : World} (a : Option Addr) (x : Value) (l m : List Nd) (hv : Nds w (.slice a l.length l.length) l) (hx : Nds w x m) (hl : l.length ≤ 1000) (hm : m.length ≤ 1000) :
    ∃ v' w', (Builtin.append_ #[22, 22] 22 #[.slice a l.length l.length, x]).run Tryz.prog w = .ok v' w' ∧ Nds w' v' (l ++ m) ∧ Below w.heap.size w w' := by
  obtain ⟨i0, hi, hz, hs1, hb8⟩ := info_parts Rw.infoN
  obtain ⟨v', w', h1, h2, h3⟩ := Ap.run_append_full (P := Tryz.prog) (t := 22) (ty := 22) Tryz.underlying22 hi hz hs1 hb8 (by rfl) (by omega) hv hx Rw.cls_one (by unfold maxLen; omega) (by omega)
  refine ⟨v', w', h1, ?_, h3⟩
  unfold Nds
  rw [Rw.cls_append, List.length_append]
  exact h2
abbrev oN (l : List Nd) : Obj := .cells (Rw.cls l).toArray 48
def l0 : List Nd := [nK 9, nK 5]
theorem two_apps (w : World) : ∃ v1 x1 v2 x2,
    (Builtin.append_ #[22, 22] 22 #[.slice (some ⟨w.heap.size, 0, none⟩) 3 3, .slice (some ⟨w.heap.size + 1, 0, none⟩) 3 3]).run Tryz.prog (((w.alloc (oN lp)).alloc (oN lt)).alloc (oN l0)) = .ok v1 x1 ∧
    (Builtin.append_ #[22, 22] 22 #[.slice (some ⟨w.heap.size + 1 + 1, 0, none⟩) 2 2, v1]).run Tryz.prog x1 = .ok v2 x2 ∧ Nds x2 v2 l1 ∧ Nds x2 (.slice (some ⟨w.heap.size, 0, none⟩) 3 3) lp ∧ Below w.heap.size w x2 := by
  have n1 := nds_new w lp 48
  obtain ⟨w1, e1⟩ : ∃ w1, w.alloc (oN lp) = w1 := ⟨_, rfl⟩
  have z1 : w1.heap.size = w.heap.size + 1 := by rw [← e1]; simp
  have b1 : Below w.heap.size w w1 := by rw [← e1]; exact bel1 _ _
  rw [e1] at n1 ⊢
  have n2 := nds_new w1 lt 48
  have b2 := bel1 w1 (oN lt)
  have n1' := n1.below b2
  rw [z1] at n2
  obtain ⟨w2, e2⟩ : ∃ w2, w1.alloc (oN lt) = w2 := ⟨_, rfl⟩
  have z2 : w2.heap.size = w.heap.size + 1 + 1 := by rw [← e2]; simp [z1]
  rw [e2] at n2 n1' b2 ⊢
  have n3 := nds_new w2 l0 48
  have b3 := bel1 w2 (oN l0)
  have n1'' := n1'.below b3
  have n2' := n2.below b3
  rw [z2] at n3
  obtain ⟨w3, e3⟩ : ∃ w3, w2.alloc (oN l0) = w3 := ⟨_, rfl⟩
  rw [e3] at n3 n1'' n2' b3 ⊢
  obtain ⟨v1, x1, h1, g1, c1⟩ := app_full _ _ lp lt n1'' n2' (by decide) (by decide)
  obtain ⟨v2, x2, h2, g2, c2⟩ := app_full _ _ l0 (lp ++ lt) (n3.below c1) g1 (by decide) (by decide)
  have b13 : Below w.heap.size w w3 := (b1.trans (b2.mono (by omega))).trans (b3.mono (by omega))
  exact ⟨v1, x1, v2, x2, h1, h2, g2, (n1''.below c1).below c2, (b13.trans (c1.mono b13.size)).trans (c2.mono (b13.trans (c1.mono b13.size)).size)⟩

theorem two_cells {w : World} {b o c : Nat} {x y : Pr} (h : PsO any w (.slice (some ⟨b, o, none⟩) 2 c) [x, y]) : ∃ z0 z1 z2 z3, w.cell? ⟨b, o, none⟩ = some z0 ∧ w.cell? ⟨b, o + 1, none⟩ = some (.int .i64 x.p.e) ∧ w.cell? ⟨b, o + 2, none⟩ = some z1 ∧ w.cell? ⟨b, o + 3, none⟩ = some (.int .i64 x.q.e) ∧
    w.cell? ⟨b, o + 4, none⟩ = some z2 ∧ w.cell? ⟨b, o + 4 + 1, none⟩ = some (.int .i64 y.p.e) ∧ w.cell? ⟨b, o + 4 + 2, none⟩ = some z3 ∧ w.cell? ⟨b, o + 4 + 3, none⟩ = some (.int .i64 y.q.e) ∧ Strs w z0 x.p.a ∧ Strs w z3 y.q.a := by
  obtain ⟨_, _, hv, _, hc⟩ := h.val
  cases hv
  obtain ⟨_, _, z0, z1, e, _, a1, a2, a3, a4, s1, s2⟩ := hc 0 (by simp)
  cases e
  obtain ⟨_, _, z2, z3, e, _, c1, c2, c3, c4, t1, t2⟩ := hc 1 (by simp)
  cases e
  exact ⟨z0, z1, z2, z3, by simpa using a1, by simpa using a2, by simpa using a3, by simpa using a4, by simpa using c1, by simpa using c2, by simpa using c3, by simpa using c4, so_strs s1, so_strs t2⟩

set_option maxHeartbeats 8000000 in
theorem alive_any (w : World) (hT : Sg.Tab w) : Calls Tryz.prog 11 #[] w fun e w' => e = .returned (.bool true) ∧ Below w.heap.size w w' := by
  have TT := Lib.hid hT
  clear hT
  go_enter Tryz.func11, Tryz.ntmps11
  go_wp2_with fail
  refine (act_any _ _).mono ?_
  rintro e w1 ⟨rfl, hb1⟩
  have B1 := Lib.hid hb1
  clear hb1
  go_wp2_with fail
  refine (act_any _ _).mono ?_
  rintro e w2 ⟨rfl, hb2⟩
  have B2 := Lib.hid (B1.out.trans (hb2.mono B1.out.size))
  clear hb2 B1
  obtain ⟨v1, x1, v2, x2, h1, h2, hn, hp, hb⟩ := two_apps w2
  have R1 := Lib.hid h1
  have R2 := Lib.hid h2
  have NP := Lib.hid hp
  have B3 := Lib.hid (B2.out.trans (hb.mono B2.out.size))
  have P1 := Lib.hid (plainP_any v2 l1 x2 hn (by decide) m1)
  rw [r1, y1] at P1
  clear h1 h2 hn hp hb
  go_wp2_with (first
    | (at_builtin; refine Ap.wpList_append_run (by rfl) _ _ _ _ rfl _ _ rfl rfl v1 x1 R1.out ?_)
    | (at_builtin; refine Ap.wpList_append_run (by rfl) _ _ _ _ rfl _ _ rfl rfl v2 x2 R2.out ?_))
  refine P1.out.mono ?_
  rintro e w3 ⟨a3, c3, rfl, ht3, hb3⟩
  have B4 := Lib.hid (B3.out.trans (hb3.mono B3.out.size))
  have NP4 := Lib.hid (NP.out.below hb3)
  have T4 := Lib.hid ht3
  clear ht3 hb3 B3 NP P1 R1 R2
  go_wp2_with fail
  refine (act_any _ _).mono ?_
  rintro e w5 ⟨rfl, hb5⟩
  have B5 := Lib.hid (B4.out.trans (hb5.mono B4.out.size))
  have NP5 := Lib.hid (NP4.out.below hb5)
  have T5 := Lib.hid (T4.out.below hb5)
  clear hb5 B4 NP4 T4
  go_wp2_with fail
  refine (act_any _ _).mono ?_
  rintro e w6 ⟨rfl, hb6⟩
  have B6 := Lib.hid (B5.out.trans (hb6.mono B5.out.size))
  have NP6 := Lib.hid (NP5.out.below hb6)
  have T6 := Lib.hid (T5.out.below hb6)
  clear hb6 B5 NP5 T5
  have N2 := Lib.hid (nds_new w6 l2 48)
  have D6 := Lib.hid (bel1 w6 (oN l2))
  have P2 := Lib.hid (plainP_any _ l2 _ N2.out (by decide) m2)
  rw [r2, y2] at P2
  go_wp2_with fail
  refine P2.out.mono ?_
  rintro e w7 ⟨a7, c7, rfl, ht7, hb7⟩
  have F7 := Lib.hid (D6.out.trans (hb7.mono D6.out.size))
  have B7 := Lib.hid (B6.out.trans (F7.out.mono B6.out.size))
  have NP7 := Lib.hid (NP6.out.below F7.out)
  have T7 := Lib.hid (T6.out.below F7.out)
  have U7 := Lib.hid ht7
  have P3 := Lib.hid (pairedP_any _ lp _ NP7.out (by decide) mp)
  rw [r3, yp] at P3
  clear ht7 hb7 F7 D6 N2 P2 B6 NP6 T6
  go_wp2_with fail
  refine P3.out.mono ?_
  rintro e w8 ⟨a8, c8, rfl, ht8, hb8⟩
  have B8 := Lib.hid (B7.out.trans (hb8.mono B7.out.size))
  have NP8 := Lib.hid (NP7.out.below hb8)
  have T8 := Lib.hid (T7.out.below hb8)
  have U8 := Lib.hid (U7.out.below hb8)
  have V8 := Lib.hid ht8
  have P4 := Lib.hid (backP_any _ lp _ NP8.out (by decide) mp)
  rw [r4, yp] at P4
  obtain ⟨b8, o8, rfl⟩ : ∃ b o, a8 = some ⟨b, o, none⟩ := by
    obtain ⟨_, _, hv, _, hc⟩ := ht8.val
    cases hv
    obtain ⟨b, o, _, _, h, _⟩ := hc 0 (by simp)
    exact ⟨b, o, h⟩
  clear ht8 hb8 P3 B7 NP7 T7 U7
  go_wp2_with fail
  refine P4.out.mono ?_
  rintro e w9 ⟨a9, c9, rfl, ht9, hb9⟩
  have B9 := Lib.hid (B8.out.trans (hb9.mono B8.out.size))
  have NP9 := Lib.hid (NP8.out.below hb9)
  have T9 := Lib.hid (T8.out.below hb9)
  have U9 := Lib.hid (U8.out.below hb9)
  have V9 := Lib.hid (V8.out.below hb9)
  have X9 := Lib.hid ht9
  have P5 := Lib.hid (plainP_any _ lp _ NP9.out (by decide) mp)
  rw [r5, yq] at P5
  clear ht9 hb9 P4 B8 NP8 T8 U8 V8
  go_wp2_with fail
  refine P5.out.mono ?_
  rintro e wA ⟨aA, cA, rfl, _, hbA⟩
  have BA := Lib.hid (B9.out.trans (hbA.mono B9.out.size))
  have NPA := Lib.hid (NP9.out.below hbA)
  have TA := Lib.hid (T9.out.below hbA)
  have UA := Lib.hid (U9.out.below hbA)
  have VA := Lib.hid (V9.out.below hbA)
  have XA := Lib.hid (X9.out.below hbA)
  have Q1 := Lib.hid (texts_any _ _ wA (Tab.below TT.out BA.out) TA.out (by simp) (by decide))
  rw [Mn.x1] at Q1
  clear hbA P5 B9 NP9 T9 U9 V9 X9
  go_wp2_with fail
  refine Q1.out.mono ?_
  rintro e wB ⟨rfl, hbB⟩
  have BB := Lib.hid (BA.out.trans (hbB.mono BA.out.size))
  have NPB := Lib.hid (NPA.out.below hbB)
  have UB := Lib.hid (UA.out.below hbB)
  have VB := Lib.hid (VA.out.below hbB)
  have XB := Lib.hid (XA.out.below hbB)
  have Q2 := Lib.hid (texts_any _ _ wB (Tab.below TT.out BB.out) UB.out (by simp) (by decide))
  rw [Mn.x2] at Q2
  clear hbB Q1 BA NPA TA UA VA XA
  go_wp2_with fail
  refine Q2.out.mono ?_
  rintro e wC ⟨rfl, hbC⟩
  have BC := Lib.hid (BB.out.trans (hbC.mono BB.out.size))
  have NPC := Lib.hid (NPB.out.below hbC)
  have VC := Lib.hid (VB.out.below hbC)
  have XC := Lib.hid (XB.out.below hbC)
  obtain ⟨z0, z1, z2, z3, k0, k1, k2, k3, k4, k5, k6, k7, h0, h1'⟩ := two_cells VC.out
  have H0 := Lib.hid (textT_any _ ⟨[], 3⟩ wC (Tab.below TT.out BC.out) h0 (by decide) (by decide))
  rw [x5] at H0
  clear hbC Q2 BB NPB UB VB XB
  go_wp2_with fail
  refine H0.out.mono ?_
  rintro e wD ⟨rfl, hbD⟩
  have BD := Lib.hid (BC.out.trans (hbD.mono BC.out.size))
  have NPD := Lib.hid (NPC.out.below hbD)
  have XD := Lib.hid (XC.out.below hbD)
  have VD := Lib.hid (VC.out.below hbD)
  clear hbD H0 BC NPC VC XC k0 k1 k2 k3 k4 k5 k6 k7 h0 h1'
  obtain ⟨z0', z1', z2', z3', k0, k1, k2, k3, k4, k5, k6, k7, h0, h1'⟩ := two_cells VD.out
  have H1 := Lib.hid (textT_any _ ⟨[bB], 1⟩ wD (Tab.below TT.out BD.out) h1' (by decide) (by decide))
  rw [x6] at H1
  go_wp2_with fail
  refine H1.out.mono ?_
  rintro e wE ⟨rfl, hbE⟩
  have BE := Lib.hid (BD.out.trans (hbE.mono BD.out.size))
  have NPE := Lib.hid (NPD.out.below hbE)
  have XE := Lib.hid (XD.out.below hbE)
  clear hbE H1 BD NPD VD XD k0 k1 k2 k3 k4 k5 k6 k7 h0 h1'
  have Q3 := Lib.hid (texts_any _ _ wE (Tab.below TT.out BE.out) XE.out (by simp) (by decide))
  rw [x4] at Q3
  go_wp2_with fail
  refine Q3.out.mono ?_
  rintro e wF ⟨rfl, hbF⟩
  have BF := Lib.hid (BE.out.trans (hbF.mono BE.out.size))
  have SM := Lib.hid (small_any _ lp wF (NPE.out.below hbF) (by decide))
  rw [sp] at SM
  clear hbF Q3 BE XE NPE
  go_wp2_with fail
  refine SM.out.mono ?_
  rintro e wG ⟨rfl, hbG⟩
  have BG := Lib.hid (BF.out.trans (hbG.mono BF.out.size))
  clear hbG SM BF
  go_wp2_with fail
  go_ret
  exact ⟨rfl, BG.out⟩
end Go.Proofs.YtghnonbcojbohaaGreatDoor.Mn

namespace Go.Proofs.YtghnonbcojbohaaGreatDoor.Mn
open Go Go.RowKit Tr
open Rw (Nd Nds)
set_option maxRecDepth 20000

theorem mt_few {l : List Nd} (h : why l false = 0) : (Mt l).length ≤ 12079595520 ∧ ∀ t ∈ Mt l, t.a.length ≤ 6 := by
  obtain ⟨h1, h2⟩ := why_ok h
  have g := gt (Sx.whole_tre (on_three h1).1) (on_three h1).2
  obtain ⟨s1, s2⟩ := small_of h2
  refine ⟨Nat.le_trans g.len (K_last s1 s2), fun x hx => ?_⟩
  have := (g.cnt all).len hx
  unfold acs at s2
  omega
theorem mp_few {l : List Nd} (h : why l true = 0) : (Mp l).length ≤ 12079595520 ∧ ∀ x ∈ Mp l, x.p.a.length ≤ 6 ∧ x.q.a.length ≤ 6 := by
  obtain ⟨h1, h2⟩ := why_ok h
  have g := gp (Sx.whole_tre (on_four h1).1) (on_four h1).2
  obtain ⟨s1, s2⟩ := small_of h2
  refine ⟨Nat.le_trans g.len (K_last s1 s2), fun x hx => ?_⟩
  have := (g.cnt all).len hx
  unfold acs at s2
  omega
theorem mtr_few (l : List Nd) : Few (MtR l) := by
  unfold MtR
  split
  · rename_i h
    obtain ⟨h1, h2⟩ := mt_few h
    exact ⟨by omega, fun t ht => by have := h2 t ht; omega⟩
  · exact ⟨Nat.zero_le _, fun t ht => (by cases ht)⟩
theorem mpr_few (l : List Nd) : (MpR l).length ≤ 1000000000000 ∧ ∀ x ∈ MpR l, x.p.a.length ≤ 1000000 ∧ x.q.a.length ≤ 1000000 := by
  unfold MpR
  split
  · rename_i h
    obtain ⟨h1, h2⟩ := mp_few h
    exact ⟨by omega, fun t ht => by have := h2 t ht; omega⟩
  · exact ⟨Nat.zero_le _, fun t ht => (by cases ht)⟩
theorem mbr_few (l : List Nd) : Few (MbR l) := by
  unfold MbR
  split
  · rename_i h
    obtain ⟨h1, h2⟩ := mp_few h
    unfold back
    refine ⟨Nat.le_trans (length_norm _) (by rw [List.length_map]; omega), fun t ht => ?_⟩
    obtain ⟨x, hx, rfl⟩ := List.mem_map.1 ((mem_norm t _).1 ht)
    have := h2 x hx
    omega
  · exact ⟨Nat.zero_le _, fun t ht => (by cases ht)⟩

set_option maxHeartbeats 4000000 in
theorem plain_law (v : Value) (l : List Nd) (w : World) (hT : Sg.Tab w) (hv : Nds w v l) (hm : Rw.Nms l) :
    Calls Tryz.prog 3 #[v] w fun e w' => e = .returned (.bool true) ∧ Below w.heap.size w w' := by
  have AL := Lib.hid (fun w1 (hb : Below w.heap.size w w1) => alive_any w1 (Tab.below hT hb))
  have NV := Lib.hid (fun w1 (hb : Below w.heap.size w w1) => hv.below hb)
  have FW := Lib.hid (few_any v l w hv)
  have HM := Lib.hid hm
  have HF := Lib.hid (mtr_few l)
  obtain ⟨_, a, cap, rfl, -⟩ := hv
  clear hm hT
  go_enter Tryz.func3, Tryz.ntmps3
  go_wp2_with fail
  refine FW.out.mono ?_
  cases hf : fewB l with
  | false =>
    rintro e w' ⟨rfl, rfl⟩
    go_wp2_with fail
    refine (AL.out _ (Below.refl _ _)).mono ?_
    rintro e wn ⟨rfl, hb⟩
    go_wp2_with fail
    go_ret
    exact ⟨rfl, hb⟩
  | true =>
    have hl := few_len hf
    clear hf
    rintro e w' ⟨rfl, rfl⟩
    have P1 := Lib.hid (fun w1 (hb : Below w.heap.size w w1) => plainP_any _ l w1 (NV.out w1 hb) (by omega) HM.out)
    have P2 := Lib.hid (fun w1 (hb : Below w.heap.size w w1) => plainR_any _ l w1 (NV.out w1 hb) (by omega) HM.out)
    have P3 := Lib.hid (fun w1 (hb : Below w.heap.size w w1) => small_any _ l w1 (NV.out w1 hb) (by omega))
    have P4 := Lib.hid (fun w1 (hb : Below w.heap.size w w1) => smallR_any _ l w1 (NV.out w1 hb) (by omega))
    generalize MtR l = L at HF P1 P2
    generalize smallB l = sm at P3 P4
    generalize why l false = z at P1 P2
    have SS := Lib.hid (fun x y w1 h1 h2 => same_any x y L L w1 h1 h2 HF.out HF.out)
    have OO := Lib.hid (fun x w1 h1 => olds_any x L w1 h1 HF.out.1)
    rw [same_self] at SS
    clear FW NV HM HF
    go_wp2_with fail
    refine (P1.out _ (Below.refl _ _)).mono ?_
    rintro e w1 ⟨a1, c1, rfl, ht1, hb1⟩
    have B1 := Lib.hid hb1
    have T1 := Lib.hid ht1
    clear ht1 hb1
    go_wp2_with fail
    refine (P2.out _ B1.out).mono ?_
    rintro e w2 ⟨a2, c2, rfl, ht2, hb2⟩
    have B2 := Lib.hid (B1.out.trans (hb2.mono B1.out.size))
    have T2 := Lib.hid ht2
    replace T1 := Lib.hid (T1.out.below hb2)
    clear ht2 hb2 B1
    go_wp2_with fail
    refine (AL.out _ B2.out).mono ?_
    rintro e w3 ⟨rfl, hb3⟩
    have B3 := Lib.hid (B2.out.trans (hb3.mono B2.out.size))
    replace T1 := Lib.hid (T1.out.below hb3)
    replace T2 := Lib.hid (T2.out.below hb3)
    clear hb3 B2
    go_wp2_with fail
    refine (OO.out _ _ T1.out.trs).mono ?_
    rintro e w4 ⟨v4, rfl, ht4, hb4⟩
    have B4 := Lib.hid (B3.out.trans (hb4.mono B3.out.size))
    have T4 := Lib.hid ht4
    replace T2 := Lib.hid (T2.out.below hb4)
    clear hb4 ht4 B3 T1
    go_wp2_with fail
    refine (SS.out _ _ _ T4.out T2.out.trs).mono ?_
    rintro e w5 ⟨rfl, hb5⟩
    have B5 := Lib.hid (B4.out.trans (hb5.mono B4.out.size))
    clear hb5 B4 T4 T2
    go_wp2_with fail
    refine (P3.out _ B5.out).mono ?_
    rintro e w6 ⟨rfl, hb6⟩
    have B6 := Lib.hid (B5.out.trans (hb6.mono B5.out.size))
    clear hb6 B5
    go_wp2_with fail
    refine (P4.out _ B6.out).mono ?_
    rintro e w7 ⟨rfl, hb7⟩
    have B7 := Lib.hid (B6.out.trans (hb7.mono B6.out.size))
    clear hb7 B6
    go_wp2_with fail
    go_ret
    exact ⟨ret_bool (by simp), B7.out⟩

set_option maxHeartbeats 4000000 in
theorem paired_law (v : Value) (l : List Nd) (w : World) (hT : Sg.Tab w) (hv : Nds w v l) (hm : Rw.Nms l) :
    Calls Tryz.prog 4 #[v] w fun e w' => e = .returned (.bool true) ∧ Below w.heap.size w w' := by
  have AL := Lib.hid (fun w1 (hb : Below w.heap.size w w1) => alive_any w1 (Tab.below hT hb))
  have NV := Lib.hid (fun w1 (hb : Below w.heap.size w w1) => hv.below hb)
  have FW := Lib.hid (few_any v l w hv)
  have HM := Lib.hid hm
  have HF := Lib.hid (mpr_few l)
  have HG := Lib.hid (mbr_few l)
  obtain ⟨_, a, cap, rfl, -⟩ := hv
  clear hm hT
  go_enter Tryz.func4, Tryz.ntmps4
  go_wp2_with fail
  refine FW.out.mono ?_
  cases hf : fewB l with
  | false =>
    rintro e w' ⟨rfl, rfl⟩
    go_wp2_with fail
    refine (AL.out _ (Below.refl _ _)).mono ?_
    rintro e wn ⟨rfl, hb⟩
    go_wp2_with fail
    go_ret
    exact ⟨rfl, hb⟩
  | true =>
    have hl := few_len hf
    clear hf
    rintro e w' ⟨rfl, rfl⟩
    have P1 := Lib.hid (fun w1 (hb : Below w.heap.size w w1) => pairedP_any _ l w1 (NV.out w1 hb) (by omega) HM.out)
    have P2 := Lib.hid (fun w1 (hb : Below w.heap.size w w1) => pairedR_any _ l w1 (NV.out w1 hb) (by omega) HM.out)
    have P3 := Lib.hid (fun w1 (hb : Below w.heap.size w w1) => backP_any _ l w1 (NV.out w1 hb) (by omega) HM.out)
    have P4 := Lib.hid (fun w1 (hb : Below w.heap.size w w1) => backR_any _ l w1 (NV.out w1 hb) (by omega) HM.out)
    generalize MpR l = L at HF P1 P2
    generalize MbR l = M at HG P3 P4
    generalize why l true = z at P1 P2 P3 P4
    have SS := Lib.hid (fun x y w1 h1 h2 => same_any x y M M w1 h1 h2 HG.out HG.out)
    have OO := Lib.hid (fun x w1 h1 => olds_any x M w1 h1 HG.out.1)
    have SP := Lib.hid (fun x y w1 h1 h2 => sameP_self x y L w1 h1 h2 HF.out.1 HF.out.2)
    have OP := Lib.hid (fun x w1 h1 => oldsP_any x L w1 h1 HF.out.1)
    rw [same_self] at SS
    clear FW NV HM HF HG
    go_wp2_with fail
    refine (P1.out _ (Below.refl _ _)).mono ?_
    rintro e w1 ⟨a1, c1, rfl, ht1, hb1⟩
    have B1 := Lib.hid hb1
    have T1 := Lib.hid ht1
    clear ht1 hb1
    go_wp2_with fail
    refine (P2.out _ B1.out).mono ?_
    rintro e w2 ⟨a2, c2, rfl, ht2, hb2⟩
    have B2 := Lib.hid (B1.out.trans (hb2.mono B1.out.size))
    have T2 := Lib.hid ht2
    replace T1 := Lib.hid (T1.out.below hb2)
    clear ht2 hb2 B1
    go_wp2_with fail
    refine (P3.out _ B2.out).mono ?_
    rintro e w3 ⟨a3, c3, rfl, ht3, hb3⟩
    have B3 := Lib.hid (B2.out.trans (hb3.mono B2.out.size))
    have T3 := Lib.hid ht3
    replace T1 := Lib.hid (T1.out.below hb3)
    replace T2 := Lib.hid (T2.out.below hb3)
    clear ht3 hb3 B2
    go_wp2_with fail
    refine (P4.out _ B3.out).mono ?_
    rintro e w4 ⟨a4, c4, rfl, ht4, hb4⟩
    have B4 := Lib.hid (B3.out.trans (hb4.mono B3.out.size))
    have T4 := Lib.hid ht4
    replace T1 := Lib.hid (T1.out.below hb4)
    replace T2 := Lib.hid (T2.out.below hb4)
    replace T3 := Lib.hid (T3.out.below hb4)
    clear ht4 hb4 B3
    go_wp2_with fail
    refine (AL.out _ B4.out).mono ?_
    rintro e w5 ⟨rfl, hb5⟩
    have B5 := Lib.hid (B4.out.trans (hb5.mono B4.out.size))
    replace T1 := Lib.hid (T1.out.below hb5)
    replace T2 := Lib.hid (T2.out.below hb5)
    replace T3 := Lib.hid (T3.out.below hb5)
    replace T4 := Lib.hid (T4.out.below hb5)
    clear hb5 B4
    go_wp2_with fail
    refine (OP.out _ _ T1.out).mono ?_
    rintro e w6 ⟨a6, c6, rfl, ht6, hb6⟩
    have B6 := Lib.hid (B5.out.trans (hb6.mono B5.out.size))
    have T6 := Lib.hid (ht6.imp (ok' := any) fun _ _ _ => trivial)
    replace T2 := Lib.hid (T2.out.below hb6)
    replace T3 := Lib.hid (T3.out.below hb6)
    replace T4 := Lib.hid (T4.out.below hb6)
    clear hb6 ht6 B5 T1
    go_wp2_with fail
    refine (SP.out _ _ _ T6.out T2.out).mono ?_
    rintro e w7 ⟨rfl, hb7⟩
    have B7 := Lib.hid (B6.out.trans (hb7.mono B6.out.size))
    replace T3 := Lib.hid (T3.out.below hb7)
    replace T4 := Lib.hid (T4.out.below hb7)
    clear hb7 B6 T6 T2
    go_wp2_with fail
    refine (OO.out _ _ T3.out.trs).mono ?_
    rintro e w8 ⟨v8, rfl, ht8, hb8⟩
    have B8 := Lib.hid (B7.out.trans (hb8.mono B7.out.size))
    have T8 := Lib.hid ht8
    replace T4 := Lib.hid (T4.out.below hb8)
    clear hb8 ht8 B7 T3
    go_wp2_with fail
    refine (SS.out _ _ _ T8.out T4.out.trs).mono ?_
    rintro e w9 ⟨rfl, hb9⟩
    have B9 := Lib.hid (B8.out.trans (hb9.mono B8.out.size))
    clear hb9 B8 T8 T4
    go_wp2_with fail
    go_ret
    exact ⟨ret_bool (by simp), B9.out⟩
end Go.Proofs.YtghnonbcojbohaaGreatDoor.Mn
