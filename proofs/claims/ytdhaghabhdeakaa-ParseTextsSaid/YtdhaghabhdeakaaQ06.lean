/- The document's Lex: the walk. Plain: the sorts of trees. Nodes that are compared as structs. The program's isLetter, kindOf, letters, isName. A text that came in. Plain: a tree's text is read as its tokens; its text without blanks, too; what a text is parsed as. The document's One and Two. The document's Kids. -/
import Derived.Test.YtdhaghabhdeakaaQ05
import Derived.Test.YtdhaghabhdeakaaQ04
import Derived.Laws.StructEq
import Derived.Laws.RangeAny

namespace Go.Proofs.Ytdhaghabhdeakaa.To
open Go Go.RowKit
set_option maxRecDepth 20000

set_option maxHeartbeats 2000000 in
theorem lexR_short (s : ByteArray) (w : World) (h : s.size ≤ 1000) : Calls Try.prog 28 #[.string s] w (LexPost (lexR s) s.size w) := by
  have HL : Hid (lexR s = F s.data.toList 0) := if_neg (by omega)
  go_enter Try.func28, Try.ntmps28
  go_wp2_with fail
  go_loopw [5, 6] (fun ov av wr => ∃ p : Nat, p ≤ s.size ∧ av = .int .i64 p ∧ Hid (Lx w wr ov s p)) (fun _ a _ => s.size - (intOf a).toNat)
  case atStart => exact ⟨0, Nat.zero_le _, rfl, Lib.hid (Lx.start w s)⟩
  case round =>
    obtain ⟨p, hp, rfl, HD⟩ := hrel
    have HB := Lib.hid HD.out.below
    by_cases hlt : p < s.size
    · go_wp2_with fail
      go_loop [7] (fun tv => ∃ q : Nat, p ≤ q ∧ q ≤ s.size ∧ tv = .int .i64 q ∧ Hid (∀ b ∈ (s.data.toList.drop p).take (q - p), letB b = true)) (fun t => s.size - (intOf t).toNat)
      case atStart => exact ⟨p, Nat.le_refl _, hp, rfl, Lib.hid (by rw [Nat.sub_self, List.take_zero]; intro b hb; cases hb)⟩
      case round =>
        obtain ⟨q, hpq, hq, rfl, HA⟩ := hrel
        by_cases hlq : q < s.size
        · cases hb : letB s[q] with
          | true =>
            have HA' : Hid (∀ b ∈ (s.data.toList.drop p).take (q + 1 - p), letB b = true) := Lib.hid (by
              rw [take_more hpq hlq]
              intro c hc
              rcases List.mem_append.1 hc with hc | hc
              · exact HA.out c hc
              · rw [List.mem_singleton] at hc
                rw [hc]
                exact hb)
            have HQB := Lib.hid hb
            clear hb
            go_wp2_with fail
            refine (letR_any s[q] _).mono ?_
            rw [HQB.out]
            rintro e w'' ⟨rfl, rfl⟩
            go_wp2_with fail
            go_round
            case rel => exact ⟨q + 1, by omega, by omega, by go_num, HA'⟩
            case measure => simp [intOf]; omega
          | false =>
            have HW := Lib.hid (Wd.stop hpq HA.out hlq hb)
            have HQB := Lib.hid hb
            clear hb
            by_cases h8 : 8 < q - p
            · have HF := Lib.hid (HD.out.bad (HW.out.long h8))
              go_wp2_with fail
              refine (letR_any s[q] _).mono ?_
              rw [HQB.out]
              rintro e w'' ⟨rfl, rfl⟩
              go_wp2_with fail
              go_ret3
              exact HL.out.symm ▸ LexPost_bad HF.out HB.out
            · by_cases h1 : 1 ≤ q - p
              · obtain ⟨v', w', hrun, hlx⟩ := HD.out.next ⟨10, p, s.extract p q⟩ (HW.out.word h1 h8) (show p < q by omega) (by omega)
                have R := Lib.hid hrun
                have HD' := Lib.hid hlx
                clear hrun hlx
                go_wp2_with (at_builtin; refine Ap.wpList_append_run (by rfl) (.tmp 36) (.tmp 43) _ _ rfl _ _ rfl rfl v' w' R.out ?_)
                refine (letR_any s[q] _).mono ?_
                rw [HQB.out]
                rintro e w'' ⟨rfl, rfl⟩
                go_wp2_with (at_builtin; refine Ap.wpList_append_run (by rfl) (.tmp 36) (.tmp 43) _ _ rfl _ _ rfl rfl v' w' R.out ?_)
                go_roundw
                case rel => exact ⟨q, by omega, rfl, HD'⟩
                case measure => simp [intOf]; omega
              · obtain rfl : q = p := by omega
                have HNL := Lib.hid (HW.out.none hlt)
                obtain ⟨b, hb⟩ : ∃ b, s[q] = b := ⟨_, rfl⟩
                have HBB := Lib.hid hb
                rw [hb] at HNL
                obtain ⟨z, hz⟩ : ∃ z, sig b = z := ⟨_, rfl⟩
                have HZ := Lib.hid hz
                by_cases h32 : b = 32
                · have HN : Hid (s[q].toNat = 32) := by show _ = _; rw [hb, h32]; rfl
                  have HD' := Lib.hid (HD.out.skip (F_blank_at hlt (by rw [hb, h32])) (show q ≤ q + 1 by omega))
                  clear hb hz h32
                  go_wp2_with fail
                  refine (letR_any s[q] _).mono ?_
                  rw [HQB.out]
                  rintro e w'' ⟨rfl, rfl⟩
                  have hn := HN.out
                  go_wp2_with fail
                  go_roundw
                  case rel => exact ⟨q + 1, by omega, by go_num, HD'⟩
                  case measure => simp [intOf]; omega
                · have hn : ((s[q].toNat : Int) != 32) = true := by rw [bne_iff_ne, hb]; intro e; exact h32 (UInt8.toNat.inj (by show b.toNat = 32; omega))
                  by_cases h0 : z = 0
                  · have HF := Lib.hid (HD.out.bad (F_byte_at hlt (by rw [hb]; exact HNL.out) (by rw [hb]; exact h32) (by rw [hb, hz]; exact h0)))
                    subst h0
                    clear hb hz h32
                    go_wp2_with fail
                    refine (letR_any s[q] _).mono ?_
                    rw [HQB.out]
                    rintro e w'' ⟨rfl, rfl⟩
                    go_wp2_with fail
                    refine (kindR_any s[q] _).mono ?_
                    rw [HBB.out, HZ.out]
                    rintro e w'' ⟨rfl, rfl⟩
                    go_wp2_with fail
                    go_ret3
                    exact HL.out.symm ▸ LexPost_bad HF.out HB.out
                  · obtain ⟨v', w', hrun, hlx⟩ := HD.out.next ⟨(z : Nat), q, ⟨#[]⟩⟩ (by rw [← hz, ← hb]; exact F_sig_at hlt (by rw [hb]; exact HNL.out) (by rw [hb]; exact h32) (by rw [hb, hz]; exact h0)) (show q < q + 1 by omega) (by omega)
                    have R := Lib.hid hrun
                    have HD' := Lib.hid hlx
                    have gz : ((z : Int) == 0) = false := by rw [beq_eq_false_iff_ne]; omega
                    clear hb hz h32 hrun hlx h0
                    go_wp2_with fail
                    refine (letR_any s[q] _).mono ?_
                    rw [HQB.out]
                    rintro e w'' ⟨rfl, rfl⟩
                    go_wp2_with fail
                    refine (kindR_any s[q] _).mono ?_
                    rw [HBB.out, HZ.out]
                    rintro e w'' ⟨rfl, rfl⟩
                    go_wp2_with fail
                    refine (kindR_any s[q] _).mono ?_
                    rw [HBB.out, HZ.out]
                    rintro e w'' ⟨rfl, rfl⟩
                    go_wp2_with (at_builtin; refine Ap.wpList_append_run (by rfl) (.tmp 62) (.tmp 69) _ _ rfl _ _ rfl rfl v' w' R.out ?_)
                    go_roundw
                    case rel => exact ⟨q + 1, by omega, by go_num, HD'⟩
                    case measure => simp [intOf]; omega
        · have HW := Lib.hid (Wd.end hpq HA.out hlq hq)
          by_cases h8 : 8 < q - p
          · have HF := Lib.hid (HD.out.bad (HW.out.long h8))
            go_wp2_with fail
            go_ret3
            exact HL.out.symm ▸ LexPost_bad HF.out HB.out
          · by_cases h1 : 1 ≤ q - p
            · obtain ⟨v', w', hrun, hlx⟩ := HD.out.next ⟨10, p, s.extract p q⟩ (HW.out.word h1 h8) (show p < q by omega) (by omega)
              have R := Lib.hid hrun
              have HD' := Lib.hid hlx
              clear hrun hlx
              go_wp2_with (at_builtin; refine Ap.wpList_append_run (by rfl) (.tmp 36) (.tmp 43) _ _ rfl _ _ rfl rfl v' w' R.out ?_)
              go_roundw
              case rel => exact ⟨q, by omega, rfl, HD'⟩
              case measure => simp [intOf]; omega
            · exfalso
              omega
    · have HX := Lib.hid (HD.out.done hlt h)
      go_wp2_with fail
      go_ret3
      exact HX.out
theorem lexR_any (s : ByteArray) (w : World) : Calls Try.prog 28 #[.string s] w (LexPost (lexR s) s.size w) := by
  by_cases h : 1000 < s.size
  · exact lexR_long s w h
  · exact lexR_short s w (by omega)
end Go.Proofs.Ytdhaghabhdeakaa.To

namespace Go.Proofs.Ytdhaghabhdeakaa.So
open Go.Proofs.Ytdhaghabhdeakaa.Rw

def k0 (l : List Nd) : List Nd := (kids l).getD 0 []
def k1 (l : List Nd) : List Nd := (kids l).getD 1 []
def hd (l : List Nd) : Int := match l with | [] => 0 | n :: _ => n.k
/-- The four sorts, one step; t: what its kids are. -/
def plainB (t : Nat → List Nd → Bool) (l : List Nd) : Bool :=
  if hd l = 1 ∨ hd l = 2 ∨ hd l = 3 ∨ hd l = 4 then true
  else if hd l = 5 ∨ hd l = 6 ∨ hd l = 7 ∨ hd l = 8 then t 1 (k0 l) && t 1 (k1 l)
  else if hd l = 9 then t 2 (k0 l) else false
def pairedB (t : Nat → List Nd → Bool) (l : List Nd) : Bool :=
  if hd l = 10 then t 1 (k0 l) && t 1 (k1 l)
  else if hd l = 5 ∨ hd l = 6 ∨ hd l = 7 then t 2 (k0 l) && t 2 (k1 l) else false
def plainOnB (t : Nat → List Nd → Bool) (l : List Nd) : Bool :=
  if hd l = 11 then true
  else if hd l = 5 ∨ hd l = 8 then t 3 (k0 l) && t 1 (k1 l)
  else if hd l = 7 then t 3 (k0 l) && t 3 (k1 l)
  else if hd l = 9 then t 4 (k0 l) else false
def pairedOnB (t : Nat → List Nd → Bool) (l : List Nd) : Bool :=
  if hd l = 12 then t 3 (k0 l) && t 1 (k1 l)
  else if hd l = 5 then t 4 (k0 l) && t 2 (k1 l)
  else if hd l = 7 then t 4 (k0 l) && t 4 (k1 l)
  else if hd l = 13 then t 4 (k0 l) && t 1 (k1 l)
  else if hd l = 14 then t 1 (k0 l) else false
def stepB (t : Nat → List Nd → Bool) (s : Nat) (l : List Nd) : Bool :=
  if s = 1 then plainB t l else if s = 2 then pairedB t l else if s = 3 then plainB t l || plainOnB t l else pairedB t l || pairedOnB t l
def isF : Nat → Nat → List Nd → Bool
  | 0, _, _ => false
  | f + 1, s, l => stepB (isF f) s l
theorem kids_short {l r : List Nd} (hr : r ∈ kids l) : r.length < l.length := by
  have hs : size l ≠ 0 := fun e => by
    unfold kids at hr
    rw [if_pos e] at hr
    cases hr
  have h0 : 0 < l.length := by have := size_le l; omega
  cases l with
  | nil => simp at h0
  | cons n rs =>
    have := kids_flat hs
    have h1 : r.length ≤ (kids (n :: rs)).flatten.length := by
      obtain ⟨s, t, hst⟩ := List.append_of_mem hr
      rw [hst]
      simp
      omega
    have h2 : (kids (n :: rs)).flatten.length + 1 = ((n :: rs).take (size (n :: rs))).length := by rw [← this]; simp
    rw [List.length_take] at h2
    omega
theorem getD_short (l : List Nd) (i : Nat) (h : 0 < l.length) : ((kids l).getD i []).length < l.length := by
  rw [List.getD_eq_getElem?_getD]
  cases hx : (kids l)[i]? with
  | none => simpa using h
  | some r => exact kids_short (List.mem_of_getElem? hx)
theorem hd_nil : hd [] = 0 := rfl
theorem stepB_congr {t t' : Nat → List Nd → Bool} (s : Nat) (l : List Nd) (h : ∀ s i, t s ((kids l).getD i []) = t' s ((kids l).getD i [])) : stepB t s l = stepB t' s l := by
  unfold stepB plainB pairedB plainOnB pairedOnB k0 k1
  simp only [h]
theorem stepB_nil (t : Nat → List Nd → Bool) (s : Nat) : stepB t s [] = false := by
  unfold stepB plainB pairedB plainOnB pairedOnB
  simp [hd]
theorem isF_nil : ∀ (f s : Nat), isF f s [] = false
  | 0, _ => rfl
  | _ + 1, s => stepB_nil _ s
theorem isF_fuel : ∀ (f : Nat) (s : Nat) (l : List Nd), l.length ≤ f → isF (f + 1) s l = isF f s l
  | 0, s, l, h => by
    have : l = [] := List.eq_nil_of_length_eq_zero (by omega)
    subst this
    rw [isF_nil, isF_nil]
  | f + 1, s, l, h => by
    by_cases h0 : 0 < l.length
    · exact stepB_congr s l fun s' i => isF_fuel f s' _ (by have := getD_short l i h0; omega)
    · have : l = [] := List.eq_nil_of_length_eq_zero (by omega)
      subst this
      rw [isF_nil, isF_nil]
/-- Is a tree of a sort? 1: plain, 2: paired, 3: plain or goes on so, 4: paired or goes on so. -/
def Is (s : Nat) (l : List Nd) : Bool := isF l.length s l
theorem isF_Is (f s : Nat) (l : List Nd) (h : l.length ≤ f) : isF f s l = Is s l := by
  have : ∀ g, isF (l.length + g) s l = isF l.length s l := by
    intro g
    induction g with
    | zero => rfl
    | succ g ih => rw [← Nat.add_assoc, isF_fuel _ _ _ (by omega), ih]
  have h' := this (f - l.length)
  rw [show l.length + (f - l.length) = f by omega] at h'
  exact h'
theorem Is_eq (s : Nat) (l : List Nd) : Is s l = stepB Is s l := by
  cases hl : l.length with
  | zero =>
    have : l = [] := List.eq_nil_of_length_eq_zero hl
    subst this
    rw [stepB_nil]
    rfl
  | succ n =>
    unfold Is
    rw [hl]
    exact stepB_congr s l fun s' i => isF_Is n s' _ (by have := getD_short l i (by omega); omega)
theorem Is_one (l : List Nd) : Is 1 l = plainB Is l := Is_eq 1 l
theorem Is_two (l : List Nd) : Is 2 l = pairedB Is l := Is_eq 2 l
theorem Is_three (l : List Nd) : Is 3 l = (plainB Is l || plainOnB Is l) := Is_eq 3 l
theorem Is_four (l : List Nd) : Is 4 l = (pairedB Is l || pairedOnB Is l) := Is_eq 4 l
theorem one_three {l : List Nd} (h : Is 1 l = true) : Is 3 l = true := by rw [Is_three, ← Is_one, h]; rfl
theorem two_four {l : List Nd} (h : Is 2 l = true) : Is 4 l = true := by rw [Is_four, ← Is_two, h]; rfl

/-- The sort of a row. -/
def first (l : List Nd) : Nat := if Is 1 l then 1 else if Is 2 l then 2 else if Is 3 l then 3 else if Is 4 l then 4 else 0
def of (l : List Nd) : Nat := if whole l then first l else 0
theorem of_le (l : List Nd) : of l ≤ 4 := by
  unfold of first
  repeat' split
  all_goals omega

/-- No tree is of both kinds. -/
theorem apart : ∀ (m : Nat) (l : List Nd), l.length ≤ m → ¬ (Is 3 l = true ∧ Is 4 l = true)
  | 0, l, h, hh => by
    have : l = [] := List.eq_nil_of_length_eq_zero (by omega)
    subst this
    rw [Is_eq, stepB_nil] at hh
    cases hh.1
  | m + 1, l, h, hh => by
    by_cases h0 : 0 < l.length
    case neg =>
      have : l = [] := List.eq_nil_of_length_eq_zero (by omega)
      subst this
      rw [Is_eq, stepB_nil] at hh
      cases hh.1
    have i0 := apart m (k0 l) (by have := getD_short l 0 h0; unfold k0; omega)
    obtain ⟨h3, h4⟩ := hh
    have key : ∀ r, (Is 1 r = true ∨ Is 3 r = true) → (Is 2 r = true ∨ Is 4 r = true) → Is 3 r = true ∧ Is 4 r = true := fun r a b =>
      ⟨a.elim one_three id, b.elim two_four id⟩
    rw [Is_three, Bool.or_eq_true] at h3
    rw [Is_four, Bool.or_eq_true] at h4
    unfold plainB plainOnB at h3
    unfold pairedB pairedOnB at h4
    generalize hd l = k at h3 h4
    apply i0
    apply key
    · rcases h3 with h3 | h3
      all_goals
        repeat' split at h3
        all_goals (first | (simp only [Bool.and_eq_true] at h3; exact Or.inl h3.1) | (simp only [Bool.and_eq_true] at h3; exact Or.inr h3.1) | skip)
        all_goals (exfalso; rcases h4 with h4 | h4 <;> (repeat' split at h4) <;> first | omega | (cases h4; done) | (cases h3; done))
    · rcases h4 with h4 | h4
      all_goals
        repeat' split at h4
        all_goals (first | (simp only [Bool.and_eq_true] at h4; exact Or.inl h4.1) | (simp only [Bool.and_eq_true] at h4; exact Or.inr h4.1) | skip)
        all_goals (exfalso; rcases h3 with h3 | h3 <;> (repeat' split at h3) <;> first | omega | (cases h4; done) | (cases h3; done))
end Go.Proofs.Ytdhaghabhdeakaa.So

namespace Go.Proofs.Ytdhaghabhdeakaa.Rw
open Go Go.RowKit
set_option maxRecDepth 20000

theorem nd_ext {x y : Nd} : x = y ↔ x.k = y.k ∧ x.n = y.n ∧ x.s = y.s := by
  cases x; cases y; simp
theorem eql_nd (d : Nat) (x y : Nd) (w : World) : (Op.equalIn (d + 2) 37 (.agg #[.int .i64 x.k, .string x.n, .int .i64 x.s]) (.agg #[.int .i64 y.k, .string y.n, .int .i64 y.s])).run Try.prog w = .ok (decide (x = y)) w := by
  rw [run_equalIn_struct w (d + 1) _ _ _ (by kernel_rfl) (by kernel_rfl)]
  simp only [Program.fieldsOf, Try.underlying37]
  by_cases h1 : x.k = y.k
  · by_cases h2 : x.n = y.n
    · by_cases h3 : x.s = y.s
      · rw [decide_eq_true (nd_ext.2 ⟨h1, h2, h3⟩), h1, h2, h3]
        simp [go_sem, Op.eqFields]
      · rw [decide_eq_false (fun e => h3 (nd_ext.1 e).2.2), h1, h2]
        simp [go_sem, Op.eqFields, h3]
    · have e2 : (x.n.toList == y.n.toList) = false := by
        rw [ByteArray.toList_eq y.n]
        exact str_ne' fun e => h2 (by rw [e])
      rw [decide_eq_false (fun e => h2 (nd_ext.1 e).2.1), h1]
      simp [go_sem, Op.eqFields, e2]
  · rw [decide_eq_false (fun e => h1 (nd_ext.1 e).1)]
    simp [go_sem, Op.eqFields, h1]
theorem neq_nd (x y : Nd) (w : World) : (binOp .neq 37 (.agg #[.int .i64 x.k, .string x.n, .int .i64 x.s]) (.agg #[.int .i64 y.k, .string y.n, .int .i64 y.s])).run Try.prog w = .ok (.bool (!decide (x = y))) w := by
  rw [run_neq_struct, show (10000 : Nat) = 9998 + 2 from rfl, eql_nd]
  rfl
end Go.Proofs.Ytdhaghabhdeakaa.Rw

namespace Go.Proofs.Ytdhaghabhdeakaa.To
open Go Go.RowKit
set_option maxRecDepth 20000
def ltI (r : Int) : Bool := decide (97 ≤ r) && decide (r ≤ 122)
theorem letB_int (b : UInt8) : ltI (b.toNat : Int) = letB b := by
  unfold ltI letB
  rw [Bool.eq_iff_iff]
  simp
  omega
theorem isLet_any (r : Int) (w : World) : Calls Try.prog 61 #[.int .i32 r] w fun e w' => e = .returned (.bool (ltI r)) ∧ w = w' := by
  by_cases h1 : 97 ≤ r
  · by_cases h2 : r ≤ 122
    · have e : ltI r = true := by unfold ltI; simp; omega
      have d1 : decide (97 ≤ r) = true := by simp; omega
      have d2 : decide (r ≤ 122) = true := by simp; omega
      rw [e]
      clear e
      go_enter Try.func61, Try.ntmps61
      go_wp2_with fail
      go_ret
      first
        | exact ⟨rfl, rfl⟩
        | exact ⟨ret_bool (by simp [h1, h2]), rfl⟩
    · have e : ltI r = false := by unfold ltI; simp; omega
      have d1 : decide (97 ≤ r) = true := by simp; omega
      have d2 : decide (r ≤ 122) = false := by simp; omega
      rw [e]
      clear e
      go_enter Try.func61, Try.ntmps61
      go_wp2_with fail
      go_ret
      first
        | exact ⟨rfl, rfl⟩
        | exact ⟨ret_bool (by simp; omega), rfl⟩
  · have e : ltI r = false := by unfold ltI; simp; omega
    have d1 : decide (97 ≤ r) = false := by simp; omega
    rw [e]
    clear e
    go_enter Try.func61, Try.ntmps61
    go_wp2_with fail
    go_ret
    first
      | exact ⟨rfl, rfl⟩
      | exact ⟨ret_bool (by simp; omega), rfl⟩
/-- The marks, in their order. -/
def markL : List Nat := [40, 41, 91, 93, 59, 43, 124, 62, 47]
/-- The kind of the token that begins with a rune. -/
def kdM : List Nat → Nat → Int → Nat
  | [], _, _ => 0
  | m :: l, i, r => if (m : Int) = r then i + 1 else kdM l (i + 1) r
def kdI (r : Int) : Nat := if ltI r then 10 else kdM markL 0 r
theorem kdM_drop {k : Nat} (h : k < 9) (r : Int) (hk : kdM (markL.drop k) k r = kdM markL 0 r) : kdM markL 0 r = if ((markL[k]! : Nat) : Int) = r then k + 1 else kdM (markL.drop (k + 1)) (k + 1) r := by
  rw [← hk, List.drop_eq_getElem_cons (by simpa [markL] using h), kdM]
  rw [show markL[k]! = markL[k]'(by simpa [markL] using h) from getElem!_pos ..]
theorem kd_sig (b : UInt8) (h : letB b = false) : kdI (b.toNat : Int) = sig b := by
  have hl : ltI (b.toNat : Int) = false := (letB_int b).trans h
  unfold kdI
  rw [hl, if_neg (by decide)]
  clear hl h
  have hk : ∀ n, n < 256 → kdM markL 0 ((n : Nat) : Int) = sig (UInt8.ofNat n) := by decide +kernel
  have := hk b.toNat b.toNat_lt
  rwa [UInt8.ofNat_toNat] at this
theorem kd_let (b : UInt8) (h : letB b = true) : kdI (b.toNat : Int) = 10 := by
  have hl : ltI (b.toNat : Int) = true := (letB_int b).trans h
  unfold kdI
  rw [hl, if_pos rfl]
theorem kd_high {r : Int} (h : 128 ≤ r) : kdI r = 0 := by
  have hl : ltI r = false := by unfold ltI; simp; omega
  unfold kdI
  rw [hl, if_neg (by decide)]
  simp only [markL, kdM]
  repeat rw [if_neg (by omega)]
theorem mark_at : ∀ k, (h : k < 9) → ((⟨#[40, 41, 91, 93, 59, 43, 124, 62, 47]⟩ : ByteArray)[k]'h).toNat = markL[k]! ∧ markL[k]! < 128 := by decide +kernel
set_option maxHeartbeats 1000000 in
theorem kind_any (r : Int) (w : World) : Calls Try.prog 41 #[.int .i32 r] w fun e w' => e = .returned (.int .i64 (kdI r : Nat)) ∧ Below w.heap.size w w' := by
  cases hl : ltI r with
  | true =>
    have e : kdI r = 10 := by unfold kdI; rw [hl, if_pos rfl]
    rw [e]
    have HL := Lib.hid hl
    clear hl e
    go_enter Try.func41, Try.ntmps41
    go_wp2_with fail
    refine (isLet_any r _).mono ?_
    rw [HL.out]
    rintro e w' ⟨rfl, rfl⟩
    go_wp2_with fail
    go_ret
    exact ⟨rfl, Below.refl _ _⟩
  | false =>
    have e : kdI r = kdM markL 0 r := by unfold kdI; rw [hl, if_neg (by decide)]
    have HL := Lib.hid hl
    have HK := Lib.hid e
    clear hl e
    go_enter Try.func41, Try.ntmps41
    go_wp2_with fail
    refine (isLet_any r _).mono ?_
    rw [HL.out]
    rintro e w' ⟨rfl, rfl⟩
    go_wp2_with fail
    go_loopw [] (fun wr => ∃ pos : Nat, pos ≤ 9 ∧ wr = w.iter ⟨#[40, 41, 91, 93, 59, 43, 124, 62, 47]⟩ pos ∧ Hid (kdM (markL.drop pos) pos r = kdM markL 0 r)) (fun wr => 9 - wr.iterPos w.heap.size)
    case atStart => exact ⟨0, Nat.zero_le _, rfl, Lib.hid rfl⟩
    case round =>
      obtain ⟨pos, hp, rfl, HM⟩ := hrel
      by_cases hlt : pos < 9
      · have HS := Lib.hid (kdM_drop hlt r HM.out)
        have hc := (mark_at pos hlt).1
        have h128 := (mark_at pos hlt).2
        obtain ⟨c, hcc⟩ : ∃ c, markL[pos]! = c := ⟨_, rfl⟩
        have hnx : ∀ ty, (Instr.next (.pointer (some ⟨w.heap.size, 0, none⟩)) true ty).run Try.prog (w.iter ⟨#[40, 41, 91, 93, 59, 43, 124, 62, 47]⟩ pos) = _ := fun ty => run_next_ascii w ⟨#[40, 41, 91, 93, 59, 43, 124, 62, 47]⟩ pos ty hlt (by rw [hc]; exact h128)
        rw [hc, hcc] at hnx
        rw [hcc] at HS
        clear hc h128 hcc
        by_cases hcr : (c : Int) = r
        · have d1 : ((c : Int) == r) = true := by rw [beq_iff_eq]; exact hcr
          have HR : Hid (kdI r = pos + 1) := Lib.hid (by rw [HK.out, HS.out, if_pos hcr])
          clear hcr
          go_wp2_with fail
          go_ret
          refine ⟨?_, (Below.refl _ _).alloc (Nat.le_refl _) _⟩
          rw [HR.out]
          exact ret_int (by omega)
        · have d1 : ((c : Int) == r) = false := by rw [beq_eq_false_iff_ne]; exact hcr
          have HR : Hid (kdM (markL.drop (pos + 1)) (pos + 1) r = kdM markL 0 r) := Lib.hid (by have := HS.out; rw [if_neg hcr] at this; exact this.symm)
          clear hcr
          go_wp2_with fail
          go_roundw
          case rel => exact ⟨pos + 1, by omega, rfl, HR⟩
          case measure => simp only [World.iterPos_iter]; omega
      · have hnx : ∀ ty, (Instr.next (.pointer (some ⟨w.heap.size, 0, none⟩)) true ty).run Try.prog (w.iter ⟨#[40, 41, 91, 93, 59, 43, 124, 62, 47]⟩ pos) = _ := fun ty => run_next_end w ⟨#[40, 41, 91, 93, 59, 43, 124, 62, 47]⟩ pos ty hlt
        have HR : Hid (kdI r = 0) := Lib.hid (by
          rw [HK.out, ← HM.out, List.drop_eq_nil_of_le (by simp [markL]; omega)]
          rfl)
        go_wp2_with fail
        go_ret
        refine ⟨?_, (Below.refl _ _).alloc (Nat.le_refl _) _⟩
        rw [HR.out]
        rfl
theorem ret_str {a b : ByteArray} (h : a = b) : Ending.returned (.string a) = .returned (.string b) := by rw [h]
/-- The letters with which a text begins. -/
def ltr (s : ByteArray) : ByteArray := ⟨(s.data.toList.takeWhile letB).toArray⟩
theorem ltr_stop {s : ByteArray} {q : Nat} (h : ∀ b ∈ s.data.toList.take q, letB b = true) (hq : q < s.size) (hb : letB s[q] = false) : s.extract 0 q = ltr s := by
  have := (Wd.stop (p := 0) (Nat.zero_le q) (by simpa using h) hq hb).1
  simp only [List.drop_zero, Nat.sub_zero] at this
  rw [ext_take]
  unfold ltr
  rw [this]
  simp
theorem ltr_end {s : ByteArray} {q : Nat} (h : ∀ b ∈ s.data.toList.take q, letB b = true) (hq : ¬ q < s.size) (hq2 : q ≤ s.size) : s = ltr s := by
  have := (Wd.end (p := 0) (Nat.zero_le q) (by simpa using h) hq hq2).1
  simp only [List.drop_zero, Nat.sub_zero] at this
  unfold ltr
  rw [this, List.take_of_length_le (by simp; omega)]
theorem take_let {s : ByteArray} {q : Nat} (h : ∀ b ∈ s.data.toList.take q, letB b = true) (hq : q < s.size) (hb : letB s[q] = true) : ∀ b ∈ s.data.toList.take (q + 1), letB b = true := by
  have := take_more (s := s) (p := 0) (Nat.zero_le q) hq
  simp only [List.drop_zero, Nat.sub_zero] at this
  rw [this]
  intro b hb'
  rcases List.mem_append.1 hb' with h1 | h1
  · exact h b h1
  · rw [List.mem_singleton] at h1
    rw [h1]
    exact hb
set_option maxHeartbeats 1000000 in
theorem letters_any (s : ByteArray) (w : World) : Calls Try.prog 42 #[.string s] w fun e w' => e = .returned (.string (ltr s)) ∧ Below w.heap.size w w' := by
  go_enter Try.func42, Try.ntmps42
  go_wp2_with fail
  go_loopw [] (fun wr => ∃ pos : Nat, pos ≤ s.size ∧ wr = w.iter s pos ∧ Hid (∀ b ∈ s.data.toList.take pos, letB b = true)) (fun wr => s.size - wr.iterPos w.heap.size)
  case atStart => exact ⟨0, Nat.zero_le _, rfl, Lib.hid (by intro b hb; cases hb)⟩
  case round =>
    obtain ⟨pos, hp, rfl, HL⟩ := hrel
    by_cases hlt : pos < s.size
    · have HB : Hid (ltI ((s[pos]'hlt).toNat : Int) = letB (s[pos]'hlt)) := Lib.hid (letB_int _)
      by_cases ha : (s[pos]'hlt).toNat < 128
      · have hnx : ∀ ty, (Instr.next (.pointer (some ⟨w.heap.size, 0, none⟩)) true ty).run Try.prog (w.iter s pos) = _ := fun ty => run_next_ascii w s pos ty hlt ha
        cases hb : letB (s[pos]'hlt) with
        | true =>
          have HT := Lib.hid (take_let HL.out hlt hb)
          rw [hb] at HB
          obtain ⟨c, hc⟩ : ∃ c, (s[pos]'hlt).toNat = c := ⟨_, rfl⟩
          rw [hc] at hnx HB
          clear hc ha hb
          go_wp2_with fail
          refine (isLet_any _ _).mono ?_
          rw [HB.out]
          rintro e w' ⟨rfl, rfl⟩
          go_wp2_with fail
          go_roundw
          case rel => exact ⟨pos + 1, by omega, rfl, HT⟩
          case measure => simp only [World.iterPos_iter]; omega
        | false =>
          have HT := Lib.hid (ltr_stop HL.out hlt hb)
          rw [hb] at HB
          obtain ⟨c, hc⟩ : ∃ c, (s[pos]'hlt).toNat = c := ⟨_, rfl⟩
          rw [hc] at hnx HB
          clear hc ha hb
          go_wp2_with fail
          refine (isLet_any _ _).mono ?_
          rw [HB.out]
          rintro e w' ⟨rfl, rfl⟩
          go_wp2_with fail
          go_ret
          exact ⟨ret_str HT.out, (Below.refl _ _).alloc (Nat.le_refl _) _⟩
      · have hnx : ∀ ty, (Instr.next (.pointer (some ⟨w.heap.size, 0, none⟩)) true ty).run Try.prog (w.iter s pos) = _ := fun ty => run_next_any w s pos ty hlt
        have hh := (decode_high s pos hlt (by omega)).1
        have HT := Lib.hid (ltr_stop HL.out hlt (by unfold letB; simp; omega))
        obtain ⟨c, hc⟩ : ∃ c, (Utf8.decode s pos).1 = c := ⟨_, rfl⟩
        obtain ⟨q, hq⟩ : ∃ q, pos + (Utf8.decode s pos).2 = q := ⟨_, rfl⟩
        rw [hc] at hh
        rw [hc, hq] at hnx
        have HC : Hid (ltI (c : Int) = false) := Lib.hid (by unfold ltI; simp; omega)
        clear hc hq ha hh
        go_wp2_with fail
        refine (isLet_any _ _).mono ?_
        rw [HC.out]
        rintro e w' ⟨rfl, rfl⟩
        go_wp2_with fail
        go_ret
        exact ⟨ret_str HT.out, (Below.refl _ _).alloc (Nat.le_refl _) _⟩
    · have hnx : ∀ ty, (Instr.next (.pointer (some ⟨w.heap.size, 0, none⟩)) true ty).run Try.prog (w.iter s pos) = _ := fun ty => run_next_end w s pos ty hlt
      have HT := Lib.hid (ltr_end HL.out hlt hp)
      go_wp2_with fail
      go_ret
      exact ⟨ret_str HT.out, (Below.refl _ _).alloc (Nat.le_refl _) _⟩
theorem ltr_len (s : ByteArray) : (ltr s).size ≤ s.size := by
  have := tw_le s.data.toList
  show (s.data.toList.takeWhile letB).toArray.size ≤ s.data.size
  simpa using this
theorem ltr_all {s : ByteArray} : (ltr s = s) ↔ s.data.toList.all letB = true := by
  constructor
  · intro h
    rw [← h]
    rw [List.all_eq_true]
    unfold ltr
    exact tw_all _
  · intro h
    rw [List.all_eq_true] at h
    exact (ltr_end (s := s) (q := s.size) (fun b hb => h b (List.mem_of_mem_take hb)) (by omega) (Nat.le_refl _)).symm
end Go.Proofs.Ytdhaghabhdeakaa.To

namespace Go.Proofs.Ytdhaghabhdeakaa.Pa
open Go Go.RowKit Go.ChangeShapes Go.WideShapes
theorem str_in {H : Type} {s : ByteArray} (h : ((.lit (.string s.data.toList) : DataW H).weights Try.prog 9).all (· ≤ reachBytes) = true) : s.size ≤ 140737488355328 := by
  have h1 : ([s.data.toList.length].all (· ≤ reachBytes)) = true := h
  have h2 : s.data.toList.length = s.size := by simp
  rw [h2] at h1
  have h3 : s.size ≤ reachBytes := by simpa using h1
  unfold reachBytes at h3
  omega
end Go.Proofs.Ytdhaghabhdeakaa.Pa

namespace Go.Proofs.Ytdhaghabhdeakaa.Pa
open Rw To

theorem gives_sepB {sp : Bool} {k : Int} {l : List UInt8} {q : List Kn} (hk : k = 5 ∨ k = 6 ∨ k = 7 ∨ k = 8 ∨ k = 10) (h : Gives l q) : Gives (sep sp k ++ l) ((sgn k, ⟨#[]⟩) :: q) ∧ noLet (sep sp k ++ l) := by
  rcases hk with rfl | rfl | rfl | rfl | rfl
  · cases sp
    · exact ⟨gives_sig (b := 59) (by decide) (by decide) (by decide) h, (by decide : letB 59 = false)⟩
    · exact ⟨gives_blank (gives_sig (b := 59) (by decide) (by decide) (by decide) (gives_blank h)), let32⟩
  · cases sp
    · exact ⟨gives_sig (b := 43) (by decide) (by decide) (by decide) h, (by decide : letB 43 = false)⟩
    · exact ⟨gives_blank (gives_sig (b := 43) (by decide) (by decide) (by decide) (gives_blank h)), let32⟩
  · cases sp
    · exact ⟨gives_sig (b := 124) (by decide) (by decide) (by decide) h, (by decide : letB 124 = false)⟩
    · exact ⟨gives_blank (gives_sig (b := 124) (by decide) (by decide) (by decide) (gives_blank h)), let32⟩
  · cases sp
    · exact ⟨gives_sig (b := 62) (by decide) (by decide) (by decide) h, (by decide : letB 62 = false)⟩
    · exact ⟨gives_blank (gives_sig (b := 62) (by decide) (by decide) (by decide) (gives_blank h)), let32⟩
  · exact ⟨gives_sig (b := 47) (by decide) (by decide) (by decide) h, (by decide : letB 47 = false)⟩
theorem gives_txt (sp : Bool) : ∀ (t : Tm), t.ok → t.nam → Gives (t.txt sp) t.kn
  | .leaf x, _, hn => gives_word hn
  | .blk a, ho, hn => gives_sig (b := 91) (by decide) (by decide) (by decide) ((gives_txt sp a ho hn).append (gives_sig (b := 93) (by decide) (by decide) (by decide) gives_nil) (by exact (by decide : letB 93 = false)))
  | .bin k a b, ho, hn => by
    obtain ⟨hk, ha, hb⟩ := ho
    have h2 := gives_sepB (sp := sp) hk (gives_brk (c := decide (b.rank < limR k)) (gives_txt sp b hb hn.2))
    have := (gives_brk (c := decide (a.rank < lim k)) (gives_txt sp a ha hn.1)).append h2.1 h2.2
    show Gives (brkT _ _ ++ sep sp k ++ brkT _ _) _
    rw [List.append_assoc]
    exact this
/-- Without its blanks a text is the text without blanks. -/
def noB (l : List UInt8) : List UInt8 := l.filter fun b => !(b == 32)
theorem noB_append (l m : List UInt8) : noB (l ++ m) = noB l ++ noB m := List.filter_append ..
theorem noB_word {n : ByteArray} (h : named n = true) : noB n.data.toList = n.data.toList := by
  unfold named at h
  simp only [Bool.and_eq_true, List.all_eq_true, decide_eq_true_eq] at h
  unfold noB
  rw [List.filter_eq_self]
  intro b hb
  have := h.1 b hb
  by_cases h32 : b = 32
  · subst h32
    exact absurd this (by decide)
  · simp [h32]
theorem noB_brk (c : Bool) (l : List UInt8) : noB (brkT c l) = brkT c (noB l) := by
  cases c with
  | false => rfl
  | true =>
    show noB (40 :: (l ++ [41])) = 40 :: (noB l ++ [41])
    rw [show (40 :: (l ++ [41]) : List UInt8) = [40] ++ (l ++ [41]) from rfl, noB_append, noB_append]
    rfl
theorem noB_sep {k : Int} (hk : k = 5 ∨ k = 6 ∨ k = 7 ∨ k = 8 ∨ k = 10) : noB (sep true k) = sep false k := by
  rcases hk with rfl | rfl | rfl | rfl | rfl <;> decide
theorem noB_txt : ∀ (t : Tm), t.ok → t.nam → noB (t.txt true) = t.txt false
  | .leaf x, _, hn => noB_word hn
  | .blk a, ho, hn => by
    show noB (91 :: (a.txt true ++ [93])) = 91 :: (a.txt false ++ [93])
    rw [show (91 :: (a.txt true ++ [93]) : List UInt8) = [91] ++ (a.txt true ++ [93]) from rfl, noB_append, noB_append, noB_txt a ho hn]
    rfl
  | .bin k a b, ho, hn => by
    obtain ⟨hk, ha, hb⟩ := ho
    show noB (brkT _ _ ++ sep true k ++ brkT _ _) = brkT _ _ ++ sep false k ++ brkT _ _
    rw [noB_append, noB_append, noB_brk, noB_brk, noB_sep hk, noB_txt a ha hn.1, noB_txt b hb hn.2]

/-- The tree, or that there is none, of tokens: with fuel enough. -/
def got (q : List Kn) : Got := (lv (8 * (q.length + 1) + 7) q 0 0).getD ⟨[], 0, true⟩
theorem got_is (q : List Kn) : LvR q 0 0 (got q) := by
  obtain ⟨g, hg⟩ := Option.isSome_iff_exists.1 ((enough (8 * (q.length + 1) + 7)).1 q 0 0 (by omega) (by omega))
  exact ⟨_, by unfold got; rw [hg]; rfl⟩
theorem got_of {q : List Kn} {g : Got} (h : LvR q 0 0 g) : got q = g := (got_is q).one h
theorem text_reads {t : Tm} {l : List UInt8} (h : Gives l t.kn) (ho : t.ok) : ∃ ts, F l 0 = .ok ts ∧ tkn ts = t.kn ∧ got (tkn ts) = ⟨t.row, ts.length, false⟩ := by
  obtain ⟨ts, hk, hF⟩ := h [] 0 trivial
  rw [List.append_nil, F_nil] at hF
  have hlen : ts.length = t.kn.length := by rw [← hk]; simp [tkn]
  refine ⟨ts, by rw [hF]; simp [Res.pre], hk, ?_⟩
  rw [hk, hlen]
  exact got_of (reads_all t ho)
end Go.Proofs.Ytdhaghabhdeakaa.Pa

namespace Go.Proofs.Ytdhaghabhdeakaa.Rw
open Go Go.RowKit
set_option maxRecDepth 20000

set_option maxHeartbeats 1000000 in
theorem oneR_any (x : Nd) (v : Value) (l : List Nd) (w : World) (hv : Nds w v l) (hl : l.length ≤ 1000000) :
    Calls Try.prog 37 #[.agg #[.int .i64 x.k, .string x.n, .int .i64 x.s], v] w fun e w' => ∃ y, e = .returned y ∧ w'.ownsRow w.heap.size 37 3 y (x :: l).length (cls (x :: l)) ∧ Below w.heap.size w w' := by
  obtain ⟨v1, w1, v2, w2, hrun1, hrun2, hown2, hb2⟩ := one_runs x v l w hv hl
  have R1 := Lib.hid hrun1
  have R2 := Lib.hid hrun2
  have O2 := Lib.hid hown2
  have B2 := Lib.hid hb2
  clear hrun1 hrun2 hown2 hb2 hv
  go_enter Try.func37, Try.ntmps37
  go_wp2_with (first
    | (at_builtin; refine Ap.wpList_append_run (by rfl) (.tmp 6) (.tmp 8) _ _ rfl _ _ rfl rfl v1 w1 R1.out ?_)
    | (at_builtin; refine Ap.wpList_append_run (by rfl) (.tmp 10) (.tmp 11) _ _ rfl _ _ rfl rfl v2 w2 R2.out ?_))
  go_ret
  exact ⟨_, rfl, O2.out, B2.out⟩

set_option maxHeartbeats 1000000 in
theorem twoR_own (x : Nd) (v u : Value) (l m : List Nd) (w : World) (hv : Nds w v l) (hu : Nds w u m) (hl : l.length ≤ 500000) (hm : m.length ≤ 500000) :
    Calls Try.prog 21 #[.agg #[.int .i64 x.k, .string x.n, .int .i64 x.s], v, u] w fun e w' => ∃ y, e = .returned y ∧ w'.ownsRow w.heap.size 37 3 y (x :: (l ++ m)).length (cls (x :: (l ++ m))) ∧ Below w.heap.size w w' := by
  have HV := Lib.hid hv
  have HU := Lib.hid hu
  have B0 := Lib.hid (below1 w (nb x))
  clear hv hu
  go_enter Try.func21, Try.ntmps21
  go_wp2_with fail
  refine (oneR_any x v l _ (HV.out.below B0.out) (by omega)).mono ?_
  rintro e w1 ⟨y, rfl, hown, hb1⟩
  obtain ⟨v2, w2, hrun2, hown2, hg2, hb2, _⟩ := run_append_nds (Ap.own_base hown (show w.heap.size ≤ _ from B0.out.size)) (Nat.le_trans B0.out.size hb1.size) ((HU.out.below B0.out).below hb1) (by simp; omega)
  have R2 := Lib.hid hrun2
  have O2 := Lib.hid hown2
  have B2 := Lib.hid ((B0.out.trans (hb1.mono B0.out.size)).trans hb2)
  clear hrun2 hown2 hg2 hb1 hb2 hown
  go_wp2_with (at_builtin; refine Ap.wpList_append_run (by rfl) (.tmp 9) (.tmp 10) _ _ rfl _ _ rfl rfl v2 w2 R2.out ?_)
  go_ret
  exact ⟨_, rfl, O2.out, B2.out⟩
theorem twoR_any (x : Nd) (v u : Value) (l m : List Nd) (w : World) (hv : Nds w v l) (hu : Nds w u m) (hl : l.length ≤ 500000) (hm : m.length ≤ 500000) :
    Calls Try.prog 21 #[.agg #[.int .i64 x.k, .string x.n, .int .i64 x.s], v, u] w fun e w' => ∃ y, e = .returned y ∧ Nds w' y (x :: (l ++ m)) ∧ Below w.heap.size w w' :=
  (twoR_own x v u l m w hv hu hl hm).mono fun _ _ ⟨y, he, ho, hb⟩ => ⟨y, he, Ap.Rd.owned ho, hb⟩
end Go.Proofs.Ytdhaghabhdeakaa.Rw

namespace Go.Proofs.Ytdhaghabhdeakaa.Rw
open Go Go.RowKit
set_option maxRecDepth 20000

set_option maxHeartbeats 1000000 in
theorem kids_none (v : Value) (l : List Nd) (w : World) (hv : Nds w v l) (hl : l.length ≤ 1000000) (hs : size l = 0) :
    Calls Try.prog 38 #[v] w fun e w' => e = .returned (.slice none 0 0) ∧ w = w' := by
  have HV := Lib.hid hv
  have HS := Lib.hid hs
  obtain ⟨_, a, cap, rfl, -⟩ := hv
  clear hs
  go_enter Try.func38, Try.ntmps38
  go_wp2_with fail
  refine (sizeR_any _ l _ HV.out hl).mono ?_
  rw [HS.out]
  rintro e w' ⟨rfl, rfl⟩
  go_wp2_with fail
  go_ret
  exact ⟨rfl, rfl⟩

/-- What the loop has made: the first k kids, in a row of its own. -/
def Made (w wr : World) (v : Value) (l : List Nd) (k p : Nat) : Prop := ∃ cs d, Far l 0 k p d ∧ wr.ownsRow w.heap.size 23 1 v k cs ∧ RwC w cs (kidsN k (l.drop 1)) ∧ Below w.heap.size w wr
theorem Made.start (w : World) (l : List Nd) : Made w w (.slice none 0 0) l 0 1 := ⟨[], 0, Far.start l 0, ⟨rfl, .inl ⟨rfl, rfl⟩⟩, trivial, Below.refl _ _⟩
theorem Made.next {w wr : World} {v : Value} {l : List Nd} {k p c' d' b off cap : Nat} (h : Made w wr v l k p) (ht : T (l.drop p) = some (c', d')) (hat : At w b off l) (hp : p + c' ≤ l.length) (hc : c' ≤ cap) (hk : k ≤ 2) :
    ∃ v' w', (Builtin.append_ #[59, 59] 59 #[v, .slice (some ⟨wr.heap.size, 0, none⟩) 1 1]).run Try.prog (wr.alloc (.cells #[.slice (some ⟨b, off + p * 3, none⟩) c' cap] 23)) = .ok v' w' ∧ Made w w' v' l (k + 1) (p + c') := by
  obtain ⟨cs, d, hfar, hown, hrw, hb⟩ := h
  obtain ⟨i0, hi, hz, hs1, hb8⟩ := info_parts infoR
  obtain ⟨v', w', h1, h2, h3, h4, h5⟩ := Ap.run_append_one (P := Try.prog) (ty := 59) Try.underlying59 hi hz hs1 hb8 (by rfl) (by omega) hown hb.size #[.slice (some ⟨b, off + p * 3, none⟩) c' cap] rfl
    (by intro u hu; simp at hu; subst hu; rfl) (by unfold maxLen; omega) (by omega)
  refine ⟨v', w', h1, cs ++ [.slice (some ⟨b, off + p * 3, none⟩) c' cap], max d d', hfar.next ht, h2, ?_, hb.trans h4⟩
  rw [kids_next hfar ht]
  exact hrw.snoc (part_nds hat p c' cap hp hc)

set_option maxHeartbeats 2000000 in
theorem kids_cells (b off cap : Nat) (l : List Nd) (w : World) (hn : Nds w (.slice (some ⟨b, off, none⟩) l.length cap) l) (hat : At w b off l) (hl : l.length ≤ 1000000) (hcap : l.length ≤ cap) (hs : size l ≠ 0) :
    Calls Try.prog 38 #[.slice (some ⟨b, off, none⟩) l.length cap] w fun e w' => ∃ y, e = .returned y ∧ Rws w' y (kids l) ∧ Below w.heap.size w w' := by
  have h0 : 0 < l.length := by have := size_le l; omega
  have HN := Lib.hid hn
  have HA := Lib.hid hat
  have HS := Lib.hid hs
  have hz := size_le l
  have HM := Lib.hid (fun k p d => kids_more (k := k) (p := p) (d := d) h0 hs)
  have HK := Lib.hid (kids_of h0 hs)
  have hbd := ar_le l[0].k
  have e0 := (hat 0 h0).1
  rw [Nat.zero_mul, Nat.add_zero] at e0
  obtain ⟨z, hzz⟩ : ∃ z, size l = z := ⟨_, rfl⟩
  have HZ := Lib.hid hzz
  rw [hzz] at hs hz
  have gz : ((z : Int) == 0) = false := by rw [beq_eq_false_iff_ne]; omega
  obtain ⟨kk, hkk⟩ : ∃ kk, l[0].k = kk := ⟨_, rfl⟩
  rw [hkk] at hbd e0 HM HK
  obtain ⟨x, hx⟩ : ∃ x, ar kk = x := ⟨_, rfl⟩
  have HX := Lib.hid hx
  rw [hx] at hbd HM HK
  have E0 := Lib.hid e0
  clear hn hat hkk hx hzz e0
  go_enter Try.func38, Try.ntmps38
  go_wp2_with fail
  refine (sizeR_any _ l _ HN.out hl).mono ?_
  rw [HZ.out]
  rintro e w' ⟨rfl, rfl⟩
  go_wp2_with fail
  go_loopw [3, 4, 5] (fun o a i wr => ∃ k p : Nat, (k : Int) ≤ max x 0 ∧ p ≤ l.length ∧ a = .int .i64 p ∧ i = .int .i64 k ∧ Hid (Made w wr o l k p)) (fun _ _ i _ => (x - intOf i).toNat)
  case atStart => exact ⟨0, 1, by omega, by omega, rfl, rfl, Lib.hid (Made.start w l)⟩
  case round =>
    obtain ⟨k, p, hk, hp, rfl, rfl, HD⟩ := hrel
    have HB : Hid (Below w.heap.size w wr) := by obtain ⟨_, _, _, _, _, hb⟩ := HD.out; exact hb
    have c0 : wr.cell? ⟨b, off, none⟩ = some (.int .i64 kk) := by rw [HB.out.cell (Ap.cell_lt E0.out)]; exact E0.out
    by_cases hkl : (k : Int) < x
    · obtain ⟨c', d', ht⟩ : ∃ c' d', T (l.drop p) = some (c', d') := by
        obtain ⟨_, d, hfar, _⟩ := HD.out
        exact HM.out k p d hfar hkl
      have hb' := T_bd ht
      rw [List.length_drop] at hb'
      obtain ⟨q, hq⟩ : ∃ q, p + c' = q := ⟨_, rfl⟩
      obtain rfl : c' = q - p := by omega
      have HT := Lib.hid ht
      have HQ : Hid (WalkPost p (some (q - p, d')) = fun w e w' => e = .returned (.tuple #[.int .i64 (q : Int), .int .i64 (d' : Int)]) ∧ w = w') := by
        funext w e w'
        unfold WalkPost
        have hnx : nx p (some (q - p, d')) = (q : Int) := by simp only [nx]; omega
        rw [hnx]
        rfl
      obtain ⟨v', w', hrun, hmade⟩ := HD.out.next (cap := cap - p) ht HA.out (by omega) (by omega) (by omega)
      rw [hq] at hmade
      have R := Lib.hid hrun
      have HD' := Lib.hid hmade
      have i1 : p ≤ q := by omega
      have i2 : q ≤ cap := by omega
      have i3 : p < cap := by omega
      have i4 : q ≤ l.length := by omega
      clear ht hb' hq hrun hmade
      go_wp2_with fail
      refine (arR_any _ _).mono ?_
      rw [HX.out]
      rintro e w'' ⟨rfl, rfl⟩
      go_wp2_with fail
      refine (walk_any _ l p _ (HN.out.below HB.out) hl hp).mono ?_
      rw [HT.out, HQ.out]
      rintro e w'' ⟨rfl, rfl⟩
      go_wp2_with (at_builtin; refine Ap.wpList_append_run (by rfl) (.tmp 26) (.tmp 31) _ _ rfl _ _ rfl rfl v' w' R.out ?_)
      go_roundw
      case rel => exact ⟨k + 1, q, by omega, i4, rfl, by go_num, HD'⟩
      case measure => simp [intOf]; omega
    · go_wp2_with fail
      refine (arR_any _ _).mono ?_
      rw [HX.out]
      rintro e w'' ⟨rfl, rfl⟩
      go_wp2_with fail
      go_ret
      refine ⟨_, rfl, ?_, HB.out⟩
      obtain ⟨cs, d, _, hown, hrw, hb⟩ := HD.out
      rw [HK.out, show x.toNat = k by omega]
      refine ⟨cs, ?_, hrw.below hb⟩
      rw [kidsN_len]
      exact Ap.Rd.owned hown
theorem kidsR_any (v : Value) (l : List Nd) (w : World) (hv : Nds w v l) (hl : l.length ≤ 1000000) :
    Calls Try.prog 38 #[v] w fun e w' => ∃ y, e = .returned y ∧ Rws w' y (kids l) ∧ Below w.heap.size w w' := by
  by_cases hs : size l = 0
  · refine (kids_none v l w hv hl hs).mono ?_
    rintro e w' ⟨rfl, rfl⟩
    refine ⟨_, rfl, ⟨[], ?_, ?_⟩, Below.refl _ _⟩
    · unfold kids
      rw [if_pos hs]
      exact ⟨rfl, none, 0, rfl, Nat.le_refl _, fun _ => ⟨rfl, rfl⟩, fun h => absurd h (Nat.lt_irrefl 0)⟩
    · unfold kids
      rw [if_pos hs]
      trivial
  · rcases hv.form with ⟨rfl, _, _, rfl⟩ | ⟨b, off, cap, rfl, hc, hat⟩
    · exact absurd rfl hs
    · exact kids_cells b off cap l w hv hat hl hc hs
end Go.Proofs.Ytdhaghabhdeakaa.Rw
