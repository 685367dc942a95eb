/- The program's Of, Term, Right. The document's Acts and Texts: rows of texts. Plain: trees of the fourteen kinds of nodes, the rows that they are, their sorts. The program's On. The program's Right: the walk. The program's Acts: a map of the names that were told. -/
import Derived.Test.YtgaediondmdnbaaQ08
import Derived.Test.YtgaediondmdnbaaQ07
import Derived.Maps.Views
import Derived.Maps.OwnOps
import Derived.Deep.DeepCutAuto

namespace Go.Proofs.Ytgaediondmdnbaa.Sx
open Go Go.RowKit Go.Proofs.Ytgaediondmdnbaa.Rw Go.Proofs.Ytgaediondmdnbaa.So
set_option maxRecDepth 20000

theorem whole_tre {l : List Nd} (h : whole l = true) : Tre l := by
  unfold whole at h
  simp only [Bool.and_eq_true, decide_eq_true_eq] at h
  exact Tre.of_size h.2 (fun e => by rw [e] at h; exact absurd h.1.2.1 (by decide))
set_option maxHeartbeats 400000 in
theorem ofP_any (l : List Nd) (v : Value) (w : World) (hv : Nds w v l) (hl : l.length ≤ 1000) (hm : Nms l) :
    Calls Try.prog 33 #[v] w fun e w' => e = .returned (.int .i64 (of l)) ∧ Below w.heap.size w w' := by
  have HV := Lib.hid hv
  have HM := Lib.hid hm
  obtain ⟨_, a, cap, rfl, -⟩ := hv
  clear hm
  cases hq : whole l with
  | false =>
    have HZ : Hid (of l = 0) := by
      show _ = _
      unfold of
      rw [hq]
      rfl
    have HQ := Lib.hid hq
    clear hq
    go_enter Try.func33, Try.ntmps33
    go_wp2_with fail
    refine (Rx.wholeP_any _ l _ HV.out hl HM.out).mono ?_
    rw [HQ.out]
    rintro e w' ⟨rfl, hb⟩
    have HB := Lib.hid hb
    clear hb
    go_wp2_with fail
    go_ret
    exact ⟨ret_int (by rw [HZ.out]; rfl), HB.out⟩
  | true =>
    have HZ : Hid (of l = So.first l) := by
      show _ = _
      unfold of
      rw [hq]
      rfl
    have HT := Lib.hid (whole_tre hq)
    have HQ := Lib.hid hq
    obtain ⟨F, hF⟩ : ∃ F, So.first l = F := ⟨_, rfl⟩
    rw [hF] at HZ
    have HF := Lib.hid hF
    clear hq hF
    go_enter Try.func33, Try.ntmps33
    go_wp2_with fail
    refine (Rx.wholeP_any _ l _ HV.out hl HM.out).mono ?_
    rw [HQ.out]
    rintro e w' ⟨rfl, hb⟩
    have HB := Lib.hid hb
    have HV1 : Hid (Nds w' (.slice a l.length cap) (l ++ [])) := by
      show Nds _ _ _
      rw [List.append_nil]
      exact HV.out.below hb
    clear hb
    go_wp2_with fail
    refine (first_any l [] _ _ HT.out HV1.out).mono ?_
    rw [HF.out]
    rintro e w2 ⟨y, rfl, _, hb⟩
    have HB2 := Lib.hid hb
    clear hb
    go_wp2_with fail
    go_ret
    exact ⟨ret_int (by rw [HZ.out]), HB.out.trans (HB2.out.mono HB.out.size)⟩
set_option maxHeartbeats 400000 in
theorem termP_any (l : List Nd) (v : Value) (w : World) (hv : Nds w v l) (hl : l.length ≤ 1000) (hm : Nms l) :
    Calls Try.prog 46 #[v] w fun e w' => e = .returned (.bool (of l == 1)) ∧ Below w.heap.size w w' := by
  have HV := Lib.hid hv
  have HC := Lib.hid (fun w h => ofP_any l v w h hl hm)
  have hz := of_cases l
  obtain ⟨z, hzz⟩ : ∃ z, of l = z := ⟨_, rfl⟩
  rw [hzz] at hz HC
  rw [hzz]
  obtain ⟨_, a, cap, rfl, -⟩ := hv
  clear hm hzz
  rcases hz with rfl | rfl | rfl | rfl | rfl
  all_goals
    go_enter Try.func46, Try.ntmps46
    go_wp2_with fail
    refine (HC.out _ HV.out).mono ?_
    rintro e w1 ⟨rfl, hb⟩
    have HB := Lib.hid hb
    clear hb
    go_wp2_with fail
    go_ret
    exact ⟨rfl, HB.out⟩
end Go.Proofs.Ytgaediondmdnbaa.Sx

namespace Go.Proofs.Ytgaediondmdnbaa.So
open Go Go.RowKit Go.Proofs.Ytgaediondmdnbaa.Rw
set_option maxRecDepth 20000

/-- A slice of texts that reads as these. -/
def Strs (w : World) (v : Value) (l : List ByteArray) : Prop := Ap.Rd w 1 v l.length (l.map .string)
theorem Strs.below {w w' : World} {v : Value} {l : List ByteArray} (h : Strs w v l) (hb : Below w.heap.size w w') : Strs w' v l := Ap.Rd.below h hb
def AtS (w : World) (b off : Nat) (l : List ByteArray) : Prop := ∀ k, (h : k < l.length) → w.cell? ⟨b, off + k, none⟩ = some (.string l[k])
theorem Strs.form {w : World} {v : Value} {l : List ByteArray} (h : Strs w v l) :
    (l = [] ∧ ∃ a cap, v = .slice a 0 cap) ∨ ∃ b off cap, v = .slice (some ⟨b, off, none⟩) l.length cap ∧ AtS w b off l := by
  obtain ⟨_, a, cap, rfl, hle, _, hcell⟩ := h
  by_cases h0 : 0 < l.length
  · obtain ⟨b, off, rfl, hj⟩ := hcell h0
    exact Or.inr ⟨b, off, cap, rfl, fun k hk => hj _ _ (by rw [List.getElem?_map, List.getElem?_eq_getElem hk]; rfl)⟩
  · have : l = [] := List.eq_nil_of_length_eq_zero (by omega)
    subst this
    exact Or.inl ⟨rfl, a, cap, rfl⟩
theorem AtS.below {w w' : World} {b off : Nat} {l : List ByteArray} (h : AtS w b off l) (hb : Below w.heap.size w w') : AtS w' b off l := fun k hk => by
  rw [hb.cell (Ap.cell_lt (h k hk))]
  exact h k hk
/-- Has it been met? -/
def met (x : Nd) (os : List ByteArray) : Bool := (x.k != 1) || os.any fun o => decide (o = x.n)
/-- The names of Acts, each once. -/
def addA (os : List ByteArray) (x : Nd) : List ByteArray := if met x os then os else os ++ [x.n]
def acts (l : List Nd) : List ByteArray := l.foldl addA []
theorem acts_take (l : List Nd) (k : Nat) (h : k < l.length) : acts (l.take (k + 1)) = addA (acts (l.take k)) l[k] := by
  unfold acts
  rw [List.take_succ_eq_append_getElem h, List.foldl_append]
  rfl
theorem acts_len : ∀ (l : List Nd) (os : List ByteArray), (l.foldl addA os).length ≤ os.length + l.length
  | [], os => by simp
  | x :: l, os => by
    have h1 := acts_len l (addA os x)
    have h2 : (addA os x).length ≤ os.length + 1 := by
      unfold addA
      split <;> simp
    simp only [List.foldl_cons, List.length_cons]
    omega
theorem acts_le (l : List Nd) : (acts l).length ≤ l.length := by have := acts_len l []; simpa [acts] using this
theorem add_met {x : Nd} {os : List ByteArray} (h : met x os = true) : addA os x = os := if_pos h
theorem add_new {x : Nd} {os : List ByteArray} (h : met x os = false) : addA os x = os ++ [x.n] := by
  unfold addA
  rw [h]
  rfl

theorem infoS : (Try.prog.info? 9).map (fun i => (i.zero, i.size, i.bytes)) = some (some (.string ⟨#[]⟩), 1, 16) := by kernel_rfl
/-- What the loop has made. -/
def Got (w wr : World) (v : Value) (os : List ByteArray) : Prop := wr.ownsRow w.heap.size 9 1 v os.length (os.map .string) ∧ Below w.heap.size w wr
theorem Got.form {w wr : World} {v : Value} {os : List ByteArray} (h : Got w wr v os) : Strs wr v os := Ap.Rd.owned h.1
theorem Got.drew {w wr : World} {v : Value} {os : List ByteArray} (n : Nat) (h : Got w wr v os) : Got w (wr.drewN n) v os := ⟨Ap.own_below h.1 (Below.drewN _ _ _), h.2.trans (Below.drewN _ _ _)⟩
theorem Got.add {w wr : World} {v : Value} {os : List ByteArray} (s : ByteArray) (h : Got w wr v os) (hl : os.length ≤ 1000000) :
    ∃ v' w', (Builtin.append_ #[34, 34] 34 #[v, .slice (some ⟨wr.heap.size, 0, none⟩) 1 1]).run Try.prog (wr.alloc (.cells #[.string s] 9)) = .ok v' w' ∧ Got w w' v' (os ++ [s]) := by
  obtain ⟨i0, hi, hz, hs1, hb8⟩ := info_parts infoS
  obtain ⟨v', w', h1, h2, h3, h4, h5⟩ := Ap.run_append_one (P := Try.prog) (ty := 34) Try.underlying34 hi hz hs1 hb8 (by rfl) (by omega) h.1 h.2.size #[.string s] rfl
    (by intro u hu; simp at hu; subst hu; rfl) (by unfold maxLen; omega) (by omega)
  exact ⟨v', w', h1, by simpa using h2, h.2.trans h4⟩

end Go.Proofs.Ytgaediondmdnbaa.So

namespace Go.Proofs.Ytgaediondmdnbaa.Se
open Go Go.Proofs.Ytgaediondmdnbaa.Rw Go.Proofs.Ytgaediondmdnbaa.So

inductive Tm
  | act (s : ByteArray)
  | skip
  | throw
  | yield
  | over (s : Int)
  | block (a : Tm)
  | fin (s : Int) (c : Tm)
  | seq (a b : Tm)
  | alt (a b : Tm)
  | par (a b : Tm)
  | hand (a b : Tm)
  | pair (a b : Tm)
  | going (a b : Tm)
  | stack (a b : Tm)
deriving DecidableEq

/-- A node of an action; one that has ended; one of what has ended and can be taken back. -/
abbrev nAct (s : ByteArray) : Nd := ⟨1, s, 0⟩
abbrev nOver (s : Int) : Nd := ⟨11, ⟨#[]⟩, s⟩
abbrev nEnd (s : Int) : Nd := ⟨14, ⟨#[]⟩, s⟩

/-- The row that a tree is. -/
def flat : Tm → List Nd
  | .act s => [nAct s]
  | .skip => [nOf 2]
  | .throw => [nOf 3]
  | .yield => [nOf 4]
  | .over s => [nOver s]
  | .block a => nOf 9 :: flat a
  | .fin s c => nEnd s :: flat c
  | .seq a b => nOf 5 :: (flat a ++ flat b)
  | .alt a b => nOf 6 :: (flat a ++ flat b)
  | .par a b => nOf 7 :: (flat a ++ flat b)
  | .hand a b => nOf 8 :: (flat a ++ flat b)
  | .pair a b => nOf 10 :: (flat a ++ flat b)
  | .going a b => nOf 12 :: (flat a ++ flat b)
  | .stack a b => nOf 13 :: (flat a ++ flat b)

/-- How many nodes a tree has. -/
def sz : Tm → Nat
  | .act _ => 1
  | .skip => 1
  | .throw => 1
  | .yield => 1
  | .over _ => 1
  | .block a => sz a + 1
  | .fin _ c => sz c + 1
  | .seq a b => sz a + sz b + 1
  | .alt a b => sz a + sz b + 1
  | .par a b => sz a + sz b + 1
  | .hand a b => sz a + sz b + 1
  | .pair a b => sz a + sz b + 1
  | .going a b => sz a + sz b + 1
  | .stack a b => sz a + sz b + 1
theorem flat_len : ∀ t : Tm, (flat t).length = sz t := by
  intro t
  induction t <;> simp_all [flat, sz]
theorem sz_pos (t : Tm) : 1 ≤ sz t := by cases t <;> simp [sz]
theorem flat_ne (t : Tm) : flat t ≠ [] := fun e => by
  have h := flat_len t
  have := sz_pos t
  rw [e] at h
  simp at h
  omega

/-- A node with one tree behind it. -/
theorem kids_one {n : Nd} {a : List Nd} (hk : ar n.k = 1) (ha : Tre a) : Tre (n :: a) ∧ kids (n :: a) = [a] := by
  obtain ⟨d1, t1⟩ := ha
  have s1 : S 1 a = some (a.length, max 0 d1) := by
    rw [show (1 : Nat) = 0 + 1 from rfl, S_succ, S_zero]
    simp only [List.drop_zero, t1, Nat.zero_add]
  have hT : T (n :: a) = some (a.length + 1, max 0 d1 + 1) := by
    rw [T_cons, if_neg (by omega), hk, show (1 : Int).toNat = 1 from rfl, s1]
  have ht : Tre (n :: a) := ⟨_, by rw [hT, List.length_cons]⟩
  refine ⟨ht, ?_⟩
  obtain ⟨x, hx, _, _⟩ := ht.one hk
  obtain ⟨_, _, he⟩ := ht.flat
  rw [hx] at he
  injection he with _ he
  simp at he
  rw [hx, he]
theorem tre_leaf {n : Nd} (hk : ar n.k = 0) : Tre [n] := ⟨1, by rw [T_cons, if_neg (by omega), hk]; rfl⟩
theorem tre_flat : ∀ t : Tm, Tre (flat t) := by
  intro t
  induction t with
  | act s => exact tre_leaf rfl
  | skip => exact tre_leaf rfl
  | throw => exact tre_leaf rfl
  | yield => exact tre_leaf rfl
  | over s => exact tre_leaf rfl
  | block a ia => exact (kids_one rfl ia).1
  | fin s c ic => exact (kids_one rfl ic).1
  | seq a b ia ib => exact (kids_mk rfl ia ib).1
  | alt a b ia ib => exact (kids_mk rfl ia ib).1
  | par a b ia ib => exact (kids_mk rfl ia ib).1
  | hand a b ia ib => exact (kids_mk rfl ia ib).1
  | pair a b ia ib => exact (kids_mk rfl ia ib).1
  | going a b ia ib => exact (kids_mk rfl ia ib).1
  | stack a b ia ib => exact (kids_mk rfl ia ib).1
theorem kids_block (a : Tm) : kids (flat (.block a)) = [flat a] := (kids_one (n := nOf 9) rfl (tre_flat a)).2
theorem kids_fin (s : Int) (c : Tm) : kids (flat (.fin s c)) = [flat c] := (kids_one (n := nEnd s) rfl (tre_flat c)).2
theorem kids_seq (a b : Tm) : kids (flat (.seq a b)) = [flat a, flat b] := (kids_mk rfl (tre_flat a) (tre_flat b)).2
theorem kids_alt (a b : Tm) : kids (flat (.alt a b)) = [flat a, flat b] := (kids_mk rfl (tre_flat a) (tre_flat b)).2
theorem kids_par (a b : Tm) : kids (flat (.par a b)) = [flat a, flat b] := (kids_mk rfl (tre_flat a) (tre_flat b)).2
theorem kids_hand (a b : Tm) : kids (flat (.hand a b)) = [flat a, flat b] := (kids_mk rfl (tre_flat a) (tre_flat b)).2
theorem kids_pair (a b : Tm) : kids (flat (.pair a b)) = [flat a, flat b] := (kids_mk rfl (tre_flat a) (tre_flat b)).2
theorem kids_going (a b : Tm) : kids (flat (.going a b)) = [flat a, flat b] := (kids_mk rfl (tre_flat a) (tre_flat b)).2
theorem kids_stack (a b : Tm) : kids (flat (.stack a b)) = [flat a, flat b] := (kids_mk rfl (tre_flat a) (tre_flat b)).2
theorem k0_block (a : Tm) : k0 (flat (.block a)) = flat a := by unfold k0; rw [kids_block]; rfl
theorem k0_fin (s : Int) (a : Tm) : k0 (flat (.fin s a)) = flat a := by unfold k0; rw [kids_fin]; rfl
theorem k0_seq (a b : Tm) : k0 (flat (.seq a b)) = flat a := by unfold k0; rw [kids_seq]; rfl
theorem k1_seq (a b : Tm) : k1 (flat (.seq a b)) = flat b := by unfold k1; rw [kids_seq]; rfl
theorem k0_alt (a b : Tm) : k0 (flat (.alt a b)) = flat a := by unfold k0; rw [kids_alt]; rfl
theorem k1_alt (a b : Tm) : k1 (flat (.alt a b)) = flat b := by unfold k1; rw [kids_alt]; rfl
theorem k0_par (a b : Tm) : k0 (flat (.par a b)) = flat a := by unfold k0; rw [kids_par]; rfl
theorem k1_par (a b : Tm) : k1 (flat (.par a b)) = flat b := by unfold k1; rw [kids_par]; rfl
theorem k0_hand (a b : Tm) : k0 (flat (.hand a b)) = flat a := by unfold k0; rw [kids_hand]; rfl
theorem k1_hand (a b : Tm) : k1 (flat (.hand a b)) = flat b := by unfold k1; rw [kids_hand]; rfl
theorem k0_pair (a b : Tm) : k0 (flat (.pair a b)) = flat a := by unfold k0; rw [kids_pair]; rfl
theorem k1_pair (a b : Tm) : k1 (flat (.pair a b)) = flat b := by unfold k1; rw [kids_pair]; rfl
theorem k0_going (a b : Tm) : k0 (flat (.going a b)) = flat a := by unfold k0; rw [kids_going]; rfl
theorem k1_going (a b : Tm) : k1 (flat (.going a b)) = flat b := by unfold k1; rw [kids_going]; rfl
theorem k0_stack (a b : Tm) : k0 (flat (.stack a b)) = flat a := by unfold k0; rw [kids_stack]; rfl
theorem k1_stack (a b : Tm) : k1 (flat (.stack a b)) = flat b := by unfold k1; rw [kids_stack]; rfl

/-- Is a tree of a sort? As the document's: 1 plain, 2 paired, 3 plain or goes on so, 4 paired or goes on so. -/
def is : Tm → Nat → Bool
  | .act _, s => s == 1 || s == 3
  | .skip, s => s == 1 || s == 3
  | .throw, s => s == 1 || s == 3
  | .yield, s => s == 1 || s == 3
  | .over _, s => s == 3
  | .block a, s => if s = 1 then is a 2 else if s = 3 then is a 4 else false
  | .fin _ c, s => s == 4 && is c 1
  | .seq a b, s => if s = 1 then is a 1 && is b 1 else if s = 2 then is a 2 && is b 2 else if s = 3 then is a 3 && is b 1 else is a 4 && is b 2
  | .alt a b, s => if s = 1 ∨ s = 3 then is a 1 && is b 1 else is a 2 && is b 2
  | .par a b, s => is a s && is b s
  | .hand a b, s => if s = 1 then is a 1 && is b 1 else if s = 3 then is a 3 && is b 1 else false
  | .pair a b, s => if s = 2 ∨ s = 4 then is a 1 && is b 1 else false
  | .going a b, s => if s = 4 then is a 3 && is b 1 else false
  | .stack a b, s => if s = 4 then is a 4 && is b 1 else false
theorem is13 : ∀ t : Tm, (is t 1 = true → is t 3 = true) ∧ (is t 2 = true → is t 4 = true) := by
  intro t
  induction t <;> simp_all [is]
theorem abs0 {p r : Bool} (h : p = true → r = true) : (p || r) = r := by cases p <;> cases r <;> simp_all
theorem abs1 {p q r : Bool} (h : p = true → r = true) : (p && q || r && q) = (r && q) := by cases p <;> cases q <;> cases r <;> simp_all
theorem abs2 {p q r s : Bool} (h : p = true → r = true) (g : q = true → s = true) : (p && q || r && s) = (r && s) := by cases p <;> cases q <;> cases r <;> cases s <;> simp_all
theorem is_flat : ∀ (t : Tm) (s : Nat), s = 1 ∨ s = 2 ∨ s = 3 ∨ s = 4 → Is s (flat t) = is t s := by
  intro t
  induction t with
  | act s =>
    intro s' hs
    rcases hs with rfl | rfl | rfl | rfl
    · rw [eq_1_1 (l := flat (.act s)) rfl]; rfl
    · rw [eq_1_2 (l := flat (.act s)) rfl]; rfl
    · rw [eq_1_3 (l := flat (.act s)) rfl]; rfl
    · rw [eq_1_4 (l := flat (.act s)) rfl]; rfl
  | skip =>
    intro s' hs
    rcases hs with rfl | rfl | rfl | rfl
    · rw [eq_2_1 (l := flat (.skip)) rfl]; rfl
    · rw [eq_2_2 (l := flat (.skip)) rfl]; rfl
    · rw [eq_2_3 (l := flat (.skip)) rfl]; rfl
    · rw [eq_2_4 (l := flat (.skip)) rfl]; rfl
  | throw =>
    intro s' hs
    rcases hs with rfl | rfl | rfl | rfl
    · rw [eq_3_1 (l := flat (.throw)) rfl]; rfl
    · rw [eq_3_2 (l := flat (.throw)) rfl]; rfl
    · rw [eq_3_3 (l := flat (.throw)) rfl]; rfl
    · rw [eq_3_4 (l := flat (.throw)) rfl]; rfl
  | yield =>
    intro s' hs
    rcases hs with rfl | rfl | rfl | rfl
    · rw [eq_4_1 (l := flat (.yield)) rfl]; rfl
    · rw [eq_4_2 (l := flat (.yield)) rfl]; rfl
    · rw [eq_4_3 (l := flat (.yield)) rfl]; rfl
    · rw [eq_4_4 (l := flat (.yield)) rfl]; rfl
  | over s =>
    intro s' hs
    rcases hs with rfl | rfl | rfl | rfl
    · rw [eq_11_1 (l := flat (.over s)) rfl]; rfl
    · rw [eq_11_2 (l := flat (.over s)) rfl]; rfl
    · rw [eq_11_3 (l := flat (.over s)) rfl]; rfl
    · rw [eq_11_4 (l := flat (.over s)) rfl]; rfl
  | block a ia =>
    intro s' hs
    rcases hs with rfl | rfl | rfl | rfl
    · rw [eq_9_1 (l := flat (.block a)) rfl, k0_block, ia _ (Or.inr (Or.inl rfl))]; rfl
    · rw [eq_9_2 (l := flat (.block a)) rfl]; rfl
    · rw [eq_9_3 (l := flat (.block a)) rfl, k0_block, ia _ (Or.inr (Or.inl rfl)), ia _ (Or.inr (Or.inr (Or.inr rfl))), abs0 (is13 a).2]; rfl
    · rw [eq_9_4 (l := flat (.block a)) rfl]; rfl
  | fin e c ic =>
    intro s' hs
    rcases hs with rfl | rfl | rfl | rfl
    · rw [eq_14_1 (l := flat (.fin e c)) rfl]; rfl
    · rw [eq_14_2 (l := flat (.fin e c)) rfl]; rfl
    · rw [eq_14_3 (l := flat (.fin e c)) rfl]; rfl
    · rw [eq_14_4 (l := flat (.fin e c)) rfl, k0_fin, ic _ (Or.inl rfl)]; rfl
  | seq a b ia ib =>
    intro s' hs
    rcases hs with rfl | rfl | rfl | rfl
    · rw [eq_5_1 (l := flat (.seq a b)) rfl, k0_seq, k1_seq, ia _ (Or.inl rfl), ib _ (Or.inl rfl)]; rfl
    · rw [eq_5_2 (l := flat (.seq a b)) rfl, k0_seq, k1_seq, ia _ (Or.inr (Or.inl rfl)), ib _ (Or.inr (Or.inl rfl))]; rfl
    · rw [eq_5_3 (l := flat (.seq a b)) rfl, k0_seq, k1_seq, ia _ (Or.inl rfl), ia _ (Or.inr (Or.inr (Or.inl rfl))), ib _ (Or.inl rfl), abs1 (is13 a).1]; rfl
    · rw [eq_5_4 (l := flat (.seq a b)) rfl, k0_seq, k1_seq, ia _ (Or.inr (Or.inl rfl)), ia _ (Or.inr (Or.inr (Or.inr rfl))), ib _ (Or.inr (Or.inl rfl)), abs1 (is13 a).2]; rfl
  | alt a b ia ib =>
    intro s' hs
    rcases hs with rfl | rfl | rfl | rfl
    · rw [eq_6_1 (l := flat (.alt a b)) rfl, k0_alt, k1_alt, ia _ (Or.inl rfl), ib _ (Or.inl rfl)]; rfl
    · rw [eq_6_2 (l := flat (.alt a b)) rfl, k0_alt, k1_alt, ia _ (Or.inr (Or.inl rfl)), ib _ (Or.inr (Or.inl rfl))]; rfl
    · rw [eq_6_3 (l := flat (.alt a b)) rfl, k0_alt, k1_alt, ia _ (Or.inl rfl), ib _ (Or.inl rfl), Bool.or_false]; rfl
    · rw [eq_6_4 (l := flat (.alt a b)) rfl, k0_alt, k1_alt, ia _ (Or.inr (Or.inl rfl)), ib _ (Or.inr (Or.inl rfl)), Bool.or_false]; rfl
  | par a b ia ib =>
    intro s' hs
    rcases hs with rfl | rfl | rfl | rfl
    · rw [eq_7_1 (l := flat (.par a b)) rfl, k0_par, k1_par, ia _ (Or.inl rfl), ib _ (Or.inl rfl)]; rfl
    · rw [eq_7_2 (l := flat (.par a b)) rfl, k0_par, k1_par, ia _ (Or.inr (Or.inl rfl)), ib _ (Or.inr (Or.inl rfl))]; rfl
    · rw [eq_7_3 (l := flat (.par a b)) rfl, k0_par, k1_par, ia _ (Or.inl rfl), ia _ (Or.inr (Or.inr (Or.inl rfl))), ib _ (Or.inl rfl), ib _ (Or.inr (Or.inr (Or.inl rfl))), abs2 (is13 a).1 (is13 b).1]; rfl
    · rw [eq_7_4 (l := flat (.par a b)) rfl, k0_par, k1_par, ia _ (Or.inr (Or.inl rfl)), ia _ (Or.inr (Or.inr (Or.inr rfl))), ib _ (Or.inr (Or.inl rfl)), ib _ (Or.inr (Or.inr (Or.inr rfl))), abs2 (is13 a).2 (is13 b).2]; rfl
  | hand a b ia ib =>
    intro s' hs
    rcases hs with rfl | rfl | rfl | rfl
    · rw [eq_8_1 (l := flat (.hand a b)) rfl, k0_hand, k1_hand, ia _ (Or.inl rfl), ib _ (Or.inl rfl)]; rfl
    · rw [eq_8_2 (l := flat (.hand a b)) rfl]; rfl
    · rw [eq_8_3 (l := flat (.hand a b)) rfl, k0_hand, k1_hand, ia _ (Or.inl rfl), ia _ (Or.inr (Or.inr (Or.inl rfl))), ib _ (Or.inl rfl), abs1 (is13 a).1]; rfl
    · rw [eq_8_4 (l := flat (.hand a b)) rfl]; rfl
  | pair a b ia ib =>
    intro s' hs
    rcases hs with rfl | rfl | rfl | rfl
    · rw [eq_10_1 (l := flat (.pair a b)) rfl]; rfl
    · rw [eq_10_2 (l := flat (.pair a b)) rfl, k0_pair, k1_pair, ia _ (Or.inl rfl), ib _ (Or.inl rfl)]; rfl
    · rw [eq_10_3 (l := flat (.pair a b)) rfl]; rfl
    · rw [eq_10_4 (l := flat (.pair a b)) rfl, k0_pair, k1_pair, ia _ (Or.inl rfl), ib _ (Or.inl rfl), Bool.or_false]; rfl
  | going a b ia ib =>
    intro s' hs
    rcases hs with rfl | rfl | rfl | rfl
    · rw [eq_12_1 (l := flat (.going a b)) rfl]; rfl
    · rw [eq_12_2 (l := flat (.going a b)) rfl]; rfl
    · rw [eq_12_3 (l := flat (.going a b)) rfl]; rfl
    · rw [eq_12_4 (l := flat (.going a b)) rfl, k0_going, k1_going, ia _ (Or.inr (Or.inr (Or.inl rfl))), ib _ (Or.inl rfl)]; rfl
  | stack a b ia ib =>
    intro s' hs
    rcases hs with rfl | rfl | rfl | rfl
    · rw [eq_13_1 (l := flat (.stack a b)) rfl]; rfl
    · rw [eq_13_2 (l := flat (.stack a b)) rfl]; rfl
    · rw [eq_13_3 (l := flat (.stack a b)) rfl]; rfl
    · rw [eq_13_4 (l := flat (.stack a b)) rfl, k0_stack, k1_stack, ia _ (Or.inr (Or.inr (Or.inr rfl))), ib _ (Or.inl rfl)]; rfl

/-- Each row that is a tree, of right nodes, is such a tree. -/
theorem rgt_of {x : Nd} (h : rgt x = true) (h1 : x.k ≠ 1) (h2 : ¬ (x.k = 11 ∨ x.k = 14)) : x = nOf x.k := by
  obtain ⟨k, n, s⟩ := x
  have h0 : ¬ ar k < 0 := fun h0 => by unfold rgt at h; rw [if_pos h0] at h; cases h
  rw [rgt_other n s h0 h1 h2] at h
  simp only [Bool.and_eq_true, decide_eq_true_eq, beq_iff_eq] at h
  obtain ⟨hn, rfl⟩ := h
  rw [empty_of hn]
  rfl
theorem rgt_end {x : Nd} (h : rgt x = true) (h2 : x.k = 11 ∨ x.k = 14) : x = ⟨x.k, ⟨#[]⟩, x.s⟩ ∧ 1 ≤ x.s ∧ x.s ≤ 3 := by
  obtain ⟨k, n, s⟩ := x
  rw [rgt_sign n s h2] at h
  simp only [Bool.and_eq_true, decide_eq_true_eq] at h
  rw [empty_of h.1]
  exact ⟨rfl, h.2⟩
theorem rgt_name {x : Nd} (h : rgt x = true) (h1 : x.k = 1) : x = nAct x.n := by
  obtain ⟨k, n, s⟩ := x
  obtain rfl : k = 1 := h1
  rw [rgt_act n s] at h
  simp only [Bool.and_eq_true, beq_iff_eq] at h
  obtain ⟨⟨_, rfl⟩, _⟩ := h
  rfl
theorem tm_of : ∀ (m : Nat) (l : List Nd), l.length ≤ m → Tre l → l.all rgt = true → ∃ t, flat t = l
  | 0, l, h, ht, _ => absurd ht.pos (by omega)
  | m + 1, l, h, ht, hr => by
    obtain ⟨x, hx, he⟩ := ht.flat
    have hxr : rgt x = true := by rw [he, List.all_cons, Bool.and_eq_true] at hr; exact hr.1
    have leaf : ar (hd l) = 0 → l = [x] := fun h0 => by
      have hk : kids l = [] := List.eq_nil_of_length_eq_zero (by rw [ht.kids.1, h0]; rfl)
      rw [hk] at he
      exact he
    have one : ar (hd l) = 1 → ∃ t, l = x :: flat t := fun h1 => by
      obtain ⟨a, hk, ta, la⟩ := ht.one h1
      rw [hk] at he
      have he : l = x :: a := by rw [he]; simp
      have ra : a.all rgt = true := by rw [he, List.all_cons, Bool.and_eq_true] at hr; exact hr.2
      obtain ⟨t, rfl⟩ := tm_of m a (by omega) ta ra
      exact ⟨t, he⟩
    have two : ar (hd l) = 2 → ∃ t u, l = x :: (flat t ++ flat u) := fun h2 => by
      obtain ⟨a, b, hk, ta, tb, la, lb⟩ := ht.two h2
      rw [hk] at he
      have he : l = x :: (a ++ b) := by rw [he]; simp
      have rab : a.all rgt = true ∧ b.all rgt = true := by
        rw [he, List.all_cons, List.all_append, Bool.and_eq_true, Bool.and_eq_true] at hr
        exact hr.2
      obtain ⟨t, rfl⟩ := tm_of m a (by omega) ta rab.1
      obtain ⟨u, rfl⟩ := tm_of m b (by omega) tb rab.2
      exact ⟨t, u, he⟩
    rcases kinds ht.ar with hk | hk | hk | hk | hk | hk | hk | hk | hk | hk | hk | hk | hk | hk
    · refine ⟨.act x.n, ?_⟩
      rw [leaf (by rw [hk]; rfl)]
      exact congrArg (fun y => [y]) (rgt_name hxr (by rw [← hx]; exact hk)).symm
    · refine ⟨.skip, ?_⟩
      rw [leaf (by rw [hk]; rfl)]
      have := rgt_of hxr (by omega) (by omega)
      rw [show x.k = 2 by omega] at this
      rw [this]
      rfl
    · refine ⟨.throw, ?_⟩
      rw [leaf (by rw [hk]; rfl)]
      have := rgt_of hxr (by omega) (by omega)
      rw [show x.k = 3 by omega] at this
      rw [this]
      rfl
    · refine ⟨.yield, ?_⟩
      rw [leaf (by rw [hk]; rfl)]
      have := rgt_of hxr (by omega) (by omega)
      rw [show x.k = 4 by omega] at this
      rw [this]
      rfl
    · obtain ⟨t, u, e⟩ := two (by rw [hk]; rfl)
      refine ⟨.seq t u, ?_⟩
      have := rgt_of hxr (by omega) (by omega)
      rw [show x.k = 5 by omega] at this
      rw [e, this]
      rfl
    · obtain ⟨t, u, e⟩ := two (by rw [hk]; rfl)
      refine ⟨.alt t u, ?_⟩
      have := rgt_of hxr (by omega) (by omega)
      rw [show x.k = 6 by omega] at this
      rw [e, this]
      rfl
    · obtain ⟨t, u, e⟩ := two (by rw [hk]; rfl)
      refine ⟨.par t u, ?_⟩
      have := rgt_of hxr (by omega) (by omega)
      rw [show x.k = 7 by omega] at this
      rw [e, this]
      rfl
    · obtain ⟨t, u, e⟩ := two (by rw [hk]; rfl)
      refine ⟨.hand t u, ?_⟩
      have := rgt_of hxr (by omega) (by omega)
      rw [show x.k = 8 by omega] at this
      rw [e, this]
      rfl
    · obtain ⟨t, e⟩ := one (by rw [hk]; rfl)
      refine ⟨.block t, ?_⟩
      have := rgt_of hxr (by omega) (by omega)
      rw [show x.k = 9 by omega] at this
      rw [e, this]
      rfl
    · obtain ⟨t, u, e⟩ := two (by rw [hk]; rfl)
      refine ⟨.pair t u, ?_⟩
      have := rgt_of hxr (by omega) (by omega)
      rw [show x.k = 10 by omega] at this
      rw [e, this]
      rfl
    · refine ⟨.over x.s, ?_⟩
      rw [leaf (by rw [hk]; rfl)]
      have := (rgt_end hxr (by omega)).1
      rw [show x.k = 11 by omega] at this
      exact congrArg (fun y => [y]) this.symm
    · obtain ⟨t, u, e⟩ := two (by rw [hk]; rfl)
      refine ⟨.going t u, ?_⟩
      have := rgt_of hxr (by omega) (by omega)
      rw [show x.k = 12 by omega] at this
      rw [e, this]
      rfl
    · obtain ⟨t, u, e⟩ := two (by rw [hk]; rfl)
      refine ⟨.stack t u, ?_⟩
      have := rgt_of hxr (by omega) (by omega)
      rw [show x.k = 13 by omega] at this
      rw [e, this]
      rfl
    · obtain ⟨t, e⟩ := one (by rw [hk]; rfl)
      refine ⟨.fin x.s t, ?_⟩
      have := (rgt_end hxr (by omega)).1
      rw [show x.k = 14 by omega] at this
      rw [e]
      exact congrArg (fun y => y :: flat t) this.symm
/-- A whole row is a tree. -/
theorem whole_tm {l : List Nd} (h : whole l = true) : ∃ t, flat t = l := tm_of l.length l (Nat.le_refl _) (whole_tre h) (whole_rgt h)
end Go.Proofs.Ytgaediondmdnbaa.Se

namespace Go.Proofs.Ytgaediondmdnbaa.Sx
open Go Go.RowKit Go.Proofs.Ytgaediondmdnbaa.Rw Go.Proofs.Ytgaediondmdnbaa.So
set_option maxRecDepth 20000
set_option maxHeartbeats 800000 in
theorem onP_any (l : List Nd) (p : Bool) (v : Value) (w : World) (hv : Nds w v l) (hl : l.length ≤ 1000) (hm : Nms l) :
    Calls Try.prog 18 #[v, .bool p] w fun e w' => e = .returned (.bool (onB l p)) ∧ Below w.heap.size w w' := by
  have HV := Lib.hid hv
  have HC := Lib.hid (fun w h => ofP_any l v w h hl hm)
  have hr : onB l p = if p then pd (of l) else pl (of l) := rfl
  have h4 := of_le l
  obtain ⟨z, hzz⟩ : ∃ z, of l = z := ⟨_, rfl⟩
  rw [hzz] at hr HC h4
  rw [hr]
  obtain ⟨_, a, cap, rfl, -⟩ := hv
  clear hm hzz hr
  cases p
  · rw [if_neg (by decide)]
    go_enter Try.func18, Try.ntmps18
    go_wp2_with fail
    refine (HC.out _ HV.out).mono ?_
    rintro e w1 ⟨rfl, hb⟩
    have HB := Lib.hid hb
    clear hb
    go_wp2_with fail
    refine (plP z _ h4).mono ?_
    rintro e w2 ⟨rfl, rfl⟩
    go_wp2_with fail
    go_ret
    exact ⟨rfl, HB.out⟩
  · rw [if_pos rfl]
    go_enter Try.func18, Try.ntmps18
    go_wp2_with fail
    refine (HC.out _ HV.out).mono ?_
    rintro e w1 ⟨rfl, hb⟩
    have HB := Lib.hid hb
    clear hb
    go_wp2_with fail
    refine (pdP z _ h4).mono ?_
    rintro e w2 ⟨rfl, rfl⟩
    go_wp2_with fail
    go_ret
    exact ⟨rfl, HB.out⟩
end Go.Proofs.Ytgaediondmdnbaa.Sx

namespace Go.Proofs.Ytgaediondmdnbaa.Sx
open Go Go.RowKit Go.Proofs.Ytgaediondmdnbaa.Rw Go.Proofs.Ytgaediondmdnbaa.So
set_option maxRecDepth 20000

set_option maxHeartbeats 800000 in
theorem rightP_any (l : List Nd) (v : Value) (w : World) (hv : Nds w v l) (hl : l.length ≤ 1000) (hm : Nms l) :
    Calls Try.prog 29 #[v] w fun e w' => e = .returned (.bool (rightB l)) ∧ Below w.heap.size w w' := by
  have HV := Lib.hid hv
  have HC := Lib.hid (fun w h => termP_any l v w h hl hm)
  have hr : rightB l = ((of l == 1) && (decide (l.length ≤ 60) && decide (depth l ≤ 16))) := rfl
  obtain ⟨z, hzz⟩ : ∃ z, (of l == 1) = z := ⟨_, rfl⟩
  rw [hzz] at hr HC
  rw [hr]
  obtain ⟨_, a, cap, rfl, -⟩ := hv
  clear hm hzz hr
  cases z with
  | true =>
    rw [Bool.true_and]
    by_cases h2 : l.length ≤ 60
    · rw [decide_eq_true h2, Bool.true_and]
      obtain ⟨d, hd⟩ : ∃ d, depth l = d := ⟨_, rfl⟩
      have HD := Lib.hid hd
      rw [hd]
      clear hd
      go_enter Try.func29, Try.ntmps29
      go_wp2_with fail
      refine (HC.out _ HV.out).mono ?_
      rintro e w1 ⟨rfl, hb⟩
      have HV1 := Lib.hid (HV.out.below hb)
      have HB := Lib.hid hb
      clear hb
      go_wp2_with fail
      refine (Rx.depthP_any _ l _ HV1.out (by omega)).mono ?_
      rw [HD.out]
      rintro e w2 ⟨rfl, hb⟩
      have HB2 := Lib.hid hb
      clear hb
      go_wp2_with fail
      go_ret
      exact ⟨ret_bool (decide_eq_decide.2 (by omega)), HB.out.trans (HB2.out.mono HB.out.size)⟩
    · have g2 : decide (l.length ≤ 60) = false := decide_eq_false h2
      rw [g2, Bool.false_and]
      go_enter Try.func29, Try.ntmps29
      go_wp2_with fail
      refine (HC.out _ HV.out).mono ?_
      rintro e w1 ⟨rfl, hb⟩
      have HB := Lib.hid hb
      clear hb
      go_wp2_with fail
      go_ret
      exact ⟨rfl, HB.out⟩
  | false =>
    rw [Bool.false_and]
    go_enter Try.func29, Try.ntmps29
    go_wp2_with fail
    refine (HC.out _ HV.out).mono ?_
    rintro e w1 ⟨rfl, hb⟩
    have HB := Lib.hid hb
    clear hb
    go_wp2_with fail
    go_ret
    exact ⟨rfl, HB.out⟩
end Go.Proofs.Ytgaediondmdnbaa.Sx

namespace Go.Proofs.Ytgaediondmdnbaa.Sx
open Go Go.RowKit Go.Maps Go.WideMaps Go.Proofs.Ytgaediondmdnbaa.Rw Go.Proofs.Ytgaediondmdnbaa.So
set_option maxRecDepth 20000

/-- A map's datum that says of each text whether it is one of these. -/
def TD (os : List ByteArray) (D : DataW Unit) : Prop := IsMap D ∧ ∀ s : ByteArray, D.atKey (.string s.data.toList) (.lit (.bool false)) = .lit (.bool (os.any fun o => decide (o = s)))
theorem TD.none : TD [] (.map []) := ⟨isMap_empty, fun _ => rfl⟩
theorem TD.put {os : List ByteArray} {D : DataW Unit} (h : TD os D) (x : ByteArray) : TD (os ++ [x]) (D.put (.string x.data.toList) (.lit (.bool true))) := by
  refine ⟨h.1.put _ _, fun s => ?_⟩
  by_cases hs : s = x
  · subst hs
    rw [atKey_put_same h.1 (by simp [WideAt.IsKeyLit])]
    simp
  · have hne : Lit.string s.data.toList ≠ Lit.string x.data.toList := by
      intro e
      injection e with e
      apply hs
      cases s; cases x
      simp at e
      rw [e]
    rw [atKey_put_other hne, h.2 s]
    have hs' : ¬ x = s := fun e => hs e.symm
    simp [hs']
theorem lawS : Keyed Try.prog 9 := string_keyed Try.underlying9
theorem bool_inv {v : Value} {z : DataW Unit × List MemPlace} {q : Bool} (h : plainElem Try.prog 4 v = some z) (hz : z.1 = .lit (.bool q)) : v = .bool q := by
  unfold plainElem at h
  rw [Try.underlying4] at h
  cases v <;> simp at h
  subst h
  simp at hz
  rw [hz]
theorem zeroB (w : World) : (zeroValue 4).run Try.prog w = .ok (.bool false) w := by kernel_rfl
theorem look {w : World} {b n : Nat} {os : List ByteArray} {D : DataW Unit} (h : w.ownsMap Try.prog 9 (plainElem Try.prog 4) b n D) (hd : TD os D) (s : ByteArray) (hs : s.size ≤ maxLen) :
    (Instr.lookup 41 (.map (some b)) (.string s) false).run Try.prog w = .ok (.bool (os.any fun o => decide (o = s))) w := by
  obtain ⟨v, ps, hrun, hv⟩ := h.lookup lawS Try.underlying41 (zeroB w) (plainElem_bool Try.underlying4 false) (keyOf_string_mk Try.underlying9 hs)
  rw [hd.2 s] at hv
  rw [hrun, bool_inv hv rfl]
set_option maxHeartbeats 1000000 in
theorem actsP_empty (a : Option Addr) (cap : Nat) (w : World) :
    Calls Try.prog 23 #[.slice a 0 cap] w fun e w' => ∃ y, e = .returned y ∧ Strs w' y [] ∧ Below w.heap.size w w' := by
  have hmm := @run_makeMap Try.prog
  go_enter Try.func23, Try.ntmps23
  go_wp2_with fail
  refine Go.wp_loop_rounds 1 ?_
  rw [rounds_succ]
  go_wp2_with fail
  go_ret
  exact ⟨_, rfl, ⟨rfl, none, 0, rfl, Nat.le_refl _, fun _ => ⟨rfl, rfl⟩, fun h => absurd h (Nat.lt_irrefl 0)⟩, (Below.refl _ _).alloc (Nat.le_refl _) _⟩
/-- What the loop has made: the names, and the map that tells them. -/
def Gm (w wr : World) (v : Value) (os : List ByteArray) : Prop :=
  (∃ D, wr.ownsMap Try.prog 9 (plainElem Try.prog 4) w.heap.size os.length D ∧ TD os D) ∧ wr.ownsRow (w.heap.size + 1) 9 1 v os.length (os.map .string) ∧ Below w.heap.size w wr ∧ w.heap.size + 1 ≤ wr.heap.size
theorem own_sliceS {w : World} {base size n : Nat} {e : TypeId} {v : Value} {xs : List Value} (h : w.ownsRow base e size v n xs) : ∃ a c, v = .slice a n c := by
  obtain ⟨_, ⟨rfl, rfl⟩ | ⟨g, cap, cur, rfl, _⟩⟩ := h
  · exact ⟨none, 0, rfl⟩
  · exact ⟨_, _, rfl⟩
theorem Gm.start (w : World) : Gm w (w.alloc (.map #[] 0)) (.slice none 0 0) [] :=
  ⟨⟨_, World.ownsMap_made _ _ _ _, TD.none⟩, ⟨rfl, .inl ⟨rfl, rfl⟩⟩, (Below.refl _ _).alloc (Nat.le_refl _) _, by simp⟩
theorem Gm.alloc {w wr : World} {v : Value} {os : List ByteArray} (h : Gm w wr v os) (o : Obj) : Gm w (wr.alloc o) v os := by
  obtain ⟨⟨D, h1, h2⟩, h3, h4, h5⟩ := h
  exact ⟨⟨D, h1.alloc _, h2⟩, h3.alloc _, h4.alloc h4.size _, by simp; omega⟩
theorem own_turn {w w' : World} {B size n : Nat} {e : TypeId} {v : Value} {xs : List Value} (h : w.ownsRow (B + 1) e size v n xs) (hg : w.grownBy w' (some B)) : w'.ownsRow (B + 1) e size v n xs := by
  obtain ⟨hl, h | ⟨g, cap, cur, rfl, hb, hh, h1, h2, h3, h4⟩⟩ := h
  · exact ⟨hl, .inl h⟩
  · refine ⟨hl, .inr ⟨g, cap, cur, rfl, hb, ?_, h1, h2, h3, h4⟩⟩
    rw [hg.block g (Nat.lt_of_not_le fun hle => by rw [Array.getElem?_eq_none hle] at hh; cases hh) (fun e => by injection e with e; omega)]
    exact hh
theorem Gm.add {w wr w1 : World} {v : Value} {os : List ByteArray} {D : DataW Unit} (h : Gm w wr v os) (hown : w1.ownsMap Try.prog 9 (plainElem Try.prog 4) w.heap.size (os.length + 1) D) (hg : wr.grownBy w1 (some w.heap.size)) (s : ByteArray) (hd : TD (os ++ [s]) D) (hl : os.length ≤ 1000000) :
    ∃ v' w', (Builtin.append_ #[34, 34] 34 #[v, .slice (some ⟨w1.heap.size, 0, none⟩) 1 1]).run Try.prog (w1.alloc (.cells #[.string s] 9)) = .ok v' w' ∧ Gm w w' v' (os ++ [s]) := by
  obtain ⟨_, h3, h4, h5⟩ := h
  have hs := hg.size
  have B1 : Below w.heap.size w w1 := h4.grown hg h4.size (fun k hk => by injection hk with hk; omega)
  obtain ⟨i0, hi, hz, hs1, hb8⟩ := info_parts infoS
  obtain ⟨v', w', r1, r2, _, r4, _⟩ := Ap.run_append_one (P := Try.prog) (ty := 34) Try.underlying34 hi hz hs1 hb8 (by rfl) (by omega) (own_turn h3 hg) (by omega) #[.string s] rfl
    (by intro u hu; simp at hu; subst hu; rfl) (by unfold maxLen; omega) (by omega)
  obtain ⟨es, clock, m1, m2, m3, m4⟩ := hown
  refine ⟨v', w', r1, ⟨D, ⟨es, clock, by rw [r4.block _ (Nat.lt_succ_self _)]; exact m1, m2, ?_, m4⟩, hd⟩, ?_, B1.trans (r4.mono (Nat.le_succ _)), by have := r4.size; omega⟩
  · simpa using m3
  · simpa using r2
set_option maxHeartbeats 8000000 in
theorem actsP_cells (b off cap : Nat) (l : List Nd) (w : World) (hl : l.length ≤ 1000) (hat : At w b off l) (hm : Nms l) :
    Calls Try.prog 23 #[.slice (some ⟨b, off, none⟩) l.length cap] w fun e w' => ∃ y, e = .returned y ∧ Strs w' y (acts l) ∧ Below w.heap.size w w' := by
  have hmm := @run_makeMap Try.prog
  have HA := Lib.hid hat
  have HM := Lib.hid hm
  clear hat hm
  go_enter Try.func23, Try.ntmps23
  go_wp2_with fail
  go_loopw [3, 10] (fun o i wr => ∃ (k : Nat) (a : Option Addr) (n c : Nat) (os : List ByteArray), k ≤ l.length ∧ n ≤ k ∧ i = .int .i64 k ∧ o = .slice a n c ∧ Hid (os.length = n) ∧ Hid (acts (l.take k) = os) ∧ Hid (Gm w wr (.slice a n c) os)) (fun _ i _ => l.length - (intOf i).toNat)
  case atStart => exact ⟨0, none, 0, 0, [], Nat.zero_le _, Nat.le_refl _, rfl, rfl, Lib.hid rfl, Lib.hid rfl, Lib.hid (Gm.start w)⟩
  case round =>
    obtain ⟨k, a, n, c, os, hk, hn, rfl, rfl, HL, HO, HG⟩ := hrel
    by_cases hlt : k < l.length
    · obtain ⟨e1, e2, e3⟩ := HA.out k hlt
      have HT := Lib.hid (acts_take l k hlt)
      have c1 : wr.cell? ⟨b, off + k * 3, none⟩ = some (.int .i64 l[k].k) := by rw [HG.out.2.2.1.cell (Ap.cell_lt e1)]; exact e1
      have c2 : wr.cell? ⟨b, off + k * 3 + 1, none⟩ = some (.string l[k].n) := by rw [HG.out.2.2.1.cell (Ap.cell_lt e2)]; exact e2
      have c3 : wr.cell? ⟨b, off + k * 3 + 2, none⟩ = some (.int .i64 l[k].s) := by rw [HG.out.2.2.1.cell (Ap.cell_lt e3)]; exact e3
      have hxm : l[k].n.size ≤ maxLen := by
        have := HM.out _ (List.getElem_mem hlt)
        unfold maxLen
        omega
      obtain ⟨x, hx⟩ : ∃ x, l[k] = x := ⟨_, rfl⟩
      rw [hx] at c1 c2 c3 HT hxm
      have HXM := Lib.hid hxm
      clear hx e1 e2 e3 hxm
      have HG1 := Lib.hid (HG.out.alloc (nb x))
      by_cases h1 : x.k = 1
      · obtain ⟨xk, xn, xs⟩ := x
        obtain rfl : xk = 1 := h1
        replace HXM : Hid (xn.size ≤ maxLen) := HXM
        obtain ⟨q, hq⟩ : ∃ q, (os.any fun o => decide (o = xn)) = q := ⟨_, rfl⟩
        have hlook : (Instr.lookup 41 (.map (some w.heap.size)) (.string xn) false).run Try.prog (wr.alloc (.cells #[.int .i64 1, .string xn, .int .i64 xs] 30)) = .ok (.bool q) (wr.alloc (.cells #[.int .i64 1, .string xn, .int .i64 xs] 30)) := by
          obtain ⟨⟨D, m1, m2⟩, _⟩ := HG1.out
          rw [look m1 m2 xn HXM.out, hq]
        have HQ : Hid (met ⟨1, xn, xs⟩ os = q) := by
          show _ = _
          unfold met
          rw [hq]
          rfl
        clear hq
        cases q with
        | true =>
          have HX : Hid (acts (l.take (k + 1)) = os) := by
            show _ = _
            rw [HT.out, HO.out, add_met HQ.out]
          go_wp2_with fail
          go_roundw
          case rel => exact ⟨k + 1, a, n, c, os, by omega, by omega, by go_num, rfl, HL, HX, HG1⟩
          case measure => simp [intOf]; omega
        | false =>
          have HX : Hid (acts (l.take (k + 1)) = os ++ [xn]) := by
            show _ = _
            rw [HT.out, HO.out, add_new HQ.out]
          obtain ⟨⟨D, m1, m2⟩, m3⟩ := HG1.out
          have HD := Lib.hid m2
          have HMM := Lib.hid m1
          clear m1 m2 m3
          go_upto_region 8 with (at_mapUpdate; refine wpList_mapUpdate_own _ rfl _ _ _ 41 rfl 9 4 lawS Try.underlying41 (plainElem (H := Unit) Try.prog 4) w.heap.size os.length D rfl HMM.out (by rw [HL.out]; unfold maxLen; omega) _ _ _ rfl rfl (keyOf_string_mk Try.underlying9 HXM.out) _ [] (plainElem_bool Try.underlying4 true) ?_; intro w1 hown1 hgrow1)
          have c4 : w1.cell? ⟨wr.heap.size, 1, none⟩ = some (.string xn) := hgrow1.cell (by simp) (by intro e; injection e with e; have h5 : w.heap.size + 1 ≤ wr.heap.size := HG.out.2.2.2; exact absurd (show w.heap.size = wr.heap.size from e.symm) (by omega))
          obtain ⟨v', w', hrun, hgot⟩ := HG1.out.add hown1 hgrow1 xn (HD.out.put xn) (by rw [HL.out]; omega)
          obtain ⟨a', c', rfl⟩ : ∃ a' c', v' = .slice a' (os.length + 1) c' := by
            have := own_sliceS hgot.2.1
            simpa using this
          have HL' : Hid ((os ++ [xn]).length = n + 1) := by
            show _ = _
            rw [List.length_append, HL.out]
            rfl
          rw [HL.out] at hrun hgot
          have R := Lib.hid hrun
          have HG' := Lib.hid hgot
          clear hrun hgot hown1 hgrow1
          go_wp2_with (at_builtin; refine Ap.wpList_append_run (by rfl) (.tmp 27) (.tmp 30) _ _ rfl _ _ rfl rfl _ w' R.out ?_)
          go_roundw
          case rel => exact ⟨k + 1, a', n + 1, c', os ++ [xn], by omega, by omega, by go_num, rfl, HL', HX, HG'⟩
          case measure => simp [intOf]; omega
      · have g1 : (x.k == 1) = false := by rw [beq_eq_false_iff_ne]; exact h1
        have HX : Hid (acts (l.take (k + 1)) = os) := by
          show _ = _
          rw [HT.out, HO.out, add_met (by unfold met; rw [show (x.k != 1) = true by rw [bne_iff_ne]; exact h1]; rfl)]
        clear h1
        go_wp2_with fail
        go_roundw
        case rel => exact ⟨k + 1, a, n, c, os, by omega, by omega, by go_num, rfl, HL, HX, HG1⟩
        case measure => simp [intOf]; omega
    · have HZ : Hid (acts l = os) := by
        have := HO.out
        rwa [List.take_of_length_le (by omega)] at this
      go_wp2_with fail
      go_ret
      exact ⟨_, rfl, by rw [HZ.out]; exact Ap.Rd.owned HG.out.2.1, HG.out.2.2.1⟩
/-- The program's Acts. -/
theorem actsP_any (v : Value) (l : List Nd) (w : World) (hv : Nds w v l) (hl : l.length ≤ 1000) (hm : Nms l) :
    Calls Try.prog 23 #[v] w fun e w' => ∃ y, e = .returned y ∧ Strs w' y (acts l) ∧ Below w.heap.size w w' := by
  rcases hv.form with ⟨rfl, a, cap, rfl⟩ | ⟨b, off, cap, rfl, _, hat⟩
  · exact actsP_empty a cap w
  · exact actsP_cells b off cap l w hl hat hm
end Go.Proofs.Ytgaediondmdnbaa.Sx
