/- RowDeep from the contracts: a tree is one deeper than the deepest of its kids, and has one node more than all of them. The nodes above, and how many trees each is still to have: plain. Rows of rows of actions; the document's ahead: the walk. Plain: the sorts of kids, of blocks, of what is made of two. The program's Of, Term, Right. The document's mixed: all rows of two, the walk. Plain: trees of the fourteen kinds of nodes, the rows that they are, their sorts. The program's On. The program's Right: the walk. What may be refused: plain. Rows of which some actions are put in an Alt with a Throw; places; what is stripped. The document's mixed at any two rows: the walk of the step. -/
import Derived.Test.YtdkaoiomndkbjaaDoorQ07
import Derived.Test.YtdkaoiomndkbjaaDoorQ01
import Derived.Test.YtdkaoiomndkbjaaDoorQ06

namespace Go.Proofs.YtdkaoiomndkbjaaDoor.Rw
open Go Go.RowKit
set_option maxRecDepth 20000
def deepest : List (List Nd) → Nat
  | [] => 0
  | r :: rs => max (depth r) (deepest rs)
theorem RwC.at {w : World} : ∀ {cs : List Value} {ls : List (List Nd)}, RwC w cs ls → ∀ i (h : i < ls.length), ∃ a, cs[i]? = some a ∧ Nds w a ls[i]
  | [], [], _, i, h => by simp at h
  | a :: _, _ :: _, hr, 0, _ => ⟨a, rfl, hr.1⟩
  | _ :: cs, _ :: ls, hr, i + 1, h => by
    obtain ⟨a, h1, h2⟩ := RwC.at hr.2 i (by simpa using h)
    exact ⟨a, by simpa using h1, by simpa using h2⟩
  | [], _ :: _, h, _, _ => h.elim
  | _ :: _, [], h, _, _ => h.elim
def AtR (w : World) (b off : Nat) (ls : List (List Nd)) : Prop := ∀ i, (h : i < ls.length) → ∃ a, w.cell? ⟨b, off + i, none⟩ = some a ∧ Nds w a ls[i]
theorem Rws.form {w : World} {v : Value} {ls : List (List Nd)} (h : Rws w v ls) :
    (ls = [] ∧ ∃ a cap, v = .slice a 0 cap) ∨ ∃ b off cap, v = .slice (some ⟨b, off, none⟩) ls.length cap ∧ AtR w b off ls := by
  obtain ⟨cs, ⟨_, a, cap, rfl, hle, _, hcell⟩, hr⟩ := h
  by_cases h0 : 0 < ls.length
  · obtain ⟨b, off, rfl, hj⟩ := hcell h0
    refine Or.inr ⟨b, off, cap, rfl, fun i hi => ?_⟩
    obtain ⟨a, h1, h2⟩ := hr.at i hi
    exact ⟨a, hj _ _ h1, h2⟩
  · have : ls = [] := List.eq_nil_of_length_eq_zero (by omega)
    subst this
    exact Or.inl ⟨rfl, a, cap, rfl⟩
structure Kr (w0 : World) (v : Value) (l : List Nd) (b o : Nat) (ls : List (List Nd)) (w : World) : Prop where
  kp : Kp w0 v l w
  at' : AtR w b o ls
end Go.Proofs.YtdkaoiomndkbjaaDoor.Rw

namespace Go.Proofs.YtdkaoiomndkbjaaDoor.Pl
open Go Rw So
theorem front {c n d : Nat} {r : List Nd} (h : S (c + 1) r = some (n, d)) : ∃ n1 d1 n2 d2, T r = some (n1, d1) ∧ S c (r.drop n1) = some (n2, d2) ∧ n = n1 + n2 := by
  rw [Rx.S_front] at h
  cases h1 : T r with
  | none => rw [h1] at h; cases h
  | some x =>
    obtain ⟨n1, d1⟩ := x
    rw [h1] at h
    simp only at h
    cases h2 : S c (r.drop n1) with
    | none => rw [h2] at h; cases h
    | some y =>
      obtain ⟨n2, d2⟩ := y
      rw [h2] at h
      simp only [Option.some.injEq, Prod.mk.injEq] at h
      exact ⟨n1, d1, n2, d2, rfl, h2, h.1.symm⟩
def Ch (l : List Nd) : Nat → List Nat → List Nat → Prop
  | e, [], [] => e = l.length
  | e, a :: ab, c :: st => (∃ n d, S c (l.drop e) = some (n, d) ∧ e + n = a + zz l a) ∧ Ch l (a + zz l a) ab st
  | _, [], _ :: _ => False
  | _, _ :: _, [] => False
theorem Ch.le {l : List Nd} : ∀ {ab st : List Nat} {e : Nat}, Ch l e ab st → ∀ x ∈ ab, e ≤ x + zz l x
  | [], _, _, _, x, hx => by cases hx
  | _ :: _, [], _, h, _, _ => h.elim
  | a :: ab, c :: st, e, h, x, hx => by
    obtain ⟨⟨n, d, _, h2⟩, h3⟩ := h
    rcases List.mem_cons.1 hx with rfl | hx
    · omega
    · have := h3.le x hx
      omega
theorem Ch.zero {l : List Nd} {ab st : List Nat} {e a : Nat} (h : Ch l e (a :: ab) (0 :: st)) : a + zz l a = e ∧ Ch l e ab st := by
  obtain ⟨⟨n, d, h1, h2⟩, h3⟩ := h
  rw [S_zero] at h1
  cases h1
  exact ⟨by omega, by rw [show e = a + zz l a by omega]; exact h3⟩
theorem Ch.succ {l : List Nd} {ab st : List Nat} {e a c : Nat} (h : Ch l e (a :: ab) ((c + 1) :: st)) : e < l.length ∧ e < a + zz l a ∧ Ch l (e + zz l e) (a :: ab) (c :: st) := by
  obtain ⟨⟨n, d, h1, h2⟩, h3⟩ := h
  obtain ⟨n1, d1, n2, d2, g1, g2, rfl⟩ := front h1
  obtain ⟨z1, _⟩ := zz_some g1
  obtain ⟨b1, b2, _⟩ := T_bd g1
  rw [List.length_drop] at b2
  refine ⟨by omega, by omega, ⟨n2, d2, ?_, by omega⟩, h3⟩
  rw [z1, ← List.drop_drop]
  exact g2
theorem Ch.push {l : List Nd} (ht : Tre l) {k : Nat} (hk : k < l.length) {ab st : List Nat} (h : Ch l (k + zz l k) ab st) : Ch l (k + 1) (k :: ab) ((Rw.ar l[k].k).toNat :: st) := by
  obtain ⟨h1, h2, h3⟩ := in_tree ht hk
  rw [List.drop_eq_getElem_cons hk, T_cons] at h1
  split at h1
  · cases h1
  · cases hs : S (Rw.ar l[k].k).toNat (l.drop (k + 1)) with
    | none => rw [hs] at h1; cases h1
    | some x =>
      obtain ⟨c, d⟩ := x
      rw [hs] at h1
      simp only [Option.some.injEq, Prod.mk.injEq] at h1
      exact ⟨⟨c, d, hs, by omega⟩, h⟩
theorem ar_tree {l : List Nd} (ht : Tre l) {k : Nat} (hk : k < l.length) : 0 ≤ Rw.ar l[k].k := by
  obtain ⟨h1, h2, h3⟩ := in_tree ht hk
  rw [List.drop_eq_getElem_cons hk, T_cons] at h1
  split at h1
  · cases h1
  · omega
structure Op (l : List Nd) (k : Nat) (ab st : List Nat) : Prop where
  eq : ab = ov l k
  len : st.length = ab.length
  ch : Ch l (k + zz l k) ab.reverse st.reverse
structure Pp (l : List Nd) (k g : Nat) (ab st : List Nat) : Prop where
  len : st.length = ab.length
  ch : Ch l (k + 1) (ab.take g).reverse (st.take g).reverse
  eq : ov l (k + 1) = (ab.take g).filter fun j => decide (k + 1 < j + zz l j)
theorem Op.start {l : List Nd} (ht : Tre l) : Op l 0 [] [] := ⟨rfl, rfl, by rw [zz_zero ht, Nat.zero_add]; rfl⟩
theorem Op.push {l : List Nd} (ht : Tre l) {k : Nat} (hk : k < l.length) {ab st : List Nat} (h : Op l k ab st) {r n : Nat} (hr : Rw.ar l[k].k = (r : Int)) (hn : n = ab.length) : Pp l k (n + 1) (ab ++ [k]) (st ++ [r]) := by
  subst hn
  have h1 : (ab ++ [k]).take (ab.length + 1) = ab ++ [k] := List.take_of_length_le (by simp)
  have h2 : (st ++ [r]).take (ab.length + 1) = st ++ [r] := List.take_of_length_le (by simp [h.len])
  refine ⟨by simp [h.len], ?_, ?_⟩
  · rw [h1, h2, List.reverse_append, List.reverse_append]
    have := h.ch.push ht hk
    rw [hr] at this
    exact this
  · rw [h1, List.filter_append, h.eq]
    unfold ov
    rw [List.range_succ, List.filter_append, List.filter_filter]
    congr 1
    refine List.filter_congr fun j _ => ?_
    rw [Bool.eq_iff_iff]
    simp
    omega
theorem rev_take {ab : List Nat} {i : Nat} (h : i < ab.length) : (ab.take (i + 1)).reverse = ab[i] :: (ab.take i).reverse := by
  rw [List.take_succ_eq_append_getElem h, List.reverse_append]
  rfl
theorem Pp.zero {l : List Nd} {k i : Nat} {ab st : List Nat} (h : Pp l k (i + 1) ab st) (hi : i < st.length) (h0 : st[i] = 0) : Pp l k i ab st := by
  have hc := h.ch
  rw [rev_take hi, rev_take (by rw [← h.len]; exact hi), h0] at hc
  obtain ⟨h1, h2⟩ := hc.zero
  refine ⟨h.len, h2, ?_⟩
  rw [h.eq, List.take_succ_eq_append_getElem (by rw [← h.len]; exact hi), List.filter_append]
  have : List.filter (fun j => decide (k + 1 < j + zz l j)) [ab[i]'(by rw [← h.len]; exact hi)] = [] := by
    simp
    omega
  rw [this, List.append_nil]
theorem Pp.none {l : List Nd} {k : Nat} {ab st : List Nat} (h : Pp l k 0 ab st) : k + 1 = l.length := by
  have := h.ch
  simp only [List.take_zero, List.reverse_nil] at this
  exact this
theorem Pp.some {l : List Nd} {k i c : Nat} {ab st : List Nat} (h : Pp l k (i + 1) ab st) (hi : i < st.length) (h0 : st[i] = c + 1) : k + 1 < l.length ∧ Op l (k + 1) (ab.take (i + 1)) (st.take i ++ [c]) := by
  have hl := h.len
  have hc := h.ch
  rw [rev_take hi, rev_take (by omega), h0] at hc
  obtain ⟨h1, h2, h3⟩ := hc.succ
  refine ⟨h1, ?_, ?_, ?_⟩
  · rw [h.eq, List.filter_eq_self.2]
    intro x hx
    rw [decide_eq_true_eq]
    rw [List.take_succ_eq_append_getElem (by omega), List.mem_append, List.mem_singleton] at hx
    rcases hx with hx | rfl
    · have := h3.2.le x (by rwa [List.mem_reverse])
      omega
    · exact h2
  · simp
    omega
  · rw [List.reverse_append, rev_take (by omega)]
    exact h3
end Go.Proofs.YtdkaoiomndkbjaaDoor.Pl

namespace Go.Proofs.YtdkaoiomndkbjaaDoor.Tr
open Go Go.RowKit
set_option maxRecDepth 20000
def StrsO (ok : Nat → Prop) (w : World) (v : Value) (l : List ByteArray) : Prop := Ap.RdO ok w 1 v l.length (l.map .string)
def RwO (ok : Nat → Prop) (w : World) : List Value → List (List ByteArray) → Prop
  | [], [] => True
  | a :: cs, r :: rs => StrsO ok w a r ∧ RwO ok w cs rs
  | _, _ => False
def Rws (w : World) (v : Value) (rs : List (List ByteArray)) : Prop := ∃ cs, Ap.Rd w 1 v rs.length cs ∧ RwO (fun _ => True) w cs rs
end Go.Proofs.YtdkaoiomndkbjaaDoor.Tr

namespace Go.Proofs.YtdkaoiomndkbjaaDoor.So
open Go Rw
theorem whole_rgt {l : List Nd} (h : whole l = true) : l.all rgt = true := by
  unfold whole at h
  simp only [Bool.and_eq_true] at h
  exact h.1.1
theorem of_not {l : List Nd} (h : whole l = false) : of l = 0 := by
  unfold of
  rw [h]
  rfl
def nOf (k : Int) : Nd := ⟨k, ⟨#[]⟩, 0⟩
theorem kids_mk {k : Int} {a b : List Nd} (hk : ar k = 2) (ha : Tre a) (hb : Tre b) : Tre (nOf k :: (a ++ b)) ∧ kids (nOf k :: (a ++ b)) = [a, b] := by
  obtain ⟨d1, t1⟩ := ha
  obtain ⟨d2, t2⟩ := hb
  have a1 := T_append b t1
  have s1 : S 1 (a ++ b) = some (a.length, max 0 d1) := by
    rw [show (1 : Nat) = 0 + 1 from rfl, S_succ, S_zero]
    simp only [List.drop_zero, a1, Nat.zero_add]
  have dm : (a ++ b).drop a.length = b := by simp
  have s2 : S 2 (a ++ b) = some (a.length + b.length, max (max 0 d1) d2) := by
    rw [show (2 : Nat) = 1 + 1 from rfl, S_succ, s1]
    simp only [dm, t2]
  have hT : T (nOf k :: (a ++ b)) = some (a.length + b.length + 1, max (max 0 d1) d2 + 1) := by
    rw [T_cons, if_neg (show ¬ ar (nOf k).k < 0 by show ¬ ar k < 0; omega), show (ar (nOf k).k).toNat = 2 by show (ar k).toNat = 2; rw [hk]; rfl, s2]
  have ht : Tre (nOf k :: (a ++ b)) := ⟨_, by rw [hT, List.length_cons, List.length_append]⟩
  refine ⟨ht, ?_⟩
  obtain ⟨x, y, hxy, tx, ty, _, _⟩ := ht.two hk
  obtain ⟨_, _, he⟩ := ht.flat
  rw [hxy] at he
  injection he with _ he
  simp at he
  obtain ⟨dx, hx⟩ := tx
  have hx2 := T_append y hx
  rw [← he, a1] at hx2
  have hlen : a.length = x.length := by
    have := congrArg (fun o => o.map (·.1)) hx2
    simpa using this
  have h1 := congrArg (List.take a.length) he
  have h2 := congrArg (List.drop a.length) he
  rw [List.take_append_of_le_length (Nat.le_refl _), List.take_length, hlen, List.take_append_of_le_length (Nat.le_refl _), List.take_length] at h1
  rw [dm, hlen, List.drop_append_of_le_length (Nat.le_refl _), List.drop_length, List.nil_append] at h2
  rw [hxy, ← h1, ← h2]
end Go.Proofs.YtdkaoiomndkbjaaDoor.So

namespace Go.Proofs.YtdkaoiomndkbjaaDoor.Sx
open Go Go.RowKit Rw So
set_option maxRecDepth 20000
theorem whole_tre {l : List Nd} (h : whole l = true) : Tre l := by
  unfold whole at h
  simp only [Bool.and_eq_true, decide_eq_true_eq] at h
  exact Tre.of_size h.2 (fun e => by rw [e] at h; exact absurd h.1.2.1 (by decide))
set_option maxHeartbeats 400000 in
theorem ofP_any (l : List Nd) (v : Value) (w : World) (hv : Nds w v l) (hl : l.length ≤ 1000) (hm : Nms l) :
    Calls Tryd.prog 62 #[v] w fun e w' => e = .returned (.int .i64 (of l)) ∧ Below w.heap.size w w' := by
  have HV := Lib.hid hv
  have HM := Lib.hid hm
  obtain ⟨_, a, cap, rfl, -⟩ := hv
  clear hm
  cases hq : whole l with
  | false =>
    have HZ : Hid (of l = 0) := by
      show _ = _
      unfold of
      rw [hq]
      rfl
    have HQ := Lib.hid hq
    clear hq
    go_enter Tryd.func62, Tryd.ntmps62
    go_wp2_with fail
    refine (Rx.wholeP_any _ l _ HV.out hl HM.out).mono ?_
    rw [HQ.out]
    rintro e w' ⟨rfl, hb⟩
    have HB := Lib.hid hb
    clear hb
    go_wp2_with fail
    go_ret
    exact ⟨ret_int (by rw [HZ.out]; rfl), HB.out⟩
  | true =>
    have HZ : Hid (of l = So.first l) := by
      show _ = _
      unfold of
      rw [hq]
      rfl
    have HT := Lib.hid (whole_tre hq)
    have HQ := Lib.hid hq
    obtain ⟨F, hF⟩ : ∃ F, So.first l = F := ⟨_, rfl⟩
    rw [hF] at HZ
    have HF := Lib.hid hF
    clear hq hF
    go_enter Tryd.func62, Tryd.ntmps62
    go_wp2_with fail
    refine (Rx.wholeP_any _ l _ HV.out hl HM.out).mono ?_
    rw [HQ.out]
    rintro e w' ⟨rfl, hb⟩
    have HB := Lib.hid hb
    have HV1 : Hid (Nds w' (.slice a l.length cap) (l ++ [])) := by
      show Nds _ _ _
      rw [List.append_nil]
      exact HV.out.below hb
    clear hb
    go_wp2_with fail
    refine (first_any l [] _ _ HT.out HV1.out).mono ?_
    rw [HF.out]
    rintro e w2 ⟨y, rfl, _, hb⟩
    have HB2 := Lib.hid hb
    clear hb
    go_wp2_with fail
    go_ret
    exact ⟨ret_int (by rw [HZ.out]), HB.out.trans (HB2.out.mono HB.out.size)⟩
end Go.Proofs.YtdkaoiomndkbjaaDoor.Sx

namespace Go.Proofs.YtdkaoiomndkbjaaDoor.Tr
open Go Go.RowKit
set_option maxRecDepth 20000
def mx : Nat → List ByteArray → List ByteArray → List (List ByteArray)
  | _, [], b => [b]
  | _, a, [] => [a]
  | 0, _, _ => []
  | n + 1, x :: a, y :: b => (mx n a (y :: b)).map (x :: ·) ++ (mx n (x :: a) b).map (y :: ·)
end Go.Proofs.YtdkaoiomndkbjaaDoor.Tr

namespace Go.Proofs.YtdkaoiomndkbjaaDoor.Se
open Go Rw So
inductive Tm
  | act (s : ByteArray)
  | skip
  | throw
  | yield
  | over (s : Int)
  | block (a : Tm)
  | fin (s : Int) (c : Tm)
  | seq (a b : Tm)
  | alt (a b : Tm)
  | par (a b : Tm)
  | hand (a b : Tm)
  | pair (a b : Tm)
  | going (a b : Tm)
  | stack (a b : Tm)
deriving DecidableEq
abbrev nAct (s : ByteArray) : Nd := ⟨1, s, 0⟩
abbrev nOver (s : Int) : Nd := ⟨11, ⟨#[]⟩, s⟩
abbrev nEnd (s : Int) : Nd := ⟨14, ⟨#[]⟩, s⟩
def flat : Tm → List Nd
  | .act s => [nAct s]
  | .skip => [nOf 2]
  | .throw => [nOf 3]
  | .yield => [nOf 4]
  | .over s => [nOver s]
  | .block a => nOf 9 :: flat a
  | .fin s c => nEnd s :: flat c
  | .seq a b => nOf 5 :: (flat a ++ flat b)
  | .alt a b => nOf 6 :: (flat a ++ flat b)
  | .par a b => nOf 7 :: (flat a ++ flat b)
  | .hand a b => nOf 8 :: (flat a ++ flat b)
  | .pair a b => nOf 10 :: (flat a ++ flat b)
  | .going a b => nOf 12 :: (flat a ++ flat b)
  | .stack a b => nOf 13 :: (flat a ++ flat b)
def sz : Tm → Nat
  | .act _ => 1
  | .skip => 1
  | .throw => 1
  | .yield => 1
  | .over _ => 1
  | .block a => sz a + 1
  | .fin _ c => sz c + 1
  | .seq a b => sz a + sz b + 1
  | .alt a b => sz a + sz b + 1
  | .par a b => sz a + sz b + 1
  | .hand a b => sz a + sz b + 1
  | .pair a b => sz a + sz b + 1
  | .going a b => sz a + sz b + 1
  | .stack a b => sz a + sz b + 1
theorem flat_len : ∀ t : Tm, (flat t).length = sz t := by
  intro t
  induction t <;> simp_all [flat, sz]
theorem sz_pos (t : Tm) : 1 ≤ sz t := by cases t <;> simp [sz]
theorem flat_ne (t : Tm) : flat t ≠ [] := fun e => by
  have h := flat_len t
  have := sz_pos t
  rw [e] at h
  simp at h
  omega
theorem kids_one {n : Nd} {a : List Nd} (hk : ar n.k = 1) (ha : Tre a) : Tre (n :: a) ∧ kids (n :: a) = [a] := by
  obtain ⟨d1, t1⟩ := ha
  have s1 : S 1 a = some (a.length, max 0 d1) := by
    rw [show (1 : Nat) = 0 + 1 from rfl, S_succ, S_zero]
    simp only [List.drop_zero, t1, Nat.zero_add]
  have hT : T (n :: a) = some (a.length + 1, max 0 d1 + 1) := by
    rw [T_cons, if_neg (by omega), hk, show (1 : Int).toNat = 1 from rfl, s1]
  have ht : Tre (n :: a) := ⟨_, by rw [hT, List.length_cons]⟩
  refine ⟨ht, ?_⟩
  obtain ⟨x, hx, _, _⟩ := ht.one hk
  obtain ⟨_, _, he⟩ := ht.flat
  rw [hx] at he
  injection he with _ he
  simp at he
  rw [hx, he]
theorem tre_leaf {n : Nd} (hk : ar n.k = 0) : Tre [n] := ⟨1, by rw [T_cons, if_neg (by omega), hk]; rfl⟩
theorem tre_flat : ∀ t : Tm, Tre (flat t) := by
  intro t
  induction t with
  | act s => exact tre_leaf rfl
  | skip => exact tre_leaf rfl
  | throw => exact tre_leaf rfl
  | yield => exact tre_leaf rfl
  | over s => exact tre_leaf rfl
  | block a ia => exact (kids_one rfl ia).1
  | fin s c ic => exact (kids_one rfl ic).1
  | seq a b ia ib => exact (kids_mk rfl ia ib).1
  | alt a b ia ib => exact (kids_mk rfl ia ib).1
  | par a b ia ib => exact (kids_mk rfl ia ib).1
  | hand a b ia ib => exact (kids_mk rfl ia ib).1
  | pair a b ia ib => exact (kids_mk rfl ia ib).1
  | going a b ia ib => exact (kids_mk rfl ia ib).1
  | stack a b ia ib => exact (kids_mk rfl ia ib).1
theorem kids_block (a : Tm) : kids (flat (.block a)) = [flat a] := (kids_one (n := nOf 9) rfl (tre_flat a)).2
theorem kids_fin (s : Int) (c : Tm) : kids (flat (.fin s c)) = [flat c] := (kids_one (n := nEnd s) rfl (tre_flat c)).2
theorem kids_seq (a b : Tm) : kids (flat (.seq a b)) = [flat a, flat b] := (kids_mk rfl (tre_flat a) (tre_flat b)).2
theorem kids_alt (a b : Tm) : kids (flat (.alt a b)) = [flat a, flat b] := (kids_mk rfl (tre_flat a) (tre_flat b)).2
theorem kids_par (a b : Tm) : kids (flat (.par a b)) = [flat a, flat b] := (kids_mk rfl (tre_flat a) (tre_flat b)).2
theorem kids_hand (a b : Tm) : kids (flat (.hand a b)) = [flat a, flat b] := (kids_mk rfl (tre_flat a) (tre_flat b)).2
theorem kids_pair (a b : Tm) : kids (flat (.pair a b)) = [flat a, flat b] := (kids_mk rfl (tre_flat a) (tre_flat b)).2
theorem kids_going (a b : Tm) : kids (flat (.going a b)) = [flat a, flat b] := (kids_mk rfl (tre_flat a) (tre_flat b)).2
theorem kids_stack (a b : Tm) : kids (flat (.stack a b)) = [flat a, flat b] := (kids_mk rfl (tre_flat a) (tre_flat b)).2
theorem k0_block (a : Tm) : k0 (flat (.block a)) = flat a := by unfold k0; rw [kids_block]; rfl
theorem k0_fin (s : Int) (a : Tm) : k0 (flat (.fin s a)) = flat a := by unfold k0; rw [kids_fin]; rfl
theorem k0_seq (a b : Tm) : k0 (flat (.seq a b)) = flat a := by unfold k0; rw [kids_seq]; rfl
theorem k1_seq (a b : Tm) : k1 (flat (.seq a b)) = flat b := by unfold k1; rw [kids_seq]; rfl
theorem k0_alt (a b : Tm) : k0 (flat (.alt a b)) = flat a := by unfold k0; rw [kids_alt]; rfl
theorem k1_alt (a b : Tm) : k1 (flat (.alt a b)) = flat b := by unfold k1; rw [kids_alt]; rfl
theorem k0_par (a b : Tm) : k0 (flat (.par a b)) = flat a := by unfold k0; rw [kids_par]; rfl
theorem k1_par (a b : Tm) : k1 (flat (.par a b)) = flat b := by unfold k1; rw [kids_par]; rfl
theorem k0_hand (a b : Tm) : k0 (flat (.hand a b)) = flat a := by unfold k0; rw [kids_hand]; rfl
theorem k1_hand (a b : Tm) : k1 (flat (.hand a b)) = flat b := by unfold k1; rw [kids_hand]; rfl
theorem k0_pair (a b : Tm) : k0 (flat (.pair a b)) = flat a := by unfold k0; rw [kids_pair]; rfl
theorem k1_pair (a b : Tm) : k1 (flat (.pair a b)) = flat b := by unfold k1; rw [kids_pair]; rfl
theorem k0_going (a b : Tm) : k0 (flat (.going a b)) = flat a := by unfold k0; rw [kids_going]; rfl
theorem k1_going (a b : Tm) : k1 (flat (.going a b)) = flat b := by unfold k1; rw [kids_going]; rfl
theorem k0_stack (a b : Tm) : k0 (flat (.stack a b)) = flat a := by unfold k0; rw [kids_stack]; rfl
theorem k1_stack (a b : Tm) : k1 (flat (.stack a b)) = flat b := by unfold k1; rw [kids_stack]; rfl
def is : Tm → Nat → Bool
  | .act _, s => s == 1 || s == 3
  | .skip, s => s == 1 || s == 3
  | .throw, s => s == 1 || s == 3
  | .yield, s => s == 1 || s == 3
  | .over _, s => s == 3
  | .block a, s => if s = 1 then is a 2 else if s = 3 then is a 4 else false
  | .fin _ c, s => s == 4 && is c 1
  | .seq a b, s => if s = 1 then is a 1 && is b 1 else if s = 2 then is a 2 && is b 2 else if s = 3 then is a 3 && is b 1 else is a 4 && is b 2
  | .alt a b, s => if s = 1 ∨ s = 3 then is a 1 && is b 1 else is a 2 && is b 2
  | .par a b, s => is a s && is b s
  | .hand a b, s => if s = 1 then is a 1 && is b 1 else if s = 3 then is a 3 && is b 1 else false
  | .pair a b, s => if s = 2 ∨ s = 4 then is a 1 && is b 1 else false
  | .going a b, s => if s = 4 then is a 3 && is b 1 else false
  | .stack a b, s => if s = 4 then is a 4 && is b 1 else false
theorem is13 : ∀ t : Tm, (is t 1 = true → is t 3 = true) ∧ (is t 2 = true → is t 4 = true) := by
  intro t
  induction t <;> simp_all [is]
theorem abs0 {p r : Bool} (h : p = true → r = true) : (p || r) = r := by cases p <;> cases r <;> simp_all
theorem abs1 {p q r : Bool} (h : p = true → r = true) : (p && q || r && q) = (r && q) := by cases p <;> cases q <;> cases r <;> simp_all
theorem abs2 {p q r s : Bool} (h : p = true → r = true) (g : q = true → s = true) : (p && q || r && s) = (r && s) := by cases p <;> cases q <;> cases r <;> cases s <;> simp_all
theorem is_flat : ∀ (t : Tm) (s : Nat), s = 1 ∨ s = 2 ∨ s = 3 ∨ s = 4 → Is s (flat t) = is t s := by
  intro t
  induction t with
  | act s =>
    intro s' hs
    rcases hs with rfl | rfl | rfl | rfl
    · rw [eq_1_1 (l := flat (.act s)) rfl]; rfl
    · rw [eq_1_2 (l := flat (.act s)) rfl]; rfl
    · rw [eq_1_3 (l := flat (.act s)) rfl]; rfl
    · rw [eq_1_4 (l := flat (.act s)) rfl]; rfl
  | skip =>
    intro s' hs
    rcases hs with rfl | rfl | rfl | rfl
    · rw [eq_2_1 (l := flat (.skip)) rfl]; rfl
    · rw [eq_2_2 (l := flat (.skip)) rfl]; rfl
    · rw [eq_2_3 (l := flat (.skip)) rfl]; rfl
    · rw [eq_2_4 (l := flat (.skip)) rfl]; rfl
  | throw =>
    intro s' hs
    rcases hs with rfl | rfl | rfl | rfl
    · rw [eq_3_1 (l := flat (.throw)) rfl]; rfl
    · rw [eq_3_2 (l := flat (.throw)) rfl]; rfl
    · rw [eq_3_3 (l := flat (.throw)) rfl]; rfl
    · rw [eq_3_4 (l := flat (.throw)) rfl]; rfl
  | yield =>
    intro s' hs
    rcases hs with rfl | rfl | rfl | rfl
    · rw [eq_4_1 (l := flat (.yield)) rfl]; rfl
    · rw [eq_4_2 (l := flat (.yield)) rfl]; rfl
    · rw [eq_4_3 (l := flat (.yield)) rfl]; rfl
    · rw [eq_4_4 (l := flat (.yield)) rfl]; rfl
  | over s =>
    intro s' hs
    rcases hs with rfl | rfl | rfl | rfl
    · rw [eq_11_1 (l := flat (.over s)) rfl]; rfl
    · rw [eq_11_2 (l := flat (.over s)) rfl]; rfl
    · rw [eq_11_3 (l := flat (.over s)) rfl]; rfl
    · rw [eq_11_4 (l := flat (.over s)) rfl]; rfl
  | block a ia =>
    intro s' hs
    rcases hs with rfl | rfl | rfl | rfl
    · rw [eq_9_1 (l := flat (.block a)) rfl, k0_block, ia _ (Or.inr (Or.inl rfl))]; rfl
    · rw [eq_9_2 (l := flat (.block a)) rfl]; rfl
    · rw [eq_9_3 (l := flat (.block a)) rfl, k0_block, ia _ (Or.inr (Or.inl rfl)), ia _ (Or.inr (Or.inr (Or.inr rfl))), abs0 (is13 a).2]; rfl
    · rw [eq_9_4 (l := flat (.block a)) rfl]; rfl
  | fin e c ic =>
    intro s' hs
    rcases hs with rfl | rfl | rfl | rfl
    · rw [eq_14_1 (l := flat (.fin e c)) rfl]; rfl
    · rw [eq_14_2 (l := flat (.fin e c)) rfl]; rfl
    · rw [eq_14_3 (l := flat (.fin e c)) rfl]; rfl
    · rw [eq_14_4 (l := flat (.fin e c)) rfl, k0_fin, ic _ (Or.inl rfl)]; rfl
  | seq a b ia ib =>
    intro s' hs
    rcases hs with rfl | rfl | rfl | rfl
    · rw [eq_5_1 (l := flat (.seq a b)) rfl, k0_seq, k1_seq, ia _ (Or.inl rfl), ib _ (Or.inl rfl)]; rfl
    · rw [eq_5_2 (l := flat (.seq a b)) rfl, k0_seq, k1_seq, ia _ (Or.inr (Or.inl rfl)), ib _ (Or.inr (Or.inl rfl))]; rfl
    · rw [eq_5_3 (l := flat (.seq a b)) rfl, k0_seq, k1_seq, ia _ (Or.inl rfl), ia _ (Or.inr (Or.inr (Or.inl rfl))), ib _ (Or.inl rfl), abs1 (is13 a).1]; rfl
    · rw [eq_5_4 (l := flat (.seq a b)) rfl, k0_seq, k1_seq, ia _ (Or.inr (Or.inl rfl)), ia _ (Or.inr (Or.inr (Or.inr rfl))), ib _ (Or.inr (Or.inl rfl)), abs1 (is13 a).2]; rfl
  | alt a b ia ib =>
    intro s' hs
    rcases hs with rfl | rfl | rfl | rfl
    · rw [eq_6_1 (l := flat (.alt a b)) rfl, k0_alt, k1_alt, ia _ (Or.inl rfl), ib _ (Or.inl rfl)]; rfl
    · rw [eq_6_2 (l := flat (.alt a b)) rfl, k0_alt, k1_alt, ia _ (Or.inr (Or.inl rfl)), ib _ (Or.inr (Or.inl rfl))]; rfl
    · rw [eq_6_3 (l := flat (.alt a b)) rfl, k0_alt, k1_alt, ia _ (Or.inl rfl), ib _ (Or.inl rfl), Bool.or_false]; rfl
    · rw [eq_6_4 (l := flat (.alt a b)) rfl, k0_alt, k1_alt, ia _ (Or.inr (Or.inl rfl)), ib _ (Or.inr (Or.inl rfl)), Bool.or_false]; rfl
  | par a b ia ib =>
    intro s' hs
    rcases hs with rfl | rfl | rfl | rfl
    · rw [eq_7_1 (l := flat (.par a b)) rfl, k0_par, k1_par, ia _ (Or.inl rfl), ib _ (Or.inl rfl)]; rfl
    · rw [eq_7_2 (l := flat (.par a b)) rfl, k0_par, k1_par, ia _ (Or.inr (Or.inl rfl)), ib _ (Or.inr (Or.inl rfl))]; rfl
    · rw [eq_7_3 (l := flat (.par a b)) rfl, k0_par, k1_par, ia _ (Or.inl rfl), ia _ (Or.inr (Or.inr (Or.inl rfl))), ib _ (Or.inl rfl), ib _ (Or.inr (Or.inr (Or.inl rfl))), abs2 (is13 a).1 (is13 b).1]; rfl
    · rw [eq_7_4 (l := flat (.par a b)) rfl, k0_par, k1_par, ia _ (Or.inr (Or.inl rfl)), ia _ (Or.inr (Or.inr (Or.inr rfl))), ib _ (Or.inr (Or.inl rfl)), ib _ (Or.inr (Or.inr (Or.inr rfl))), abs2 (is13 a).2 (is13 b).2]; rfl
  | hand a b ia ib =>
    intro s' hs
    rcases hs with rfl | rfl | rfl | rfl
    · rw [eq_8_1 (l := flat (.hand a b)) rfl, k0_hand, k1_hand, ia _ (Or.inl rfl), ib _ (Or.inl rfl)]; rfl
    · rw [eq_8_2 (l := flat (.hand a b)) rfl]; rfl
    · rw [eq_8_3 (l := flat (.hand a b)) rfl, k0_hand, k1_hand, ia _ (Or.inl rfl), ia _ (Or.inr (Or.inr (Or.inl rfl))), ib _ (Or.inl rfl), abs1 (is13 a).1]; rfl
    · rw [eq_8_4 (l := flat (.hand a b)) rfl]; rfl
  | pair a b ia ib =>
    intro s' hs
    rcases hs with rfl | rfl | rfl | rfl
    · rw [eq_10_1 (l := flat (.pair a b)) rfl]; rfl
    · rw [eq_10_2 (l := flat (.pair a b)) rfl, k0_pair, k1_pair, ia _ (Or.inl rfl), ib _ (Or.inl rfl)]; rfl
    · rw [eq_10_3 (l := flat (.pair a b)) rfl]; rfl
    · rw [eq_10_4 (l := flat (.pair a b)) rfl, k0_pair, k1_pair, ia _ (Or.inl rfl), ib _ (Or.inl rfl), Bool.or_false]; rfl
  | going a b ia ib =>
    intro s' hs
    rcases hs with rfl | rfl | rfl | rfl
    · rw [eq_12_1 (l := flat (.going a b)) rfl]; rfl
    · rw [eq_12_2 (l := flat (.going a b)) rfl]; rfl
    · rw [eq_12_3 (l := flat (.going a b)) rfl]; rfl
    · rw [eq_12_4 (l := flat (.going a b)) rfl, k0_going, k1_going, ia _ (Or.inr (Or.inr (Or.inl rfl))), ib _ (Or.inl rfl)]; rfl
  | stack a b ia ib =>
    intro s' hs
    rcases hs with rfl | rfl | rfl | rfl
    · rw [eq_13_1 (l := flat (.stack a b)) rfl]; rfl
    · rw [eq_13_2 (l := flat (.stack a b)) rfl]; rfl
    · rw [eq_13_3 (l := flat (.stack a b)) rfl]; rfl
    · rw [eq_13_4 (l := flat (.stack a b)) rfl, k0_stack, k1_stack, ia _ (Or.inr (Or.inr (Or.inr rfl))), ib _ (Or.inl rfl)]; rfl
theorem rgt_of {x : Nd} (h : rgt x = true) (h1 : x.k ≠ 1) (h2 : ¬ (x.k = 11 ∨ x.k = 14)) : x = nOf x.k := by
  obtain ⟨k, n, s⟩ := x
  have h0 : ¬ ar k < 0 := fun h0 => by unfold rgt at h; rw [if_pos h0] at h; cases h
  rw [rgt_other n s h0 h1 h2] at h
  simp only [Bool.and_eq_true, decide_eq_true_eq, beq_iff_eq] at h
  obtain ⟨hn, rfl⟩ := h
  rw [empty_of hn]
  rfl
theorem rgt_end {x : Nd} (h : rgt x = true) (h2 : x.k = 11 ∨ x.k = 14) : x = ⟨x.k, ⟨#[]⟩, x.s⟩ ∧ 1 ≤ x.s ∧ x.s ≤ 3 := by
  obtain ⟨k, n, s⟩ := x
  rw [rgt_sign n s h2] at h
  simp only [Bool.and_eq_true, decide_eq_true_eq] at h
  rw [empty_of h.1]
  exact ⟨rfl, h.2⟩
theorem rgt_name {x : Nd} (h : rgt x = true) (h1 : x.k = 1) : x = nAct x.n := by
  obtain ⟨k, n, s⟩ := x
  obtain rfl : k = 1 := h1
  rw [rgt_act n s] at h
  simp only [Bool.and_eq_true, beq_iff_eq] at h
  obtain ⟨⟨_, rfl⟩, _⟩ := h
  rfl
theorem tm_of : ∀ (m : Nat) (l : List Nd), l.length ≤ m → Tre l → l.all rgt = true → ∃ t, flat t = l
  | 0, l, h, ht, _ => absurd ht.pos (by omega)
  | m + 1, l, h, ht, hr => by
    obtain ⟨x, hx, he⟩ := ht.flat
    have hxr : rgt x = true := by rw [he, List.all_cons, Bool.and_eq_true] at hr; exact hr.1
    have leaf : ar (hd l) = 0 → l = [x] := fun h0 => by
      have hk : kids l = [] := List.eq_nil_of_length_eq_zero (by rw [ht.kids.1, h0]; rfl)
      rw [hk] at he
      exact he
    have one : ar (hd l) = 1 → ∃ t, l = x :: flat t := fun h1 => by
      obtain ⟨a, hk, ta, la⟩ := ht.one h1
      rw [hk] at he
      have he : l = x :: a := by rw [he]; simp
      have ra : a.all rgt = true := by rw [he, List.all_cons, Bool.and_eq_true] at hr; exact hr.2
      obtain ⟨t, rfl⟩ := tm_of m a (by omega) ta ra
      exact ⟨t, he⟩
    have two : ar (hd l) = 2 → ∃ t u, l = x :: (flat t ++ flat u) := fun h2 => by
      obtain ⟨a, b, hk, ta, tb, la, lb⟩ := ht.two h2
      rw [hk] at he
      have he : l = x :: (a ++ b) := by rw [he]; simp
      have rab : a.all rgt = true ∧ b.all rgt = true := by
        rw [he, List.all_cons, List.all_append, Bool.and_eq_true, Bool.and_eq_true] at hr
        exact hr.2
      obtain ⟨t, rfl⟩ := tm_of m a (by omega) ta rab.1
      obtain ⟨u, rfl⟩ := tm_of m b (by omega) tb rab.2
      exact ⟨t, u, he⟩
    rcases kinds ht.ar with hk | hk | hk | hk | hk | hk | hk | hk | hk | hk | hk | hk | hk | hk
    · refine ⟨.act x.n, ?_⟩
      rw [leaf (by rw [hk]; rfl)]
      exact congrArg (fun y => [y]) (rgt_name hxr (by rw [← hx]; exact hk)).symm
    · refine ⟨.skip, ?_⟩
      rw [leaf (by rw [hk]; rfl)]
      have := rgt_of hxr (by omega) (by omega)
      rw [show x.k = 2 by omega] at this
      rw [this]
      rfl
    · refine ⟨.throw, ?_⟩
      rw [leaf (by rw [hk]; rfl)]
      have := rgt_of hxr (by omega) (by omega)
      rw [show x.k = 3 by omega] at this
      rw [this]
      rfl
    · refine ⟨.yield, ?_⟩
      rw [leaf (by rw [hk]; rfl)]
      have := rgt_of hxr (by omega) (by omega)
      rw [show x.k = 4 by omega] at this
      rw [this]
      rfl
    · obtain ⟨t, u, e⟩ := two (by rw [hk]; rfl)
      refine ⟨.seq t u, ?_⟩
      have := rgt_of hxr (by omega) (by omega)
      rw [show x.k = 5 by omega] at this
      rw [e, this]
      rfl
    · obtain ⟨t, u, e⟩ := two (by rw [hk]; rfl)
      refine ⟨.alt t u, ?_⟩
      have := rgt_of hxr (by omega) (by omega)
      rw [show x.k = 6 by omega] at this
      rw [e, this]
      rfl
    · obtain ⟨t, u, e⟩ := two (by rw [hk]; rfl)
      refine ⟨.par t u, ?_⟩
      have := rgt_of hxr (by omega) (by omega)
      rw [show x.k = 7 by omega] at this
      rw [e, this]
      rfl
    · obtain ⟨t, u, e⟩ := two (by rw [hk]; rfl)
      refine ⟨.hand t u, ?_⟩
      have := rgt_of hxr (by omega) (by omega)
      rw [show x.k = 8 by omega] at this
      rw [e, this]
      rfl
    · obtain ⟨t, e⟩ := one (by rw [hk]; rfl)
      refine ⟨.block t, ?_⟩
      have := rgt_of hxr (by omega) (by omega)
      rw [show x.k = 9 by omega] at this
      rw [e, this]
      rfl
    · obtain ⟨t, u, e⟩ := two (by rw [hk]; rfl)
      refine ⟨.pair t u, ?_⟩
      have := rgt_of hxr (by omega) (by omega)
      rw [show x.k = 10 by omega] at this
      rw [e, this]
      rfl
    · refine ⟨.over x.s, ?_⟩
      rw [leaf (by rw [hk]; rfl)]
      have := (rgt_end hxr (by omega)).1
      rw [show x.k = 11 by omega] at this
      exact congrArg (fun y => [y]) this.symm
    · obtain ⟨t, u, e⟩ := two (by rw [hk]; rfl)
      refine ⟨.going t u, ?_⟩
      have := rgt_of hxr (by omega) (by omega)
      rw [show x.k = 12 by omega] at this
      rw [e, this]
      rfl
    · obtain ⟨t, u, e⟩ := two (by rw [hk]; rfl)
      refine ⟨.stack t u, ?_⟩
      have := rgt_of hxr (by omega) (by omega)
      rw [show x.k = 13 by omega] at this
      rw [e, this]
      rfl
    · obtain ⟨t, e⟩ := one (by rw [hk]; rfl)
      refine ⟨.fin x.s t, ?_⟩
      have := (rgt_end hxr (by omega)).1
      rw [show x.k = 14 by omega] at this
      rw [e]
      exact congrArg (fun y => y :: flat t) this.symm
theorem whole_tm {l : List Nd} (h : whole l = true) : ∃ t, flat t = l := tm_of l.length l (Nat.le_refl _) (whole_tre h) (whole_rgt h)
end Go.Proofs.YtdkaoiomndkbjaaDoor.Se

namespace Go.Proofs.YtdkaoiomndkbjaaDoor.Sx
open Go Go.RowKit Rw So
set_option maxRecDepth 20000
set_option maxHeartbeats 800000 in
theorem onP_any (l : List Nd) (p : Bool) (v : Value) (w : World) (hv : Nds w v l) (hl : l.length ≤ 1000) (hm : Nms l) :
    Calls Tryd.prog 50 #[v, .bool p] w fun e w' => e = .returned (.bool (onB l p)) ∧ Below w.heap.size w w' := by
  have HV := Lib.hid hv
  have HC := Lib.hid (fun w h => ofP_any l v w h hl hm)
  have hr : onB l p = if p then pd (of l) else pl (of l) := rfl
  have h4 := of_le l
  obtain ⟨z, hzz⟩ : ∃ z, of l = z := ⟨_, rfl⟩
  rw [hzz] at hr HC h4
  rw [hr]
  obtain ⟨_, a, cap, rfl, -⟩ := hv
  clear hm hzz hr
  cases p
  · rw [if_neg (by decide)]
    go_enter Tryd.func50, Tryd.ntmps50
    go_wp2_with fail
    refine (HC.out _ HV.out).mono ?_
    rintro e w1 ⟨rfl, hb⟩
    have HB := Lib.hid hb
    clear hb
    go_wp2_with fail
    refine (plP z _ h4).mono ?_
    rintro e w2 ⟨rfl, rfl⟩
    go_wp2_with fail
    go_ret
    exact ⟨rfl, HB.out⟩
  · rw [if_pos rfl]
    go_enter Tryd.func50, Tryd.ntmps50
    go_wp2_with fail
    refine (HC.out _ HV.out).mono ?_
    rintro e w1 ⟨rfl, hb⟩
    have HB := Lib.hid hb
    clear hb
    go_wp2_with fail
    refine (pdP z _ h4).mono ?_
    rintro e w2 ⟨rfl, rfl⟩
    go_wp2_with fail
    go_ret
    exact ⟨rfl, HB.out⟩
end Go.Proofs.YtdkaoiomndkbjaaDoor.Sx

namespace Go.Proofs.YtdkaoiomndkbjaaDoor.Sx
open Go Go.RowKit Rw So
set_option maxRecDepth 20000
end Go.Proofs.YtdkaoiomndkbjaaDoor.Sx

namespace Go.Proofs.YtdkaoiomndkbjaaDoor.Rf
open Go Rw So
abbrev alt : Nd := So.nOf 6
abbrev thr : Nd := So.nOf 3
def hit (f : ByteArray → Bool) (x : Nd) : Bool := decide (x.k = 1) && f x.n
def sub1 (f : ByteArray → Bool) (x : Nd) : List Nd := if hit f x then [alt, x, thr] else [x]
def sub (f : ByteArray → Bool) (l : List Nd) : List Nd := l.flatMap (sub1 f)
theorem leaf (x : Nd) (hx : ar x.k = 0) (r : List Nd) : T (x :: r) = some (1, 1) := by
  rw [T_cons, hx, if_neg (by decide), show ((0 : Int).toNat) = 0 from rfl, S_zero]
end Go.Proofs.YtdkaoiomndkbjaaDoor.Rf

namespace Go.Proofs.YtdkaoiomndkbjaaDoor.Tr
open Go Go.RowKit
set_option maxRecDepth 20000
end Go.Proofs.YtdkaoiomndkbjaaDoor.Tr
