/- The laws of traces, walked from the contracts: TraceSets. -/
import Derived.Test.YtmhmfnjjdcdkcaaDoorTrh
namespace Go.Proofs.YtmhmfnjjdcdkcaaDoor.Tr
open Go Go.RowKit
set_option maxRecDepth 20000

/-- What stays so while TraceSets goes on: the boxed trace, the arguments, the array of texts. -/
def SetsInv (w : World) (va vb v : Value) (a b : List Tr) (t : Tr) (ty : TypeId) (w' : World) : Prop :=
  Below (w.heap.size + 1) (w.alloc (.cells #[v, .int .i64 t.e] ty)) w' ∧ Trs w' va a ∧ Trs w' vb b ∧ Strs w' v t.a ∧ Sg.Tab w'
theorem SetsInv.below {w : World} {va vb v : Value} {a b : List Tr} {t : Tr} {ty : TypeId} {w' w'' : World} (h : SetsInv w va vb v a b t ty w') (hb : Below w'.heap.size w' w'') : SetsInv w va vb v a b t ty w'' :=
  ⟨h.1.trans (hb.mono (by have := h.1.size; simpa using this)), h.2.1.below hb, h.2.2.1.below hb, h.2.2.2.1.below hb, Tab.below h.2.2.2.2 hb⟩
theorem SetsInv.box {w : World} {va vb v : Value} {a b : List Tr} {t : Tr} {ty : TypeId} {w' : World} (h : SetsInv w va vb v a b t ty w') : Below (w.heap.size + 1) (w.alloc (.cells #[v, .int .i64 t.e] ty)) w' := h.1
theorem SetsInv.a {w : World} {va vb v : Value} {a b : List Tr} {t : Tr} {ty : TypeId} {w' : World} (h : SetsInv w va vb v a b t ty w') : Trs w' va a := h.2.1
theorem SetsInv.b {w : World} {va vb v : Value} {a b : List Tr} {t : Tr} {ty : TypeId} {w' : World} (h : SetsInv w va vb v a b t ty w') : Trs w' vb b := h.2.2.1
theorem SetsInv.v {w : World} {va vb v : Value} {a b : List Tr} {t : Tr} {ty : TypeId} {w' : World} (h : SetsInv w va vb v a b t ty w') : Strs w' v t.a := h.2.2.2.1
theorem SetsInv.tab {w : World} {va vb v : Value} {a b : List Tr} {t : Tr} {ty : TypeId} {w' : World} (h : SetsInv w va vb v a b t ty w') : Sg.Tab w' := h.2.2.2.2
theorem Below.one (w : World) (o : Obj) : Below w.heap.size w (w.alloc o) := (Below.refl _ _).alloc (Nat.le_refl _) o
theorem Below.dr (w : World) : Below w.heap.size w w.drew := (Below.refl _ _).drew

set_option maxHeartbeats 8000000 in
theorem sets_law (C : Con) (va vb v : Value) (a b : List Tr) (t : Tr) (w : World) (h : Sg.Tab w) (ha : Trs w va a) (hb : Trs w vb b) (hv : Strs w v t.a)
    (ma : a.length ≤ maxLen) (mb : b.length ≤ maxLen) (ra : ∀ t ∈ a, t.a.length ≤ 1125899906842624) (rb : ∀ t ∈ b, t.a.length ≤ 1125899906842624) (rt : t.a.length ≤ 1125899906842624) :
    Calls Tryd.prog 4 #[va, vb, .agg #[v, .int .i64 t.e]] w fun e w' => e = .returned (.bool true) ∧ Below w.heap.size w w' := by
  have HV := Lib.hid hv
  have HA := Lib.hid ha
  have HB := Lib.hid hb
  obtain ⟨_, av, cv, rfl, -⟩ := hv
  clear ha hb
  have MA := Lib.hid ma
  have MB := Lib.hid mb
  have RA := Lib.hid ra
  have RB := Lib.hid rb
  clear ma mb ra rb
  have I : Hid (SetsInv w va vb (.slice av t.a.length cv) a b t 24 (w.alloc (.cells #[.slice av t.a.length cv, .int .i64 t.e] 24))) :=
    ⟨Below.refl _ _, HA.out.below (Below.one _ _), HB.out.below (Below.one _ _), HV.out.below (Below.one _ _), Tab.below h (Below.one _ _)⟩
  go_enter Tryd.func4, Tryd.ntmps4
  go_wp2_with fail
  refine (few_any _ a _ I.out.a MA.out RA.out).mono ?_
  rintro e w1 ⟨rfl, hb1⟩
  replace I := Lib.hid (I.out.below hb1)
  clear hb1
  cases hfa : fewB a with
  | false =>
    go_wp2_with fail
    refine (alive_any C _ I.out.tab).mono ?_
    rintro e w2 ⟨rfl, hb2⟩
    replace I := Lib.hid (I.out.below hb2)
    clear hb2
    go_wp2_with fail
    go_ret
    exact ⟨rfl, below_box I.out.box⟩
  | true =>
    have FA := Lib.hid hfa
    clear hfa
    go_wp2_with fail
    refine (few_any _ b _ I.out.b MB.out RB.out).mono ?_
    rintro e w2 ⟨rfl, hb2⟩
    replace I := Lib.hid (I.out.below hb2)
    clear hb2
    cases hfb : fewB b with
    | false =>
      go_wp2_with fail
      refine (alive_any C _ I.out.tab).mono ?_
      rintro e w3 ⟨rfl, hb3⟩
      replace I := Lib.hid (I.out.below hb3)
      clear hb3
      go_wp2_with fail
      go_ret
      exact ⟨rfl, below_box I.out.box⟩
    | true =>
      have FB := Lib.hid hfb
      clear hfb
      obtain ⟨k1, k2⟩ := keep_box I.out.box
      go_wp2_with fail
      refine (few_any _ [t] _ (new1 _ rfl I.out.v _) (by simp [maxLen]) (by simpa using rt)).mono ?_
      rintro e w3 ⟨rfl, hb3⟩
      replace I := Lib.hid ((I.out.below (Below.one _ _)).below hb3)
      clear hb3 k1 k2
      cases hft : fewB [t] with
      | false =>
        go_wp2_with fail
        refine (alive_any C _ I.out.tab).mono ?_
        rintro e w4 ⟨rfl, hb4⟩
        replace I := Lib.hid (I.out.below hb4)
        clear hb4
        go_wp2_with fail
        go_ret
        exact ⟨rfl, below_box I.out.box⟩
      | true =>
        have hta : t.a.length ≤ 1000 := by have := (few_of hft).2; simpa [acts] using this
        have fa := few_of FA.out
        have fb := few_of FB.out
        have rowa : Hid (∀ t ∈ a, t.a.length ≤ 1000) := fun t ht => Nat.le_trans (mem_acts ht) fa.2
        have rowb : Hid (∀ t ∈ b, t.a.length ≤ 1000) := fun t ht => Nat.le_trans (mem_acts ht) fb.2
        have rowab : Hid (∀ t ∈ a ++ b, t.a.length ≤ 1000) := fun t ht => (List.mem_append.1 ht).elim (rowa.out t) (rowb.out t)
        have la := fa.1
        have lb := fb.1
        have WA : Hid (Few a) := Few.of FA.out
        have WB : Hid (Few b) := Few.of FB.out
        have WAB : Hid (Few (a ++ b)) := ⟨by simp; omega, fun t ht => Nat.le_trans (rowab.out t ht) (by omega)⟩
        clear fa fb hft
        go_wp2_with fail
        refine (news_any _ a _ I.out.a (by omega)).mono ?_
        rintro e w4 ⟨x, rfl, hx, hb4⟩
        replace I := Lib.hid (I.out.below hb4)
        have X := Lib.hid hx
        clear hx hb4
        go_wp2_with fail
        refine (news_any _ b _ I.out.b (by omega)).mono ?_
        rintro e w5 ⟨y, rfl, hy, hb5⟩
        replace I := Lib.hid (I.out.below hb5)
        replace X := Lib.hid (X.out.below hb5)
        have Y := Lib.hid hy
        clear hy hb5
        go_wp2_with fail
        refine (C.cSet _ a _ I.out.tab X.out (by omega) rowa.out).mono ?_
        rintro e w6 ⟨s, rfl, hs, hb6⟩
        replace I := Lib.hid (I.out.below hb6)
        replace X := Lib.hid (X.out.below hb6)
        replace Y := Lib.hid (Y.out.below hb6)
        have S := Lib.hid hs
        clear hs hb6
        go_wp2_with fail
        refine (C.cOr _ _ a b _ I.out.tab X.out Y.out (by omega) rowab.out).mono ?_
        rintro e w7 ⟨o, rfl, ho, hb7⟩
        replace I := Lib.hid (I.out.below hb7)
        replace X := Lib.hid (X.out.below hb7)
        replace Y := Lib.hid (Y.out.below hb7)
        replace S := Lib.hid (S.out.below hb7)
        have O := Lib.hid ho
        clear ho hb7
        have s1 : same (norm a) (norm a) = true := (same_iff _ _).2 rfl
        have s2 : same (norm (a ++ b)) (norm (a ++ b)) = true := (same_iff _ _).2 rfl
        have s3 : same a a = true := (same_iff _ _).2 rfl
        have s4 : same b b = true := (same_iff _ _).2 rfl
        have l1 := length_norm a
        have l2 := length_norm (a ++ b)
        rw [List.length_append] at l2
        have kk := keep_box I.out.box
        replace I := Lib.hid (I.out.below (Below.dr _))
        replace X := Lib.hid (X.out.below (Below.dr _))
        replace Y := Lib.hid (Y.out.below (Below.dr _))
        replace S := Lib.hid (S.out.below (Below.dr _))
        replace O := Lib.hid (O.out.below (Below.dr _))
        go_wp2_with fail
        go_region_held3 (fun w' => w'.cell? ⟨w.heap.size, 0, none⟩ = some (.slice av t.a.length cv) ∧ w'.cell? ⟨w.heap.size, 1, none⟩ = some (.int .i64 t.e)) (first | exact kk | exact keep_box I.out.box | fail) (first
          | (go_at_call 12
             (with_reducible refine (alive_any C _ I.out.tab).mono ?_)
             rintro e wn ⟨rfl, hbn⟩
             replace I := Lib.hid (I.out.below hbn)
             replace X := Lib.hid (X.out.below hbn)
             replace Y := Lib.hid (Y.out.below hbn)
             replace S := Lib.hid (S.out.below hbn)
             replace O := Lib.hid (O.out.below hbn)
             clear hbn)
          | (go_at_call 20
             (with_reducible refine (olds_any s (norm a) _ S.out (by omega)).mono ?_)
             rintro e wn ⟨z1, rfl, hz, hbn⟩
             replace I := Lib.hid (I.out.below hbn)
             replace X := Lib.hid (X.out.below hbn)
             replace Y := Lib.hid (Y.out.below hbn)
             replace O := Lib.hid (O.out.below hbn)
             have Z1 := Lib.hid hz
             clear hbn hz)
          | (go_at_call 21
             (with_reducible refine (set_any a.length va a _ (Nat.le_refl _) I.out.a WA.out).mono ?_)
             rintro e wn ⟨z2, rfl, hz, hbn⟩
             replace I := Lib.hid (I.out.below hbn)
             replace X := Lib.hid (X.out.below hbn)
             replace Y := Lib.hid (Y.out.below hbn)
             replace O := Lib.hid (O.out.below hbn)
             replace Z1 := Lib.hid (Z1.out.below hbn)
             have Z2 := Lib.hid hz
             clear hbn hz)
          | (go_at_call 19
             (with_reducible refine (same_any z1 z2 (norm a) (norm a) _ Z1.out Z2.out WA.out.norm WA.out.norm).mono ?_)
             rintro e wn ⟨rfl, hbn⟩
             replace I := Lib.hid (I.out.below hbn)
             replace X := Lib.hid (X.out.below hbn)
             replace Y := Lib.hid (Y.out.below hbn)
             replace O := Lib.hid (O.out.below hbn)
             clear hbn)
          | (go_at_call 20
             (with_reducible refine (olds_any o (norm (a ++ b)) _ O.out (by omega)).mono ?_)
             rintro e wn ⟨z3, rfl, hz, hbn⟩
             replace I := Lib.hid (I.out.below hbn)
             replace X := Lib.hid (X.out.below hbn)
             replace Y := Lib.hid (Y.out.below hbn)
             have Z3 := Lib.hid hz
             clear hbn hz)
          | (go_at_call 22
             (with_reducible refine (or_any va vb a b _ I.out.a I.out.b WAB.out).mono ?_)
             rintro e wn ⟨z4, rfl, hz, hbn⟩
             replace I := Lib.hid (I.out.below hbn)
             replace X := Lib.hid (X.out.below hbn)
             replace Y := Lib.hid (Y.out.below hbn)
             replace Z3 := Lib.hid (Z3.out.below hbn)
             have Z4 := Lib.hid hz
             clear hbn hz)
          | (go_at_call 19
             (with_reducible refine (same_any z3 z4 (norm (a ++ b)) (norm (a ++ b)) _ Z3.out Z4.out WAB.out.norm WAB.out.norm).mono ?_)
             rintro e wn ⟨rfl, hbn⟩
             replace I := Lib.hid (I.out.below hbn)
             replace X := Lib.hid (X.out.below hbn)
             replace Y := Lib.hid (Y.out.below hbn)
             clear hbn)
          | (go_at_call 23
             (with_reducible refine (C.cHas x (.slice av t.a.length cv) a t _ I.out.tab X.out I.out.v (by omega) rowa.out hta).mono ?_)
             rintro e wn ⟨rfl, hbn⟩
             replace I := Lib.hid (I.out.below hbn)
             replace X := Lib.hid (X.out.below hbn)
             replace Y := Lib.hid (Y.out.below hbn)
             clear hbn)
          | (go_at_call 24
             (with_reducible refine (has_any va (.slice av t.a.length cv) a t _ I.out.a I.out.v WA.out (by omega)).mono ?_)
             rintro e wn ⟨rfl, hbn⟩
             replace I := Lib.hid (I.out.below hbn)
             replace X := Lib.hid (X.out.below hbn)
             replace Y := Lib.hid (Y.out.below hbn)
             clear hbn)
          | (go_at_call 20
             (with_reducible refine (olds_any x a _ X.out (by omega)).mono ?_)
             rintro e wn ⟨z5, rfl, hz, hbn⟩
             replace I := Lib.hid (I.out.below hbn)
             replace Y := Lib.hid (Y.out.below hbn)
             have Z5 := Lib.hid hz
             clear hbn hz)
          | (go_at_call 19
             (with_reducible refine (same_any z5 va a a _ Z5.out I.out.a WA.out WA.out).mono ?_)
             rintro e wn ⟨rfl, hbn⟩
             replace I := Lib.hid (I.out.below hbn)
             replace Y := Lib.hid (Y.out.below hbn)
             clear hbn)
          | (go_at_call 20
             (with_reducible refine (olds_any y b _ Y.out (by omega)).mono ?_)
             rintro e wn ⟨z6, rfl, hz, hbn⟩
             replace I := Lib.hid (I.out.below hbn)
             have Z6 := Lib.hid hz
             clear hbn hz)
          | (go_at_call 19
             (with_reducible refine (same_any z6 vb b b _ Z6.out I.out.b WB.out WB.out).mono ?_)
             rintro e wn ⟨rfl, hbn⟩
             replace I := Lib.hid (I.out.below hbn)
             clear hbn)
          | fail)
        go_wp2_with fail
        go_ret
        exact ⟨rfl, below_box I.out.box⟩
end Go.Proofs.YtmhmfnjjdcdkcaaDoor.Tr
