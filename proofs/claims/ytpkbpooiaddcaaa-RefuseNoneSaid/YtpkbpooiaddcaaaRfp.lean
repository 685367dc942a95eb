/- RefuseStrips and RefuseSorts. -/
import Derived.Test.YtpkbpooiaddcaaaRfl
import Derived.Test.YtpkbpooiaddcaaaSxo
import Derived.Test.YtpkbpooiaddcaaaRxc
namespace Go.Proofs.Ytpkbpooiaddcaaa.Rf
open Go Go.RowKit Go.Proofs.Ytpkbpooiaddcaaa.Rw
set_option maxRecDepth 20000

/-- Nodes and names in memory, below which all is as it was. -/
structure Kn (w0 : World) (v vn : Value) (l : List Nd) (names : List ByteArray) (w : World) : Prop where
  bel : Below w0.heap.size w0 w
  nds : Nds w v l
  strs : Strs w vn names
theorem Kn.start {w : World} {v vn : Value} {l : List Nd} {names : List ByteArray} (h : Nds w v l) (hn : Strs w vn names) : Kn w v vn l names w := ⟨Below.refl _ _, h, hn⟩
theorem Kn.below {w0 w w' : World} {v vn : Value} {l : List Nd} {names : List ByteArray} (h : Kn w0 v vn l names w) (hb : Below w.heap.size w w') : Kn w0 v vn l names w' := ⟨h.bel.trans (hb.mono h.bel.size), h.nds.below hb, h.strs.below hb⟩
theorem sub_len_le {f : ByteArray → Bool} {l : List Nd} (h : l.length ≤ 120) : (sub f l).length ≤ 360 := by
  have := (sub_le f l).2
  omega
theorem sub_nms {f : ByteArray → Bool} {l : List Nd} (h : Nms l) : Nms (sub f l) := fun x hx => by
  unfold sub at hx
  rw [List.mem_flatMap] at hx
  obtain ⟨y, hy, hx⟩ := hx
  unfold sub1 at hx
  split at hx
  · simp only [List.mem_cons, List.not_mem_nil, or_false] at hx
    rcases hx with rfl | rfl | rfl
    · decide
    · exact h _ hy
    · decide
  · rw [List.mem_singleton.1 hx]
    exact h _ hy
theorem sameN_self (l : List Nd) : sameN l l = true := decide_eq_true rfl
set_option maxHeartbeats 4000000 in
theorem strips_law (v vn : Value) (l : List Nd) (names : List ByteArray) (w : World) (hv : Nds w v l) (hm : Nms l) (hn : Strs w vn names) (hns : ∀ s ∈ names, s.size ≤ maxLen) :
    Calls Try.prog 5 #[v, vn] w fun e w' => e = .returned (.bool true) ∧ Below w.heap.size w w' := by
  have I := Lib.hid (Kn.start hv hn)
  have HM := Lib.hid hm
  have HNS := Lib.hid hns
  obtain ⟨_, a, cap, rfl, -⟩ := hv
  obtain ⟨_, na, nc, rfl, -⟩ := hn
  clear hm hns
  go_enter Try.func5, Try.ntmps5
  go_wp2_with fail
  refine (few_any _ l _ I.out.nds).mono ?_
  cases hf : fewB l with
  | false =>
    rintro e w' ⟨rfl, rfl⟩
    go_wp2_with fail
    refine (alive_any _).mono ?_
    rintro e wn ⟨rfl, hb⟩
    go_wp2_with fail
    go_ret
    exact ⟨rfl, hb⟩
  | true =>
    have hl := few_len hf
    clear hf
    rintro e w' ⟨rfl, rfl⟩
    by_cases hnl : names.length ≤ 50
    · have hg : decide ((50 : Int) < (names.length : Int)) = false := by simp; omega
      go_wp2_with fail
      refine (stripP_any _ l _ I.out.nds (by omega)).mono ?_
      rintro e w1 ⟨y1, rfl, hy1, hb⟩
      replace I := Lib.hid (I.out.below hb)
      have HY := Lib.hid hy1
      obtain ⟨_, ya, yc, rfl, -⟩ := hy1
      clear hb
      have hsl := strip_len l.length l (Nat.le_refl _)
      go_wp2_with fail
      refine (stripR_any _ l _ I.out.nds (by omega)).mono ?_
      rintro e w2 ⟨y2, rfl, hy2, hb⟩
      replace I := Lib.hid (I.out.below hb)
      replace HY := Lib.hid (HY.out.below hb)
      have HY2 := Lib.hid hy2
      obtain ⟨_, za, zc, rfl, -⟩ := hy2
      clear hb
      go_wp2_with fail
      refine (sameR_any _ _ (strip l) (strip l) _ HY.out HY2.out (by omega)).mono ?_
      rw [sameN_self]
      rintro e w3 ⟨rfl, hb⟩
      replace I := Lib.hid (I.out.below hb)
      clear hb HY HY2
      go_wp2_with fail
      refine (stripP_any _ l _ I.out.nds (by omega)).mono ?_
      rintro e w4 ⟨y4, rfl, hy4, hb⟩
      replace I := Lib.hid (I.out.below hb)
      have HY := Lib.hid hy4
      obtain ⟨_, xa, xc, rfl, -⟩ := hy4
      clear hb
      go_wp2_with fail
      refine (sameR_any _ _ (strip l) l _ HY.out I.out.nds (by omega)).mono ?_
      cases hs : sameN (strip l) l with
      | false =>
        rintro e w5 ⟨rfl, hb⟩
        replace I := Lib.hid (I.out.below hb)
        clear hb HY
        go_wp2_with fail
        refine (alive_any _).mono ?_
        rintro e w6 ⟨rfl, hb⟩
        replace I := Lib.hid (I.out.below hb)
        clear hb
        go_wp2_with fail
        go_ret
        exact ⟨rfl, I.out.bel⟩
      | true =>
        have HSS := Lib.hid (strip_sub (inN names) l (strip_self l (of_decide_eq_true hs)))
        rintro e w5 ⟨rfl, hb⟩
        replace I := Lib.hid (I.out.below hb)
        clear hb HY hs
        go_wp2_with fail
        refine (alive_any _).mono ?_
        rintro e w6 ⟨rfl, hb⟩
        replace I := Lib.hid (I.out.below hb)
        clear hb
        have hs3 := sub_len_le (f := inN names) hl
        go_wp2_with fail
        refine (rewP_any _ _ l names _ I.out.nds (by omega) HM.out I.out.strs (by omega) HNS.out).mono ?_
        rintro e w7 ⟨y7, rfl, hy7, hb⟩
        replace I := Lib.hid (I.out.below hb)
        have HY := Lib.hid hy7
        obtain ⟨_, xa, xc, rfl, -⟩ := hy7
        clear hb
        go_wp2_with fail
        refine (stripP_any _ (sub (inN names) l) _ HY.out (by omega)).mono ?_
        rw [HSS.out]
        rintro e w8 ⟨y8, rfl, hy8, hb⟩
        replace I := Lib.hid (I.out.below hb)
        have HY8 := Lib.hid hy8
        obtain ⟨_, ua, uc, rfl, -⟩ := hy8
        clear hb HY
        go_wp2_with fail
        refine (sameR_any _ _ l l _ HY8.out I.out.nds (by omega)).mono ?_
        rw [sameN_self]
        rintro e w9 ⟨rfl, hb⟩
        replace I := Lib.hid (I.out.below hb)
        clear hb
        go_wp2_with fail
        go_ret
        exact ⟨rfl, I.out.bel⟩
    · have hg : decide ((50 : Int) < (names.length : Int)) = true := by simp; omega
      go_wp2_with fail
      refine (alive_any _).mono ?_
      rintro e wn ⟨rfl, hb⟩
      go_wp2_with fail
      go_ret
      exact ⟨rfl, (I.out.below hb).bel⟩

theorem ints_new (w : World) (l : List Int) (ty : TypeId) : Ints (w.alloc (.cells (l.map (Value.int .i64)).toArray ty)) (.slice (some ⟨w.heap.size, 0, none⟩) l.length l.length) l := by
  refine ⟨by simp, some ⟨w.heap.size, 0, none⟩, l.length, rfl, Nat.le_refl _, fun h => (by cases h), fun _ => ⟨w.heap.size, 0, rfl, fun j u hu => ?_⟩⟩
  rw [Nat.zero_add, World.cell?_alloc_new]
  simpa using hu
end Go.Proofs.Ytpkbpooiaddcaaa.Rf
