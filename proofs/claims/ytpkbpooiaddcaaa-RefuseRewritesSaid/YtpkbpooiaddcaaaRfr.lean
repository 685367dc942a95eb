/- RefusePlaces and RefuseNone. -/
import Derived.Test.YtpkbpooiaddcaaaRfp
namespace Go.Proofs.Ytpkbpooiaddcaaa.Rf
open Go Go.RowKit Go.Proofs.Ytpkbpooiaddcaaa.Rw
set_option maxRecDepth 20000

/-- Nodes in memory, and two rows of places, below which all is as it was. -/
structure Kq (w0 : World) (v x y : Value) (l : List Nd) (P : List Nat) (w : World) : Prop where
  bel : Below w0.heap.size w0 w
  nds : Nds w v l
  px : Plc w x P
  py : Plc w y P
theorem Kq.below {w0 w w' : World} {v x y : Value} {l : List Nd} {P : List Nat} (h : Kq w0 v x y l P w) (hb : Below w.heap.size w w') : Kq w0 v x y l P w' := ⟨h.bel.trans (hb.mono h.bel.size), h.nds.below hb, h.px.below hb, h.py.below hb⟩
theorem plc_cell {w : World} {a : Option Addr} {n c : Nat} {P : List Nat} (h : Plc w (.slice a n c) P) {k : Nat} (hk : k < P.length) : ∃ b off, a = some ⟨b, off, none⟩ ∧ w.cell? ⟨b, off + k, none⟩ = some (.int .i64 (P[k] : Int)) := by
  rcases h.form with ⟨rfl, _⟩ | ⟨b, off, cap, he, hat⟩
  · exact absurd hk (Nat.not_lt_zero _)
  · injection he with h1 _ _
    exact ⟨b, off, h1, hat k hk⟩
structure Kp (w0 : World) (v : Value) (l : List Nd) (w : World) : Prop where
  bel : Below w0.heap.size w0 w
  nds : Nds w v l
theorem Kp.start {w : World} {v : Value} {l : List Nd} (h : Nds w v l) : Kp w v l w := ⟨Below.refl _ _, h⟩
theorem Kp.below {w0 w w' : World} {v : Value} {l : List Nd} (h : Kp w0 v l w) (hb : Below w.heap.size w w') : Kp w0 v l w' := ⟨h.bel.trans (hb.mono h.bel.size), h.nds.below hb⟩
set_option maxHeartbeats 4000000 in
theorem places_law (v : Value) (l : List Nd) (s : ByteArray) (at_ : Int) (w : World) (hv : Nds w v l) :
    Calls Try.prog 4 #[v, .string s, .int .i64 at_] w fun e w' => e = .returned (.bool true) ∧ Below w.heap.size w w' := by
  have I := Lib.hid (Kp.start hv)
  obtain ⟨_, a, cap, rfl, -⟩ := hv
  go_enter Try.func4, Try.ntmps4
  go_wp2_with fail
  refine (few_any _ l _ I.out.nds).mono ?_
  cases hf : fewB l with
  | false =>
    rintro e w' ⟨rfl, rfl⟩
    go_wp2_with fail
    refine (alive_any _).mono ?_
    rintro e wn ⟨rfl, hb⟩
    go_wp2_with fail
    go_ret
    exact ⟨rfl, hb⟩
  | true =>
    have hl := few_len hf
    clear hf
    rintro e w' ⟨rfl, rfl⟩
    go_wp2_with fail
    refine (placesP_any _ l s _ I.out.nds (by omega)).mono ?_
    rintro e w1 ⟨x, rfl, hx, hb⟩
    replace I := Lib.hid (I.out.below hb)
    have HX := Lib.hid hx
    obtain ⟨_, xa, xc, rfl, -⟩ := hx
    clear hb
    go_wp2_with fail
    refine (placesR_any _ l s _ I.out.nds (by omega)).mono ?_
    rintro e w2 ⟨y, rfl, hy, hb⟩
    have HY := Lib.hid hy
    obtain ⟨_, ya, yc, rfl, -⟩ := hy
    obtain ⟨P, hP⟩ : ∃ P, plc (isN s) l = P := ⟨_, rfl⟩
    have hpl : (plc (isN s) l).length ≤ 120 := by
      have := plk_le (isN s) l l.length
      unfold plc
      omega
    rw [hP] at HX HY hpl
    rw [hP]
    have J : Hid (Kq w (.slice a l.length cap) (.slice xa P.length xc) (.slice ya P.length yc) l P w2) := Lib.hid ⟨(I.out.below hb).bel, (I.out.below hb).nds, HX.out.below hb, HY.out⟩
    clear hb hP HX HY I
    obtain ⟨n, hn⟩ : ∃ n, P.length = n := ⟨_, rfl⟩
    have HN := Lib.hid hn
    rw [hn] at J hpl
    rw [hn]
    clear hn
    have hm := Lib.hid (fun at_ => mark_len at_ l)
    go_wp2_with fail
    go_loopw [27] (fun i wr => ∃ k : Nat, k ≤ n ∧ i = .int .i64 k ∧ Hid (Kq w (.slice a l.length cap) (.slice xa n xc) (.slice ya n yc) l P wr)) (fun i _ => n - (intOf i).toNat)
    case atStart => exact ⟨0, Nat.zero_le _, rfl, J⟩
    case round =>
      obtain ⟨k, hk, rfl, HJ⟩ := hrel
      by_cases hlt : k < n
      · obtain ⟨b1, o1, h1, c1⟩ := plc_cell HJ.out.px (k := k) (by rw [HN.out]; exact hlt)
        obtain ⟨b2, o2, h2, c2⟩ := plc_cell HJ.out.py (k := k) (by rw [HN.out]; exact hlt)
        generalize P[k]'(by rw [HN.out]; exact hlt) = z at c1 c2
        subst h1 h2
        go_wp2_with fail
        go_quiet (fail)
        go_wp2_with fail
        go_roundw
        case rel => exact ⟨k + 1, by omega, by go_num, Lib.hid (HJ.out.below (Below.drewN _ _ _))⟩
        case measure => simp [intOf]; omega
      · go_wp2_with fail
        refine (alive_any _).mono ?_
        rintro e wn ⟨rfl, hb⟩
        replace HJ := Lib.hid (HJ.out.below hb)
        clear hb
        go_wp2_with fail
        refine (markP_any _ l at_ _ HJ.out.nds (by omega)).mono ?_
        rintro e w4 ⟨x, rfl, hx, hb⟩
        replace HJ := Lib.hid (HJ.out.below hb)
        have HX := Lib.hid hx
        obtain ⟨_, pa, pc, rfl, -⟩ := hx
        clear hb
        go_wp2_with fail
        refine (markR_any _ l at_ _ HJ.out.nds (by omega)).mono ?_
        rintro e w5 ⟨y, rfl, hy, hb⟩
        replace HJ := Lib.hid (HJ.out.below hb)
        replace HX := Lib.hid (HX.out.below hb)
        have HY := Lib.hid hy
        obtain ⟨_, qa, qc, rfl, -⟩ := hy
        clear hb
        go_wp2_with fail
        refine (sameR_any _ _ (mark at_ l) (mark at_ l) _ HX.out HY.out (by have := hm.out at_; omega)).mono ?_
        rw [sameN_self]
        rintro e w6 ⟨rfl, hb⟩
        replace HJ := Lib.hid (HJ.out.below hb)
        clear hb
        go_wp2_with fail
        go_ret
        exact ⟨rfl, HJ.out.bel⟩

/-- Nodes in memory, the places, and the row marked so far. -/
structure Ko (w0 : World) (v p x : Value) (l : List Nd) (P : List Nat) (X : List Nd) (w : World) : Prop where
  bel : Below w0.heap.size w0 w
  nds : Nds w v l
  pp : Plc w p P
  xx : Nds w x X
theorem Ko.below {w0 w w' : World} {v p x : Value} {l : List Nd} {P : List Nat} {X : List Nd} (h : Ko w0 v p x l P X w) (hb : Below w.heap.size w w') : Ko w0 v p x l P X w' := ⟨h.bel.trans (hb.mono h.bel.size), h.nds.below hb, h.pp.below hb, h.xx.below hb⟩
/-- How far the row is marked: from place c on. -/
def mk2 (f : ByteArray → Bool) (l : List Nd) (c : Nat) : List Nd := l.take c ++ sub f (l.drop c)
theorem mk2_len (f : ByteArray → Bool) (l : List Nd) (c : Nat) : (mk2 f l c).length ≤ 3 * l.length := by
  unfold mk2
  have := (sub_le f (l.drop c)).2
  rw [List.length_append, List.length_take]
  rw [List.length_drop] at this
  omega
theorem mk2_step {f : ByteArray → Bool} {l : List Nd} {P : List Nat} {c j : Nat} (hc : c ≤ l.length) (hj : j < P.length) (e : plk f l c = P.take (j + 1)) : P[j] ≤ l.length ∧ plk f l P[j] = P.take j ∧ mark (P[j] : Int) (mk2 f l c) = mk2 f l P[j] := by
  rw [List.take_succ_eq_append_getElem hj] at e
  obtain ⟨h1, h2, h3⟩ := mark_step hc e
  exact ⟨by omega, h2, h3⟩
set_option maxHeartbeats 4000000 in
theorem none_law (v : Value) (l : List Nd) (s : ByteArray) (w : World) (hv : Nds w v l) (hm : Nms l) (hs : s.size ≤ maxLen) :
    Calls Try.prog 7 #[v, .string s] w fun e w' => e = .returned (.bool true) ∧ Below w.heap.size w w' := by
  have I := Lib.hid (Kp.start hv)
  have HM := Lib.hid hm
  obtain ⟨_, a, cap, rfl, -⟩ := hv
  clear hm
  go_enter Try.func7, Try.ntmps7
  go_wp2_with fail
  refine (few_any _ l _ I.out.nds).mono ?_
  cases hf : fewB l with
  | false =>
    rintro e w' ⟨rfl, rfl⟩
    go_wp2_with fail
    refine (alive_any _).mono ?_
    rintro e wn ⟨rfl, hb⟩
    go_wp2_with fail
    go_ret
    exact ⟨rfl, hb⟩
  | true =>
    have hl := few_len hf
    clear hf
    rintro e w' ⟨rfl, rfl⟩
    go_wp2_with fail
    refine (placesP_any _ l s _ I.out.nds (by omega)).mono ?_
    rintro e w1 ⟨x, rfl, hx, hb⟩
    have HX := Lib.hid hx
    obtain ⟨_, xa, xc, rfl, -⟩ := hx
    obtain ⟨P, hP⟩ : ∃ P, plc (isN s) l = P := ⟨_, rfl⟩
    have hpl : (plc (isN s) l).length ≤ 120 := by
      have := plk_le (isN s) l l.length
      unfold plc
      omega
    rw [hP] at HX hpl
    rw [hP]
    have HP0 : Hid (plk (isN s) l l.length = P) := Lib.hid hP
    have J : Hid (Ko w (.slice a l.length cap) (.slice xa P.length xc) (.slice a l.length cap) l P l w1) := Lib.hid ⟨(I.out.below hb).bel, (I.out.below hb).nds, HX.out, (I.out.below hb).nds⟩
    clear hb hP HX I
    obtain ⟨n, hn⟩ : ∃ n, P.length = n := ⟨_, rfl⟩
    have HN := Lib.hid hn
    rw [hn] at J hpl
    rw [hn]
    clear hn
    go_wp2_with fail
    go_loopw [5, 18] (fun xv i wr => ∃ (k c : Nat) (ua : Option Addr) (un uc : Nat), k ≤ n ∧ c ≤ l.length ∧ i = .int .i64 k ∧ xv = .slice ua un uc ∧ Hid (plk (isN s) l c = P.take (n - k)) ∧ Hid (Ko w (.slice a l.length cap) (.slice xa n xc) (.slice ua un uc) l P (mk2 (isN s) l c) wr)) (fun _ i _ => n - (intOf i).toNat)
    case atStart => exact ⟨0, l.length, a, l.length, cap, Nat.zero_le _, Nat.le_refl _, rfl, rfl, Lib.hid (by rw [HP0.out, List.take_of_length_le (by rw [HN.out]; omega)]), Lib.hid (by rw [show mk2 (isN s) l l.length = l from mark_none _ _]; exact J.out)⟩
    case round =>
      obtain ⟨k, c, ua, un, uc, hk, hc, rfl, rfl, HP, HJ⟩ := hrel
      by_cases hlt : k < n
      · obtain ⟨j, hj⟩ : ∃ j, n = k + 1 + j := ⟨n - k - 1, by omega⟩
        obtain ⟨b1, o1, h1, c1⟩ := plc_cell HJ.out.pp (k := j) (by rw [HN.out]; omega)
        have HST := Lib.hid (mk2_step (f := isN s) (P := P) (j := j) hc (by rw [HN.out]; omega) (by rw [HP.out, show n - k = j + 1 by omega]))
        have HP' : Hid (P.take (n - (k + 1)) = P.take j) := Lib.hid (by rw [show n - (k + 1) = j by omega])
        have hml := mk2_len (isN s) l c
        generalize P[j]'(by rw [HN.out]; omega) = z at c1 HST
        subst h1
        have hn1 : (n : Int) - 1 - (k : Int) = (j : Int) := by omega
        have hn2 : j < n := by omega
        have hn3 : (j : Int) < (n : Int) := by omega
        clear hj
        go_wp2_with fail
        refine (markP_any _ (mk2 (isN s) l c) (z : Int) _ HJ.out.xx (by omega)).mono ?_
        rw [HST.out.2.2]
        rintro e w2 ⟨y, rfl, hy, hb⟩
        have HY := Lib.hid hy
        obtain ⟨_, ya, yc, rfl, -⟩ := hy
        have HJ' : Hid (Ko w (.slice a l.length cap) (.slice (some ⟨b1, o1, none⟩) n xc) (.slice ya (mk2 (isN s) l z).length yc) l P (mk2 (isN s) l z) w2) := Lib.hid ⟨(HJ.out.below hb).bel, (HJ.out.below hb).nds, (HJ.out.below hb).pp, HY.out⟩
        have hz := HST.out.1
        have HPZ := Lib.hid (HST.out.2.1.trans HP'.out.symm)
        clear hb c1
        go_wp2_with fail
        go_roundw
        case rel => exact ⟨k + 1, z, ya, _, yc, by omega, hz, by go_num, rfl, HPZ, HJ'⟩
        case measure => simp [intOf]; omega
      · have HZ : Hid (mk2 (isN s) l c = sub (isN s) l) := Lib.hid (mark_all hc (by rw [HP.out, show n - k = 0 by omega]; rfl))
        have hml := mk2_len (isN s) l c
        rw [HZ.out] at HJ hml
        go_wp2_with fail
        refine (alive_any _).mono ?_
        rintro e w3 ⟨rfl, hb⟩
        replace HJ := Lib.hid (HJ.out.below hb)
        clear hb
        have HS1 := Lib.hid (str_new w3 s 9)
        have HB1 := Lib.hid (below1 w3 (.cells #[.string s] 9))
        go_wp2_with fail
        refine (rewP_any _ _ l [s] _ (HJ.out.nds.below HB1.out) (by omega) HM.out HS1.out (by simp) (fun t ht => by rw [List.mem_singleton.1 ht]; exact hs)).mono ?_
        rw [inN_one]
        rintro e w4 ⟨y, rfl, hy, hb⟩
        replace HJ := Lib.hid ((HJ.out.below HB1.out).below hb)
        have HY := Lib.hid hy
        obtain ⟨_, ya, yc, rfl, -⟩ := hy
        clear hb HS1 HB1
        go_wp2_with fail
        refine (sameR_any _ _ (sub (isN s) l) (sub (isN s) l) _ HJ.out.xx HY.out (by omega)).mono ?_
        rw [sameN_self]
        rintro e w5 ⟨rfl, hb⟩
        replace HJ := Lib.hid (HJ.out.below hb)
        clear hb
        go_wp2_with fail
        go_ret
        exact ⟨rfl, HJ.out.bel⟩
end Go.Proofs.Ytpkbpooiaddcaaa.Rf
