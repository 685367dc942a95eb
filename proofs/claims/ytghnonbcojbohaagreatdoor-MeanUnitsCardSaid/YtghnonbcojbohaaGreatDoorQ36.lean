/- MeanSome: the walk. What is made of terms: what it means; plain. What the statements make by Make. MeanHand: the walk. -/
import Derived.Test.YtghnonbcojbohaaGreatDoorQ35
import Derived.Test.YtghnonbcojbohaaGreatDoorQ06
import Derived.Test.YtghnonbcojbohaaGreatDoorQ07
import Derived.Test.YtghnonbcojbohaaGreatDoorQ14

namespace Go.Proofs.YtghnonbcojbohaaGreatDoor.Mn
open Go Go.RowKit Tr
open Rw (Nd Nds)
set_option maxRecDepth 20000

theorem eq_nd (x y : Nd) (w : World) : (binOp .eql 48 (.agg #[.int .i64 x.k, .string x.n, .int .i64 x.s]) (.agg #[.int .i64 y.k, .string y.n, .int .i64 y.s])).run Tryz.prog w = .ok (.bool (decide (x = y))) w := by
  rw [run_eql_struct, show (10000 : Nat) = 9998 + 2 from rfl, Rw.eql_nd]
  rfl
/-- Like that text. -/
def lk (s b : ByteArray) : Bool := s.toList == b.toList
def an (s : ByteArray) (l : List Nd) : Nat := l.countP fun x => decide (x = (⟨1, s, 0⟩ : Nd))
theorem lk_eq {s b : ByteArray} (h : lk s b = true) : s = b := by
  unfold lk at h
  rw [ByteArray.toList_eq, ByteArray.toList_eq, beq_iff_eq] at h
  cases s; cases b
  simp only [Array.toList_inj] at h
  rw [h]
theorem acF_le (s : ByteArray) : ∀ l : List Nd, l.all Rw.rgt = true → acF (lk s) l ≤ an s l
  | [], _ => Nat.le_refl _
  | x :: l, h => by
    simp only [List.all_cons, Bool.and_eq_true] at h
    have ih := acF_le s l h.2
    unfold acF an at *
    rw [List.countP_cons, List.countP_cons]
    by_cases hx : (decide (x.k = 1) && lk s x.n) = true
    · have h1 : x.k = 1 := by simp only [Bool.and_eq_true, decide_eq_true_eq] at hx; exact hx.1
      have h2 : s = x.n := by simp only [Bool.and_eq_true] at hx; exact lk_eq hx.2
      have h3 : x = ⟨1, s, 0⟩ := by
        obtain ⟨k, n, z⟩ := x
        simp only at h1 h2
        subst h1 h2
        have hr := h.1
        rw [Rw.rgt_act] at hr
        simp only [Bool.and_eq_true, beq_iff_eq] at hr
        rw [hr.1.2]
      rw [if_pos hx, if_pos (decide_eq_true h3)]
      omega
    · rw [if_neg hx]
      omega
theorem some_le {l : List Nd} (hw : Rw.whole l = true) (hi : So.Is 3 l = true) {t : Tr} (ht : t ∈ Mt l) (s : ByteArray) : t.a.countP (lk s) ≤ an s l := by
  have hr : l.all Rw.rgt = true := by
    unfold Rw.whole at hw
    simp only [Bool.and_eq_true] at hw
    exact hw.1.1
  exact Nat.le_trans ((gt (Sx.whole_tre hw) hi).cnt (lk s) t ht) (acF_le s l hr)
theorem some_sg {l : List Nd} (hw : Rw.whole l = true) (hi : So.Is 3 l = true) {t : Tr} (ht : t ∈ Mt l) : 1 ≤ t.e ∧ t.e ≤ 3 := by
  have hr : l.all Rw.rgt = true := by
    unfold Rw.whole at hw
    simp only [Bool.and_eq_true] at hw
    exact hw.1.1
  have := (gt (Sx.whole_tre hw) hi).sg hr t ht
  unfold Sgn at this
  omega

theorem strs_at {w : World} {a : Option Addr} {c : Nat} {l : List ByteArray} (h : Strs w (.slice a l.length c) l) (h0 : 0 < l.length) : ∃ b o, a = some ⟨b, o, none⟩ ∧ ∀ j, (hj : j < l.length) → w.cell? ⟨b, o + j, none⟩ = some (.string l[j]) := by
  obtain ⟨_, _, _, hv, _, _, hc⟩ := h
  cases hv
  obtain ⟨b, o, rfl, hj⟩ := hc h0
  exact ⟨b, o, rfl, fun j hlt => hj j _ (by simp [hlt])⟩

theorem nds_at {w : World} {a : Option Addr} {c : Nat} {l : List Nd} (h : Nds w (.slice a l.length c) l) (h0 : 0 < l.length) : ∃ b o, a = some ⟨b, o, none⟩ ∧ Rw.At w b o l := by
  rcases Rw.Nds.form h with ⟨rfl, _⟩ | ⟨b, o, c', hv, _, hat⟩
  · cases h0
  · cases hv
    exact ⟨b, o, rfl, hat⟩
theorem cnt_take {α : Type} (f : α → Bool) (l : List α) (k : Nat) (h : k < l.length) : (l.take (k + 1)).countP f = (l.take k).countP f + if f l[k] then 1 else 0 := by
  rw [List.take_succ_eq_append_getElem h, List.countP_append, List.countP_singleton]

set_option maxHeartbeats 4000000 in
theorem some_law (v : Value) (l : List Nd) (w : World) (hT : Sg.Tab w) (hv : Nds w v l) (hm : Rw.Nms l) (hbig : l.length ≤ 140737488355328) :
    Calls Tryz.prog 5 #[v] w fun e w' => e = .returned (.bool true) ∧ Below w.heap.size w w' := by
  have AL := Lib.hid (fun w1 (hb : Below w.heap.size w w1) => alive_any w1 (Tab.below hT hb))
  have PL := Lib.hid (plain_any v l w hv hm hbig)
  have NV := Lib.hid (fun w1 (hb : Below w.heap.size w w1) => hv.below hb)
  have FW := Lib.hid (fun w1 (hb : Below w.heap.size w w1) => few_any v l w1 (hv.below hb))
  have TM := Lib.hid (fun w1 (hb : Below w.heap.size w w1) (hl : l.length ≤ 1000) => Sx.termP_any l v w1 (hv.below hb) hl hm)
  have HI := Lib.hid (show isB l = true → why l false = 0 from fun h => by unfold isB at h; simpa using h)
  unfold PlPost at PL
  obtain ⟨a, cap, rfl⟩ : ∃ a c, v = .slice a l.length c := by obtain ⟨_, a, cap, rfl, -⟩ := hv; exact ⟨a, cap, rfl⟩
  clear hm hT hv
  go_enter Tryz.func5, Tryz.ntmps5
  go_wp2_with fail
  refine PL.out.mono ?_
  rintro e w1 ⟨a1, c1, rfl, ht1, hb1⟩
  have B1 := Lib.hid hb1
  have T1 := Lib.hid ht1
  clear ht1 hb1 PL
  cases his : isB l with
  | false =>
    clear HI
    go_wp2_with fail
    refine (AL.out _ B1.out).mono ?_
    rintro e wn ⟨rfl, hb⟩
    go_wp2_with fail
    go_ret
    exact ⟨rfl, B1.out.trans (hb.mono B1.out.size)⟩
  | true =>
    have HW := Lib.hid (HI.out his)
    have hsm := small_of (why_ok HW.out).2
    have hl24 := hsm.1
    clear HI his hsm
    go_wp2_with fail
    refine (FW.out _ B1.out).mono ?_
    cases hf : fewB l with
    | false =>
      rintro e w' ⟨rfl, rfl⟩
      go_wp2_with fail
      refine (AL.out _ B1.out).mono ?_
      rintro e wn ⟨rfl, hb⟩
      go_wp2_with fail
      go_ret
      exact ⟨rfl, B1.out.trans (hb.mono B1.out.size)⟩
    | true =>
      clear hf
      rintro e w' ⟨rfl, rfl⟩
      go_wp2_with fail
      refine (TM.out _ B1.out (by omega)).mono ?_
      rintro e w2 ⟨rfl, hb2⟩
      have B2 := Lib.hid (B1.out.trans (hb2.mono B1.out.size))
      have T2 := Lib.hid (T1.out.below hb2)
      clear hb2 B1 T1 TM FW
      cases hz : (So.of l == 1) with
      | false =>
        go_wp2_with fail
        refine (AL.out _ B2.out).mono ?_
        rintro e wn ⟨rfl, hb⟩
        go_wp2_with fail
        go_ret
        exact ⟨rfl, B2.out.trans (hb.mono B2.out.size)⟩
      | true =>
        have hof : So.of l = 1 := by simpa using hz
        have hwi := So.of_one hof
        have HSG : Hid (∀ t ∈ Mt l, 1 ≤ t.e ∧ t.e ≤ 3) := Lib.hid fun t ht => some_sg hwi.1 (So.one_three hwi.2) ht
        have HLE : Hid (∀ t ∈ Mt l, ∀ s, t.a.countP (lk s) ≤ an s l) := Lib.hid fun t ht s => some_le hwi.1 (So.one_three hwi.2) ht s
        have hne : 0 < (Mt l).length := by
          have h6 := (small_of (why_ok HW.out).2).2
          exact List.length_pos_iff.2 (live1 (Sx.whole_tre hwi.1) (by omega) hwi.2).ne
        obtain ⟨hlen, hac⟩ := mt_few HW.out
        have HAC := Lib.hid hac
        have hmr : MtR l = Mt l := by unfold MtR; rw [HW.out]; rfl
        rw [hmr] at T2
        rw [hmr]
        clear hmr hz hof hwi hac HW
        generalize Mt l = L at *
        obtain ⟨_, _, hv1, _, hvx⟩ := T2.out.val
        cases hv1
        have HX := Lib.hid hvx
        clear hvx
        go_wp2_with fail
        go_loopw [34] (fun i wr => ∃ (k : Nat), k ≤ L.length ∧ i = .int .i64 k ∧ Below w2.heap.size w2 wr) (fun i _ => L.length - (intOf i).toNat)
        case atStart => exact ⟨0, Nat.zero_le _, rfl, Below.refl _ _⟩
        case round =>
          obtain ⟨k, hk, rfl, hb⟩ := hrel
          have WB := Lib.hid hb
          clear hb
          by_cases hlt : k < L.length
          · skip
            obtain ⟨b1, o1, va1, rfl, _, e1, e2, s1⟩ := HX.out k hlt
            have hsg := HSG.out _ (List.getElem_mem hlt)
            have HC := Lib.hid (HLE.out _ (List.getElem_mem hlt))
            have ha6 := HAC.out _ (List.getElem_mem hlt)
            generalize L[k] = p at *
            have q0 : wr.cell? ⟨b1, o1 + k * 2, none⟩ = some va1 := by rw [WB.out.cell (Ap.cell_lt e1)]; exact e1
            have q1 : wr.cell? ⟨b1, o1 + k * 2 + 1, none⟩ = some (.int .i64 p.e) := by rw [WB.out.cell (Ap.cell_lt e2)]; exact e2
            have g1 : decide (p.e < 1) = false := decide_eq_false (by omega)
            have g3 : decide (p.e > 3) = false := decide_eq_false (by omega)
            have g4 : decide (3 < p.e) = false := decide_eq_false (by omega)
            have HS := Lib.hid (so_strs s1)
            obtain ⟨_, ap, cp, rfl, _⟩ := id s1
            clear e1 e2 s1
            have hal : p.a.length ≤ 6 := ha6
            obtain ⟨wo, hwo⟩ : ∃ wo, wo = wr := ⟨_, rfl⟩
            subst hwo
            go_wp2_with fail
            go_loopw [49] (fun i wx => ∃ (j : Nat), j ≤ p.a.length ∧ i = .int .i64 j ∧ Below (wo.heap.size + 1) (wo.alloc (.cells #[.slice ap p.a.length cp, .int .i64 p.e] 46)) wx) (fun i _ => p.a.length - (intOf i).toNat)
            case atStart => exact ⟨0, Nat.zero_le _, rfl, Below.refl _ _⟩
            case round =>
              obtain ⟨j, hj, rfl, hb⟩ := hrel
              have XB := Lib.hid hb
              have XW := Lib.hid (WB.out.trans ((below_box hb).mono WB.out.size))
              clear hb q0 q1
              by_cases hlj : j < p.a.length
              · skip
                obtain ⟨bs, os, rfl, hss⟩ := strs_at HS.out (by omega)
                have hxa := hss j hlj
                have HSS := Lib.hid hss
                have qx : wr.cell? ⟨bs, os + j, none⟩ = some (.string p.a[j]) := by rw [XW.out.cell (Ap.cell_lt hxa)]; exact hxa
                have x0 : wr.cell? ⟨wo.heap.size, 0, none⟩ = some (.slice (some ⟨bs, os, none⟩) p.a.length cp) := cell_boxed XB.out 0
                have HCS := Lib.hid (HC.out p.a[j])
                generalize p.a[j] = s at *
                clear hss hxa HC
                obtain ⟨wp, hwp⟩ : ∃ wp, wp = wr := ⟨_, rfl⟩
                subst hwp
                have hC : p.a.countP (lk s) ≤ 6 := Nat.le_trans List.countP_le_length hal
                go_wp2_with fail
                go_loopw [9, 56] (fun n i wx => ∃ (i' : Nat), i' ≤ p.a.length ∧ i = .int .i64 i' ∧ n = .int .i64 ((p.a.take i').countP (lk s) : Nat) ∧ Below wp.heap.size wp wx) (fun _ i _ => p.a.length - (intOf i).toNat)
                case atStart => exact ⟨0, Nat.zero_le _, rfl, rfl, Below.refl _ _⟩
                case round =>
                  obtain ⟨i', hi', rfl, rfl, hb⟩ := hrel
                  have YB := Lib.hid hb
                  clear hb
                  by_cases hli : i' < p.a.length
                  · have hxa := HSS.out i' hli
                    have qy : wr.cell? ⟨bs, os + i', none⟩ = some (.string p.a[i']) := by rw [YB.out.cell (by exact Nat.lt_of_lt_of_le (Ap.cell_lt hxa) XW.out.size), XW.out.cell (Ap.cell_lt hxa)]; exact hxa
                    have HTK := Lib.hid (cnt_take (lk s) p.a i' hli)
                    have hCi : (p.a.take i').countP (lk s) ≤ 6 := Nat.le_trans List.countP_le_length (by rw [List.length_take]; omega)
                    have hlk : (s.toList == p.a[i'].toList) = lk s p.a[i'] := rfl
                    generalize p.a[i'] = u at *
                    generalize (p.a.take i').countP (lk s) = C at *
                    clear hxa
                    cases hlu : lk s u with
                    | true =>
                      rw [hlu] at hlk HTK
                      have HTK' := Lib.hid (HTK.out.trans (by rfl : _ = C + 1))
                      clear hlu HTK
                      go_wp2_with fail
                      go_roundw
                      case rel => exact ⟨i' + 1, by omega, by go_num, by rw [HTK'.out]; go_num, YB.out⟩
                      case measure => simp [intOf]; omega
                    | false =>
                      rw [hlu] at hlk HTK
                      have HTK' := Lib.hid (HTK.out.trans (by rfl : _ = C))
                      clear hlu HTK
                      go_wp2_with fail
                      go_roundw
                      case rel => exact ⟨i' + 1, by omega, by go_num, by rw [HTK'.out], YB.out⟩
                      case measure => simp [intOf]; omega
                  · have hil : i' = p.a.length := by omega
                    subst hil
                    rw [List.take_length]
                    go_wp2_with fail
                    have YW := Lib.hid (XW.out.trans (YB.out.mono XW.out.size))
                    obtain ⟨wq, hwq⟩ : ∃ wq, wq = wr := ⟨_, rfl⟩
                    subst hwq
                    clear x0 qx
                    go_loopw [9, 68] (fun n i wx => ∃ (m : Nat), m ≤ l.length ∧ i = .int .i64 m ∧ n = .int .i64 ((p.a.countP (lk s) : Nat) - (an s (l.take m) : Nat) : Int) ∧ Below wq.heap.size wq wx) (fun _ i _ => l.length - (intOf i).toNat)
                    case atStart => exact ⟨0, Nat.zero_le _, rfl, by simp [an], Below.refl _ _⟩
                    case round =>
                      obtain ⟨m, hm', rfl, rfl, hb⟩ := hrel
                      have ZB := Lib.hid hb
                      have ZW := Lib.hid (YW.out.trans (hb.mono YW.out.size))
                      have ZF := Lib.hid (B2.out.trans (ZW.out.mono B2.out.size))
                      clear hb
                      have han : an s (l.take m) ≤ 24 := Nat.le_trans List.countP_le_length (by rw [List.length_take]; omega)
                      by_cases hlm : m < l.length
                      · skip
                        obtain ⟨bn, on, rfl, hat⟩ := nds_at (NV.out _ (Below.refl _ _)) (by omega)
                        obtain ⟨n0, n1, n2⟩ := hat m hlm
                        have q0 : wr.cell? ⟨bn, on + m * 3, none⟩ = some (.int .i64 l[m].k) := by rw [ZF.out.cell (Ap.cell_lt n0)]; exact n0
                        have q1 : wr.cell? ⟨bn, on + m * 3 + 1, none⟩ = some (.string l[m].n) := by rw [ZF.out.cell (Ap.cell_lt n1)]; exact n1
                        have q2 : wr.cell? ⟨bn, on + m * 3 + 2, none⟩ = some (.int .i64 l[m].s) := by rw [ZF.out.cell (Ap.cell_lt n2)]; exact n2
                        have HTK := Lib.hid (cnt_take (fun x => decide (x = (⟨1, s, 0⟩ : Nd))) l m hlm)
                        have hq := eq_nd l[m] ⟨1, s, 0⟩
                        generalize l[m] = y at *
                        clear n0 n1 n2 hat
                        have CX := Lib.hid (fun w1 (hb : Below (wr.alloc (.cells #[.int .i64 y.k, .string y.n, .int .i64 y.s] 48)).heap.size (wr.alloc (.cells #[.int .i64 y.k, .string y.n, .int .i64 y.s] 48)) w1) => show w1.cell? ⟨wr.heap.size, 0, none⟩ = some (.int .i64 y.k) ∧ w1.cell? ⟨wr.heap.size, 1, none⟩ = some (.string y.n) ∧ w1.cell? ⟨wr.heap.size, 2, none⟩ = some (.int .i64 y.s) from
                          ⟨by rw [hb.cell (p := ⟨wr.heap.size, 0, none⟩) (by simp)]; simp, by rw [hb.cell (p := ⟨wr.heap.size, 1, none⟩) (by simp)]; simp, by rw [hb.cell (p := ⟨wr.heap.size, 2, none⟩) (by simp)]; simp⟩)
                        have hC : p.a.countP (lk s) ≤ 6 := Nat.le_trans List.countP_le_length hal
                        generalize p.a.countP (lk s) = C at *
                        have han' := han
                        obtain ⟨D, hD⟩ : ∃ D, an s (l.take m) = D := ⟨_, rfl⟩
                        have HTK : Hid (an s (l.take (m + 1)) = D + if decide (y = (⟨1, s, 0⟩ : Nd)) then 1 else 0) := Lib.hid (by rw [← hD]; exact HTK.out)
                        rw [hD] at han'
                        rw [hD]
                        clear hD han
                        cases hdy : decide (y = (⟨1, s, 0⟩ : Nd)) with
                        | true =>
                          rw [hdy] at hq HTK
                          have HTK' := Lib.hid (show an s (l.take (m + 1)) = D + 1 from HTK.out)
                          clear hdy HTK
                          go_wp2_with fail
                          go_region_held3 (fun w' => w'.cell? ⟨wr.heap.size, 0, none⟩ = some (.int .i64 y.k) ∧ w'.cell? ⟨wr.heap.size, 1, none⟩ = some (.string y.n) ∧ w'.cell? ⟨wr.heap.size, 2, none⟩ = some (.int .i64 y.s)) (first | exact CX.out _ (Below.refl _ _).drew | exact CX.out _ BX.out | fail) (first
                            | (go_at_call 26
                               (with_reducible refine (act_any s _).mono ?_)
                               rintro e w1 ⟨rfl, hb1⟩
                               have BX := Lib.hid ((Below.refl _ _).drew.trans hb1)
                               have BY := Lib.hid (ZB.out.trans ((bel1 wr _).mono ZB.out.size |>.trans (BX.out.mono (by have := ZB.out.size; simp; omega))))
                               clear hb1)
                            | fail)
                          go_wp2_with fail
                          go_roundw
                          case rel => exact ⟨m + 1, by omega, by go_num, by rw [HTK'.out]; go_num, BY.out⟩
                          case measure => simp [intOf]; omega
                        | false =>
                          rw [hdy] at hq HTK
                          have HTK' := Lib.hid (show an s (l.take (m + 1)) = D from HTK.out)
                          clear hdy HTK
                          go_wp2_with fail
                          go_region_held3 (fun w' => w'.cell? ⟨wr.heap.size, 0, none⟩ = some (.int .i64 y.k) ∧ w'.cell? ⟨wr.heap.size, 1, none⟩ = some (.string y.n) ∧ w'.cell? ⟨wr.heap.size, 2, none⟩ = some (.int .i64 y.s)) (first | exact CX.out _ (Below.refl _ _).drew | exact CX.out _ BX.out | fail) (first
                            | (go_at_call 26
                               (with_reducible refine (act_any s _).mono ?_)
                               rintro e w1 ⟨rfl, hb1⟩
                               have BX := Lib.hid ((Below.refl _ _).drew.trans hb1)
                               have BY := Lib.hid (ZB.out.trans ((bel1 wr _).mono ZB.out.size |>.trans (BX.out.mono (by have := ZB.out.size; simp; omega))))
                               clear hb1)
                            | fail)
                          go_wp2_with fail
                          go_roundw
                          case rel => exact ⟨m + 1, by omega, by go_num, by rw [HTK'.out], BY.out⟩
                          case measure => simp [intOf]; omega
                      · have hml : m = l.length := by omega
                        subst hml
                        rw [List.take_length] at han ⊢
                        have hcs := HCS.out
                        have g9 : decide ((p.a.countP (lk s) : Nat) - (an s l : Nat) > (0 : Int)) = false := decide_eq_false (by omega)
                        have g8 : decide ((0 : Int) < (p.a.countP (lk s) : Nat) - (an s l : Nat)) = false := decide_eq_false (by omega)
                        have XN := Lib.hid (show Below (wo.heap.size + 1) (wo.alloc (.cells #[.slice (some ⟨bs, os, none⟩) p.a.length cp, .int .i64 p.e] 46)) wr from by
                          have h1 := XB.out.size
                          have h2 := YB.out.size
                          rw [show (wo.alloc (.cells #[.slice (some ⟨bs, os, none⟩) p.a.length cp, .int .i64 p.e] 46)).heap.size = wo.heap.size + 1 by simp] at h1
                          exact (XB.out.trans (YB.out.mono h1)).trans (ZB.out.mono (by omega)))
                        go_wp2_with fail
                        go_roundw
                        case rel => exact ⟨j + 1, by omega, by go_num, XN.out⟩
                        case measure => simp [intOf]; omega
              · have hjl : j = p.a.length := by omega
                subst hjl
                go_wp2_with fail
                go_roundw
                case rel => exact ⟨k + 1, by omega, by go_num, XW.out⟩
                case measure => simp [intOf]; omega
          · have hkl : k = L.length := by omega
            subst hkl
            go_wp2_with fail
            have WF := Lib.hid (B2.out.trans (WB.out.mono B2.out.size))
            refine (AL.out _ WF.out).mono ?_
            rintro e wn ⟨rfl, hb⟩
            have BN := Lib.hid (WF.out.trans (hb.mono WF.out.size))
            clear hb
            have g1 : decide ((L.length : Int) > 0) = true := decide_eq_true (by omega)
            have g2 : decide ((0 : Int) < L.length) = true := decide_eq_true (by omega)
            go_wp2_with fail
            go_ret
            exact ⟨ret_bool (by simp), BN.out⟩
end Go.Proofs.YtghnonbcojbohaaGreatDoor.Mn

namespace Go.Proofs.YtghnonbcojbohaaGreatDoor.Mn
open Go Go.RowKit Tr
open Rw (Nd Nds)
set_option maxRecDepth 20000

abbrev mk (k : Int) (a b : List Nd) : List Nd := So.nOf k :: (a ++ b)
abbrev K4 (k : Int) : Prop := k = 5 ∨ k = 6 ∨ k = 7 ∨ k = 8
theorem ofmk {k : Int} (hk : K4 k) {a b : List Nd} (ha : So.of a = 1) (hb : So.of b = 1) (hl : a.length + b.length < 200) : So.of (mk k a b) = 1 := by
  rcases hk with rfl | rfl | rfl | rfl
  · exact So.mk_5_11 ha hb hl
  · exact So.mk_6_11 ha hb hl
  · exact So.mk_7_11 ha hb hl
  · exact So.mk_8_11 ha hb hl
theorem tre_of {a : List Nd} (ha : So.of a = 1) : So.Tre a := Sx.whole_tre (So.of_one ha).1
theorem mt_mk {k : Int} (hk : K4 k) {a b : List Nd} (ha : So.of a = 1) (hb : So.of b = 1) : Mt (mk k a b) = norm (two k (Mt a) (Mt b)) := by
  have har : Rw.ar k = 2 := by rcases hk with rfl | rfl | rfl | rfl <;> rfl
  obtain ⟨ht, hkk⟩ := So.kids_mk har (tre_of ha) (tre_of hb)
  rw [(M_eq ht.pos).1, stepT_2 (l := mk k a b) hk]
  unfold So.k0 So.k1
  rw [hkk]
  rfl
theorem acs_mk {k : Int} (hk : k ≠ 1) (a b : List Nd) : acs (mk k a b) = acs a + acs b := by
  unfold acs
  rw [acF_cons all _ _ hk, acF_append]
theorem k4_one {k : Int} (hk : K4 k) : k ≠ 1 := by rcases hk with rfl | rfl | rfl | rfl <;> decide
theorem isB_of {l : List Nd} (h : So.of l = 1) : isB l = smallB l := by
  have ho : So.onB l false = true := by show (So.of l == 1 || So.of l == 3) = true; rw [h]; rfl
  unfold isB why
  rw [ho]
  cases smallB l <;> rfl
theorem mtr_of {l : List Nd} (h : So.of l = 1) : MtR l = if smallB l then Mt l else [] := by
  have ho : So.onB l false = true := by show (So.of l == 1 || So.of l == 3) = true; rw [h]; rfl
  unfold MtR why
  rw [ho]
  cases smallB l <;> rfl
theorem gt_of {l : List Nd} (h : So.of l = 1) : GT l := gt (tre_of h) (So.one_three (So.of_one h).2)
theorem small_mk {k : Int} (hk : K4 k) {a b : List Nd} (hl : a.length + b.length ≤ 23) : smallB (mk k a b) = decide (acs a + acs b ≤ 6) := by
  unfold smallB
  rw [acs_mk (k4_one hk), show decide ((mk k a b).length ≤ 24) = true from decide_eq_true (by simp; omega), Bool.true_and]
/-- Three put together, either way. -/
theorem three_eq {k : Int} (hk : K4 k) {a b c : List Nd} (ha : So.of a = 1) (hb : So.of b = 1) (hc : So.of c = 1) (hl : a.length + b.length + c.length ≤ 22) :
    MtR (mk k (mk k a b) c) = MtR (mk k a (mk k b c)) ∧ isB (mk k (mk k a b) c) = isB (mk k a (mk k b c)) := by
  have hab := ofmk hk ha hb (by omega)
  have hbc := ofmk hk hb hc (by omega)
  have hx := ofmk hk hab hc (by simp; omega)
  have hy := ofmk hk ha hbc (by simp; omega)
  have hs : smallB (mk k (mk k a b) c) = smallB (mk k a (mk k b c)) := by
    rw [small_mk hk (by simp; omega), small_mk hk (by simp; omega), acs_mk (k4_one hk), acs_mk (k4_one hk), Nat.add_assoc]
  refine ⟨?_, by rw [isB_of hx, isB_of hy, hs]⟩
  rw [mtr_of hx, mtr_of hy, hs]
  cases h6 : smallB (mk k a (mk k b c)) with
  | false => rfl
  | true =>
    rw [if_pos rfl, if_pos rfl, mt_mk hk hab hc, mt_mk hk ha hb, mt_mk hk ha hbc, mt_mk hk hb hc]
    rw [small_mk hk (by simp; omega), acs_mk (k4_one hk), decide_eq_true_eq] at h6
    rcases hk with rfl | rfl | rfl | rfl
    · exact three5 _ _ _
    · exact three6 _ _ _
    · exact three7 ((gt_of ha).cnt all) ((gt_of hb).cnt all) ((gt_of hc).cnt all) (by unfold acs at h6; omega)
    · exact three8 _ _ _
/-- Two, either way round. -/
theorem comm_eq {k : Int} (hk : K4 k) {a b : List Nd} (ha : So.of a = 1) (hb : So.of b = 1) (hl : a.length + b.length ≤ 22) :
    (k = 6 ∨ k = 7 → MtR (mk k a b) = MtR (mk k b a)) ∧ isB (mk k a b) = isB (mk k b a) := by
  have hx := ofmk hk ha hb (by omega)
  have hy := ofmk hk hb ha (by omega)
  have hs : smallB (mk k a b) = smallB (mk k b a) := by rw [small_mk hk (by omega), small_mk hk (by omega), Nat.add_comm]
  refine ⟨fun h67 => ?_, by rw [isB_of hx, isB_of hy, hs]⟩
  rw [mtr_of hx, mtr_of hy, hs]
  cases h6 : smallB (mk k b a) with
  | false => rfl
  | true =>
    rw [if_pos rfl, if_pos rfl, mt_mk hk ha hb, mt_mk hk hb ha]
    rw [small_mk hk (by omega), decide_eq_true_eq] at h6
    rcases h67 with rfl | rfl
    · exact comm6 _ _
    · exact comm7 ((gt_of ha).cnt all) ((gt_of hb).cnt all) (by unfold acs at h6; omega)

/-- What Make tells. -/
def MkPost (l : List Nd) (w : World) (e : Ending) (w' : World) : Prop := ∃ a c, e = .returned (.slice a l.length c) ∧ Nds w' (.slice a l.length c) l ∧ Below w.heap.size w w'
theorem rws_two {w : World} {y1 y2 : Value} {l1 l2 : List Nd} (h1 : Nds w y1 l1) (h2 : Nds w y2 l2) (ty : TypeId) : Rw.Rws (w.alloc (.cells #[y1, y2] ty)) (.slice (some ⟨w.heap.size, 0, none⟩) 2 2) [l1, l2] := by
  refine ⟨[y1, y2], ⟨rfl, _, 2, rfl, Nat.le_refl _, fun h => (by cases h), fun _ => ⟨w.heap.size, 0, rfl, fun j u hu => ?_⟩⟩, ⟨h1.below (bel1 _ _), h2.below (bel1 _ _), trivial⟩⟩
  rw [Nat.zero_add, World.cell?_alloc_new]
  simpa using hu
theorem rws_one {w : World} {y1 : Value} {l1 : List Nd} (h1 : Nds w y1 l1) (ty : TypeId) : Rw.Rws (w.alloc (.cells #[y1] ty)) (.slice (some ⟨w.heap.size, 0, none⟩) 1 1) [l1] := by
  refine ⟨[y1], ⟨rfl, _, 1, rfl, Nat.le_refl _, fun h => (by cases h), fun _ => ⟨w.heap.size, 0, rfl, fun j u hu => ?_⟩⟩, ⟨h1.below (bel1 _ _), trivial⟩⟩
  rw [Nat.zero_add, World.cell?_alloc_new]
  simpa using hu
theorem make2 (k : Int) {w : World} {y1 y2 : Value} {l1 l2 : List Nd} (h1 : Nds w y1 l1) (h2 : Nds w y2 l2) (hl : l1.length + l2.length ≤ 1000) (ty : TypeId) :
    Calls Tryz.prog 27 #[.agg #[.int .i64 k, .string ⟨#[]⟩, .int .i64 0], .slice (some ⟨w.heap.size, 0, none⟩) 2 2] (w.alloc (.cells #[y1, y2] ty)) (MkPost (mk k l1 l2) w) := by
  refine (Rx.makeP_any (So.nOf k) _ [l1, l2] _ (rws_two h1 h2 ty) (by simp) (by simp; omega)).mono ?_
  rintro e w' ⟨y, rfl, hy, hb⟩
  have B := bel1 w (.cells #[y1, y2] ty)
  have e1 : [l1, l2].flatten = l1 ++ l2 := by simp
  rw [e1] at hy
  have hy2 : Nds w' y (mk k l1 l2) := by first | exact hy | exact Ap.RdO.rd hy
  obtain ⟨_, a, c, rfl, _⟩ := id hy2
  exact ⟨a, c, rfl, hy2, B.trans (hb.mono B.size)⟩
theorem make2d (k : Int) {w : World} {y1 y2 : Value} {l1 l2 : List Nd} (h1 : Nds w y1 l1) (h2 : Nds w y2 l2) (hl : l1.length + l2.length ≤ 1000) (ty : TypeId) :
    Calls Tryz.prog 27 #[.agg #[.int .i64 k, .string ⟨#[]⟩, .int .i64 0], .slice (some ⟨w.heap.size, 0, none⟩) 2 2] (w.alloc (.cells #[y1, y2] ty)).drew (MkPost (mk k l1 l2) w) := by
  have D : Below w.heap.size w w.drew := (Below.refl _ _).drew
  refine (make2 k (w := w.drew) (h1.below D) (h2.below D) hl ty).mono fun e w' h => ?_
  obtain ⟨a, c, he, hn, hb⟩ := h
  exact ⟨a, c, he, hn, D.trans hb⟩
theorem make1 (k : Int) {w : World} {y1 : Value} {l1 : List Nd} (h1 : Nds w y1 l1) (hl : l1.length ≤ 1000) (ty : TypeId) :
    Calls Tryz.prog 27 #[.agg #[.int .i64 k, .string ⟨#[]⟩, .int .i64 0], .slice (some ⟨w.heap.size, 0, none⟩) 1 1] (w.alloc (.cells #[y1] ty)) (MkPost (So.nOf k :: l1) w) := by
  refine (Rx.makeP_any (So.nOf k) _ [l1] _ (rws_one h1 ty) (by simp) (by simp; omega)).mono ?_
  rintro e w' ⟨y, rfl, hy, hb⟩
  have B := bel1 w (.cells #[y1] ty)
  have e1 : [l1].flatten = l1 := by simp
  rw [e1] at hy
  have hy2 : Nds w' y (So.nOf k :: l1) := by first | exact hy | exact Ap.RdO.rd hy
  obtain ⟨_, a, c, rfl, _⟩ := id hy2
  exact ⟨a, c, rfl, hy2, B.trans (hb.mono B.size)⟩
end Go.Proofs.YtghnonbcojbohaaGreatDoor.Mn

namespace Go.Proofs.YtghnonbcojbohaaGreatDoor.Mn
open Go Go.RowKit Tr
open Rw (Nd Nds)
set_option maxRecDepth 20000

abbrev lth : List Nd := [So.nOf 3]
abbrev lsk : List Nd := [So.nOf 2]
theorem of_th : So.of lth = 1 := by decide +kernel
theorem of_sk : So.of lsk = 1 := by decide +kernel
theorem mt_th : Mt lth = [bang] := by decide +kernel
theorem mt_sk : Mt lsk = [tick] := by decide +kernel
theorem acs_th : acs lth = 0 := by decide +kernel
theorem hand_eq {a : List Nd} (ha : So.of a = 1) (hl : a.length ≤ 22) : MtR (mk 8 a lth) = MtR a ∧ isB (mk 8 a lth) = isB a := by
  have hx := ofmk (k := 8) (by omega) ha of_th (by simp; omega)
  have hs : smallB (mk 8 a lth) = smallB a := by
    rw [small_mk (by omega) (by simp; omega), acs_th]
    unfold smallB
    rw [show decide (a.length ≤ 24) = true from decide_eq_true (by omega), Bool.true_and, Nat.add_zero]
  refine ⟨?_, by rw [isB_of hx, isB_of ha, hs]⟩
  rw [mtr_of hx, mtr_of ha, hs, mt_mk (by omega) ha of_th, mt_th, hand_unit (gt_of ha).up]

theorem nms_mk {k : Int} {a b : List Nd} (ha : Rw.Nms a) (hb : Rw.Nms b) : Rw.Nms (mk k a b) := fun x hx => by
  rcases List.mem_cons.1 hx with rfl | hx
  · exact Nat.zero_le _
  · rcases List.mem_append.1 hx with hx | hx
    · exact ha x hx
    · exact hb x hx
theorem make_th (k : Int) {w : World} {y1 : Value} {l1 : List Nd} (h1 : Nds w y1 l1) (hl : l1.length ≤ 999) :
    Calls Tryz.prog 27 #[.agg #[.int .i64 k, .string ⟨#[]⟩, .int .i64 0], .slice (some ⟨w.heap.size + 1, 0, none⟩) 2 2] ((w.alloc (.cells #[.int .i64 3, .string ⟨#[]⟩, .int .i64 0] 48)).alloc (.cells #[y1, .slice (some ⟨w.heap.size, 0, none⟩) 1 1] 22)) (MkPost (mk k l1 lth) w) := by
  have n2 := nds_new w lth 48
  have b1 : Below w.heap.size w (w.alloc (.cells #[.int .i64 3, .string ⟨#[]⟩, .int .i64 0] 48)) := bel1 _ _
  have h := make2 k (w := w.alloc (.cells #[.int .i64 3, .string ⟨#[]⟩, .int .i64 0] 48)) (l2 := lth) (h1.below b1) n2 (by simp; omega) 22
  rw [show (w.alloc (.cells #[.int .i64 3, .string ⟨#[]⟩, .int .i64 0] 48)).heap.size = w.heap.size + 1 by simp] at h
  refine h.mono fun e w' h => ?_
  obtain ⟨a, c, he, hn, hb⟩ := h
  exact ⟨a, c, he, hn, b1.trans (hb.mono b1.size)⟩
theorem nms_th : Rw.Nms lth := fun x hx => by rw [List.mem_singleton] at hx; rw [hx]; exact Nat.zero_le _
theorem nms_sk : Rw.Nms lsk := fun x hx => by rw [List.mem_singleton] at hx; rw [hx]; exact Nat.zero_le _

set_option maxHeartbeats 4000000 in
theorem hand_law (va vb vc : Value) (a b c : List Nd) (w : World) (hT : Sg.Tab w) (hva : Nds w va a) (hvb : Nds w vb b) (hvc : Nds w vc c) (hma : Rw.Nms a) (hmb : Rw.Nms b) (hmc : Rw.Nms c) :
    Calls Tryz.prog 9 #[va, vb, vc] w fun e w' => e = .returned (.bool true) ∧ Below w.heap.size w w' := by
  have AL := Lib.hid (fun w1 (hb : Below w.heap.size w w1) => alive_any w1 (Tab.below hT hb))
  have NA := Lib.hid (fun w1 (hb : Below w.heap.size w w1) => hva.below hb)
  have NB := Lib.hid (fun w1 (hb : Below w.heap.size w w1) => hvb.below hb)
  have NC := Lib.hid (fun w1 (hb : Below w.heap.size w w1) => hvc.below hb)
  have MA := Lib.hid hma
  have MB := Lib.hid hmb
  have MC := Lib.hid hmc
  obtain ⟨xa, ca, rfl⟩ : ∃ x y, va = .slice x a.length y := by obtain ⟨_, x, y, rfl, -⟩ := hva; exact ⟨x, y, rfl⟩
  obtain ⟨xb, cb, rfl⟩ : ∃ x y, vb = .slice x b.length y := by obtain ⟨_, x, y, rfl, -⟩ := hvb; exact ⟨x, y, rfl⟩
  obtain ⟨xc, cc, rfl⟩ : ∃ x y, vc = .slice x c.length y := by obtain ⟨_, x, y, rfl, -⟩ := hvc; exact ⟨x, y, rfl⟩
  clear hva hvb hvc hma hmb hmc hT
  have AL0 := Lib.hid (fun w1 (hb : Below w.heap.size w w1) => (AL.out w1 hb).mono fun e w' (h : e = .returned (.bool true) ∧ Below w1.heap.size w1 w') => (⟨h.1, hb.trans (h.2.mono hb.size)⟩ : e = .returned (.bool true) ∧ Below w.heap.size w w'))
  go_enter Tryz.func9, Tryz.ntmps9
  go_wp2_with fail
  refine (few_any _ a _ (NA.out _ (Below.refl _ _))).mono ?_
  cases hfa : fewB a with
  | false =>
    rintro e w' ⟨rfl, rfl⟩
    go_wp2_with fail
    refine (AL0.out _ (Below.refl _ _)).mono ?_
    rintro e wn ⟨rfl, hb⟩
    go_wp2_with fail
    go_ret
    exact ⟨rfl, hb⟩
  | true =>
  have hla := few_len hfa
  rintro e w' ⟨rfl, rfl⟩
  go_wp2_with fail
  refine (few_any _ b _ (NB.out _ (Below.refl _ _))).mono ?_
  cases hfb : fewB b with
  | false =>
    rintro e w' ⟨rfl, rfl⟩
    go_wp2_with fail
    refine (AL0.out _ (Below.refl _ _)).mono ?_
    rintro e wn ⟨rfl, hb⟩
    go_wp2_with fail
    go_ret
    exact ⟨rfl, hb⟩
  | true =>
  have hlb := few_len hfb
  rintro e w' ⟨rfl, rfl⟩
  go_wp2_with fail
  refine (few_any _ c _ (NC.out _ (Below.refl _ _))).mono ?_
  cases hfc : fewB c with
  | false =>
    rintro e w' ⟨rfl, rfl⟩
    go_wp2_with fail
    refine (AL0.out _ (Below.refl _ _)).mono ?_
    rintro e wn ⟨rfl, hb⟩
    go_wp2_with fail
    go_ret
    exact ⟨rfl, hb⟩
  | true =>
  have hlc := few_len hfc
  rintro e w' ⟨rfl, rfl⟩
  clear hfa hfb hfc
  go_wp2_with fail
  refine (Sx.termP_any a _ _ (NA.out _ (Below.refl _ _)) (by omega) MA.out).mono ?_
  cases hta : (So.of a == 1) with
  | false =>
    rintro e w1 ⟨rfl, hb1⟩
    have B1 := Lib.hid hb1
    clear hb1
    go_wp2_with fail
    refine (AL0.out _ B1.out).mono ?_
    rintro e wn ⟨rfl, hb⟩
    go_wp2_with fail
    go_ret
    exact ⟨rfl, hb⟩
  | true =>
  rintro e w1 ⟨rfl, hb1⟩
  have B1 := Lib.hid hb1
  clear hb1
  go_wp2_with fail
  refine (Sx.termP_any b _ _ (NB.out _ B1.out) (by omega) MB.out).mono ?_
  cases htb : (So.of b == 1) with
  | false =>
    rintro e w2 ⟨rfl, hb2⟩
    have B2 := Lib.hid (B1.out.trans (hb2.mono B1.out.size))
    clear hb2
    go_wp2_with fail
    refine (AL0.out _ B2.out).mono ?_
    rintro e wn ⟨rfl, hb⟩
    go_wp2_with fail
    go_ret
    exact ⟨rfl, hb⟩
  | true =>
  rintro e w2 ⟨rfl, hb2⟩
  have B2 := Lib.hid (B1.out.trans (hb2.mono B1.out.size))
  clear hb2 B1
  go_wp2_with fail
  refine (Sx.termP_any c _ _ (NC.out _ B2.out) (by omega) MC.out).mono ?_
  cases htc : (So.of c == 1) with
  | false =>
    rintro e w3 ⟨rfl, hb3⟩
    have B3 := Lib.hid (B2.out.trans (hb3.mono B2.out.size))
    clear hb3
    go_wp2_with fail
    refine (AL0.out _ B3.out).mono ?_
    rintro e wn ⟨rfl, hb⟩
    go_wp2_with fail
    go_ret
    exact ⟨rfl, hb⟩
  | true =>
  rintro e w3 ⟨rfl, hb3⟩
  have B3 := Lib.hid (B2.out.trans (hb3.mono B2.out.size))
  clear hb3 B2
  have oa : So.of a = 1 := by simpa using hta
  have ob : So.of b = 1 := by simpa using htb
  have oc : So.of c = 1 := by simpa using htc
  clear hta htb htc
  by_cases hlen : a.length + b.length + c.length ≤ 22
  · have g1 : decide ((a.length : Int) + b.length + c.length > 22) = false := decide_eq_false (by omega)
    have g2 : decide ((22 : Int) < (a.length : Int) + b.length + c.length) = false := decide_eq_false (by omega)
    go_wp2_with fail
    obtain ⟨W0, hW0⟩ : ∃ W0, w3.alloc (.cells #[.int .i64 8, .string ⟨#[]⟩, .int .i64 0] 48) = W0 := ⟨_, rfl⟩
    rw [hW0]
    have BW := Lib.hid (show Below w.heap.size w W0 by rw [← hW0]; exact B3.out.alloc B3.out.size _)
    have z0 : W0.heap.size = w3.heap.size + 1 := by rw [← hW0]; simp
    have BX := Lib.hid (fun w1 (hb : Below W0.heap.size W0 w1) => show w1.cell? ⟨w3.heap.size, 0, none⟩ = some (.int .i64 8) ∧ w1.cell? ⟨w3.heap.size, 1, none⟩ = some (.string ⟨#[]⟩) ∧ w1.cell? ⟨w3.heap.size, 2, none⟩ = some (.int .i64 0) from
      ⟨by rw [hb.cell (p := ⟨w3.heap.size, 0, none⟩) (by rw [z0]; exact Nat.lt_succ_self _), ← hW0]; simp, by rw [hb.cell (p := ⟨w3.heap.size, 1, none⟩) (by rw [z0]; exact Nat.lt_succ_self _), ← hW0]; simp, by rw [hb.cell (p := ⟨w3.heap.size, 2, none⟩) (by rw [z0]; exact Nat.lt_succ_self _), ← hW0]; simp⟩)
    clear hW0 z0
    have WA := Lib.hid (fun w1 (hb : Below W0.heap.size W0 w1) => NA.out w1 (BW.out.trans (hb.mono BW.out.size)))
    have WB := Lib.hid (fun w1 (hb : Below W0.heap.size W0 w1) => NB.out w1 (BW.out.trans (hb.mono BW.out.size)))
    have WC := Lib.hid (fun w1 (hb : Below W0.heap.size W0 w1) => NC.out w1 (BW.out.trans (hb.mono BW.out.size)))
    have WL := Lib.hid (fun w1 (hb : Below W0.heap.size W0 w1) => AL0.out w1 (BW.out.trans (hb.mono BW.out.size)))
    have hE3 := three_eq (k := 8) (by omega) oa ob oc hlen
    have hE2 := hand_eq oa (by omega)
    have ma := nms_mk (k := 8) MA.out MB.out
    have mb := nms_mk (k := 8) MB.out MC.out
    have P1 := Lib.hid (fun v w1 h => plain_any v (mk 8 (mk 8 a b) c) w1 h (nms_mk ma MC.out) (by simp; omega))
    have P2 := Lib.hid (fun v w1 h => plain_any v (mk 8 a (mk 8 b c)) w1 h (nms_mk MA.out mb) (by simp; omega))
    have P3 := Lib.hid (fun v w1 h => plain_any v (mk 8 a lth) w1 h (nms_mk MA.out nms_th) (by simp; omega))
    have P4 := Lib.hid (fun v w1 h => plain_any v a w1 h MA.out (by omega))
    unfold PlPost at P1 P2 P3 P4
    rw [hE3.1, hE3.2] at P1
    rw [hE2.1, hE2.2] at P3
    have F1 := mtr_few (mk 8 a (mk 8 b c))
    have F2 := mtr_few a
    generalize MtR (mk 8 a (mk 8 b c)) = X at P1 P2 F1
    generalize isB (mk 8 a (mk 8 b c)) = i at P1 P2
    generalize MtR a = Z at P3 P4 F2
    generalize isB a = j at P3 P4
    have SX := Lib.hid (fun x y w1 h1 h2 => same_law x y X X w1 h1 h2 F1 F1)
    have SZ := Lib.hid (fun x y w1 h1 h2 => same_law x y Z Z w1 h1 h2 F2 F2)
    rw [same_self] at SX SZ
    have A1 := Lib.hid (fun w1 (hb : Below W0.heap.size W0 w1) ty => make2d 8 (WA.out w1 hb) (WB.out w1 hb) (by omega) ty)
    have A2 := Lib.hid (fun y w1 (hb : Below W0.heap.size W0 w1) (h : Nds w1 y (mk 8 a b)) ty => make2 8 h (WC.out w1 hb) (by simp; omega) ty)
    have A3 := Lib.hid (fun w1 (hb : Below W0.heap.size W0 w1) ty => make2d 8 (WB.out w1 hb) (WC.out w1 hb) (by omega) ty)
    have A4 := Lib.hid (fun y w1 (hb : Below W0.heap.size W0 w1) (h : Nds w1 y (mk 8 b c)) ty => make2 8 (WA.out w1 hb) h (by simp; omega) ty)
    have A5 := Lib.hid (fun w1 (hb : Below W0.heap.size W0 w1) => make_th 8 (WA.out w1 hb) (by omega))
    unfold MkPost at A1 A2 A3 A4 A5
    generalize mk 8 (mk 8 a b) c = r1 at A2 P1
    generalize mk 8 a (mk 8 b c) = r2 at A4 P2
    generalize mk 8 a b = r3 at A1 A2
    generalize mk 8 b c = r4 at A3 A4
    generalize mk 8 a lth = r5 at A5 P3
    clear hE3 hE2 ma mb F1 F2 NA NB NC MA MB MC oa ob oc
    go_region_held3 (fun w' => w'.cell? ⟨w3.heap.size, 0, none⟩ = some (.int .i64 8) ∧ w'.cell? ⟨w3.heap.size, 1, none⟩ = some (.string ⟨#[]⟩) ∧ w'.cell? ⟨w3.heap.size, 2, none⟩ = some (.int .i64 0)) (first | exact BX.out _ (Below.refl _ _).drew | exact BX.out _ ((Below.refl W0.heap.size W0).alloc (Nat.le_refl _) _).drew | exact BX.out _ D4.out | exact BX.out _ (D4.out.alloc D4.out.size _) | exact BX.out _ D5.out | exact BX.out _ D6.out | fail) (first
      | (go_at_call 27
         (with_reducible refine (A1.out _ (Below.refl _ _) _).mono ?_)
         rintro e w4 ⟨a4, c4, rfl, hn4, hb4⟩
         have D4 := Lib.hid hb4
         have N4 := Lib.hid hn4
         clear hn4 hb4)
      | (go_at_call 27
         (with_reducible refine (A2.out _ _ D4.out N4.out _).mono ?_)
         rintro e w5 ⟨a5, c5, rfl, hn5, hb5⟩
         have D5 := Lib.hid (D4.out.trans (hb5.mono D4.out.size))
         have N5 := Lib.hid hn5
         clear hn5 hb5)
      | (go_at_call 24
         (with_reducible refine (P1.out _ _ N5.out).mono ?_)
         rintro e w6 ⟨a6, c6, rfl, ht6, hb6⟩
         have D6 := Lib.hid (D5.out.trans (hb6.mono D5.out.size))
         have T6 := Lib.hid ht6
         clear ht6 hb6)
      | fail)
    clear A1 A2 P1 D4 D5 N4 N5
    go_wp2_with fail
    go_region_held3 (fun w' => w'.cell? ⟨w3.heap.size, 0, none⟩ = some (.int .i64 8) ∧ w'.cell? ⟨w3.heap.size, 1, none⟩ = some (.string ⟨#[]⟩) ∧ w'.cell? ⟨w3.heap.size, 2, none⟩ = some (.int .i64 0)) (first | exact BX.out _ D6.out.drew | exact BX.out _ (D6.out.alloc D6.out.size _).drew | exact BX.out _ D7.out | exact BX.out _ (D7.out.alloc D7.out.size _) | exact BX.out _ D8.out | exact BX.out _ D9.out | fail) (first
      | (go_at_call 27
         (with_reducible refine (A3.out _ D6.out _).mono ?_)
         rintro e w7 ⟨a7, c7, rfl, hn7, hb7⟩
         have D7 := Lib.hid (D6.out.trans (hb7.mono D6.out.size))
         have N7 := Lib.hid hn7
         have T7 := Lib.hid (T6.out.below hb7)
         clear hn7 hb7)
      | (go_at_call 27
         (with_reducible refine (A4.out _ _ D7.out N7.out _).mono ?_)
         rintro e w8 ⟨a8, c8, rfl, hn8, hb8⟩
         have D8 := Lib.hid (D7.out.trans (hb8.mono D7.out.size))
         have N8 := Lib.hid hn8
         have T8 := Lib.hid (T7.out.below hb8)
         clear hn8 hb8)
      | (go_at_call 24
         (with_reducible refine (P2.out _ _ N8.out).mono ?_)
         rintro e w9 ⟨a9, c9, rfl, ht9, hb9⟩
         have D9 := Lib.hid (D8.out.trans (hb9.mono D8.out.size))
         have T9 := Lib.hid ht9
         have S9 := Lib.hid (T8.out.below hb9)
         clear ht9 hb9)
      | fail)
    clear A3 A4 P2 D6 D7 D8 N7 N8 T6 T7 T8
    go_wp2_with fail
    refine (A5.out _ D9.out).mono ?_
    rintro e wd ⟨ad, cd, rfl, hnd, hbd⟩
    have Dd := Lib.hid (D9.out.trans (hbd.mono D9.out.size))
    have Nd' := Lib.hid hnd
    have Sd := Lib.hid (S9.out.below hbd)
    have Td := Lib.hid (T9.out.below hbd)
    clear hnd hbd S9 T9 D9 A5
    go_wp2_with fail
    refine (P3.out _ _ Nd'.out).mono ?_
    rintro e we ⟨ae, ce, rfl, hte, hbe⟩
    have De := Lib.hid (Dd.out.trans (hbe.mono Dd.out.size))
    have Te := Lib.hid hte
    have Se := Lib.hid (Sd.out.below hbe)
    have Ue := Lib.hid (Td.out.below hbe)
    clear hte hbe Sd Td Dd Nd' P3
    go_wp2_with fail
    refine (P4.out _ _ (WA.out _ De.out)).mono ?_
    rintro e wf ⟨af, cf, rfl, htf, hbf⟩
    have Df := Lib.hid (De.out.trans (hbf.mono De.out.size))
    have Tf := Lib.hid htf
    have Sf := Lib.hid (Se.out.below hbf)
    have Uf := Lib.hid (Ue.out.below hbf)
    have Vf := Lib.hid (Te.out.below hbf)
    clear htf hbf Se Ue Te De P4
    go_wp2_with fail
    refine (AL.out _ (BW.out.trans (Df.out.mono BW.out.size))).mono ?_
    rintro e wg ⟨rfl, hbg⟩
    have Dg := Lib.hid (Df.out.trans (hbg.mono Df.out.size))
    have Tg := Lib.hid (Tf.out.below hbg)
    have Sg' := Lib.hid (Sf.out.below hbg)
    have Ug := Lib.hid (Uf.out.below hbg)
    have Vg := Lib.hid (Vf.out.below hbg)
    clear hbg Tf Sf Uf Vf Df
    go_wp2_with fail
    refine (SX.out _ _ _ Sg'.out Ug.out).mono ?_
    rintro e wh ⟨rfl, hbh⟩
    have Dh := Lib.hid (Dg.out.trans (hbh.mono Dg.out.size))
    have Th := Lib.hid (Tg.out.below hbh)
    have Vh := Lib.hid (Vg.out.below hbh)
    clear hbh Tg Sg' Ug Vg Dg
    go_wp2_with fail
    refine (SZ.out _ _ _ Vh.out Th.out).mono ?_
    rintro e wi ⟨rfl, hbi⟩
    have Di := Lib.hid (BW.out.trans ((Dh.out.trans (hbi.mono Dh.out.size)).mono BW.out.size))
    clear hbi
    go_wp2_with fail
    go_ret
    exact ⟨ret_bool (by simp), Di.out⟩
  · have g1 : decide ((a.length : Int) + b.length + c.length > 22) = true := decide_eq_true (by omega)
    have g2 : decide ((22 : Int) < (a.length : Int) + b.length + c.length) = true := decide_eq_true (by omega)
    go_wp2_with fail
    refine (AL0.out _ B3.out).mono ?_
    rintro e wn ⟨rfl, hb⟩
    go_wp2_with fail
    go_ret
    exact ⟨rfl, hb⟩
end Go.Proofs.YtghnonbcojbohaaGreatDoor.Mn
