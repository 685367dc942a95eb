/- SettleLess: the walk. -/
import Derived.Test.YtibgjgokapchfaaQ23
import Derived.Test.YtibgjgokapchfaaQ09
import Derived.BigQuiet

namespace Go.Proofs.Ytibgjgokapchfaa.Se
open Go Go.RowKit Go.Proofs.Ytibgjgokapchfaa.Rw Go.Proofs.Ytibgjgokapchfaa.So
set_option maxRecDepth 20000

/-- How many nodes are of a kind. -/
def ofK (k : Nat) (l : List Nd) : Nat := l.countP fun x => decide (x.k = (k : Int))
theorem cnt_takeK {α : Type} (f : α → Bool) (l : List α) (k : Nat) (h : k < l.length) : (l.take (k + 1)).countP f = (l.take k).countP f + if f l[k] then 1 else 0 := by
  rw [List.take_succ_eq_append_getElem h, List.countP_append, List.countP_singleton]
theorem any_take (f : Nd → Bool) (l : List Nd) (k : Nat) (h : k < l.length) : (l.take (k + 1)).any f = ((l.take k).any f || f l[k]) := by
  rw [List.take_succ_eq_append_getElem h, List.any_append]
  simp
def lessK (k : Nat) : Prop := k = 1 ∨ k = 3 ∨ k = 4 ∨ k = 6 ∨ k = 8 ∨ k = 9 ∨ k = 10
theorem plainK {k : Nat} (h : lessK k) : Plain (fun x => decide (x.k = (k : Int))) := by
  unfold lessK at h
  refine ⟨fun _ => ?_, fun _ => ?_, ?_, ?_, ?_, ?_, ?_⟩ <;> refine decide_eq_false ?_ <;> simp only [nOf] <;> omega
theorem less_k (l : List Nd) {k : Nat} (h : lessK k) : ofK k (st l) ≤ ofK k l := by
  by_cases h0 : st l = []
  · rw [h0]; exact Nat.zero_le _
  · obtain ⟨t, rfl, hg, e⟩ := st_some h0
    rw [e]
    exact S_ct (plainK h) t
theorem acts_memF : ∀ (l : List Nd) (os : List ByteArray) (s : ByteArray), s ∈ l.foldl addA os → s ∈ os ∨ ∃ x ∈ l, x.k = 1 ∧ x.n = s
  | [], os, s, h => .inl h
  | x :: l, os, s, h => by
    rcases acts_memF l (addA os x) s h with h | ⟨y, hy, h⟩
    · unfold addA at h
      split at h
      · exact .inl h
      · rename_i hm
        rcases List.mem_append.1 h with h | h
        · exact .inl h
        · rw [List.mem_singleton] at h
          refine .inr ⟨x, by simp, ?_, h.symm⟩
          unfold met at hm
          simp at hm
          exact hm.1
    · exact .inr ⟨y, by simp [hy], h⟩
theorem less_acts (l : List Nd) {s : ByteArray} (h : s ∈ acts (st l)) : l.any (fun x => decide (x = (⟨1, s, 0⟩ : Nd))) = true := by
  rcases acts_memF (st l) [] s h with h | ⟨x, hx, hk, hn⟩
  · cases h
  · have h0 : st l ≠ [] := fun e => by rw [e] at hx; cases hx
    obtain ⟨t, rfl, hg, e⟩ := st_some h0
    rw [e] at hx
    have hr : rgt x = true := (List.all_eq_true.1 hg.S.1) x hx
    have hx2 := rgt_name hr hk
    rw [hn] at hx2
    have hp : Plain (fun x => decide (x = (⟨1, s, 0⟩ : Nd))) := by
      refine ⟨fun _ => ?_, fun _ => ?_, ?_, ?_, ?_, ?_, ?_⟩ <;> exact decide_eq_false (fun e => absurd (congrArg Nd.k e) (by simp [nOf]))
    have hc := S_ct hp t
    have hpos : 0 < ct (fun x => decide (x = (⟨1, s, 0⟩ : Nd))) (S t) := List.countP_pos_iff.2 ⟨x, hx, decide_eq_true hx2⟩
    obtain ⟨y, hy, hd⟩ := List.countP_pos_iff.1 (Nat.lt_of_lt_of_le hpos hc)
    exact List.any_eq_true.2 ⟨y, hy, hd⟩
theorem nds_at {w : World} {a : Option Addr} {c : Nat} {l : List Nd} (h : Nds w (.slice a l.length c) l) (h0 : 0 < l.length) : ∃ b o, a = some ⟨b, o, none⟩ ∧ At w b o l := by
  rcases h.form with ⟨rfl, _⟩ | ⟨b, o, c', e, _, hat⟩
  · simp at h0
  · injection e with e1 _ _
    exact ⟨b, o, e1, hat⟩
theorem strs_at {w : World} {a : Option Addr} {c : Nat} {l : List ByteArray} (h : Strs w (.slice a l.length c) l) (h0 : 0 < l.length) : ∃ b o, a = some ⟨b, o, none⟩ ∧ AtS w b o l := by
  rcases h.form with ⟨rfl, _⟩ | ⟨b, o, c', e, hat⟩
  · simp at h0
  · injection e with e1 _ _
    exact ⟨b, o, e1, hat⟩
set_option maxHeartbeats 8000000 in
theorem less_law (v : Value) (l : List Nd) (w0 : World) (hv : Nds w0 v l) (hm : Nms l) :
    Calls Try.prog 7 #[v] w0 fun e w' => e = .returned (.bool true) ∧ Below w0.heap.size w0 w' := by
  have V := Lib.hid hv
  have D := Lib.hid (Below.refl w0.heap.size w0)
  have HS := Lib.hid (fun v w1 (h : Nds w1 v l) (hl : l.length ≤ 120) => settleP_any v l w1 h (by omega) hm)
  have HL := Lib.hid (st_len l)
  have HC := Lib.hid (fun k h => less_k l (k := k) h)
  have HA := Lib.hid (fun v w1 (h : Nds w1 v (st l)) (hl : (st l).length ≤ 120) => Sx.actsP_any v (st l) w1 h (by omega) (nms_st l))
  have HY := Lib.hid (fun s (h : s ∈ acts (st l)) => less_acts l h)
  have HAL := Lib.hid (acts_le (st l))
  obtain ⟨m, hmm⟩ : ∃ m, st l = m := ⟨_, rfl⟩
  rw [hmm] at HS HL HC HA HY HAL
  obtain ⟨_, a, cap, rfl, -⟩ := hv
  clear hm hmm
  go_enter Try.func7, Try.ntmps7
  go_wp2_with fail
  refine (few_any _ l _ V.out).mono ?_
  cases hf : fewB l with
  | false =>
    rintro e w' ⟨rfl, rfl⟩
    go_wp2_with fail
    refine (alive_any _).mono ?_
    rintro e wn ⟨rfl, hb⟩
    go_wp2_with fail
    go_ret
    exact ⟨rfl, hb⟩
  | true =>
    have hl := few_len hf
    clear hf
    rintro e w' ⟨rfl, rfl⟩
    go_wp2_with fail
    refine (HS.out _ _ V.out hl).mono ?_
    rintro e w1 ⟨yA, rfl, hn, hb⟩
    obtain ⟨_, aA, cA, rfl, -⟩ := id hn
    replace V := Lib.hid (V.out.below hb)
    replace D := Lib.hid (D.out.trans (hb.mono D.out.size))
    have A := Lib.hid hn
    have hml : m.length ≤ l.length := HL.out
    have g0 : ¬ (l.length : Int) < (m.length : Int) := by omega
    have g1 : (m.length : Int) ≤ (l.length : Int) := by omega
    have gd : decide (l.length < m.length) = false := decide_eq_false (by omega)
    have gd' : decide ((l.length : Int) < (m.length : Int)) = false := decide_eq_false (by omega)
    have hm120 : m.length ≤ 120 := by omega
    clear hn hb HS
    go_wp2_with fail
    go_loopw [4] (fun kv wr => ∃ k : Nat, 1 ≤ k ∧ k ≤ 11 ∧ kv = .int .i64 k ∧ Below w1.heap.size w1 wr) (fun kv _ => 11 - (intOf kv).toNat)
    case atStart => exact ⟨1, by omega, by omega, rfl, Below.refl _ _⟩
    case round =>
      obtain ⟨k, hk1, hk11, rfl, hb⟩ := hrel
      have WB := Lib.hid hb
      clear hb
      by_cases hlt : k ≤ 10
      · obtain ⟨wo, hwo⟩ : ∃ wo, wo = wr := ⟨_, rfl⟩
        subst hwo
        go_wp2_with fail
        go_loopw [5, 32] (fun n i wx => ∃ j : Nat, j ≤ m.length ∧ i = .int .i64 j ∧ n = .int .i64 (ofK k (m.take j) : Nat) ∧ Below wo.heap.size wo wx) (fun _ i _ => m.length - (intOf i).toNat)
        case atStart => exact ⟨0, Nat.zero_le _, rfl, rfl, Below.refl _ _⟩
        case round =>
          obtain ⟨j, hj, rfl, rfl, hb⟩ := hrel
          have XB := Lib.hid hb
          have XW := Lib.hid (WB.out.trans (hb.mono WB.out.size))
          clear hb
          by_cases hjl : j < m.length
          · obtain ⟨bn, on, rfl, hat⟩ := nds_at A.out (by omega)
            obtain ⟨n0, n1, n2⟩ := hat j hjl
            have q0 : wr.cell? ⟨bn, on + j * 3, none⟩ = some (.int .i64 m[j].k) := by rw [XW.out.cell (Ap.cell_lt n0)]; exact n0
            have q1 : wr.cell? ⟨bn, on + j * 3 + 1, none⟩ = some (.string m[j].n) := by rw [XW.out.cell (Ap.cell_lt n1)]; exact n1
            have q2 : wr.cell? ⟨bn, on + j * 3 + 2, none⟩ = some (.int .i64 m[j].s) := by rw [XW.out.cell (Ap.cell_lt n2)]; exact n2
            have HTK := Lib.hid (cnt_takeK (fun x => decide (x.k = (k : Int))) m j hjl)
            have hC : ofK k (m.take j) ≤ 120 := Nat.le_trans List.countP_le_length (by rw [List.length_take]; omega)
            generalize m[j] = y at *
            obtain ⟨C, hCC⟩ : ∃ C, ofK k (m.take j) = C := ⟨_, rfl⟩
            have HT2 : Hid (ofK k (m.take (j + 1)) = C + if decide (y.k = (k : Int)) then 1 else 0) := Lib.hid (by rw [← hCC]; exact HTK.out)
            rw [hCC] at hC ⊢
            clear n0 n1 n2 hat HTK hCC
            have BX := Lib.hid (XB.out.trans ((below1 wr (.cells #[.int .i64 y.k, .string y.n, .int .i64 y.s] 29)).mono XB.out.size))
            by_cases hky : y.k = (k : Int)
            · have HT3 : Hid (ofK k (m.take (j + 1)) = C + 1) := Lib.hid (by rw [HT2.out, decide_eq_true hky]; rfl)
              rw [hky] at q0 BX
              clear hky HT2
              go_wp2_with fail
              go_roundw
              case rel => exact ⟨j + 1, by omega, by go_num, by rw [HT3.out]; go_num, BX.out⟩
              case measure => simp [intOf]; omega
            · have HT3 : Hid (ofK k (m.take (j + 1)) = C) := Lib.hid (by rw [HT2.out, decide_eq_false hky]; rfl)
              have gky : (y.k == (k : Int)) = false := by rw [beq_eq_false_iff_ne]; exact hky
              clear hky HT2
              go_wp2_with fail
              go_roundw
              case rel => exact ⟨j + 1, by omega, by go_num, by rw [HT3.out], BX.out⟩
              case measure => simp [intOf]; omega
          · have hje : j = m.length := by omega
            subst hje
            rw [List.take_length]
            have hC : ofK k m ≤ 120 := Nat.le_trans List.countP_le_length hm120
            have HC' := Lib.hid (HC.out k)
            obtain ⟨C, hCC⟩ : ∃ C, ofK k m = C := ⟨_, rfl⟩
            rw [hCC] at hC HC' ⊢
            clear hCC
            obtain ⟨wp, hwp⟩ : ∃ wp, wp = wr := ⟨_, rfl⟩
            subst hwp
            go_wp2_with fail
            go_loopw [5, 45] (fun n i wx => ∃ j : Nat, j ≤ l.length ∧ i = .int .i64 j ∧ n = .int .i64 ((C : Nat) - (ofK k (l.take j) : Nat) : Int) ∧ Below wp.heap.size wp wx) (fun _ i _ => l.length - (intOf i).toNat)
            case atStart => exact ⟨0, Nat.zero_le _, rfl, by simp [ofK], Below.refl _ _⟩
            case round =>
              obtain ⟨j, hj2, rfl, rfl, hb⟩ := hrel
              have YB := Lib.hid hb
              have YW := Lib.hid (XW.out.trans (hb.mono XW.out.size))
              clear hb
              by_cases hjl2 : j < l.length
              · obtain ⟨bn, on, rfl, hat⟩ := nds_at V.out (by omega)
                obtain ⟨n0, n1, n2⟩ := hat j hjl2
                have q0 : wr.cell? ⟨bn, on + j * 3, none⟩ = some (.int .i64 l[j].k) := by rw [YW.out.cell (Ap.cell_lt n0)]; exact n0
                have q1 : wr.cell? ⟨bn, on + j * 3 + 1, none⟩ = some (.string l[j].n) := by rw [YW.out.cell (Ap.cell_lt n1)]; exact n1
                have q2 : wr.cell? ⟨bn, on + j * 3 + 2, none⟩ = some (.int .i64 l[j].s) := by rw [YW.out.cell (Ap.cell_lt n2)]; exact n2
                have HTK := Lib.hid (cnt_takeK (fun x => decide (x.k = (k : Int))) l j hjl2)
                have hE : ofK k (l.take j) ≤ 120 := Nat.le_trans List.countP_le_length (by rw [List.length_take]; omega)
                generalize l[j] = y at *
                obtain ⟨E, hEE⟩ : ∃ E, ofK k (l.take j) = E := ⟨_, rfl⟩
                have HT2 : Hid (ofK k (l.take (j + 1)) = E + if decide (y.k = (k : Int)) then 1 else 0) := Lib.hid (by rw [← hEE]; exact HTK.out)
                rw [hEE] at hE ⊢
                clear n0 n1 n2 hat HTK hEE
                have BX := Lib.hid (YB.out.trans ((below1 wr (.cells #[.int .i64 y.k, .string y.n, .int .i64 y.s] 29)).mono YB.out.size))
                by_cases hky : y.k = (k : Int)
                · have HT3 : Hid (ofK k (l.take (j + 1)) = E + 1) := Lib.hid (by rw [HT2.out, decide_eq_true hky]; rfl)
                  rw [hky] at q0 BX
                  clear hky HT2
                  go_wp2_with fail
                  go_roundw
                  case rel => exact ⟨j + 1, by omega, by go_num, by rw [HT3.out]; go_num, BX.out⟩
                  case measure => simp [intOf]; omega
                · have HT3 : Hid (ofK k (l.take (j + 1)) = E) := Lib.hid (by rw [HT2.out, decide_eq_false hky]; rfl)
                  have gky : (y.k == (k : Int)) = false := by rw [beq_eq_false_iff_ne]; exact hky
                  clear hky HT2
                  go_wp2_with fail
                  go_roundw
                  case rel => exact ⟨j + 1, by omega, by go_num, by rw [HT3.out], BX.out⟩
                  case measure => simp [intOf]; omega
              · have hje2 : j = l.length := by omega
                subst hje2
                rw [List.take_length]
                obtain ⟨E, hEE⟩ : ∃ E, ofK k l = E := ⟨_, rfl⟩
                have hE : E ≤ 120 := by rw [← hEE]; exact Nat.le_trans List.countP_le_length hl
                rw [hEE] at HC' ⊢
                clear hEE
                have YO := Lib.hid (YW.out)
                by_cases hpos : E < C
                · have hno : ¬ lessK k := fun h => by have := HC'.out h; omega
                  unfold lessK at hno
                  have f1 : ((k : Int) == 1) = false := by rw [beq_eq_false_iff_ne]; omega
                  have f3 : ((k : Int) == 3) = false := by rw [beq_eq_false_iff_ne]; omega
                  have f4 : ((k : Int) == 4) = false := by rw [beq_eq_false_iff_ne]; omega
                  have f6 : ((k : Int) == 6) = false := by rw [beq_eq_false_iff_ne]; omega
                  have f8 : ((k : Int) == 8) = false := by rw [beq_eq_false_iff_ne]; omega
                  have f9 : ((k : Int) == 9) = false := by rw [beq_eq_false_iff_ne]; omega
                  have f10 : ((k : Int) == 10) = false := by rw [beq_eq_false_iff_ne]; omega
                  have gp : decide ((0 : Int) < (C : Int) - (E : Int)) = true := decide_eq_true (by omega)
                  have gp' : decide ((C : Int) - (E : Int) > 0) = true := decide_eq_true (by omega)
                  have gp2 : (0 : Int) < (C : Int) - (E : Int) := by omega
                  clear hno hpos
                  go_wp2_with fail
                  go_roundw
                  case rel => exact ⟨k + 1, by omega, by omega, by go_num, YO.out⟩
                  case measure => simp [intOf]; omega
                · have gp : decide ((0 : Int) < (C : Int) - (E : Int)) = false := decide_eq_false (by omega)
                  have gp' : decide ((C : Int) - (E : Int) > 0) = false := decide_eq_false (by omega)
                  have gp2 : ¬ (0 : Int) < (C : Int) - (E : Int) := by omega
                  have gp3 : (C : Int) - (E : Int) ≤ 0 := by omega
                  have gp4 : (C : Int) ≤ (E : Int) := by omega
                  have gp5 : C ≤ E := by omega
                  clear hpos
                  go_wp2_with fail
                  go_roundw
                  case rel => exact ⟨k + 1, by omega, by omega, by go_num, YO.out⟩
                  case measure => simp [intOf]; omega
      · have hke : k = 11 := by omega
        subst hke
        have DW := Lib.hid (D.out.trans (WB.out.mono D.out.size))
        have AW := Lib.hid (A.out.below WB.out)
        have VW := Lib.hid (V.out.below WB.out)
        go_wp2_with fail
        refine (HA.out _ _ AW.out hm120).mono ?_
        rintro e w2 ⟨yn, rfl, hs, hb⟩
        obtain ⟨_, an, cn, rfl, -⟩ := id hs
        have SN := Lib.hid hs
        have D2 := Lib.hid (DW.out.trans (hb.mono DW.out.size))
        have V2 := Lib.hid (VW.out.below hb)
        have hal : (acts m).length ≤ 120 := by have := HAL.out; omega
        clear hs hb
        obtain ⟨names, hnames⟩ : ∃ n, acts m = n := ⟨_, rfl⟩
        rw [hnames] at SN hal HY ⊢
        clear hnames
        go_wp2_with fail
        go_loopw [89] (fun i wr => ∃ j : Nat, j ≤ names.length ∧ i = .int .i64 j ∧ Below w2.heap.size w2 wr) (fun i _ => names.length - (intOf i).toNat)
        case atStart => exact ⟨0, Nat.zero_le _, rfl, Below.refl _ _⟩
        case round =>
          obtain ⟨j, hj, rfl, hb⟩ := hrel
          have XB := Lib.hid hb
          clear hb
          by_cases hjl : j < names.length
          · obtain ⟨bs, os, rfl, hss⟩ := strs_at SN.out (by omega)
            have hxa := hss j hjl
            have qx : wr.cell? ⟨bs, os + j, none⟩ = some (.string names[j]) := by rw [XB.out.cell (Ap.cell_lt hxa)]; exact hxa
            have HYS := Lib.hid (HY.out names[j] (List.getElem_mem hjl))
            generalize names[j] = s at *
            clear hss hxa
            obtain ⟨wo, hwo⟩ : ∃ wo, wo = wr := ⟨_, rfl⟩
            subst hwo
            go_wp2_with fail
            clear qx
            go_loopw [12, 95] (fun q i wx => ∃ k : Nat, k ≤ l.length ∧ i = .int .i64 k ∧ q = .bool ((l.take k).any (fun x => decide (x = (⟨1, s, 0⟩ : Nd)))) ∧ Below wo.heap.size wo wx) (fun _ i _ => l.length - (intOf i).toNat)
            case atStart => exact ⟨0, Nat.zero_le _, rfl, rfl, Below.refl _ _⟩
            case round =>
              obtain ⟨k, hk, rfl, rfl, hb⟩ := hrel
              have YB := Lib.hid hb
              have YW := Lib.hid (XB.out.trans (hb.mono XB.out.size))
              clear hb
              by_cases hkl : k < l.length
              · obtain ⟨bn, on, rfl, hat⟩ := nds_at V2.out (by omega)
                obtain ⟨n0, n1, n2⟩ := hat k hkl
                have q0 : wr.cell? ⟨bn, on + k * 3, none⟩ = some (.int .i64 l[k].k) := by rw [YW.out.cell (Ap.cell_lt n0)]; exact n0
                have q1 : wr.cell? ⟨bn, on + k * 3 + 1, none⟩ = some (.string l[k].n) := by rw [YW.out.cell (Ap.cell_lt n1)]; exact n1
                have q2 : wr.cell? ⟨bn, on + k * 3 + 2, none⟩ = some (.int .i64 l[k].s) := by rw [YW.out.cell (Ap.cell_lt n2)]; exact n2
                have HTK := Lib.hid (any_take (fun x => decide (x = (⟨1, s, 0⟩ : Nd))) l k hkl)
                have hq := eq_ndP l[k] ⟨1, s, 0⟩
                generalize l[k] = y at *
                obtain ⟨Q, hQ⟩ : ∃ Q, (l.take k).any (fun x => decide (x = (⟨1, s, 0⟩ : Nd))) = Q := ⟨_, rfl⟩
                rw [hQ] at HTK ⊢
                clear n0 n1 n2 hat hQ
                have CX := Lib.hid (box_cells wr y.k y.s y.n 29)
                have BW := Lib.hid (YB.out.trans ((below1 wr (.cells #[.int .i64 y.k, .string y.n, .int .i64 y.s] 29)).mono YB.out.size))
                have bsz : (wr.alloc (.cells #[.int .i64 y.k, .string y.n, .int .i64 y.s] 29)).heap.size = wr.heap.size + 1 := by simp
                have hys := YB.out.size
                obtain ⟨dd, hdd⟩ : ∃ d, decide (y = (⟨1, s, 0⟩ : Nd)) = d := ⟨_, rfl⟩
                rw [hdd] at hq HTK
                clear hdd
                cases Q with
                | true =>
                  have HT2 : Hid ((l.take (k + 1)).any (fun x => decide (x = (⟨1, s, 0⟩ : Nd))) = true) := Lib.hid HTK.out
                  clear HTK
                  go_wp2_with fail
                  go_quiet (fail)
                  go_wp2_with fail
                  go_roundw
                  case rel => exact ⟨k + 1, by omega, by go_num, by rw [HT2.out], by first | exact BW.out.trans (Below.drewN _ _ _) | exact BW.out⟩
                  case measure => simp [intOf]; omega
                | false =>
                  have HT2 : Hid ((l.take (k + 1)).any (fun x => decide (x = (⟨1, s, 0⟩ : Nd))) = dd) := Lib.hid HTK.out
                  clear HTK
                  go_wp2_with fail
                  go_region_held3 (fun w' => w'.cell? ⟨wr.heap.size, 0, none⟩ = some (.int .i64 y.k) ∧ w'.cell? ⟨wr.heap.size, 1, none⟩ = some (.string y.n) ∧ w'.cell? ⟨wr.heap.size, 2, none⟩ = some (.int .i64 y.s)) (first | exact CX.out _ (Below.refl _ _).drew | exact CX.out _ BX.out | fail) (first
                    | (go_at_call 20
                       (with_reducible refine (act_any s _).mono ?_)
                       rintro e wq ⟨rfl, hb1⟩
                       have BX : Hid (Below (wr.alloc (.cells #[.int .i64 y.k, .string y.n, .int .i64 y.s] 29)).heap.size (wr.alloc (.cells #[.int .i64 y.k, .string y.n, .int .i64 y.s] 29)) wq) := Lib.hid ((Below.refl _ _).drew.trans hb1)
                       have BY := Lib.hid (BW.out.trans (BX.out.mono (by rw [bsz]; omega)))
                       clear hb1)
                    | fail)
                  go_wp2_with fail
                  go_roundw
                  case rel => exact ⟨k + 1, by omega, by go_num, by rw [HT2.out], BY.out⟩
                  case measure => simp [intOf]; omega
              · have hke : k = l.length := by omega
                subst hke
                rw [List.take_length, HYS.out]
                go_wp2_with fail
                go_roundw
                case rel => exact ⟨j + 1, by omega, by go_num, YW.out⟩
                case measure => simp [intOf]; omega
          · have hje : j = names.length := by omega
            subst hje
            go_wp2_with fail
            refine (alive_any _).mono ?_
            rintro e wn ⟨rfl, hb⟩
            have D3 := Lib.hid (D2.out.trans (XB.out.mono D2.out.size))
            have D4 := Lib.hid (D3.out.trans (hb.mono D3.out.size))
            clear hb
            go_wp2_with fail
            go_ret
            exact ⟨rfl, D4.out⟩
end Go.Proofs.Ytibgjgokapchfaa.Se
