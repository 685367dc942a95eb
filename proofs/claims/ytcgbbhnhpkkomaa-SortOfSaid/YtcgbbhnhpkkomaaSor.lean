/- SortBlocks and SortKids from the contracts. -/
import Derived.Test.YtcgbbhnhpkkomaaSoq
import Derived.Test.YtcgbbhnhpkkomaaSop
namespace Go.Proofs.Ytcgbbhnhpkkomaa.So
open Go Go.RowKit Go.Proofs.Ytcgbbhnhpkkomaa.Rw
set_option maxRecDepth 20000

theorem rws_new1 {w : World} {v : Value} {l : List Nd} (hv : Nds w v l) (ty : TypeId) : Rws (w.alloc (.cells #[v] ty)) (.slice (some ⟨w.heap.size, 0, none⟩) 1 1) [l] := by
  refine ⟨[v], ⟨rfl, _, 1, rfl, Nat.le_refl _, fun h => (by cases h), fun _ => ⟨w.heap.size, 0, rfl, fun j y hy => ?_⟩⟩, hv.below ((Below.refl _ _).alloc (Nat.le_refl _) _), trivial⟩
  rw [Nat.zero_add, World.cell?_alloc_new]
  simpa using hy
theorem blk_nms {l : List Nd} (h : Nms l) : Nms (nBlk :: l) := fun x hx => by
  rcases List.mem_cons.1 hx with rfl | hx
  · show (0 : Nat) ≤ _
    exact Nat.zero_le _
  · exact h x hx
/-- Two rows in memory, below which all is as it was. -/
structure Kq (w0 : World) (v u : Value) (l m : List Nd) (w : World) : Prop where
  bel : Below w0.heap.size w0 w
  nds : Nds w v l
  m : Nds w u m
theorem Kq.below {w0 w w' : World} {v u : Value} {l m : List Nd} (h : Kq w0 v u l m w) (hb : Below w.heap.size w w') : Kq w0 v u l m w' := ⟨h.bel.trans (hb.mono h.bel.size), h.nds.below hb, h.m.below hb⟩

set_option maxHeartbeats 8000000 in
theorem blocks_law (C : Con) (v : Value) (l : List Nd) (w : World) (hv : Nds w v l) (hm : Nms l) :
    Calls Try.prog 8 #[v] w fun e w' => e = .returned (.bool true) ∧ Below w.heap.size w w' := by
  have I := Lib.hid (Kp.start hv)
  have HM := Lib.hid hm
  obtain ⟨_, a, cap, rfl, -⟩ := hv
  clear hm
  go_enter Try.func8, Try.ntmps8
  go_wp2_with fail
  refine (few_any _ l _ I.out.nds).mono ?_
  cases hf : fewB l with
  | false =>
    rintro e w' ⟨rfl, rfl⟩
    go_wp2_with fail
    refine (alive_any C _).mono ?_
    rintro e wn ⟨rfl, hb⟩
    go_wp2_with fail
    go_ret
    exact ⟨rfl, hb⟩
  | true =>
    have hl := few_len hf
    clear hf
    rintro e w' ⟨rfl, rfl⟩
    have hlt : l.length < 200 := by omega
    have hz := of_cases l
    have hb := of_blk hlt
    obtain ⟨z, hzz⟩ : ∃ z, of l = z := ⟨_, rfl⟩
    have HQ := Lib.hid (onB_of l z hzz true)
    have HZ := Lib.hid hzz
    rw [hzz] at hz hb
    have HBZ := Lib.hid hb
    have HW := Lib.hid (rws_new1 I.out.nds 22)
    have HB0 := Lib.hid ((Below.refl w.heap.size w).alloc (Nat.le_refl _) (.cells #[.slice a l.length cap] 22))
    have HMB := Lib.hid (blk_nms HM.out)
    clear hzz hb
    go_wp2_with fail
    refine (C.cMake nBlk _ [l] _ HW.out (by simp) (by simp; omega)).mono ?_
    rintro e w1 ⟨y, rfl, hy, hb⟩
    have J : Hid (Kq w (.slice a l.length cap) y l (nBlk :: l) w1) := ⟨((I.out.below HB0.out).below hb).bel, ((I.out.below HB0.out).below hb).nds, by simpa using hy⟩
    clear I hy hb HW HB0
    rcases hz with rfl | rfl | rfl | rfl | rfl
    · have HQ' : Hid (onB l true = false) := HQ.out
      have HP' : Hid (onB (nBlk :: l) false = false) := onB_of (nBlk :: l) 0 HBZ.out false
      have HR' : Hid (onB (nBlk :: l) true = false) := onB_of (nBlk :: l) 0 HBZ.out true
      have HT' : Hid ((of (nBlk :: l) == 1) = false) := by
        show _ = _
        rw [HBZ.out]
        rfl
      clear HQ HBZ
      go_wp2_with fail
      refine (alive_any C _).mono ?_
      rintro e wn ⟨rfl, hb⟩
      replace J := Lib.hid (J.out.below hb)
      clear hb
      go_wp2_with fail
      refine (C.cOn _ (nBlk :: l) false _ J.out.m (by simp; omega) HMB.out).mono ?_
      rw [HP'.out]
      rintro e wn ⟨rfl, hb⟩
      replace J := Lib.hid (J.out.below hb)
      clear hb
      go_wp2_with fail
      refine (C.cOn _ l true _ J.out.nds (by omega) HM.out).mono ?_
      rw [HQ'.out]
      rintro e wn ⟨rfl, hb⟩
      replace J := Lib.hid (J.out.below hb)
      clear hb
      go_wp2_with fail
      refine (C.cTerm _ (nBlk :: l) _ J.out.m (by simp; omega) HMB.out).mono ?_
      rw [HT'.out]
      rintro e wn ⟨rfl, hb⟩
      replace J := Lib.hid (J.out.below hb)
      clear hb
      go_wp2_with fail
      refine (C.cOf _ l _ J.out.nds (by omega) HM.out).mono ?_
      rw [HZ.out]
      rintro e wn ⟨rfl, hb⟩
      replace J := Lib.hid (J.out.below hb)
      clear hb
      go_wp2_with fail
      refine (C.cOn _ (nBlk :: l) true _ J.out.m (by simp; omega) HMB.out).mono ?_
      rw [HR'.out]
      rintro e wn ⟨rfl, hb⟩
      replace J := Lib.hid (J.out.below hb)
      clear hb
      go_wp2_with fail
      go_ret
      exact ⟨rfl, J.out.bel⟩
    · have HQ' : Hid (onB l true = false) := HQ.out
      have HP' : Hid (onB (nBlk :: l) false = false) := onB_of (nBlk :: l) 0 HBZ.out false
      have HR' : Hid (onB (nBlk :: l) true = false) := onB_of (nBlk :: l) 0 HBZ.out true
      have HT' : Hid ((of (nBlk :: l) == 1) = false) := by
        show _ = _
        rw [HBZ.out]
        rfl
      clear HQ HBZ
      go_wp2_with fail
      refine (alive_any C _).mono ?_
      rintro e wn ⟨rfl, hb⟩
      replace J := Lib.hid (J.out.below hb)
      clear hb
      go_wp2_with fail
      refine (C.cOn _ (nBlk :: l) false _ J.out.m (by simp; omega) HMB.out).mono ?_
      rw [HP'.out]
      rintro e wn ⟨rfl, hb⟩
      replace J := Lib.hid (J.out.below hb)
      clear hb
      go_wp2_with fail
      refine (C.cOn _ l true _ J.out.nds (by omega) HM.out).mono ?_
      rw [HQ'.out]
      rintro e wn ⟨rfl, hb⟩
      replace J := Lib.hid (J.out.below hb)
      clear hb
      go_wp2_with fail
      refine (C.cTerm _ (nBlk :: l) _ J.out.m (by simp; omega) HMB.out).mono ?_
      rw [HT'.out]
      rintro e wn ⟨rfl, hb⟩
      replace J := Lib.hid (J.out.below hb)
      clear hb
      go_wp2_with fail
      refine (C.cOf _ l _ J.out.nds (by omega) HM.out).mono ?_
      rw [HZ.out]
      rintro e wn ⟨rfl, hb⟩
      replace J := Lib.hid (J.out.below hb)
      clear hb
      go_wp2_with fail
      refine (C.cOn _ (nBlk :: l) true _ J.out.m (by simp; omega) HMB.out).mono ?_
      rw [HR'.out]
      rintro e wn ⟨rfl, hb⟩
      replace J := Lib.hid (J.out.below hb)
      clear hb
      go_wp2_with fail
      go_ret
      exact ⟨rfl, J.out.bel⟩
    · have HQ' : Hid (onB l true = true) := HQ.out
      have HP' : Hid (onB (nBlk :: l) false = true) := onB_of (nBlk :: l) 1 HBZ.out false
      have HR' : Hid (onB (nBlk :: l) true = false) := onB_of (nBlk :: l) 1 HBZ.out true
      have HT' : Hid ((of (nBlk :: l) == 1) = true) := by
        show _ = _
        rw [HBZ.out]
        rfl
      clear HQ HBZ
      go_wp2_with fail
      refine (alive_any C _).mono ?_
      rintro e wn ⟨rfl, hb⟩
      replace J := Lib.hid (J.out.below hb)
      clear hb
      go_wp2_with fail
      refine (C.cOn _ (nBlk :: l) false _ J.out.m (by simp; omega) HMB.out).mono ?_
      rw [HP'.out]
      rintro e wn ⟨rfl, hb⟩
      replace J := Lib.hid (J.out.below hb)
      clear hb
      go_wp2_with fail
      refine (C.cOn _ l true _ J.out.nds (by omega) HM.out).mono ?_
      rw [HQ'.out]
      rintro e wn ⟨rfl, hb⟩
      replace J := Lib.hid (J.out.below hb)
      clear hb
      go_wp2_with fail
      refine (C.cTerm _ (nBlk :: l) _ J.out.m (by simp; omega) HMB.out).mono ?_
      rw [HT'.out]
      rintro e wn ⟨rfl, hb⟩
      replace J := Lib.hid (J.out.below hb)
      clear hb
      go_wp2_with fail
      refine (C.cOf _ l _ J.out.nds (by omega) HM.out).mono ?_
      rw [HZ.out]
      rintro e wn ⟨rfl, hb⟩
      replace J := Lib.hid (J.out.below hb)
      clear hb
      go_wp2_with fail
      refine (C.cOn _ (nBlk :: l) true _ J.out.m (by simp; omega) HMB.out).mono ?_
      rw [HR'.out]
      rintro e wn ⟨rfl, hb⟩
      replace J := Lib.hid (J.out.below hb)
      clear hb
      go_wp2_with fail
      go_ret
      exact ⟨rfl, J.out.bel⟩
    · have HQ' : Hid (onB l true = false) := HQ.out
      have HP' : Hid (onB (nBlk :: l) false = false) := onB_of (nBlk :: l) 0 HBZ.out false
      have HR' : Hid (onB (nBlk :: l) true = false) := onB_of (nBlk :: l) 0 HBZ.out true
      have HT' : Hid ((of (nBlk :: l) == 1) = false) := by
        show _ = _
        rw [HBZ.out]
        rfl
      clear HQ HBZ
      go_wp2_with fail
      refine (alive_any C _).mono ?_
      rintro e wn ⟨rfl, hb⟩
      replace J := Lib.hid (J.out.below hb)
      clear hb
      go_wp2_with fail
      refine (C.cOn _ (nBlk :: l) false _ J.out.m (by simp; omega) HMB.out).mono ?_
      rw [HP'.out]
      rintro e wn ⟨rfl, hb⟩
      replace J := Lib.hid (J.out.below hb)
      clear hb
      go_wp2_with fail
      refine (C.cOn _ l true _ J.out.nds (by omega) HM.out).mono ?_
      rw [HQ'.out]
      rintro e wn ⟨rfl, hb⟩
      replace J := Lib.hid (J.out.below hb)
      clear hb
      go_wp2_with fail
      refine (C.cTerm _ (nBlk :: l) _ J.out.m (by simp; omega) HMB.out).mono ?_
      rw [HT'.out]
      rintro e wn ⟨rfl, hb⟩
      replace J := Lib.hid (J.out.below hb)
      clear hb
      go_wp2_with fail
      refine (C.cOf _ l _ J.out.nds (by omega) HM.out).mono ?_
      rw [HZ.out]
      rintro e wn ⟨rfl, hb⟩
      replace J := Lib.hid (J.out.below hb)
      clear hb
      go_wp2_with fail
      refine (C.cOn _ (nBlk :: l) true _ J.out.m (by simp; omega) HMB.out).mono ?_
      rw [HR'.out]
      rintro e wn ⟨rfl, hb⟩
      replace J := Lib.hid (J.out.below hb)
      clear hb
      go_wp2_with fail
      go_ret
      exact ⟨rfl, J.out.bel⟩
    · have HQ' : Hid (onB l true = true) := HQ.out
      have HP' : Hid (onB (nBlk :: l) false = true) := onB_of (nBlk :: l) 3 HBZ.out false
      have HR' : Hid (onB (nBlk :: l) true = false) := onB_of (nBlk :: l) 3 HBZ.out true
      have HT' : Hid ((of (nBlk :: l) == 1) = false) := by
        show _ = _
        rw [HBZ.out]
        rfl
      clear HQ HBZ
      go_wp2_with fail
      refine (alive_any C _).mono ?_
      rintro e wn ⟨rfl, hb⟩
      replace J := Lib.hid (J.out.below hb)
      clear hb
      go_wp2_with fail
      refine (C.cOn _ (nBlk :: l) false _ J.out.m (by simp; omega) HMB.out).mono ?_
      rw [HP'.out]
      rintro e wn ⟨rfl, hb⟩
      replace J := Lib.hid (J.out.below hb)
      clear hb
      go_wp2_with fail
      refine (C.cOn _ l true _ J.out.nds (by omega) HM.out).mono ?_
      rw [HQ'.out]
      rintro e wn ⟨rfl, hb⟩
      replace J := Lib.hid (J.out.below hb)
      clear hb
      go_wp2_with fail
      refine (C.cTerm _ (nBlk :: l) _ J.out.m (by simp; omega) HMB.out).mono ?_
      rw [HT'.out]
      rintro e wn ⟨rfl, hb⟩
      replace J := Lib.hid (J.out.below hb)
      clear hb
      go_wp2_with fail
      refine (C.cOf _ l _ J.out.nds (by omega) HM.out).mono ?_
      rw [HZ.out]
      rintro e wn ⟨rfl, hb⟩
      replace J := Lib.hid (J.out.below hb)
      clear hb
      go_wp2_with fail
      refine (C.cOn _ (nBlk :: l) true _ J.out.m (by simp; omega) HMB.out).mono ?_
      rw [HR'.out]
      rintro e wn ⟨rfl, hb⟩
      replace J := Lib.hid (J.out.below hb)
      clear hb
      go_wp2_with fail
      go_ret
      exact ⟨rfl, J.out.bel⟩

theorem AtR'.at {w : World} : ∀ {cs : List Value} {ls : List (List Nd)}, RwC w cs ls → ∀ i (h : i < ls.length), ∃ a, cs[i]? = some a ∧ Nds w a ls[i]
  | [], [], _, i, h => by simp at h
  | a :: _, _ :: _, hr, 0, _ => ⟨a, rfl, hr.1⟩
  | _ :: cs, _ :: ls, hr, i + 1, h => by
    obtain ⟨a, h1, h2⟩ := AtR'.at hr.2 i (by simpa using h)
    exact ⟨a, by simpa using h1, by simpa using h2⟩
  | [], _ :: _, h, _, _ => h.elim
  | _ :: _, [], h, _, _ => h.elim
/-- A row of nodes, and rows of them. -/
structure Kw (w0 : World) (v : Value) (l : List Nd) (b o : Nat) (ls : List (List Nd)) (w : World) : Prop where
  kp : Kp w0 v l w
  at' : ∀ i, (h : i < ls.length) → ∃ a, w.cell? ⟨b, o + i, none⟩ = some a ∧ Nds w a ls[i]
theorem Kw.below {w0 w w' : World} {v : Value} {l : List Nd} {b o : Nat} {ls : List (List Nd)} (h : Kw w0 v l b o ls w) (hb : Below w.heap.size w w') : Kw w0 v l b o ls w' :=
  ⟨h.kp.below hb, fun i hi => by
    obtain ⟨a, h1, h2⟩ := h.at' i hi
    exact ⟨a, by rw [hb.cell (Ap.cell_lt h1)]; exact h1, h2.below hb⟩⟩
theorem kid_nms {l r : List Nd} (hw : whole l = true) (h : Nms l) (hr : r ∈ kids l) : Nms r := fun x hx => by
  obtain ⟨y, _, he⟩ := (whole_tre hw).flat
  refine h x ?_
  rw [he]
  exact List.mem_cons_of_mem _ (List.mem_flatten.2 ⟨r, hr, hx⟩)
theorem rws_form {w : World} {v : Value} {ls : List (List Nd)} (h : Rws w v ls) :
    (ls = [] ∧ ∃ a cap, v = .slice a 0 cap) ∨ ∃ b off cap, v = .slice (some ⟨b, off, none⟩) ls.length cap ∧ ∀ i, (h : i < ls.length) → ∃ a, w.cell? ⟨b, off + i, none⟩ = some a ∧ Nds w a ls[i] := by
  obtain ⟨cs, ⟨_, a, cap, rfl, hle, _, hcell⟩, hr⟩ := h
  by_cases h0 : 0 < ls.length
  · obtain ⟨b, off, rfl, hj⟩ := hcell h0
    refine Or.inr ⟨b, off, cap, rfl, fun i hi => ?_⟩
    obtain ⟨a, h1, h2⟩ := AtR'.at hr i hi
    exact ⟨a, hj _ _ h1, h2⟩
  · have : ls = [] := List.eq_nil_of_length_eq_zero (by omega)
    subst this
    exact Or.inl ⟨rfl, a, cap, rfl⟩
set_option maxHeartbeats 8000000 in
theorem kids_law (C : Con) (v : Value) (l : List Nd) (w : World) (hv : Nds w v l) (hm : Nms l) :
    Calls Try.prog 7 #[v] w fun e w' => e = .returned (.bool true) ∧ Below w.heap.size w w' := by
  have I := Lib.hid (Kp.start hv)
  have H0 := Lib.hid hv
  have HM := Lib.hid hm
  obtain ⟨_, a, cap, rfl, -⟩ := hv
  clear hm
  go_enter Try.func7, Try.ntmps7
  go_wp2_with fail
  refine (few_any _ l _ I.out.nds).mono ?_
  cases hf : fewB l with
  | false =>
    rintro e w' ⟨rfl, rfl⟩
    go_wp2_with fail
    refine (alive_any C _).mono ?_
    rintro e wn ⟨rfl, hb⟩
    go_wp2_with fail
    go_ret
    exact ⟨rfl, hb⟩
  | true =>
    have hl := few_len hf
    clear hf
    rintro e w' ⟨rfl, rfl⟩
    go_wp2_with fail
    refine (C.cTerm _ l _ I.out.nds (by omega) HM.out).mono ?_
    by_cases h1 : of l = 1
    case neg =>
      have g1 : (of l == 1) = false := by rw [beq_eq_false_iff_ne]; exact h1
      rw [g1]
      clear g1
      have H1 := Lib.hid h1
      clear h1
      rintro e w1 ⟨rfl, hb⟩
      replace I := Lib.hid (I.out.below hb)
      clear hb
      go_wp2_with fail
      refine (alive_any C _).mono ?_
      rintro e wn ⟨rfl, hb⟩
      replace I := Lib.hid (I.out.below hb)
      clear hb
      go_wp2_with fail
      go_ret
      exact ⟨rfl, I.out.bel⟩
    rw [h1, show ((1 : Nat) == 1) = true from rfl]
    have hw := (of_one h1).1
    have HK := Lib.hid (kid_of h1)
    have HN := Lib.hid (fun r => kid_nms (r := r) hw HM.out)
    have HT := Lib.hid (whole_tre hw)
    have HS := Lib.hid (fun r hr => kids_short (l := l) (r := r) hr)
    have hcount : (kids l).length ≤ 2 := by
      have := HT.out.kids.1
      have := ar_le (hd l)
      omega
    clear hw h1
    rintro e w1 ⟨rfl, hb⟩
    replace I := Lib.hid (I.out.below hb)
    clear hb
    go_wp2_with fail
    refine (C.cKids _ l _ I.out.nds (by omega)).mono ?_
    obtain ⟨ls, hls⟩ : ∃ ls, kids l = ls := ⟨_, rfl⟩
    rw [hls] at HK HN HS hcount ⊢
    clear hls
    rintro e w2 ⟨y, rfl, hy, hb⟩
    replace I := Lib.hid (I.out.below hb)
    clear hb
    rcases rws_form hy with ⟨rfl, a', c', rfl⟩ | ⟨b, o, c', rfl, hat⟩
    · clear hy HK HN HS
      go_wp2_with fail
      refine Go.wp_loop_rounds 1 ?_
      rw [rounds_succ]
      go_wp2_with fail
      refine (alive_any C _).mono ?_
      rintro e wn ⟨rfl, hb⟩
      replace I := Lib.hid (I.out.below hb)
      clear hb
      go_wp2_with fail
      go_ret
      exact ⟨rfl, I.out.bel⟩
    · have R : Hid (Kw w (.slice a l.length cap) l b o ls w2) := ⟨I.out, hat⟩
      clear hy hat I
      obtain ⟨lb, lo, lc, he, hc⟩ := head_cell H0.out HT.out
      have hea : a = some ⟨lb, lo, none⟩ := by injection he
      have HC := Lib.hid hc
      have hlp := HT.out.pos
      clear he hc
      go_wp2_with fail
      go_loopw [4, 5, 18] (fun _ _ i wr => ∃ j : Nat, j ≤ ls.length ∧ i = .int .i64 j ∧ Hid (Kw w (.slice a l.length cap) l b o ls wr)) (fun _ _ i _ => ls.length - (intOf i).toNat)
      case atStart => exact ⟨0, Nat.zero_le _, rfl, R⟩
      case round =>
        clear R
        obtain ⟨j, hj, rfl, R⟩ := hrel
        by_cases hlt : j < ls.length
        · obtain ⟨x, c0, hx⟩ := R.out.at' j hlt
          have hmem := List.getElem_mem hlt
          have hrk := HK.out _ hmem
          have hrn := Lib.hid (HN.out _ hmem)
          have hrs := HS.out _ hmem
          obtain ⟨r, hr⟩ : ∃ r, ls[j] = r := ⟨_, rfl⟩
          rw [hr] at hx hrk hrn hrs
          have HX := Lib.hid hx
          have q0 : wr.cell? ⟨lb, lo, none⟩ = some (.int .i64 (hd l)) := by rw [R.out.kp.bel.cell (Ap.cell_lt HC.out)]; exact HC.out
          clear hmem hr hx
          by_cases h9 : hd l = 9
          · rw [if_pos h9] at hrk
            rw [h9] at q0
            have HRK := Lib.hid hrk
            clear hrk h9
            go_wp2_with fail
            refine (C.cOf _ r _ HX.out (by omega) hrn.out).mono ?_
            rw [HRK.out]
            rintro e wn ⟨rfl, hb⟩
            replace R := Lib.hid (R.out.below hb)
            clear hb c0 q0
            go_wp2_with fail
            go_roundw
            case rel => exact ⟨j + 1, by omega, by go_num, R⟩
            case measure => simp [intOf]; omega
          · rw [if_neg h9] at hrk
            have g9 : (hd l == 9) = false := by rw [beq_eq_false_iff_ne]; exact h9
            have HRK := Lib.hid hrk
            clear hrk h9
            go_wp2_with fail
            refine (C.cOf _ r _ HX.out (by omega) hrn.out).mono ?_
            rw [HRK.out]
            rintro e wn ⟨rfl, hb⟩
            replace R := Lib.hid (R.out.below hb)
            clear hb c0 q0
            go_wp2_with fail
            go_roundw
            case rel => exact ⟨j + 1, by omega, by go_num, R⟩
            case measure => simp [intOf]; omega
        · have KP := Lib.hid R.out.kp
          clear R
          go_wp2_with fail
          refine (alive_any C _).mono ?_
          rintro e wn ⟨rfl, hb⟩
          replace KP := Lib.hid (KP.out.below hb)
          clear hb
          go_wp2_with fail
          go_ret
          exact ⟨rfl, KP.out.bel⟩
end Go.Proofs.Ytcgbbhnhpkkomaa.So
