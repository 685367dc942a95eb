/- DoomFree: the walk. The program's Beside and Free, of any row; what the laws ask of package doom. DoomWaits: the walk. DoomOutside: the walk. -/
import Derived.Test.YtekblibhaipioaaQ32
import Derived.StillTailTactics

namespace Go.Proofs.Ytekblibhaipioaa.Do
open Go Go.RowKit Go.Proofs.Ytekblibhaipioaa.Rw Go.Proofs.Ytekblibhaipioaa.So Go.Proofs.Ytekblibhaipioaa.Se
set_option maxRecDepth 20000

theorem bs_few (l : List Nd) (z : Int) : (bs l z).length ≤ 1000 ∧ ∀ r ∈ bs l z, r.length ≤ 1000 := by
  by_cases hz : z ∈ av l
  · have hs : setB l = true := by
      cases hs : setB l with
      | true => rfl
      | false => rw [av_no hs] at hz; cases hz
    obtain ⟨t, rfl, hg, hn⟩ := set_iff.1 hs
    obtain ⟨k, hk, rfl⟩ := (mem_av hg hn).1 hz
    rw [bs_go hg hn hk]
    constructor
    · rw [List.length_map]
      have := pth_len t 0 k
      have := hg.2.1
      omega
    · intro r hr
      obtain ⟨u, hu, rfl⟩ := List.mem_map.1 hr
      have := (pth_goes t 0 k hk hg hn u hu).1.2.1
      rw [Se.flat_len]
      omega
  · rw [bs_no hz]
    exact ⟨by simp, fun r hr => by cases hr⟩
set_option maxHeartbeats 4000000 in
theorem free_law (C : Con) (A : Alive) (v : Value) (l : List Nd) (z : Int) (w0 : World) (hv : Nds w0 v l) (hm : Nms l) :
    Calls Try.prog 4 #[v, .int .i64 z] w0 fun e w' => e = .returned (.bool true) ∧ Below w0.heap.size w0 w' := by
  have HF := Lib.hid (few_any v l w0 hv)
  have HA := Lib.hid A
  unfold Alive at HA
  cases hf : fewB l with
  | false =>
    rw [hf] at HF
    obtain ⟨_, a, c, rfl, -⟩ := id hv
    clear hv hm hf
    go_enter Try.func4, Try.ntmps4
    go_wp2_with fail
    refine HF.out.mono ?_
    rintro e w1 ⟨rfl, rfl⟩
    go_wp2_with fail
    refine (HA.out _).mono ?_
    rintro e w2 ⟨rfl, hb2⟩
    have D2 := Lib.hid hb2
    clear hb2
    go_wp2_with fail
    go_ret
    exact ⟨rfl, D2.out⟩
  | true =>
    rw [hf] at HF
    have hl := few_len hf
    have HC := Lib.hid (fun w1 (hb : Below w0.heap.size w0 w1) => C.bes v l z w1 (hv.below hb) (by omega) hm)
    have HR := Lib.hid (fun w1 (hb : Below w0.heap.size w0 w1) => besR_any v l z w1 (hv.below hb) (by omega) hm)
    have HC2 := Lib.hid (fun w1 (hb : Below w0.heap.size w0 w1) => C.free v l z w1 (hv.below hb) (by omega) hm)
    have HR2 := Lib.hid (fun w1 (hb : Below w0.heap.size w0 w1) => freR_any v l z w1 (hv.below hb) (by omega) hm)
    obtain ⟨hb1, hb2⟩ := bs_few l z
    obtain ⟨_, a, c, rfl, -⟩ := id hv
    generalize fr l z = f at HC2 HR2
    generalize bs l z = L at HC HR hb1 hb2
    have HL := Lib.hid hb2
    clear hv hm hf hb2
    go_enter Try.func4, Try.ntmps4
    go_wp2_with fail
    refine HF.out.mono ?_
    rintro e w1 ⟨rfl, rfl⟩
    go_wp2_with fail
    refine (HC.out _ (Below.refl _ _)).mono ?_
    rintro e w3 ⟨y3, rfl, h3, hb3⟩
    have D3 := Lib.hid hb3
    obtain ⟨cs3, hrd3, -⟩ := id h3
    obtain ⟨_, a3, c3, rfl, -⟩ := hrd3
    clear hb3
    go_wp2_with fail
    refine (HR.out _ D3.out).mono ?_
    rintro e w4 ⟨y4, rfl, h4, hb4⟩
    have D4 := Lib.hid (D3.out.trans (hb4.mono D3.out.size))
    have h3' := h3.below hb4
    obtain ⟨cs4, hrd4, -⟩ := id h4
    obtain ⟨_, a4, c4, rfl, -⟩ := hrd4
    clear hb4 h3
    have hne : ((L.length : Int) != (L.length : Int)) = false := by simp
    have H3 : Hid (Rws w4 (.slice a3 L.length c3) L) := Lib.hid h3'
    have H4 : Hid (Rws w4 (.slice a4 L.length c4) L) := Lib.hid h4
    clear h3' h4
    go_wp2_with fail
    go_loopw [25] (fun i wr => ∃ k : Nat, k ≤ L.length ∧ i = .int .i64 k ∧ Hid (Below w4.heap.size w4 wr)) (fun i _ => L.length - (intOf i).toNat)
    case atStart => exact ⟨0, Nat.zero_le _, rfl, Lib.hid (Below.refl _ _)⟩
    case round =>
      obtain ⟨k, hk, rfl, HB⟩ := hrel
      by_cases hlt : k < L.length
      · rcases Rws.form (H3.out.below HB.out) with ⟨h0, _⟩ | ⟨b3, o3, d3, e3, hat3⟩
        · rw [h0] at hlt; simp at hlt
        rcases Rws.form (H4.out.below HB.out) with ⟨h0, _⟩ | ⟨b4, o4, d4, e4, hat4⟩
        · rw [h0] at hlt; simp at hlt
        injection e3 with e31 e32 e33
        injection e4 with e41 e42 e43
        subst e31; subst e33; subst e41; subst e43
        obtain ⟨y3, q3, n3⟩ := hat3 k hlt
        obtain ⟨y4, q4, n4⟩ := hat4 k hlt
        have NN3 := Lib.hid (fun w1 (hb : Below wr.heap.size wr w1) => n3.below hb)
        have NN4 := Lib.hid (fun w1 (hb : Below wr.heap.size wr w1) => n4.below hb)
        have HLK : Hid (L[k].length ≤ 1000000) := Lib.hid (by have := HL.out _ (List.getElem_mem hlt); omega)
        obtain ⟨_, a5, c5, rfl, -⟩ := id n3
        obtain ⟨_, a6, c6, rfl, -⟩ := id n4
        have DR : Hid (Below wr.heap.size wr wr.drew) := Lib.hid (Below.refl _ _).drew
        clear n3 n4 hat3 hat4
        go_wp2_with fail
        go_still_tail 8, (by kernel_rfl)
        change wpList _ _ _ _ _ wr.drew
        go_wp2_with fail
        refine (sameR_any _ _ L[k] L[k] _ (NN3.out _ DR.out) (NN4.out _ DR.out) HLK.out).mono ?_
        rw [show sameN L[k] L[k] = true from decide_eq_true rfl]
        rintro e w5 ⟨rfl, hb5⟩
        have HB5 := Lib.hid (HB.out.trans ((DR.out.trans (hb5.mono DR.out.size)).mono HB.out.size))
        clear hb5
        go_wp2_with fail
        go_roundw
        case rel => exact ⟨k + 1, by omega, by go_num, HB5⟩
        case measure => simp [intOf]; omega
      · have D5 := Lib.hid (D4.out.trans (HB.out.mono D4.out.size))
        go_wp2_with fail
        refine (HA.out _).mono ?_
        rintro e w6 ⟨rfl, hb6⟩
        have D6 := Lib.hid (D5.out.trans (hb6.mono D5.out.size))
        clear hb6
        go_wp2_with fail
        refine (HC2.out _ D6.out).mono ?_
        rintro e w7 ⟨rfl, hb7⟩
        have D7 := Lib.hid (D6.out.trans (hb7.mono D6.out.size))
        clear hb7
        go_wp2_with fail
        refine (HR2.out _ D7.out).mono ?_
        rintro e w8 ⟨rfl, hb8⟩
        have D8 := Lib.hid (D7.out.trans (hb8.mono D7.out.size))
        clear hb8
        go_wp2_with fail
        go_ret
        exact ⟨ret_bool (by cases f <;> rfl), D8.out⟩
end Go.Proofs.Ytekblibhaipioaa.Do

namespace Go.Proofs.Ytekblibhaipioaa.Do
open Go Go.RowKit Go.Proofs.Ytekblibhaipioaa.Rw Go.Proofs.Ytekblibhaipioaa.So Go.Proofs.Ytekblibhaipioaa.Se
set_option maxRecDepth 20000

theorem besideP_no (v : Value) (l : List Nd) (z : Int) (w : World) (hv : Nds w v l) (hA : Calls Try.prog 34 #[v, .int .i64 z] w fun e w' => e = .returned (.bool false) ∧ Below w.heap.size w w') :
    Calls Try.prog 15 #[v, .int .i64 z] w fun e w' => ∃ y, e = .returned y ∧ Rws w' y [] ∧ Below w.heap.size w w' := by
  have HA := Lib.hid hA
  obtain ⟨_, a, c, rfl, -⟩ := hv
  clear hA
  go_enter Try.func15, Try.ntmps15
  go_wp2_with fail
  refine HA.out.mono ?_
  rintro e w1 ⟨rfl, hb1⟩
  have D1 := Lib.hid hb1
  clear hb1
  go_wp2_with fail
  go_ret
  exact ⟨_, rfl, Rws.below (GotK.start (Nat.le_refl _)).rws (Below.refl _ _), D1.out⟩
theorem besP_any (v : Value) (l : List Nd) (z : Int) (w : World) (hv : Nds w v l) (hl : l.length ≤ 1000) (hm : Nms l) :
    Calls Try.prog 15 #[v, .int .i64 z] w fun e w' => ∃ y, e = .returned y ∧ Rws w' y (bs l z) ∧ Below w.heap.size w w' := by
  have hA := isActive_any v l z w hv hl hm
  by_cases hz : z ∈ av l
  · rw [decide_eq_true hz] at hA
    have hs : setB l = true := by
      cases hs : setB l with
      | true => rfl
      | false => rw [av_no hs] at hz; cases hz
    obtain ⟨t, rfl, hg, hn⟩ := set_iff.1 hs
    obtain ⟨k, hk, rfl⟩ := (mem_av hg hn).1 hz
    rw [bs_go hg hn hk]
    obtain ⟨b, off, c, rfl, hc, hat⟩ := go_form hv
    exact besideP_go b off c t k w hat hc (by have := hg.2.1; omega) (by have := wt_in t 0 k hk; omega) hA
  · rw [decide_eq_false hz] at hA
    rw [bs_no hz]
    exact besideP_no v l z w hv hA
theorem any_bang {t : Tm} {k : Nat} (hg : Goes t) (hn : Nf t) (hk : k ∈ wt t 0) : ((pth t 0 k).1.map flat).any dm = (pth t 0 k).1.any bangT := by
  have h := pth_goes t 0 k hk hg hn
  generalize (pth t 0 k).1 = L at h ⊢
  induction L with
  | nil => rfl
  | cons u L ih =>
    rw [List.map_cons, List.any_cons, List.any_cons, ih fun x hx => h x (List.mem_cons_of_mem _ hx)]
    obtain ⟨h1, h2⟩ := h u (List.mem_cons_self ..)
    rw [dm_go h1 h2]
set_option maxHeartbeats 1000000 in
theorem freP_any (v : Value) (l : List Nd) (z : Int) (w : World) (hv : Nds w v l) (hl : l.length ≤ 1000) (hm : Nms l) :
    Calls Try.prog 18 #[v, .int .i64 z] w fun e w' => e = .returned (.bool (fr l z)) ∧ Below w.heap.size w w' := by
  have HA := Lib.hid (isActive_any v l z w hv hl hm)
  by_cases hz : z ∈ av l
  · rw [decide_eq_true hz] at HA
    have HB := Lib.hid (fun w1 (hb : Below w.heap.size w w1) => besP_any v l z w1 (hv.below hb) hl hm)
    have hs : setB l = true := by
      cases hs : setB l with
      | true => rfl
      | false => rw [av_no hs] at hz; cases hz
    obtain ⟨t, rfl, hg, hn⟩ := set_iff.1 hs
    obtain ⟨k, hk, rfl⟩ := (mem_av hg hn).1 hz
    rw [bs_go hg hn hk] at HB
    rw [fr_go hg hn hk, ← any_bang hg hn hk]
    obtain ⟨b, off, c, rfl, hc, hat⟩ := go_form hv
    have hkt : k < sz t := by have := wt_in t 0 k hk; omega
    have HWI := Lib.hid (fun w1 (hb : Below w.heap.size w w1) => within_any b off c t k w1 (at_below hat hb rfl) hc (by have := hg.2.1; omega) hkt)
    rw [(up_all t (flat t) 0 k (AtT.self t) (Nat.zero_le _) (by omega)).2] at HWI
    have eg : ∀ args w, (callFunc 13 args).run Try.prog w = .ok (.enter 13 args) w := enters_of Try.func13 (by kernel_rfl) rfl
    have HC := Lib.hid (fun y w1 (hr : Rws w1 y ((pth t 0 k).1.map flat)) => containsR_any 13 eg dm y _ w1 hr (by rw [List.length_map]; have := pth_len t 0 k; have := hg.2.1; omega) fun r hr wr a hn' => by
      obtain ⟨u, hu, rfl⟩ := List.mem_map.1 hr
      obtain ⟨h1, h2⟩ := pth_goes t 0 k hk hg hn u hu
      exact doomP_any a (flat u) wr hn' (by rw [Se.flat_len]; have := h1.2.1; omega) (nms_goes h1.1))
    generalize ((pth t 0 k).1.map flat) = L at HB HC ⊢
    generalize (pth t 0 k).2 = d at HWI ⊢
    generalize (wth (flat t) (abv t 0 k).reverse).1 = R at HWI
    generalize L.any dm = x at HC ⊢
    generalize sz t = n at HA HB HWI
    clear hv hat hs hz hg hn hk hl hm eg hkt
    cases d with
    | false =>
      go_enter Try.func18, Try.ntmps18
      go_wp2_with fail
      refine HA.out.mono ?_
      rintro e w1 ⟨rfl, hb1⟩
      have D1 := Lib.hid hb1
      clear hb1
      go_wp2_with fail
      refine (HWI.out _ D1.out).mono ?_
      rintro e w2 ⟨y, rfl, hpl, hb2⟩
      have D2 := Lib.hid (D1.out.trans (hb2.mono D1.out.size))
      clear hpl hb2
      go_wp2_with fail
      go_ret
      exact ⟨rfl, D2.out⟩
    | true =>
      go_enter Try.func18, Try.ntmps18
      go_wp2_with fail
      refine HA.out.mono ?_
      rintro e w1 ⟨rfl, hb1⟩
      have D1 := Lib.hid hb1
      clear hb1
      go_wp2_with fail
      refine (HWI.out _ D1.out).mono ?_
      rintro e w2 ⟨y, rfl, hpl, hb2⟩
      have D2 := Lib.hid (D1.out.trans (hb2.mono D1.out.size))
      clear hpl hb2
      go_wp2_with fail
      refine (HB.out _ D2.out).mono ?_
      rintro e w3 ⟨y3, rfl, hr3, hb3⟩
      have D3 := Lib.hid (D2.out.trans (hb3.mono D2.out.size))
      have R3 := Lib.hid hr3
      obtain ⟨_, ⟨_, a3, c3, rfl, -⟩, -⟩ := id hr3
      clear hr3 hb3
      go_wp2_with fail
      refine (HC.out _ _ R3.out).mono ?_
      rintro e w4 ⟨rfl, hb4⟩
      have D4 := Lib.hid (D3.out.trans (hb4.mono D3.out.size))
      clear hb4
      go_wp2_with fail
      go_ret
      exact ⟨rfl, D4.out⟩
  · rw [decide_eq_false hz] at HA
    rw [fr_no hz]
    obtain ⟨_, a, c, rfl, -⟩ := hv
    clear hm hz
    go_enter Try.func18, Try.ntmps18
    go_wp2_with fail
    refine HA.out.mono ?_
    rintro e w1 ⟨rfl, hb1⟩
    have D1 := Lib.hid hb1
    clear hb1
    go_wp2_with fail
    go_ret
    exact ⟨rfl, D1.out⟩
/-- Package doom's contracts. -/
theorem con : Con where
  act := actP_any
  doom := doomP_any
  bes := besP_any
  free := freP_any
end Go.Proofs.Ytekblibhaipioaa.Do

namespace Go.Proofs.Ytekblibhaipioaa.Do
open Go Go.RowKit Go.Proofs.Ytekblibhaipioaa.Rw Go.Proofs.Ytekblibhaipioaa.So Go.Proofs.Ytekblibhaipioaa.Se
set_option maxRecDepth 20000

/-- Is it a Block, and what is behind it has given way? -/
def gaveT (l : List Nd) (k : Nat) : Bool := match l[k]?, l[k + 1]? with
  | some x, some y => decide (x.k = 9) && decide (y = (⟨14, ⟨#[]⟩, 3⟩ : Nd))
  | _, _ => false
def gaveN (l : List Nd) (k : Nat) : Bool := (List.range k).any (gaveT l)
theorem gaveN_next (l : List Nd) (k : Nat) : gaveN l (k + 1) = (gaveN l k || gaveT l k) := by
  unfold gaveN
  rw [List.range_succ, List.any_append]
  simp
theorem gave_all {l : List Nd} {k : Nat} (h : gaveUp l = true) (hk : l.length ≤ k + 1) : gaveN l k = true := by
  obtain ⟨j, x, h1, h2, h3⟩ := gave_iff.1 h
  have hj := (List.getElem?_eq_some_iff.1 h3).1
  unfold gaveN
  rw [List.any_eq_true]
  refine ⟨j, List.mem_range.2 (by omega), ?_⟩
  unfold gaveT
  rw [h1, h3]
  simp [h2]
theorem gaveT_at {l : List Nd} {k : Nat} (h : k + 1 < l.length) : gaveT l k = (decide (l[k].k = 9) && decide (l[k + 1] = (⟨14, ⟨#[]⟩, 3⟩ : Nd))) := by
  unfold gaveT
  rw [List.getElem?_eq_getElem (by omega : k < l.length), List.getElem?_eq_getElem h]
theorem st_set {l : List Nd} (h : st l ≠ []) : ∃ u, st l = flat u ∧ Goes u ∧ Nf u ∧ sz u ≤ l.length := by
  obtain ⟨t, rfl, hg, e⟩ := st_some h
  exact ⟨S t, e, hg.S, S_nf t, by rw [Se.flat_len]; exact S_sz t⟩
theorem av_none {l : List Nd} (h : st l = []) : av l = [] := by
  refine av_no ?_
  cases hs : setB l with
  | false => rfl
  | true =>
    obtain ⟨t, rfl, hg, hn⟩ := set_iff.1 hs
    rw [st_go hg, nf_S t hn] at h
    exact absurd h (flat_ne t)
set_option maxHeartbeats 8000000 in
theorem waits_law (C : Con) (A : Alive) (v : Value) (l : List Nd) (w0 : World) (hv : Nds w0 v l) (hm : Nms l) :
    Calls Try.prog 5 #[v] w0 fun e w' => e = .returned (.bool true) ∧ Below w0.heap.size w0 w' := by
  have HF := Lib.hid (few_any v l w0 hv)
  have HA := Lib.hid A
  unfold Alive at HA
  cases hf : fewB l with
  | false =>
    rw [hf] at HF
    obtain ⟨_, a, c, rfl, -⟩ := id hv
    clear hv hm hf
    go_enter Try.func5, Try.ntmps5
    go_wp2_with fail
    refine HF.out.mono ?_
    rintro e w1 ⟨rfl, rfl⟩
    go_wp2_with fail
    refine (HA.out _).mono ?_
    rintro e w2 ⟨rfl, hb2⟩
    have D2 := Lib.hid hb2
    clear hb2
    go_wp2_with fail
    go_ret
    exact ⟨rfl, D2.out⟩
  | true =>
    rw [hf] at HF
    have hl := few_len hf
    have HS := Lib.hid (fun w1 (hb : Below w0.heap.size w0 w1) => settleP_any v l w1 (hv.below hb) (by omega) hm)
    by_cases hst : st l = []
    · have HC := Lib.hid (fun w1 (hb : Below w0.heap.size w0 w1) => C.act v l w1 (hv.below hb) (by omega) hm)
      rw [av_none hst] at HC
      rw [hst] at HS
      obtain ⟨_, a, c, rfl, -⟩ := id hv
      clear hv hm hf hst
      go_enter Try.func5, Try.ntmps5
      go_wp2_with fail
      refine HF.out.mono ?_
      rintro e w1 ⟨rfl, rfl⟩
      go_wp2_with fail
      refine (HS.out _ (Below.refl _ _)).mono ?_
      rintro e w2 ⟨y, rfl, hn, hb2⟩
      obtain ⟨_, a2, c2, rfl, -⟩ := id hn
      simp only [List.length_nil] at *
      have D2 := Lib.hid hb2
      clear hb2 hn
      go_wp2_with fail
      refine (HA.out _).mono ?_
      rintro e w3 ⟨rfl, hb3⟩
      have D3 := Lib.hid (D2.out.trans (hb3.mono D2.out.size))
      clear hb3
      go_wp2_with fail
      refine (HC.out _ D3.out).mono ?_
      rintro e w4 ⟨y, rfl, hi, hb4⟩
      obtain ⟨_, a4, c4, rfl, -⟩ := id hi
      simp only [List.length_nil] at *
      have D4 := Lib.hid (D3.out.trans (hb4.mono D3.out.size))
      clear hb4 hi
      go_wp2_with fail
      go_ret
      exact ⟨rfl, D4.out⟩
    · obtain ⟨u, hu, hg, hn, hsz⟩ := st_set hst
      rw [hu] at HS
      have hm' : Nms (flat u) := nms_goes hg.1
      have hlu : (flat u).length ≤ 1000 := by rw [Se.flat_len]; have := hg.2.1; omega
      have HC := Lib.hid (fun y w1 (h : Nds w1 y (flat u)) => C.act y (flat u) w1 h hlu hm')
      rw [av_go hg hn] at HC
      -- what is told in the end
      have HE : Hid (∀ g : Bool, (gaveUp (flat u) = true → g = true) → (((kd u == 11) = true ∨ (kd u == 14) = true) ∧ (wt u 0).length = 0) ∨ ((kd u == 11) = false ∧ (kd u == 14) = false ∧ ((0 < (wt u 0).length) ∨ g = true))) := by
        refine Lib.hid fun g hgv => ?_
        by_cases h11 : kd u = 11
        · obtain ⟨s, rfl⟩ := kd11 h11
          exact .inl ⟨.inl rfl, rfl⟩
        · by_cases h14 : kd u = 14
          · obtain ⟨s, c, rfl⟩ := kd14 h14
            exact .inl ⟨.inr rfl, rfl⟩
          · refine .inr ⟨beq_eq_false_iff_ne.2 h11, beq_eq_false_iff_ne.2 h14, ?_⟩
            rcases nf_ends u hn hg.1 hg.2.2 with h | h | h | h
            · refine .inl (List.length_pos_iff.2 fun e => ?_)
              rw [(wt_waits u 0).1 e] at h
              cases h
            · cases u <;> first | exact absurd rfl h11 | cases h
            · cases u <;> first | exact absurd rfl h14 | cases h
            · exact .inr (hgv (stuck_gave u h))
      have hlen := Se.flat_len u
      have hpos := sz_pos u
      obtain ⟨_, a, c, rfl, -⟩ := id hv
      obtain ⟨m, hmu⟩ : ∃ m, m = flat u := ⟨_, rfl⟩
      have hposl : 0 < m.length := by rw [hmu]; omega
      have HKD : Hid (∀ h : 0 < m.length, m[0].k = kd u) := by subst hmu; exact Lib.hid fun h => (at0 h).1
      have HUP : Hid (∀ k, m.length ≤ k + 1 → gaveUp (flat u) = true → gaveN m k = true) := by subst hmu; exact Lib.hid fun k hk h => gave_all h hk
      rw [← hmu] at HS HC hlu hm'
      have HSTEP := Lib.hid (gaveN_next m)
      have HAT : Hid (∀ k, (h : k + 1 < m.length) → gaveT m k = (decide (m[k].k = 9) && decide (m[k + 1] = (⟨14, ⟨#[]⟩, 3⟩ : Nd)))) := Lib.hid fun k h => gaveT_at h
      generalize kd u = kk at HE HKD
      have hwl : ((wt u 0).map Int.ofNat).length = (wt u 0).length := List.length_map ..
      generalize (wt u 0).map Int.ofNat = V at HC hwl
      generalize (wt u 0).length = nW at HE hwl
      generalize gaveUp (flat u) = gU at HE HUP
      clear hmu
      have HWL := Lib.hid hwl
      clear hv hm hf hst hu hlen hpos hg hn hsz hwl
      go_enter Try.func5, Try.ntmps5
      go_wp2_with fail
      refine HF.out.mono ?_
      rintro e w1 ⟨rfl, rfl⟩
      go_wp2_with fail
      refine (HS.out _ (Below.refl _ _)).mono ?_
      rintro e w2 ⟨y, rfl, hn, hb2⟩
      have N2 := Lib.hid hn
      have D2 := Lib.hid hb2
      rcases hn.form with ⟨h0, _⟩ | ⟨b, o, c2, rfl, hc2, hat⟩
      · rw [h0] at hposl; simp at hposl
      have AT := Lib.hid hat
      clear hb2 hn hat
      have gne : ((m.length : Int) == 0) = false := beq_eq_false_iff_ne.2 (by omega)
      go_wp2_with fail
      go_loopw [4, 5] (fun g i wr => wr = w2 ∧ ∃ k : Nat, k + 1 ≤ m.length ∧ i = .int .i64 k ∧ g = .bool (gaveN m k)) (fun _ i _ => m.length - (intOf i).toNat)
      case atStart => exact ⟨rfl, 0, by omega, rfl, rfl⟩
      case round =>
        obtain ⟨rfl, k, hk, rfl, rfl⟩ := hrel
        by_cases hlt : k + 1 < m.length
        · obtain ⟨e1, -, -⟩ := AT.out k (by omega)
          obtain ⟨f1, f2, f3⟩ := AT.out (k + 1) hlt
          have HT := Lib.hid ((HSTEP.out k).trans (by rw [HAT.out k hlt]))
          generalize m[k].k = k1 at e1 HT
          obtain ⟨x, hx⟩ : ∃ x, m[k + 1] = x := ⟨_, rfl⟩
          rw [hx] at f1 f2 f3 HT
          obtain ⟨xk, xn, xs⟩ := x
          simp only at f1 f2 f3
          have hq : ∀ w, (binOp .eql 34 (.agg #[.int .i64 xk, .string xn, .int .i64 xs]) (.agg #[.int .i64 14, .string ⟨#[]⟩, .int .i64 3])).run Try.prog w = .ok (.bool (decide ((⟨xk, xn, xs⟩ : Nd) = ⟨14, ⟨#[]⟩, 3⟩))) w := fun w => eq_bare xk xs 14 3 xn w
          generalize decide ((⟨xk, xn, xs⟩ : Nd) = ⟨14, ⟨#[]⟩, 3⟩) = z at hq HT
          clear hx
          generalize gaveN m k = g0 at HT ⊢
          cases g0 with
          | true =>
            have HG : Hid (gaveN m (k + 1) = true) := Lib.hid (by rw [HT.out]; rfl)
            clear hq
            go_wp2_with fail
            go_roundw
            case rel => exact ⟨trivial, k + 1, by omega, by go_num, by rw [HG.out]⟩
            case measure => simp [intOf]; omega
          | false =>
            by_cases h9 : k1 = 9
            · subst h9
              have HG : Hid (gaveN m (k + 1) = z) := Lib.hid (by rw [HT.out]; simp)
              go_wp2_with fail
              go_roundw
              case rel => exact ⟨trivial, k + 1, by omega, by go_num, by rw [HG.out]⟩
              case measure => simp [intOf]; omega
            · have HG : Hid (gaveN m (k + 1) = false) := Lib.hid (by rw [HT.out, decide_eq_false h9]; rfl)
              have h9' : (k1 == 9) = false := beq_eq_false_iff_ne.2 h9
              clear hq h9
              go_wp2_with fail
              go_roundw
              case rel => exact ⟨trivial, k + 1, by omega, by go_num, by rw [HG.out]⟩
              case measure => simp [intOf]; omega
        · obtain ⟨e1, -, -⟩ := AT.out 0 hposl
          rw [HKD.out hposl, Nat.zero_mul, Nat.add_zero] at e1
          have hE := HE.out (gaveN m k) (HUP.out k (by omega))
          have hbl := Ap.cell_lt e1
          have EW : Hid (∀ w', Below wr.heap.size wr w' → w'.cell? ⟨b, o, none⟩ = some (.int .i64 kk)) := Lib.hid fun w' hb => by rw [hb.cell (p := ⟨b, o, none⟩) hbl]; exact e1
          clear e1 hbl
          generalize gaveN m k = g at hE ⊢
          go_wp2_with fail
          refine (HC.out _ _ N2.out).mono ?_
          rintro e w3 ⟨y, rfl, hi, hb3⟩
          obtain ⟨_, a3, c3, rfl, -⟩ := id hi
          rw [HWL.out]
          have e1 := EW.out w3 hb3
          have D3 := Lib.hid (D2.out.trans (hb3.mono D2.out.size))
          clear hb3 hi
          rcases hE with ⟨hk2, rfl⟩ | ⟨h11, h14, hg2⟩
          · have hk3 : (kk == 11) = true ∨ ((kk == 11) = false ∧ (kk == 14) = true) := by
              cases h11 : kk == 11 with
              | true => exact .inl rfl
              | false => exact .inr ⟨rfl, hk2.resolve_left (by rw [h11]; simp)⟩
            clear hk2
            rcases hk3 with h11 | ⟨h11, h14⟩
            all_goals
              go_wp2_with fail
              refine (HA.out _).mono ?_
              rintro e w4 ⟨rfl, hb4⟩
              have D4 := Lib.hid (D3.out.trans (hb4.mono D3.out.size))
              clear hb4
              go_wp2_with fail
              go_ret
              exact ⟨rfl, D4.out⟩
          · by_cases hn0 : 0 < nW
            · have hn1 : ((0 : Int) < (nW : Int)) = True := by simp; omega
              clear hg2
              go_wp2_with fail
              refine (HA.out _).mono ?_
              rintro e w4 ⟨rfl, hb4⟩
              have D4 := Lib.hid (D3.out.trans (hb4.mono D3.out.size))
              clear hb4
              go_wp2_with fail
              go_ret
              exact ⟨rfl, D4.out⟩
            · obtain rfl := hg2.resolve_left hn0
              obtain rfl : nW = 0 := by omega
              go_wp2_with fail
              refine (HA.out _).mono ?_
              rintro e w4 ⟨rfl, hb4⟩
              have D4 := Lib.hid (D3.out.trans (hb4.mono D3.out.size))
              clear hb4
              go_wp2_with fail
              go_ret
              exact ⟨rfl, D4.out⟩
end Go.Proofs.Ytekblibhaipioaa.Do

namespace Go.Proofs.Ytekblibhaipioaa.Do
open Go Go.RowKit Go.Proofs.Ytekblibhaipioaa.Rw Go.Proofs.Ytekblibhaipioaa.So Go.Proofs.Ytekblibhaipioaa.Se
set_option maxRecDepth 20000

theorem out_free {u : Tm} (hg : Goes u) (hn : Nf u) (h : noB u = true) {z : Int} (hz : z ∈ av (flat u)) : fr (flat u) z = true := by
  obtain ⟨k, hk, rfl⟩ := (mem_av hg hn).1 hz
  rw [fr_go hg hn hk, pth_noB u 0 k h]
  rfl
theorem out_bes {u : Tm} (hg : Goes u) (hn : Nf u) (h : noP u = true) {z : Int} (hz : z ∈ av (flat u)) : bs (flat u) z = [] := by
  obtain ⟨k, hk, rfl⟩ := (mem_av hg hn).1 hz
  rw [bs_go hg hn hk, pth_noP u 0 k h]
  rfl
theorem blk_free {u : Tm} (h : noP u = true) {z : Int} (hz : z ∈ av (nOf 9 :: flat u)) : fr (nOf 9 :: flat u) z = false := by
  have hs : setB (nOf 9 :: flat u) = true := by
    cases hs : setB (nOf 9 :: flat u) with
    | true => rfl
    | false => rw [av_no hs] at hz; cases hz
  obtain ⟨t, e, hg, hn⟩ := set_iff.1 hs
  obtain rfl : t = .block u := flat_inj _ _ e
  change z ∈ av (flat (.block u)) at hz
  obtain ⟨k, hk, rfl⟩ := (mem_av hg hn).1 hz
  have hin := wt_in u 1 k hk
  show fr (flat (.block u)) (k : Int) = false
  rw [fr_go hg hn hk, show pth (.block u) 0 k = ((pth u 1 k).1, true) from by rw [pth, if_neg (by omega)], pth_noP u 1 k h]
  rfl
/-- Is it a Block or a Par? -/
def bp (x : Nd) : Bool := decide (x.k = 9) || decide (x.k = 7)
theorem bp_take {m : List Nd} {k : Nat} (h : k < m.length) : (m.take (k + 1)).countP bp = (m.take k).countP bp + if bp m[k] then 1 else 0 := by
  rw [List.take_succ_eq_append_getElem h, List.countP_append, List.countP_cons, List.countP_nil, Nat.zero_add]
theorem bp_no {u : Tm} (h : (flat u).countP bp = 0) : noB u = true ∧ noP u = true := by
  rw [List.countP_eq_zero] at h
  constructor
  · rw [cnt9, List.countP_eq_zero]
    intro x hx hk
    exact h x hx (by unfold bp; rw [hk]; rfl)
  · rw [cnt7, List.countP_eq_zero]
    intro x hx hk
    exact h x hx (by unfold bp; rw [hk, Bool.or_true])
set_option maxHeartbeats 8000000 in
theorem outside_law (C : Con) (A : Alive) (v : Value) (l : List Nd) (w0 : World) (hv : Nds w0 v l) (hm : Nms l) :
    Calls Try.prog 6 #[v] w0 fun e w' => e = .returned (.bool true) ∧ Below w0.heap.size w0 w' := by
  have HF := Lib.hid (few_any v l w0 hv)
  have HA := Lib.hid A
  unfold Alive at HA
  cases hf : fewB l with
  | false =>
    rw [hf] at HF
    obtain ⟨_, a, c, rfl, -⟩ := id hv
    clear hv hm hf
    go_enter Try.func6, Try.ntmps6
    go_wp2_with fail
    refine HF.out.mono ?_
    rintro e w1 ⟨rfl, rfl⟩
    go_wp2_with fail
    refine (HA.out _).mono ?_
    rintro e w2 ⟨rfl, hb2⟩
    have D2 := Lib.hid hb2
    clear hb2
    go_wp2_with fail
    go_ret
    exact ⟨rfl, D2.out⟩
  | true =>
    rw [hf] at HF
    have hl := few_len hf
    have HS := Lib.hid (fun w1 (hb : Below w0.heap.size w0 w1) => settleP_any v l w1 (hv.below hb) (by omega) hm)
    have hsl := st_len l
    by_cases hst : st l = []
    · rw [hst] at HS
      obtain ⟨_, a, c, rfl, -⟩ := id hv
      clear hv hm hf hst hsl
      go_enter Try.func6, Try.ntmps6
      go_wp2_with fail
      refine HF.out.mono ?_
      rintro e w1 ⟨rfl, rfl⟩
      go_wp2_with fail
      refine (HS.out _ (Below.refl _ _)).mono ?_
      rintro e w2 ⟨y, rfl, hn, hb2⟩
      obtain ⟨_, a2, c2, rfl, -⟩ := id hn
      simp only [List.length_nil] at *
      have D2 := Lib.hid hb2
      clear hb2 hn
      go_wp2_with fail
      refine Go.wp_loop_rounds 1 ?_
      rw [rounds_succ]
      go_wp2_with fail
      refine (HA.out _).mono ?_
      rintro e w3 ⟨rfl, hb3⟩
      have D3 := Lib.hid (D2.out.trans (hb3.mono D2.out.size))
      clear hb3
      go_wp2_with fail
      go_ret
      exact ⟨rfl, D3.out⟩
    · obtain ⟨u, hu, hg, hn, hsz⟩ := st_set hst
      rw [hu] at HS
      have hlu : (flat u).length ≤ 100 := by rw [Se.flat_len]; omega
      have HC := Lib.hid (fun y w1 (h : Nds w1 y (flat u)) => C.act y (flat u) w1 h (by omega) (nms_goes hg.1))
      have HC2 := Lib.hid (fun y z w1 (h : Nds w1 y (flat u)) => C.free y (flat u) z w1 h (by omega) (nms_goes hg.1))
      have HC3 := Lib.hid (fun y z w1 (h : Nds w1 y (flat u)) => C.bes y (flat u) z w1 h (by omega) (nms_goes hg.1))
      have hnb : Nms (nOf 9 :: flat u) := fun z hz => by
        rcases List.mem_cons.1 hz with rfl | hz
        · exact Nat.zero_le _
        · exact nms_goes hg.1 z hz
      have HB1 := Lib.hid (fun y w1 (h : Nds w1 y (nOf 9 :: flat u)) => C.act y (nOf 9 :: flat u) w1 h (by simp; omega) hnb)
      have HB2 := Lib.hid (fun y z w1 (h : Nds w1 y (nOf 9 :: flat u)) => C.free y (nOf 9 :: flat u) z w1 h (by simp; omega) hnb)
      have HON := Lib.hid (fun y w1 (h : Nds w1 y (flat u)) => (oneR_any (nOf 9) y (flat u) w1 h (by omega)).mono fun (e : Ending) (w' : World) ⟨y', he, ho, hb⟩ => (⟨y', he, Ap.Rd.owned ho, hb⟩ : OutL (nOf 9 :: flat u) w1 e w'))
      have HY : Hid ((flat u).countP bp = 0 → (∀ z, z ∈ av (flat u) → fr (flat u) z = true ∧ bs (flat u) z = []) ∧ (∀ z, z ∈ av (nOf 9 :: flat u) → fr (nOf 9 :: flat u) z = false)) := Lib.hid fun h => by
        obtain ⟨h1, h2⟩ := bp_no h
        exact ⟨fun z hz => ⟨out_free hg hn h1 hz, out_bes hg hn h2 hz⟩, fun z hz => blk_free h2 hz⟩
      have HL1 := av_len (flat u)
      have HL2 := av_len (nOf 9 :: flat u)
      have hl2 : (av (nOf 9 :: flat u)).length ≤ 101 := by simp only [List.length_cons] at HL2; omega
      have hl1 : (av (flat u)).length ≤ 101 := by omega
      have hpos : 0 < (flat u).length := by rw [Se.flat_len]; exact sz_pos u
      obtain ⟨_, a, c, rfl, -⟩ := id hv
      unfold OutL at HON
      generalize av (nOf 9 :: flat u) = V2 at HB1 HY hl2
      generalize av (flat u) = V1 at HC HY hl1
      obtain ⟨m, hmu⟩ : ∃ m, m = flat u := ⟨_, rfl⟩
      rw [← hmu] at HS HC HC2 HC3 HB1 HB2 HON HY hlu hpos
      have HT := Lib.hid (fun k (h : k < m.length) => bp_take h)
      clear hv hm hf hst hu hsz hg hn hnb HL1 HL2 hsl hmu
      go_enter Try.func6, Try.ntmps6
      go_wp2_with fail
      refine HF.out.mono ?_
      rintro e w1 ⟨rfl, rfl⟩
      go_wp2_with fail
      refine (HS.out _ (Below.refl _ _)).mono ?_
      rintro e w2 ⟨y, rfl, hn, hb2⟩
      have N2 := Lib.hid (fun w' (hb : Below w2.heap.size w2 w') => hn.below hb)
      have D2 := Lib.hid hb2
      rcases hn.form with ⟨h0, _⟩ | ⟨b, o, c2, rfl, hc2, hat⟩
      · rw [h0] at hpos; simp at hpos
      have AT := Lib.hid hat
      clear hb2 hn hat
      go_wp2_with fail
      go_loopw [4, 20] (fun g i wr => ∃ k : Nat, k ≤ m.length ∧ i = .int .i64 k ∧ g = .int .i64 ((m.take k).countP bp : Nat) ∧ Hid (Below w2.heap.size w2 wr)) (fun _ i _ => m.length - (intOf i).toNat)
      case atStart => exact ⟨0, Nat.zero_le _, rfl, rfl, Lib.hid (Below.refl _ _)⟩
      case round =>
        obtain ⟨k, hk, rfl, rfl, HB⟩ := hrel
        by_cases hlt : k < m.length
        · obtain ⟨e1, e2, e3⟩ := AT.out k hlt
          have c1 : wr.cell? ⟨b, o + k * 3, none⟩ = some (.int .i64 m[k].k) := by rw [HB.out.cell (Ap.cell_lt e1)]; exact e1
          have c2' : wr.cell? ⟨b, o + k * 3 + 1, none⟩ = some (.string m[k].n) := by rw [HB.out.cell (Ap.cell_lt e2)]; exact e2
          have c3 : wr.cell? ⟨b, o + k * 3 + 2, none⟩ = some (.int .i64 m[k].s) := by rw [HB.out.cell (Ap.cell_lt e3)]; exact e3
          have HK := Lib.hid (HT.out k hlt)
          obtain ⟨x, hx⟩ : ∃ x, m[k] = x := ⟨_, rfl⟩
          rw [hx] at c1 c2' c3 HK
          obtain ⟨xk, xn, xs⟩ := x
          simp only at c1 c2' c3
          have hcb : (m.take k).countP bp ≤ k := Nat.le_trans List.countP_le_length (by simp; omega)
          obtain ⟨q, hq⟩ : ∃ q, (m.take k).countP bp = q := ⟨_, rfl⟩
          rw [hq] at HK hcb ⊢
          clear e1 e2 e3 hx hq
          by_cases h9 : xk = 9
          · have HG : Hid ((m.take (k + 1)).countP bp = q + 1) := Lib.hid (by rw [HK.out]; simp [bp, h9])
            have h9' : (xk == 9) = true := by simpa using h9
            clear h9
            go_wp2_with fail
            go_roundw
            case rel => exact ⟨k + 1, by omega, by go_num, by rw [HG.out]; go_num, Lib.hid (HB.out.trans ((below1 wr _).mono HB.out.size))⟩
            case measure => simp [intOf]; omega
          · have h9' : (xk == 9) = false := beq_eq_false_iff_ne.2 h9
            by_cases h7 : xk = 7
            · have HG : Hid ((m.take (k + 1)).countP bp = q + 1) := Lib.hid (by rw [HK.out]; simp [bp, h7])
              have h7' : (xk == 7) = true := by simpa using h7
              clear h9 h7
              go_wp2_with fail
              go_roundw
              case rel => exact ⟨k + 1, by omega, by go_num, by rw [HG.out]; go_num, Lib.hid (HB.out.trans ((below1 wr _).mono HB.out.size))⟩
              case measure => simp [intOf]; omega
            · have HG : Hid ((m.take (k + 1)).countP bp = q) := Lib.hid (by rw [HK.out]; simp [bp, h9, h7])
              have h7' : (xk == 7) = false := beq_eq_false_iff_ne.2 h7
              clear h9 h7
              go_wp2_with fail
              go_roundw
              case rel => exact ⟨k + 1, by omega, by go_num, by rw [HG.out], Lib.hid (HB.out.trans ((below1 wr _).mono HB.out.size))⟩
              case measure => simp [intOf]; omega
        · have hall : m.take k = m := List.take_of_length_le (by omega)
          have DW := Lib.hid (D2.out.trans (HB.out.mono D2.out.size))
          rw [hall]
          have gne : ((m.length : Int) == 0) = false := beq_eq_false_iff_ne.2 (by omega)
          by_cases hq0 : m.countP bp = 0
          · have HY' := Lib.hid (HY.out hq0)
            rw [hq0]
            have NW := Lib.hid (N2.out _ HB.out)
            have NX := Lib.hid (fun w' (hb : Below wr.heap.size wr w') => (N2.out _ HB.out).below hb)
            clear hall hq0
            go_wp2_with fail
            refine (HC.out _ _ NW.out).mono ?_
            rintro e w3 ⟨y3, rfl, hi, hb3⟩
            have D3 := Lib.hid (DW.out.trans (hb3.mono DW.out.size))
            have F3 := Lib.hid hb3
            have I3 := Lib.hid (fun w' (hb : Below w3.heap.size w3 w') => hi.below hb)
            obtain ⟨_, a3, c3, rfl, -⟩ := id hi
            clear hb3 hi
            go_wp2_with fail
            go_loopw [46] (fun i wq => ∃ j : Nat, j ≤ V1.length ∧ i = .int .i64 j ∧ Hid (Below w3.heap.size w3 wq)) (fun i _ => V1.length - (intOf i).toNat)
            case atStart => exact ⟨0, Nat.zero_le _, rfl, Lib.hid (Below.refl _ _)⟩
            case round =>
              obtain ⟨j, hj, rfl, HQ⟩ := hrel
              by_cases hjl : j < V1.length
              · rcases Ints.form (I3.out _ HQ.out) with ⟨h0, _⟩ | ⟨b4, o4, c4, e4, _, hat4⟩
                · rw [h0] at hjl; simp at hjl
                injection e4 with e41 e42 e43
                subst e41; subst e43
                have q4 := hat4 j hjl
                obtain ⟨hfr, hbs⟩ := (HY'.out).1 V1[j] (List.getElem_mem hjl)
                have G1 := Lib.hid (fun y w1 (h : Nds w1 y m) => HC2.out y V1[j] w1 h)
                have G2 := Lib.hid (fun y w1 (h : Nds w1 y m) => HC3.out y V1[j] w1 h)
                rw [hfr] at G1
                rw [hbs] at G2
                generalize V1[j] = z at q4 G1 G2
                have F4 := Lib.hid (F3.out.trans (HQ.out.mono F3.out.size))
                clear hat4 hfr hbs
                go_wp2_with fail
                refine (G1.out _ _ (NX.out _ F4.out)).mono ?_
                rintro e w5 ⟨rfl, hb5⟩
                have HQ5 := Lib.hid (HQ.out.trans (hb5.mono HQ.out.size))
                have F5 := Lib.hid (F3.out.trans (HQ5.out.mono F3.out.size))
                clear hb5
                go_wp2_with fail
                refine (G2.out _ _ (NX.out _ F5.out)).mono ?_
                rintro e w6 ⟨y6, rfl, hr6, hb6⟩
                obtain ⟨cs6, hrd6, -⟩ := hr6
                obtain ⟨_, a6, c6, rfl, -⟩ := hrd6
                simp only [List.length_nil] at *
                have HQ6 := Lib.hid (HQ5.out.trans (hb6.mono HQ5.out.size))
                clear hb6
                go_wp2_with fail
                go_roundw
                case rel => exact ⟨j + 1, by omega, by go_num, HQ6⟩
                case measure => simp [intOf]; omega
              · have F4 := Lib.hid (F3.out.trans (HQ.out.mono F3.out.size))
                have D4 := Lib.hid (D3.out.trans (HQ.out.mono D3.out.size))
                have NY := Lib.hid (NX.out _ F4.out)
                go_wp2_with fail
                refine (HON.out _ _ NY.out).mono ?_
                rintro e w5 ⟨y5, rfl, hn5, hb5⟩
                have D5 := Lib.hid (D4.out.trans (hb5.mono D4.out.size))
                have N5 := Lib.hid (fun w' (hb : Below w5.heap.size w5 w') => hn5.below hb)
                obtain ⟨_, a5, c5, rfl, -⟩ := id hn5
                have M5 := Lib.hid hn5
                clear hb5 hn5
                go_wp2_with fail
                refine (HB1.out _ _ M5.out).mono ?_
                rintro e w6 ⟨y6, rfl, hi6, hb6⟩
                have D6 := Lib.hid (D5.out.trans (hb6.mono D5.out.size))
                have F6 := Lib.hid hb6
                have I6 := Lib.hid (fun w' (hb : Below w6.heap.size w6 w') => hi6.below hb)
                obtain ⟨_, a6, c6, rfl, -⟩ := id hi6
                clear hb6 hi6
                go_wp2_with fail
                go_loopw [68] (fun i wq => ∃ j : Nat, j ≤ V2.length ∧ i = .int .i64 j ∧ Hid (Below w6.heap.size w6 wq)) (fun i _ => V2.length - (intOf i).toNat)
                case atStart => exact ⟨0, Nat.zero_le _, rfl, Lib.hid (Below.refl _ _)⟩
                case round =>
                  obtain ⟨j, hj, rfl, HQ⟩ := hrel
                  by_cases hjl : j < V2.length
                  · rcases Ints.form (I6.out _ HQ.out) with ⟨h0, _⟩ | ⟨b4, o4, c4, e4, _, hat4⟩
                    · rw [h0] at hjl; simp at hjl
                    injection e4 with e41 e42 e43
                    subst e41; subst e43
                    have q4 := hat4 j hjl
                    have hfr := (HY'.out).2 V2[j] (List.getElem_mem hjl)
                    have G1 := Lib.hid (fun y w1 (h : Nds w1 y (nOf 9 :: m)) => HB2.out y V2[j] w1 h)
                    rw [hfr] at G1
                    generalize V2[j] = z at q4 G1
                    have F7 := Lib.hid (F6.out.trans (HQ.out.mono F6.out.size))
                    clear hat4 hfr
                    go_wp2_with fail
                    refine (G1.out _ _ (N5.out _ F7.out)).mono ?_
                    rintro e w7 ⟨rfl, hb7⟩
                    have HQ7 := Lib.hid (HQ.out.trans (hb7.mono HQ.out.size))
                    clear hb7
                    go_wp2_with fail
                    go_roundw
                    case rel => exact ⟨j + 1, by omega, by go_num, HQ7⟩
                    case measure => simp [intOf]; omega
                  · have D8 := Lib.hid (D6.out.trans (HQ.out.mono D6.out.size))
                    go_wp2_with fail
                    refine (HA.out _).mono ?_
                    rintro e w9 ⟨rfl, hb9⟩
                    have D9 := Lib.hid (D8.out.trans (hb9.mono D8.out.size))
                    clear hb9
                    go_wp2_with fail
                    go_ret
                    exact ⟨rfl, D9.out⟩
          · obtain ⟨q, hq⟩ : ∃ q, m.countP bp = q := ⟨_, rfl⟩
            rw [hq] at hq0 ⊢
            have hq1 : ((0 : Int) < (q : Int)) = True := by simp; omega
            clear hall hq
            go_wp2_with fail
            refine (HA.out _).mono ?_
            rintro e w3 ⟨rfl, hb3⟩
            have D3 := Lib.hid (DW.out.trans (hb3.mono DW.out.size))
            clear hb3
            go_wp2_with fail
            go_ret
            exact ⟨rfl, D3.out⟩
end Go.Proofs.Ytekblibhaipioaa.Do
