/- Rests of two rows in memory; the program's firsts: the walk. -/
import Derived.Test.YtmhmfnjjdcdkcaaDoorTt6
import Derived.Test.YtmhmfnjjdcdkcaaDoorTmm
import Derived.Test.YtmhmfnjjdcdkcaaDoorTt9
import Derived.Sort.OwnSorted
import Derived.Lib.OwnBridge
namespace Go.Proofs.YtmhmfnjjdcdkcaaDoor.Tr
open Go Go.RowKit
set_option maxRecDepth 20000

/-- The cells of some rests. -/
def RsC (ok : Nat → Prop) (w : World) : List Value → List Rst → Prop
  | [], [] => True
  | a :: b :: cs, q :: qs => StrsO ok w a q.1 ∧ StrsO ok w b q.2 ∧ RsC ok w cs qs
  | _, _ => False
/-- A slice of rests that reads as these. -/
def Rss (ok : Nat → Prop) (w : World) (v : Value) (left : List Rst) : Prop := ∃ cs, Ap.RdO ok w 2 v left.length cs ∧ RsC ok w cs left
theorem RsC.map {ok ok' : Nat → Prop} {w w' : World} (h : ∀ v l, StrsO ok w v l → StrsO ok' w' v l) : ∀ {cs : List Value} {qs : List Rst}, RsC ok w cs qs → RsC ok' w' cs qs
  | [], [], _ => trivial
  | _ :: _ :: _, _ :: _, hr => ⟨h _ _ hr.1, h _ _ hr.2.1, RsC.map h hr.2.2⟩
  | [], _ :: _, hr => hr.elim
  | [_], [], hr => hr.elim
  | [_], _ :: _, hr => hr.elim
  | _ :: _ :: _, [], hr => hr.elim
theorem RsC.at {ok : Nat → Prop} {w : World} : ∀ {cs : List Value} {qs : List Rst}, RsC ok w cs qs → ∀ k (hk : k < qs.length), ∃ a b, cs[2 * k]? = some a ∧ cs[2 * k + 1]? = some b ∧ StrsO ok w a qs[k].1 ∧ StrsO ok w b qs[k].2
  | [], [], _, k, hk => by simp at hk
  | a :: b :: cs, q :: qs, h, 0, _ => ⟨a, b, rfl, rfl, h.1, h.2.1⟩
  | a :: b :: cs, q :: qs, h, k + 1, hk => by
    obtain ⟨x, y, h1, h2, h3⟩ := RsC.at h.2.2 k (by simpa using hk)
    refine ⟨x, y, ?_, ?_, h3⟩
    · rw [show 2 * (k + 1) = 2 * k + 1 + 1 by omega]; simpa using h1
    · rw [show 2 * (k + 1) + 1 = 2 * k + 1 + 1 + 1 by omega]; simpa using h2
  | [], _ :: _, h, _, _ => h.elim
  | [_], [], h, _, _ => h.elim
  | [_], _ :: _, h, _, _ => h.elim
  | _ :: _ :: _, [], h, _, _ => h.elim
/-- A rest of a row: its two cells. -/
theorem Rss.form {ok : Nat → Prop} {w : World} {v : Value} {qs : List Rst} (h : Rss ok w v qs) : ∃ a cap, v = .slice a qs.length cap ∧
    ∀ k, (hk : k < qs.length) → ∃ b off x y, a = some ⟨b, off, none⟩ ∧ w.cell? ⟨b, off + k * 2, none⟩ = some x ∧ w.cell? ⟨b, off + k * 2 + 1, none⟩ = some y ∧ Strs w x qs[k].1 ∧ Strs w y qs[k].2 := by
  obtain ⟨cs, ⟨_, a, cap, rfl, _, _, hcell⟩, hc⟩ := h
  refine ⟨a, cap, rfl, fun k hk => ?_⟩
  obtain ⟨b, off, ha, _, _, hj⟩ := hcell (by omega)
  obtain ⟨x, y, h1, h2, h3, h4⟩ := hc.at k hk
  exact ⟨b, off, x, y, ha, by rw [Nat.mul_comm k 2]; exact hj _ _ h1, by rw [Nat.mul_comm k 2, Nat.add_assoc]; exact hj _ _ h2, Ap.RdO.rd h3, Ap.RdO.rd h4⟩

theorem cptB_up : ∀ (p : List UInt8) (l : List (List UInt8)), (p :: l).Pairwise (fun x y => Op.bytesLess y x = false) → (p :: cptF (fun x y => x == y) p l).Pairwise (fun x y => Op.bytesLess x y = true) ∧ ∀ t, (t ∈ p :: cptF (fun x y => x == y) p l ↔ t ∈ p :: l)
  | p, [], _ => ⟨List.pairwise_singleton _ _, fun t => Iff.rfl⟩
  | p, x :: l, h => by
    obtain ⟨h1, h2⟩ := List.pairwise_cons.1 h
    obtain ⟨u1, u2⟩ := cptB_up x l h2
    have hxp := h1 x (by simp)
    rw [cptF]
    by_cases hc : x = p
    · subst hc
      rw [if_pos (by simp)]
      refine ⟨u1, fun t => ?_⟩
      rw [u2 t]
      simp
    · rw [if_neg (by simpa using hc)]
      have hpx : Op.bytesLess p x = true := by
        cases hh : Op.bytesLess p x with
        | true => rfl
        | false => exact absurd (bl_tri _ _ hxp hh) hc
      refine ⟨?_, fun t => ?_⟩
      · refine List.pairwise_cons.2 ⟨fun y hy => ?_, u1⟩
        obtain ⟨v1, _⟩ := List.pairwise_cons.1 u1
        rcases List.mem_cons.1 hy with rfl | hy
        · exact hpx
        · exact bl_trans _ _ _ hpx (v1 y hy)
      · rw [List.mem_cons, u2 t, ← List.mem_cons]
theorem compact_cpt (zs : List (List UInt8)) : Lib.compact zs = cpt (fun x y => x == y) zs := by
  have : ∀ k, k ≤ zs.length → Lib.compactUpTo zs.toArray k = cpt (fun x y => x == y) (zs.take k) := by
    intro k
    induction k with
    | zero => intro _; simp [Lib.compactUpTo, cpt]
    | succ k ih =>
      intro hk
      rw [Lib.compactUpTo_succ, ih (by omega)]
      have e : zs.toArray[k]! = zs[k] := by simp [show k < zs.length by omega]
      by_cases h0 : k = 0
      · subst h0
        cases zs with
        | nil => simp at hk
        | cons z zs => simp [Lib.keeps, cpt, cptF]
      · rw [cpt_at _ zs k (by omega) (by omega), e]
        congr 1
        have e2 : zs.toArray[k - 1]! = zs[k - 1] := by simp [show k - 1 < zs.length by omega]
        by_cases hc : zs[k] = zs[k - 1]
        · rw [Lib.keeps_neg (by omega) (by rw [e, e2]; exact hc)]; simp [hc]
        · rw [Lib.keeps_pos (by rw [e, e2]; exact hc)]; simp [hc]
  have h := this zs.length (Nat.le_refl _)
  rw [List.take_length] at h
  rw [← h]
  rfl
theorem sort_pw (ss : List (List UInt8)) : (ss.mergeSort fun x y => decide (x ≤ y)).Pairwise (fun x y => Op.bytesLess y x = false) := by
  have h := List.pairwise_mergeSort (le := fun x y : List UInt8 => decide (x ≤ y)) (fun a b c h1 h2 => by simp only [decide_eq_true_eq] at *; exact List.le_trans h1 h2) (fun a b => by simp only [Bool.or_eq_true, decide_eq_true_eq]; exact List.le_total a b) ss
  refine h.imp fun {x y} h => ?_
  rw [bytesLess_eq]
  simp only [decide_eq_true_eq] at h
  simpa using h
/-- What is sorted and compacted: rising, with the same members. -/
theorem nx_of (acc : List ByteArray) : ∃ nx : List ByteArray, (Lib.compact ((acc.map (·.data.toList)).mergeSort fun x y => decide (x ≤ y))).map Go.Proofs.encStr = nx.map .string ∧ UpS nx ∧ ∀ x, x ∈ nx ↔ x ∈ acc := by
  obtain ⟨zs, hz⟩ : ∃ zs, ((acc.map (·.data.toList)).mergeSort fun x y => decide (x ≤ y)) = zs := ⟨_, rfl⟩
  have hp := sort_pw (acc.map (·.data.toList))
  have hm : ∀ t, t ∈ zs ↔ t ∈ acc.map (·.data.toList) := fun t => by rw [← hz]; exact List.mem_mergeSort
  rw [hz] at hp ⊢
  have h2 : (cpt (fun x y => x == y) zs).Pairwise (fun x y => Op.bytesLess x y = true) ∧ ∀ t, t ∈ cpt (fun x y => x == y) zs ↔ t ∈ zs := by
    cases zs with
    | nil => exact ⟨List.Pairwise.nil, fun t => Iff.rfl⟩
    | cons p l => exact cptB_up p l hp
  rw [compact_cpt]
  refine ⟨(cpt (fun x y => x == y) zs).map fun l => ⟨l.toArray⟩, ?_, ?_, fun x => ?_⟩
  · rw [List.map_map]
    rfl
  · unfold UpS
    rw [List.pairwise_map]
    refine h2.1.imp fun {a b} h => ?_
    rw [ls, ByteArray.toList_eq, ByteArray.toList_eq]
    simpa using h
  · rw [List.mem_map]
    constructor
    · rintro ⟨l, hl, rfl⟩
      obtain ⟨y, hy, rfl⟩ := List.mem_map.1 ((hm l).1 ((h2.2 l).1 hl))
      simpa using hy
    · intro hx
      exact ⟨x.data.toList, (h2.2 _).2 ((hm _).2 (List.mem_map.2 ⟨x, hx, rfl⟩)), by simp⟩

theorem sortS_none (c : Nat) (w : World) : Calls Tryd.prog 65 #[.slice none 0 c] w fun e w' => e = .returned (.tuple #[]) ∧ w' = w := by
  have hcon := AnyM.slices_Sort_string_none Tryd.laysSoS none c w
  change Calls Tryd.prog 65 _ _ _ at hcon
  exact hcon
theorem compactS_none (c : Nat) (w : World) : Calls Tryd.prog 66 #[.slice none 0 c] w fun e w' => e = .returned (.slice none 0 c) ∧ w' = w := by
  have hcon := Any.slices_Compact_string_empty Tryd.lays194 none c w
  change Calls Tryd.prog 66 _ _ _ at hcon
  exact hcon
/-- Sort, at a row of texts that the call owns. -/
theorem sortS_own {w : World} {base g cap n : Nat} {zs : List (List UInt8)} (h : w.ownsRow base 9 1 (.slice (some ⟨g, 0, none⟩) n cap) n (zs.map encStr)) (hn : n ≤ 1000000) :
    Calls Tryd.prog 65 #[.slice (some ⟨g, 0, none⟩) n cap] w fun e w' => e = .returned (.tuple #[]) ∧ w'.ownsRow base 9 1 (.slice (some ⟨g, 0, none⟩) n cap) n ((zs.mergeSort fun x y => decide (x ≤ y)).map encStr) ∧ w.grownBy w' (some g) := by
  have hl : zs.length = n := by simpa using h.1
  rcases h.2 with ⟨h0, _⟩ | ⟨g', cap', cur, h0, hb, hg, h1, h2, h3, h4⟩
  · cases h0
  · cases h0
    subst hl
    have hcon := AnyM.slices_Sort_string Tryd.laysSoS g 0 cap zs w (holds_of_block hg (by simpa using h4)) (heap_lt hg) (by omega)
    change Calls Tryd.prog 65 _ _ _ at hcon
    refine hcon.mono fun e w' ⟨he, n, os, hw⟩ => ⟨he, ?_, ?_⟩
    · rw [hw]
      exact ownsRow_sorted (by simp) hb hg h1 h2 h3
    · rw [hw]
      exact grownBy_sorted _
/-- Compact, at a row of texts that the call owns. -/
theorem compactS_own {w : World} {base g cap n : Nat} {zs : List (List UInt8)} (h : w.ownsRow base 9 1 (.slice (some ⟨g, 0, none⟩) n cap) n (zs.map encStr)) (hn : n ≤ 1000000) :
    Calls Tryd.prog 66 #[.slice (some ⟨g, 0, none⟩) n cap] w fun e w' => e = .returned (.slice (some ⟨g, 0, none⟩) (Lib.compact zs).length cap) ∧ w'.ownsRow base 9 1 (.slice (some ⟨g, 0, none⟩) (Lib.compact zs).length cap) (Lib.compact zs).length ((Lib.compact zs).map encStr) ∧ w.grownBy w' (some g) := by
  obtain ⟨g', cap', h0, _, _, hnc, _, hl, hH⟩ := Lib.holds_of_ownsRow h (by intro h; cases h)
  cases h0
  subst hl
  have hle : (Lib.compact zs).length ≤ zs.length := by rw [compact_cpt]; exact cpt_le _ _
  have hcon := Any.slices_Compact_string Tryd.lays194 g 0 cap zs w hH (by omega) hnc
  change Calls Tryd.prog 66 _ _ _ at hcon
  refine hcon.mono fun e w' ⟨he, q, hw⟩ => ⟨he, ?_, ?_⟩
  · rw [hw]
    have := Lib.ownsRow_putRow (q := q) (k := (Lib.compact zs).length) (ys := Lib.compact zs ++ List.replicate (zs.length - (Lib.compact zs).length) []) h (by simp; omega) hle
    rw [List.take_left' rfl] at this
    exact this
  · rw [hw]
    have := grownBy_sorted (w := w) (g := g) (n := q) (os := #[]) (Lib.compact zs ++ List.replicate (zs.length - (Lib.compact zs).length) []).toArray
    rwa [Go.Sort.grow_empty] at this
theorem heads_take (left : List Rst) (k : Nat) (h : k < left.length) : heads (left.take (k + 1)) = heads (left.take k) ++ left[k].1.take 1 ++ left[k].2.take 1 := by
  rw [List.take_succ_eq_append_getElem h, heads, List.flatMap_append]
  simp [heads]
theorem heads_len : ∀ left : List Rst, (heads left).length ≤ 2 * left.length
  | [] => by simp [heads]
  | q :: left => by
    have := heads_len left
    have e : heads (q :: left) = q.1.take 1 ++ q.2.take 1 ++ heads left := by simp [heads]
    rw [e]
    simp
    omega
theorem strs_take1 {w : World} {a : Option Addr} {c : Nat} {l : List ByteArray} (h : Strs w (.slice a l.length c) l) : Strs w (.slice a (l.take 1).length c) (l.take 1) := by
  obtain ⟨_, a', c', hv, hc, hn, hcell⟩ := h
  cases hv
  refine ⟨by simp, a, c, rfl, by simp; omega, fun h => ?_, fun h0 => ?_⟩
  · obtain ⟨h1, h2⟩ := hn h
    exact ⟨by simp [h1], h2⟩
  · have h0' : 0 < l.length := by simp at h0; omega
    obtain ⟨b, off, ha, hj⟩ := hcell h0'
    refine ⟨b, off, ha, fun j u hu => hj j u ?_⟩
    rw [List.map_take] at hu
    rw [List.getElem?_take] at hu
    split at hu
    · exact hu
    · cases hu
theorem min_len (l : List ByteArray) : min (1 : Int) (l.length : Int) = ((l.take 1).length : Int) := by
  rw [List.length_take]
  omega
theorem take1_le (l : List ByteArray) : (l.take 1).length ≤ 1 ∧ (l.take 1).length ≤ l.length := by
  rw [List.length_take]
  omega

set_option maxHeartbeats 2000000 in
theorem firsts_any (v : Value) (left : List Rst) (w : World) (h : Rss (fun _ => True) w v left) (hlen : left.length ≤ 100000) (hq : ∀ q ∈ left, q.1.length ≤ 1000 ∧ q.2.length ≤ 1000) :
    Calls Tryd.prog 49 #[v] w fun e w' => ∃ vn nx, e = .returned vn ∧ w'.ownsRow w.heap.size 9 1 vn nx.length (nx.map .string) ∧ UpS nx ∧ (∀ x, x ∈ nx ↔ x ∈ heads left) ∧ Below w.heap.size w w' := by
  obtain ⟨a, cap, rfl, hf⟩ := h.form
  have HF := Lib.hid hf
  have HQ := Lib.hid hq
  clear hf hq h
  go_enter Tryd.func49, Tryd.ntmps49
  go_wp2_with fail
  go_loopw [3, 8] (fun vn i wr => ∃ k : Nat, k ≤ left.length ∧ i = .int .i64 (k : Int) ∧ wr.ownsRow w.heap.size 9 1 vn (heads (left.take k)).length ((heads (left.take k)).map .string) ∧ Below w.heap.size w wr) (fun _ i _ => left.length - (intOf i).toNat)
  case atStart => exact ⟨0, Nat.zero_le _, rfl, ⟨rfl, .inl ⟨rfl, rfl⟩⟩, Below.refl _ _⟩
  case round =>
    obtain ⟨k, hk, rfl, hown, hb⟩ := hrel
    have HO := Lib.hid hown
    have HB := Lib.hid hb
    have hhl := heads_len (left.take k)
    have hkk : (left.take k).length = k := by simp; omega
    by_cases hlt : k < left.length
    · obtain ⟨b, off, x, y, rfl, e0, e1, s0, s1⟩ := HF.out k hlt
      have c0 : wr.cell? ⟨b, off + k * 2, none⟩ = some x := by rw [hb.cell (Ap.cell_lt e0)]; exact e0
      have c1 : wr.cell? ⟨b, off + k * 2 + 1, none⟩ = some y := by rw [hb.cell (Ap.cell_lt e1)]; exact e1
      have hq := HQ.out _ (List.getElem_mem hlt)
      have HT := Lib.hid (heads_take left k hlt)
      obtain ⟨q, hqq⟩ : ∃ q, left[k] = q := ⟨_, rfl⟩
      rw [hqq] at hq HT s0 s1
      clear hqq
      have hba : ∀ o, Below w.heap.size w (wr.alloc o) := fun o => hb.alloc hb.size o
      obtain ⟨_, ax, cx, rfl, hcx, -⟩ := id s0
      obtain ⟨_, ay, cy, rfl, hcy, -⟩ := id s1
      have S0 := Lib.hid (fun o => strs_take1 (s0.below (hba o)))
      have m0 := min_len q.1
      have m1 := min_len q.2
      obtain ⟨l0, lx⟩ := take1_le q.1
      obtain ⟨l1, ly⟩ := take1_le q.2
      obtain ⟨_, a3, c3, rfl, -⟩ := id (Ap.Rd.owned hown)
      obtain ⟨v1, w1, hr1, ho1, hg1, hb1, _⟩ := run_append_strs (hown.alloc (.cells #[.slice ax q.1.length cx, .slice ay q.2.length cy] 73)) (hba _).size (S0.out _) (by omega)
      have hne : some wr.heap.size ≠ (Value.slice a3 (heads (left.take k)).length c3).ownBlock := fun e => by
        have := Ap.own_lt hown _ e.symm
        omega
      have d1 : w1.cell? ⟨wr.heap.size, 1, none⟩ = some (.slice ay q.2.length cy) := hg1.cell (a := ⟨wr.heap.size, 1, none⟩) (by simp) hne
      have hB1 := (hba (.cells #[.slice ax q.1.length cx, .slice ay q.2.length cy] 73)).trans hb1
      obtain ⟨_, a4, c4, rfl, -⟩ := id (Ap.Rd.owned ho1)
      obtain ⟨v2, w2, hr2, ho2, _, hb2, _⟩ := run_append_strs ho1 hB1.size (strs_take1 (s1.below hB1)) (by rw [List.length_append]; omega)
      have R1 := Lib.hid hr1
      have R2 := Lib.hid hr2
      have O2 := Lib.hid ho2
      have B2 := Lib.hid (hB1.trans hb2)
      clear hr1 hr2 ho2 hb2 hB1 hb1 hg1 ho1 s0 s1 hown hb hba hne S0
      obtain ⟨t0, ht0⟩ : ∃ t0, (q.1.take 1).length = t0 := ⟨_, rfl⟩
      obtain ⟨t1, ht1⟩ : ∃ t1, (q.2.take 1).length = t1 := ⟨_, rfl⟩
      rw [ht0] at m0 l0 lx R1
      rw [ht1] at m1 l1 ly R2
      obtain ⟨n1, hn1⟩ : ∃ n1, (heads (left.take k) ++ q.1.take 1).length = n1 := ⟨_, rfl⟩
      rw [hn1] at R1 R2
      clear ht0 ht1 hn1
      go_wp2_with (first
        | (at_builtin; refine Ap.wpList_append_run (by rfl) (.tmp 12) (.tmp 19) _ _ rfl _ _ rfl rfl _ w1 R1.out ?_)
        | (at_builtin; refine Ap.wpList_append_run (by rfl) (.tmp 21) (.tmp 28) _ _ rfl _ _ rfl rfl v2 w2 R2.out ?_))
      go_roundw
      case rel => exact ⟨k + 1, by omega, by go_num, by rw [HT.out]; exact O2.out, B2.out⟩
      case measure => simp [intOf]; omega
    · have hkl : k = left.length := by omega
      rw [hkl, List.take_length] at hown hhl
      obtain ⟨nx, n1, n2, n3⟩ := nx_of (heads left)
      have hown' := hown
      rw [← Lib.map_encStr] at hown'
      obtain ⟨_, ⟨rfl, h0⟩ | ⟨g, c3, cur, rfl, hbg, hgg, -⟩⟩ := id hown
      · have h00 : heads left = [] := List.eq_nil_of_length_eq_zero h0
        have HH := Lib.hid h00
        clear hown hown' hb n1 n2 n3
        go_wp2_with (first
          | (go_at_call 65; refine (sortS_none _ _).mono ?_; rintro e w' ⟨rfl, rfl⟩)
          | (go_at_call 66; refine (compactS_none _ _).mono ?_; rintro e w' ⟨rfl, rfl⟩))
        go_ret
        exact ⟨_, [], rfl, ⟨rfl, .inl ⟨rfl, rfl⟩⟩, List.Pairwise.nil, fun x => by rw [HH.out], HB.out⟩
      · have S1 := Lib.hid (sortS_own hown' (by omega))
        have N1 := Lib.hid n1
        have N2 := Lib.hid n2
        have N3 := Lib.hid n3
        have hgl : g < wr.heap.size := heap_lt hgg
        clear hown hown' hb n1 n2 n3 hgg
        go_wp2_with fail
        refine S1.out.mono ?_
        rintro e w4 ⟨rfl, ho4, hg4⟩
        have S2 := Lib.hid (compactS_own ho4 (by omega))
        have B4 := Lib.hid (below_gb HB.out hg4 hbg HB.out.size)
        clear ho4 hg4 S1
        go_wp2_with fail
        refine S2.out.mono ?_
        rintro e w5 ⟨rfl, ho5, hg5⟩
        have hnl : (Lib.compact ((heads left).map (·.data.toList) |>.mergeSort fun x y => decide (x ≤ y))).length = nx.length := by
          have := congrArg List.length N1.out
          simpa using this
        rw [N1.out, hnl] at ho5
        have O5 := Lib.hid ho5
        have B5 := Lib.hid (below_gb B4.out hg5 hbg B4.out.size)
        have HNL := Lib.hid hnl
        clear ho5 hg5 S2 hnl
        go_wp2_with fail
        go_ret
        refine ⟨_, nx, ?_, O5.out, N2.out, N3.out, B5.out⟩
        rw [HNL.out]
        rfl
end Go.Proofs.YtmhmfnjjdcdkcaaDoor.Tr
