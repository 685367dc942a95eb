/- The statements' own few, Olds and News: the walks. -/
import Derived.Test.YtmhmfnjjdcdkcaaDoorTrv
namespace Go.Proofs.YtmhmfnjjdcdkcaaDoor.Tr
open Go Go.RowKit
set_option maxRecDepth 20000

/-- How many actions some traces have. -/
def acts : List Tr → Nat
  | [] => 0
  | t :: l => t.a.length + acts l
theorem acts_snoc (l : List Tr) (t : Tr) : acts (l ++ [t]) = acts l + t.a.length := by
  induction l with
  | nil => simp [acts]
  | cons u l ih => simp [acts, ih]; omega
theorem acts_take (l : List Tr) (k : Nat) (h : k < l.length) : acts (l.take (k + 1)) = acts (l.take k) + l[k].a.length := by
  rw [List.take_succ_eq_append_getElem h, acts_snoc]
theorem acts_le (l : List Tr) (B : Nat) (h : ∀ t ∈ l, t.a.length ≤ B) : acts l ≤ l.length * B := by
  induction l with
  | nil => simp [acts]
  | cons u l ih =>
    have h1 := h u (by simp)
    have h2 := ih fun t ht => h t (by simp [ht])
    simp only [acts, List.length_cons, Nat.add_mul, Nat.one_mul]
    omega
theorem mem_acts {l : List Tr} {t : Tr} (h : t ∈ l) : t.a.length ≤ acts l := by
  induction l with
  | nil => cases h
  | cons u l ih =>
    rcases List.mem_cons.1 h with rfl | h
    · simp [acts]
    · have := ih h
      simp [acts]
      omega
/-- Are they few? -/
def fewB (l : List Tr) : Bool := decide (l.length ≤ 100) && decide (acts l ≤ 1000)
theorem few_of {l : List Tr} (h : fewB l = true) : l.length ≤ 100 ∧ acts l ≤ 1000 := by simpa [fewB] using h
theorem Few.of {l : List Tr} (h : fewB l = true) : Few l := ⟨by have := (few_of h).1; omega, fun t ht => by have := mem_acts ht; have := (few_of h).2; omega⟩

set_option maxHeartbeats 2000000 in
theorem few_small (x : Value) (ts : List Tr) (w : World) (hx : Trs w x ts) (hn : ts.length ≤ 100) (hrow : ∀ t ∈ ts, t.a.length ≤ 1125899906842624) :
    Calls Tryd.prog 11 #[x] w fun e w' => e = .returned (.bool (fewB ts)) ∧ Below w.heap.size w w' := by
  obtain ⟨a1, c1, rfl, _, h1⟩ := hx.val
  have H1 := Lib.hid h1
  have HR := Lib.hid hrow
  clear h1 hx hrow
  obtain ⟨fb, hfb⟩ : ∃ fb, fewB ts = fb := ⟨_, rfl⟩
  rw [hfb]
  have HFB := Lib.hid hfb
  clear hfb
  go_enter Tryd.func11, Tryd.ntmps11
  go_wp2_with fail
  go_loopw [3, 8] (fun n i wr => ∃ k : Nat, k ≤ ts.length ∧ i = .int .i64 k ∧ n = .int .i64 (acts (ts.take k)) ∧ Below w.heap.size w wr) (fun _ i _ => ts.length - (intOf i).toNat)
  case atStart => exact ⟨0, Nat.zero_le _, rfl, rfl, Below.refl _ _⟩
  case round =>
    obtain ⟨k, hk, rfl, rfl, hb⟩ := hrel
    have HB := Lib.hid hb
    clear hb
    by_cases hlt : k < ts.length
    · obtain ⟨b1, o1, a, rfl, e1, e2, hs⟩ := H1.out k hlt
      have c1' : wr.cell? ⟨b1, o1 + k * 2, none⟩ = some a := by rw [Nat.mul_comm k 2, HB.out.cell (Ap.cell_lt e1)]; exact e1
      have c2' : wr.cell? ⟨b1, o1 + k * 2 + 1, none⟩ = some (.int .i64 ts[k].e) := by rw [Nat.mul_comm k 2, HB.out.cell (Ap.cell_lt e2)]; exact e2
      have HT := Lib.hid (acts_take ts k hlt)
      have hle := acts_le (ts.take k) 1125899906842624 fun t ht => HR.out t (List.mem_of_mem_take ht)
      have hlk : (ts.take k).length ≤ 100 := by simp; omega
      have hbig : (ts.take k).length * 1125899906842624 ≤ 100 * 1125899906842624 := Nat.mul_le_mul_right _ hlk
      have hrl := HR.out ts[k] (List.getElem_mem hlt)
      have hsum : acts (ts.take k) + ts[k].a.length ≤ 113715890591105024 := by omega
      clear hle hlk hbig
      generalize ts[k] = t at *
      obtain ⟨_, av, cv, rfl, _⟩ := hs
      have i1 : (0 : Int) ≤ ((acts (ts.take k) : Nat) : Int) := by omega
      clear e1 e2
      go_wp2_with fail
      go_roundw
      case rel => exact ⟨k + 1, by omega, by go_num, by rw [HT.out]; go_num, HB.out.alloc HB.out.size _⟩
      case measure => simp [intOf]; omega
    · have hT : ts.take k = ts := List.take_of_length_le (by omega)
      rw [hT]
      have hle := acts_le ts 1125899906842624 fun t ht => HR.out t ht
      have hbig : ts.length * 1125899906842624 ≤ 100 * 1125899906842624 := Nat.mul_le_mul_right _ hn
      have hsum : acts ts ≤ 112589990684262400 := by omega
      have g1 : decide (ts.length ≤ 100) = true := by simpa using hn
      clear hT hle hbig
      by_cases ha : acts ts ≤ 1000
      · have g2 : decide (acts ts ≤ 1000) = true := by simpa using ha
        have HQ := Lib.hid (show fewB ts = true by simp [fewB, hn, ha])
        go_wp2_with fail
        go_ret
        exact ⟨ret_bool (by rw [← HFB.out, HQ.out]; simp; omega), HB.out⟩
      · have g2 : decide (acts ts ≤ 1000) = false := by simpa using ha
        have HQ := Lib.hid (show fewB ts = false by simp [fewB, ha])
        go_wp2_with fail
        go_ret
        exact ⟨ret_bool (by rw [← HFB.out, HQ.out]; simp; omega), HB.out⟩

set_option maxHeartbeats 2000000 in
theorem few_big (x : Value) (ts : List Tr) (w : World) (hx : Trs w x ts) (hn : ¬ ts.length ≤ 100) (hm : ts.length ≤ maxLen) :
    Calls Tryd.prog 11 #[x] w fun e w' => e = .returned (.bool false) ∧ Below w.heap.size w w' := by
  obtain ⟨a1, c1, rfl, _, h1⟩ := hx.val
  have H1 := Lib.hid h1
  clear h1 hx
  unfold maxLen at hm
  have g1 : decide (ts.length ≤ 100) = false := by simpa using hn
  go_enter Tryd.func11, Tryd.ntmps11
  go_wp2_with fail
  go_loopw [3, 8] (fun n i wr => ∃ (k : Nat) (z : Int), k ≤ ts.length ∧ i = .int .i64 k ∧ n = .int .i64 z ∧ Below w.heap.size w wr) (fun _ i _ => ts.length - (intOf i).toNat)
  case atStart => exact ⟨0, 0, Nat.zero_le _, rfl, rfl, Below.refl _ _⟩
  case round =>
    obtain ⟨k, z, hk, rfl, rfl, hb⟩ := hrel
    have HB := Lib.hid hb
    clear hb
    by_cases hlt : k < ts.length
    · obtain ⟨b1, o1, a, rfl, e1, e2, hs⟩ := H1.out k hlt
      have c1' : wr.cell? ⟨b1, o1 + k * 2, none⟩ = some a := by rw [Nat.mul_comm k 2, HB.out.cell (Ap.cell_lt e1)]; exact e1
      have c2' : wr.cell? ⟨b1, o1 + k * 2 + 1, none⟩ = some (.int .i64 ts[k].e) := by rw [Nat.mul_comm k 2, HB.out.cell (Ap.cell_lt e2)]; exact e2
      generalize ts[k] = t at *
      obtain ⟨_, av, cv, rfl, _⟩ := hs
      clear e1 e2
      go_wp2_with fail
      go_roundw
      case rel => exact ⟨k + 1, _, by omega, by go_num, rfl, HB.out.alloc HB.out.size _⟩
      case measure => simp [intOf]; omega
    · go_wp2_with fail
      go_ret
      exact ⟨rfl, HB.out⟩
theorem few_any (x : Value) (ts : List Tr) (w : World) (hx : Trs w x ts) (hm : ts.length ≤ maxLen) (hrow : ∀ t ∈ ts, t.a.length ≤ 1125899906842624) :
    Calls Tryd.prog 11 #[x] w fun e w' => e = .returned (.bool (fewB ts)) ∧ Below w.heap.size w w' := by
  by_cases hn : ts.length ≤ 100
  · exact few_small x ts w hx hn hrow
  · rw [show fewB ts = false by simp [fewB, hn]]
    exact few_big x ts w hx hn hm

theorem info_olds : (Tryd.prog.info? 24).map (fun i => (i.zero, i.size, i.bytes)) = some (some (.agg #[.slice none 0 0, .int .i64 0]), 2, 32) := by kernel_rfl
theorem run_append_olds {wk wr : World} {base : Nat} {v a : Value} {o : List Tr} {t : Tr} {cs : List Value} (hown : wr.ownsRow base 24 2 v o.length cs) (hbase : base ≤ wr.heap.size) (ha : Strs wk a t.a) (hlen : o.length ≤ 2000000) :
    ∃ v' w', (Builtin.append_ #[26, 26] 26 #[v, .slice (some ⟨wr.heap.size, 0, none⟩) 1 1]).run Tryd.prog (wr.alloc (.cells #[a, .int .i64 t.e] 24)) = .ok v' w' ∧
      w'.ownsRow base 24 2 v' (o ++ [t]).length (cs ++ [a, .int .i64 t.e]) ∧ wr.grownBy w' v.ownBlock ∧ Below base wr w' ∧ Ap.Fresh wr v v' := by
  obtain ⟨i0, hi, hz, hs1, hb8⟩ := info_parts info_olds
  obtain ⟨v', w', h1, h2, h3, h4, h5⟩ := Ap.run_append_one (P := Tryd.prog) (ty := 26) Tryd.underlying26 hi hz hs1 hb8 (by rfl) (by omega) hown hbase #[a, .int .i64 t.e] rfl
    (fun u hu => by
      simp at hu
      rcases hu with rfl | rfl
      · exact ha.one
      · rfl) (by unfold maxLen; omega) (by omega)
  exact ⟨v', w', h1, by simpa using h2, h3, h4, h5⟩

set_option maxHeartbeats 2000000 in
theorem olds_any (x : Value) (ts : List Tr) (w : World) (hx : Trs w x ts) (hn : ts.length ≤ 1000000) :
    Calls Tryd.prog 20 #[x] w fun e w' => ∃ v, e = .returned v ∧ Trs w' v ts ∧ Below w.heap.size w w' := by
  obtain ⟨a1, c1, rfl, _, h1⟩ := hx.val
  have H1 := Lib.hid h1
  clear h1 hx
  go_enter Tryd.func20, Tryd.ntmps20
  go_wp2_with fail
  go_loopw [3, 8] (fun v i wr => ∃ (k : Nat) (cs : List Value), k ≤ ts.length ∧ i = .int .i64 k ∧ Below w.heap.size w wr ∧ wr.ownsRow w.heap.size 24 2 v (ts.take k).length cs ∧ TrCells w cs (ts.take k)) (fun _ i _ => ts.length - (intOf i).toNat)
  case atStart => exact ⟨0, [], Nat.zero_le _, rfl, Below.refl _ _, ⟨rfl, .inl ⟨rfl, rfl⟩⟩, trivial⟩
  case round =>
    obtain ⟨k, cs, hk, rfl, hb, hown, hcs⟩ := hrel
    have HB := Lib.hid hb
    have HO := Lib.hid hown
    have HC := Lib.hid hcs
    clear hb hown hcs
    by_cases hlt : k < ts.length
    · obtain ⟨b1, o1, a, rfl, e1, e2, hs⟩ := H1.out k hlt
      have c1' : wr.cell? ⟨b1, o1 + k * 2, none⟩ = some a := by rw [Nat.mul_comm k 2, HB.out.cell (Ap.cell_lt e1)]; exact e1
      have c2' : wr.cell? ⟨b1, o1 + k * 2 + 1, none⟩ = some (.int .i64 ts[k].e) := by rw [Nat.mul_comm k 2, HB.out.cell (Ap.cell_lt e2)]; exact e2
      have HT := Lib.hid (List.take_succ_eq_append_getElem hlt)
      have HS := Lib.hid hs
      generalize ts[k] = t at *
      obtain ⟨_, av, cv, rfl, _⟩ := hs
      clear e1 e2
      have B1 : Hid (Below wr.heap.size wr (wr.alloc (.cells #[.slice av t.a.length cv, .int .i64 t.e] 30))) := (Below.refl _ _).alloc (Nat.le_refl _) _
      obtain ⟨v2, w2, hrun, ho2, _, hb2, _⟩ := run_append_olds (t := t) (Ap.own_below HO.out B1.out) (Nat.le_trans HB.out.size B1.out.size) HS.out (by simp; omega)
      rw [show (wr.alloc (.cells #[.slice av t.a.length cv, .int .i64 t.e] _)).heap.size = wr.heap.size + 1 by simp] at hrun
      have HRUN := Lib.hid hrun
      have O2 := Lib.hid ho2
      have B2 := Lib.hid ((HB.out.trans (B1.out.mono HB.out.size)).trans hb2)
      clear hrun ho2 hb2
      go_wp2_with (at_builtin; refine Ap.wpList_append_run (by rfl) _ _ _ _ rfl _ _ rfl rfl v2 w2 HRUN.out ?_)
      go_roundw
      case rel => exact ⟨k + 1, _, by omega, by go_num, B2.out, by rw [HT.out]; exact O2.out, by rw [HT.out]; exact HC.out.snoc HS.out⟩
      case measure => simp [intOf]; omega
    · go_wp2_with fail
      go_ret
      refine ⟨_, rfl, ?_, HB.out⟩
      have h1 := HO.out
      have h2 := HC.out
      rw [List.take_of_length_le (by omega)] at h1 h2
      exact ⟨cs, Ap.Rd.owned h1, h2.below HB.out⟩

theorem info_news : (Tryd.prog.info? 30).map (fun i => (i.zero, i.size, i.bytes)) = some (some (.agg #[.slice none 0 0, .int .i64 0]), 2, 32) := by kernel_rfl
theorem run_append_news {wk wr : World} {base : Nat} {v a : Value} {o : List Tr} {t : Tr} {cs : List Value} (hown : wr.ownsRow base 30 2 v o.length cs) (hbase : base ≤ wr.heap.size) (ha : Strs wk a t.a) (hlen : o.length ≤ 2000000) :
    ∃ v' w', (Builtin.append_ #[33, 33] 33 #[v, .slice (some ⟨wr.heap.size, 0, none⟩) 1 1]).run Tryd.prog (wr.alloc (.cells #[a, .int .i64 t.e] 30)) = .ok v' w' ∧
      w'.ownsRow base 30 2 v' (o ++ [t]).length (cs ++ [a, .int .i64 t.e]) ∧ wr.grownBy w' v.ownBlock ∧ Below base wr w' ∧ Ap.Fresh wr v v' := by
  obtain ⟨i0, hi, hz, hs1, hb8⟩ := info_parts info_news
  obtain ⟨v', w', h1, h2, h3, h4, h5⟩ := Ap.run_append_one (P := Tryd.prog) (ty := 33) Tryd.underlying33 hi hz hs1 hb8 (by rfl) (by omega) hown hbase #[a, .int .i64 t.e] rfl
    (fun u hu => by
      simp at hu
      rcases hu with rfl | rfl
      · exact ha.one
      · rfl) (by unfold maxLen; omega) (by omega)
  exact ⟨v', w', h1, by simpa using h2, h3, h4, h5⟩

set_option maxHeartbeats 2000000 in
theorem news_any (x : Value) (ts : List Tr) (w : World) (hx : Trs w x ts) (hn : ts.length ≤ 1000000) :
    Calls Tryd.prog 16 #[x] w fun e w' => ∃ v, e = .returned v ∧ Trs w' v ts ∧ Below w.heap.size w w' := by
  obtain ⟨a1, c1, rfl, _, h1⟩ := hx.val
  have H1 := Lib.hid h1
  clear h1 hx
  go_enter Tryd.func16, Tryd.ntmps16
  go_wp2_with fail
  go_loopw [3, 8] (fun v i wr => ∃ (k : Nat) (cs : List Value), k ≤ ts.length ∧ i = .int .i64 k ∧ Below w.heap.size w wr ∧ wr.ownsRow w.heap.size 30 2 v (ts.take k).length cs ∧ TrCells w cs (ts.take k)) (fun _ i _ => ts.length - (intOf i).toNat)
  case atStart => exact ⟨0, [], Nat.zero_le _, rfl, Below.refl _ _, ⟨rfl, .inl ⟨rfl, rfl⟩⟩, trivial⟩
  case round =>
    obtain ⟨k, cs, hk, rfl, hb, hown, hcs⟩ := hrel
    have HB := Lib.hid hb
    have HO := Lib.hid hown
    have HC := Lib.hid hcs
    clear hb hown hcs
    by_cases hlt : k < ts.length
    · obtain ⟨b1, o1, a, rfl, e1, e2, hs⟩ := H1.out k hlt
      have c1' : wr.cell? ⟨b1, o1 + k * 2, none⟩ = some a := by rw [Nat.mul_comm k 2, HB.out.cell (Ap.cell_lt e1)]; exact e1
      have c2' : wr.cell? ⟨b1, o1 + k * 2 + 1, none⟩ = some (.int .i64 ts[k].e) := by rw [Nat.mul_comm k 2, HB.out.cell (Ap.cell_lt e2)]; exact e2
      have HT := Lib.hid (List.take_succ_eq_append_getElem hlt)
      have HS := Lib.hid hs
      generalize ts[k] = t at *
      obtain ⟨_, av, cv, rfl, _⟩ := hs
      clear e1 e2
      have B1 : Hid (Below wr.heap.size wr (wr.alloc (.cells #[.slice av t.a.length cv, .int .i64 t.e] 24))) := (Below.refl _ _).alloc (Nat.le_refl _) _
      obtain ⟨v2, w2, hrun, ho2, _, hb2, _⟩ := run_append_news (t := t) (Ap.own_below HO.out B1.out) (Nat.le_trans HB.out.size B1.out.size) HS.out (by simp; omega)
      rw [show (wr.alloc (.cells #[.slice av t.a.length cv, .int .i64 t.e] _)).heap.size = wr.heap.size + 1 by simp] at hrun
      have HRUN := Lib.hid hrun
      have O2 := Lib.hid ho2
      have B2 := Lib.hid ((HB.out.trans (B1.out.mono HB.out.size)).trans hb2)
      clear hrun ho2 hb2
      go_wp2_with (at_builtin; refine Ap.wpList_append_run (by rfl) _ _ _ _ rfl _ _ rfl rfl v2 w2 HRUN.out ?_)
      go_roundw
      case rel => exact ⟨k + 1, _, by omega, by go_num, B2.out, by rw [HT.out]; exact O2.out, by rw [HT.out]; exact HC.out.snoc HS.out⟩
      case measure => simp [intOf]; omega
    · go_wp2_with fail
      go_ret
      refine ⟨_, rfl, ?_, HB.out⟩
      have h1 := HO.out
      have h2 := HC.out
      rw [List.take_of_length_le (by omega)] at h1 h2
      exact ⟨cs, Ap.Rd.owned h1, h2.below HB.out⟩
end Go.Proofs.YtmhmfnjjdcdkcaaDoor.Tr
