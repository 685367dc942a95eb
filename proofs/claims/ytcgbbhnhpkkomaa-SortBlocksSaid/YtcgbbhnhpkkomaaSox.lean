/- The document's Acts and Texts: rows of texts. -/
import Derived.Test.YtcgbbhnhpkkomaaSoa
namespace Go.Proofs.Ytcgbbhnhpkkomaa.So
open Go Go.RowKit Go.Proofs.Ytcgbbhnhpkkomaa.Rw
set_option maxRecDepth 20000

/-- A slice of texts that reads as these. -/
def Strs (w : World) (v : Value) (l : List ByteArray) : Prop := Ap.Rd w 1 v l.length (l.map .string)
theorem Strs.below {w w' : World} {v : Value} {l : List ByteArray} (h : Strs w v l) (hb : Below w.heap.size w w') : Strs w' v l := Ap.Rd.below h hb
def AtS (w : World) (b off : Nat) (l : List ByteArray) : Prop := ∀ k, (h : k < l.length) → w.cell? ⟨b, off + k, none⟩ = some (.string l[k])
theorem Strs.form {w : World} {v : Value} {l : List ByteArray} (h : Strs w v l) :
    (l = [] ∧ ∃ a cap, v = .slice a 0 cap) ∨ ∃ b off cap, v = .slice (some ⟨b, off, none⟩) l.length cap ∧ AtS w b off l := by
  obtain ⟨_, a, cap, rfl, hle, _, hcell⟩ := h
  by_cases h0 : 0 < l.length
  · obtain ⟨b, off, rfl, hj⟩ := hcell h0
    exact Or.inr ⟨b, off, cap, rfl, fun k hk => hj _ _ (by rw [List.getElem?_map, List.getElem?_eq_getElem hk]; rfl)⟩
  · have : l = [] := List.eq_nil_of_length_eq_zero (by omega)
    subst this
    exact Or.inl ⟨rfl, a, cap, rfl⟩
theorem AtS.below {w w' : World} {b off : Nat} {l : List ByteArray} (h : AtS w b off l) (hb : Below w.heap.size w w') : AtS w' b off l := fun k hk => by
  rw [hb.cell (Ap.cell_lt (h k hk))]
  exact h k hk
theorem bytes_eq {s t : ByteArray} (h : s = t) : (s.toList == t.toList) = true := by rw [h]; simp
theorem bytes_ne {s t : ByteArray} (h : ¬ s = t) : (s.toList == t.toList) = false := by
  rw [ByteArray.toList_eq t]
  exact str_ne' fun e => h (by rw [e])

def sameS (l m : List ByteArray) : Bool := decide (l = m)
theorem sameS_len {l m : List ByteArray} (h : l.length ≠ m.length) : sameS l m = false := decide_eq_false fun e => h (by rw [e])
theorem sameS_at {l m : List ByteArray} {k : Nat} (h1 : k < l.length) (h2 : k < m.length) : sameS (l.drop k) (m.drop k) = (decide (l[k] = m[k]) && sameS (l.drop (k + 1)) (m.drop (k + 1))) := by
  unfold sameS
  rw [List.drop_eq_getElem_cons h1, List.drop_eq_getElem_cons h2, Bool.eq_iff_iff]
  simp only [decide_eq_true_eq, Bool.and_eq_true, List.cons.injEq]
theorem sameS_self (l : List ByteArray) : sameS l l = true := decide_eq_true rfl
set_option maxHeartbeats 400000 in
theorem texts_other (a1 a2 : Option Addr) (c1 c2 n m : Nat) (w : World) (h : n ≠ m) :
    Calls Try.prog 18 #[.slice a1 n c1, .slice a2 m c2] w fun e w' => e = .returned (.bool false) ∧ Below w.heap.size w w' := by
  have hne : ((n : Int) == (m : Int)) = false := by rw [beq_eq_false_iff_ne]; omega
  have hne' : ((n : Int) != (m : Int)) = true := by rw [bne_iff_ne]; omega
  go_enter Try.func18, Try.ntmps18
  go_wp2_with fail
  go_ret
  exact ⟨rfl, Below.refl _ _⟩
set_option maxHeartbeats 400000 in
theorem texts_empty (a1 a2 : Option Addr) (c1 c2 : Nat) (w : World) :
    Calls Try.prog 18 #[.slice a1 0 c1, .slice a2 0 c2] w fun e w' => e = .returned (.bool true) ∧ Below w.heap.size w w' := by
  go_enter Try.func18, Try.ntmps18
  go_wp2_with fail
  refine Go.wp_loop_rounds 1 ?_
  rw [rounds_succ]
  go_wp2_with fail
  go_ret
  exact ⟨rfl, Below.refl _ _⟩
set_option maxHeartbeats 2000000 in
theorem texts_cells (b1 o1 c1 b2 o2 c2 : Nat) (l m : List ByteArray) (w : World) (hl : l.length ≤ 1000000) (he : m.length = l.length) (h1 : AtS w b1 o1 l) (h2 : AtS w b2 o2 m) :
    Calls Try.prog 18 #[.slice (some ⟨b1, o1, none⟩) l.length c1, .slice (some ⟨b2, o2, none⟩) l.length c2] w fun e w' => e = .returned (.bool (sameS l m)) ∧ Below w.heap.size w w' := by
  have H1 := Lib.hid h1
  have H2 := Lib.hid h2
  have HE := Lib.hid he
  clear h1 h2 he
  go_enter Try.func18, Try.ntmps18
  go_wp2_with fail
  go_loopw [5] (fun i wr => ∃ k : Nat, k ≤ l.length ∧ i = .int .i64 k ∧ Hid (Below w.heap.size w wr) ∧ Hid (sameS l m = sameS (l.drop k) (m.drop k))) (fun i _ => l.length - (intOf i).toNat)
  case atStart => exact ⟨0, Nat.zero_le _, rfl, Lib.hid (Below.refl _ _), Lib.hid rfl⟩
  case round =>
    obtain ⟨k, hk, rfl, HB, HS⟩ := hrel
    by_cases hlt : k < l.length
    · have hlt2 : k < m.length := by rw [HE.out]; exact hlt
      have e1 := H1.out k hlt
      have e2 := H2.out k hlt2
      have d1 : wr.cell? ⟨b1, o1 + k, none⟩ = some (.string l[k]) := by rw [HB.out.cell (Ap.cell_lt e1)]; exact e1
      have d2 : wr.cell? ⟨b2, o2 + k, none⟩ = some (.string m[k]) := by rw [HB.out.cell (Ap.cell_lt e2)]; exact e2
      have HA := Lib.hid (HS.out.trans (sameS_at hlt hlt2))
      clear e1 e2
      obtain ⟨u, hu⟩ : ∃ u, l[k] = u := ⟨_, rfl⟩
      obtain ⟨v, hv⟩ : ∃ v, m[k] = v := ⟨_, rfl⟩
      rw [hu] at d1 HA
      rw [hv] at d2 HA
      clear hu hv
      by_cases huv : u = v
      · have hq := bytes_eq huv
        have hq2 : (u.toList != v.toList) = false := by rw [bne, hq]; rfl
        have HV := Lib.hid huv
        clear huv
        go_wp2_with fail
        go_quiet (fail)
        go_wp2_with fail
        go_roundw
        case rel => exact ⟨k + 1, by omega, by go_num, Lib.hid (HB.out.trans (Below.drewN _ _ _)), Lib.hid (by rw [HA.out, decide_eq_true HV.out, Bool.true_and])⟩
        case measure => simp [intOf]; omega
      · have hq := bytes_ne huv
        have hq2 : (u.toList != v.toList) = true := by rw [bne, hq]; rfl
        have HV := Lib.hid huv
        clear huv
        go_wp2_with fail
        go_quiet (fail)
        go_wp2_with fail
        go_ret
        exact ⟨ret_bool (by rw [HA.out, decide_eq_false HV.out, Bool.false_and]), HB.out.trans (Below.drewN _ _ _)⟩
    · go_wp2_with fail
      go_ret
      refine ⟨ret_bool ?_, HB.out⟩
      rw [HS.out, List.drop_eq_nil_of_le (by omega), List.drop_eq_nil_of_le (by rw [HE.out]; omega)]
      rfl
theorem textsR_any (x y : Value) (l m : List ByteArray) (w : World) (hx : Strs w x l) (hy : Strs w y m) (hl : l.length ≤ 1000000) :
    Calls Try.prog 18 #[x, y] w fun e w' => e = .returned (.bool (sameS l m)) ∧ Below w.heap.size w w' := by
  by_cases he : l.length = m.length
  · rcases hx.form with ⟨rfl, a, cap, rfl⟩ | ⟨b, off, cap, rfl, hc⟩
    · obtain rfl : m = [] := List.eq_nil_of_length_eq_zero he.symm
      obtain ⟨_, a', cap', rfl, _⟩ := hy
      exact texts_empty a a' cap cap' w
    · rcases hy.form with ⟨rfl, a', cap', rfl⟩ | ⟨b', off', cap', rfl, hc'⟩
      · obtain rfl : l = [] := List.eq_nil_of_length_eq_zero he
        exact texts_empty _ a' cap cap' w
      · rw [← he]
        exact texts_cells b off cap b' off' cap' l m w hl he.symm hc hc'
  · rw [sameS_len he]
    obtain ⟨_, a, cap, rfl, _⟩ := hx
    obtain ⟨_, a', cap', rfl, _⟩ := hy
    exact texts_other a a' cap cap' l.length m.length w he

/-- Has it been met? -/
def met (x : Nd) (os : List ByteArray) : Bool := (x.k != 1) || os.any fun o => decide (o = x.n)
/-- The names of Acts, each once. -/
def addA (os : List ByteArray) (x : Nd) : List ByteArray := if met x os then os else os ++ [x.n]
def acts (l : List Nd) : List ByteArray := l.foldl addA []
theorem acts_take (l : List Nd) (k : Nat) (h : k < l.length) : acts (l.take (k + 1)) = addA (acts (l.take k)) l[k] := by
  unfold acts
  rw [List.take_succ_eq_append_getElem h, List.foldl_append]
  rfl
theorem acts_len : ∀ (l : List Nd) (os : List ByteArray), (l.foldl addA os).length ≤ os.length + l.length
  | [], os => by simp
  | x :: l, os => by
    have h1 := acts_len l (addA os x)
    have h2 : (addA os x).length ≤ os.length + 1 := by
      unfold addA
      split <;> simp
    simp only [List.foldl_cons, List.length_cons]
    omega
theorem acts_le (l : List Nd) : (acts l).length ≤ l.length := by have := acts_len l []; simpa [acts] using this
theorem met_start (x : Nd) (os : List ByteArray) : met x (os.take 0) = (x.k != 1) := by simp [met]
theorem met_take (x : Nd) (os : List ByteArray) (j : Nat) (h : j < os.length) : met x (os.take (j + 1)) = (met x (os.take j) || decide (os[j] = x.n)) := by
  unfold met
  rw [List.take_succ_eq_append_getElem h, List.any_append, Bool.or_assoc]
  simp
theorem add_met {x : Nd} {os : List ByteArray} (h : met x os = true) : addA os x = os := if_pos h
theorem add_new {x : Nd} {os : List ByteArray} (h : met x os = false) : addA os x = os ++ [x.n] := by
  unfold addA
  rw [h]
  rfl

theorem infoS : (Try.prog.info? 9).map (fun i => (i.zero, i.size, i.bytes)) = some (some (.string ⟨#[]⟩), 1, 16) := by kernel_rfl
/-- What the loop has made. -/
def Got (w wr : World) (v : Value) (os : List ByteArray) : Prop := wr.ownsRow w.heap.size 9 1 v os.length (os.map .string) ∧ Below w.heap.size w wr
theorem Got.form {w wr : World} {v : Value} {os : List ByteArray} (h : Got w wr v os) : Strs wr v os := Ap.Rd.owned h.1
theorem Got.drew {w wr : World} {v : Value} {os : List ByteArray} (n : Nat) (h : Got w wr v os) : Got w (wr.drewN n) v os := ⟨Ap.own_below h.1 (Below.drewN _ _ _), h.2.trans (Below.drewN _ _ _)⟩
theorem Got.add {w wr : World} {v : Value} {os : List ByteArray} (s : ByteArray) (h : Got w wr v os) (hl : os.length ≤ 1000000) :
    ∃ v' w', (Builtin.append_ #[28, 28] 28 #[v, .slice (some ⟨wr.heap.size, 0, none⟩) 1 1]).run Try.prog (wr.alloc (.cells #[.string s] 9)) = .ok v' w' ∧ Got w w' v' (os ++ [s]) := by
  obtain ⟨i0, hi, hz, hs1, hb8⟩ := info_parts infoS
  obtain ⟨v', w', h1, h2, h3, h4, h5⟩ := Ap.run_append_one (P := Try.prog) (ty := 28) Try.underlying28 hi hz hs1 hb8 (by rfl) (by omega) h.1 h.2.size #[.string s] rfl
    (by intro u hu; simp at hu; subst hu; rfl) (by unfold maxLen; omega) (by omega)
  exact ⟨v', w', h1, by simpa using h2, h.2.trans h4⟩

set_option maxHeartbeats 1000000 in
theorem acts_empty (a : Option Addr) (cap : Nat) (w : World) :
    Calls Try.prog 20 #[.slice a 0 cap] w fun e w' => ∃ y, e = .returned y ∧ Strs w' y [] ∧ Below w.heap.size w w' := by
  go_enter Try.func20, Try.ntmps20
  go_wp2_with fail
  refine Go.wp_loop_rounds 1 ?_
  rw [rounds_succ]
  go_wp2_with fail
  go_ret
  exact ⟨_, rfl, ⟨rfl, none, 0, rfl, Nat.le_refl _, fun _ => ⟨rfl, rfl⟩, fun h => absurd h (Nat.lt_irrefl 0)⟩, Below.refl _ _⟩
set_option maxHeartbeats 8000000 in
theorem acts_cells (b off cap : Nat) (l : List Nd) (w : World) (hl : l.length ≤ 1000) (hat : At w b off l) :
    Calls Try.prog 20 #[.slice (some ⟨b, off, none⟩) l.length cap] w fun e w' => ∃ y, e = .returned y ∧ Strs w' y (acts l) ∧ Below w.heap.size w w' := by
  have HA := Lib.hid hat
  clear hat
  go_enter Try.func20, Try.ntmps20
  go_wp2_with fail
  go_loopw [3, 4] (fun o i wr => ∃ (k : Nat) (a : Option Addr) (n c : Nat) (os : List ByteArray), k ≤ l.length ∧ n ≤ k ∧ i = .int .i64 k ∧ o = .slice a n c ∧ Hid (os.length = n) ∧ Hid (acts (l.take k) = os) ∧ Hid (Got w wr (.slice a n c) os)) (fun _ i _ => l.length - (intOf i).toNat)
  case atStart => exact ⟨0, none, 0, 0, [], Nat.zero_le _, Nat.le_refl _, rfl, rfl, Lib.hid rfl, Lib.hid rfl, Lib.hid ⟨⟨rfl, .inl ⟨rfl, rfl⟩⟩, Below.refl _ _⟩⟩
  case round =>
    obtain ⟨k, a, n, c, os, hk, hn, rfl, rfl, HL, HO, HG⟩ := hrel
    by_cases hlt : k < l.length
    · obtain ⟨e1, e2, _⟩ := HA.out k hlt
      have HT := Lib.hid (acts_take l k hlt)
      obtain ⟨x, hx⟩ : ∃ x, l[k] = x := ⟨_, rfl⟩
      rw [hx] at e1 e2 HT
      have E1 := Lib.hid e1
      have E2 := Lib.hid e2
      have c1 : wr.cell? ⟨b, off + k * 3, none⟩ = some (.int .i64 x.k) := by rw [HG.out.2.cell (Ap.cell_lt e1)]; exact e1
      clear hx e1 e2
      go_wp2_with fail
      obtain ⟨wo, hwo⟩ : ∃ wo : World, wo = wr := ⟨_, rfl⟩
      subst hwo
      clear c1
      go_loopw [5, 6] (fun m j wr => ∃ i : Nat, i ≤ n ∧ j = .int .i64 i ∧ m = .bool (met x (os.take i)) ∧ Hid (Got w wr (.slice a n c) os)) (fun _ j _ => n - (intOf j).toNat)
      case atStart => exact ⟨0, Nat.zero_le _, rfl, by rw [met_start], HG⟩
      case round =>
        clear HG
        obtain ⟨i, hi, rfl, rfl, HG⟩ := hrel
        by_cases hlt2 : i < n
        · have hlo : i < os.length := by rw [HL.out]; exact hlt2
          have d2 : wr.cell? ⟨b, off + k * 3 + 1, none⟩ = some (.string x.n) := by rw [HG.out.2.cell (Ap.cell_lt E2.out)]; exact E2.out
          rcases HG.out.form.form with ⟨h0, _⟩ | ⟨ob, oo, oc, he, hat⟩
          · rw [h0] at hlo
            exact absurd hlo (Nat.not_lt_zero _)
          have d1 := hat i hlo
          have hmt := met_take x os i hlo
          have hea : a = some ⟨ob, oo, none⟩ := by injection he
          obtain ⟨y, hy⟩ : ∃ y, os[i] = y := ⟨_, rfl⟩
          rw [hy] at d1 hmt
          clear hat he hy
          cases hd : met x (os.take i) with
          | true =>
            rw [hd, Bool.true_or] at hmt
            have HT2 := Lib.hid hmt
            clear hmt
            go_wp2_with fail
            go_quiet (fail)
            go_wp2_with fail
            go_roundw
            case rel => exact ⟨i + 1, by omega, by go_num, by rw [HT2.out], Lib.hid (HG.out.drew _)⟩
            case measure => simp [intOf]; omega
          | false =>
            rw [hd, Bool.false_or] at hmt
            by_cases hyx : y = x.n
            · have hq := bytes_eq hyx
              rw [decide_eq_true hyx] at hmt
              have HT2 := Lib.hid hmt
              clear hmt hyx
              go_wp2_with fail
              go_quiet (fail)
              go_wp2_with fail
              go_roundw
              case rel => exact ⟨i + 1, by omega, by go_num, by rw [HT2.out], Lib.hid (HG.out.drew _)⟩
              case measure => simp [intOf]; omega
            · have hq := bytes_ne hyx
              rw [decide_eq_false hyx] at hmt
              have HT2 := Lib.hid hmt
              clear hmt hyx
              go_wp2_with fail
              go_quiet (fail)
              go_wp2_with fail
              go_roundw
              case rel => exact ⟨i + 1, by omega, by go_num, by rw [HT2.out], Lib.hid (HG.out.drew _)⟩
              case measure => simp [intOf]; omega
        · have hte : os.take i = os := List.take_of_length_le (by rw [HL.out]; omega)
          cases hd : met x (os.take i) with
          | true =>
            have HX : Hid (acts (l.take (k + 1)) = os) := by
              show _ = _
              rw [hte] at hd
              rw [HT.out, HO.out, add_met hd]
            clear hte
            go_wp2_with fail
            go_roundw
            case rel => exact ⟨k + 1, a, n, c, os, by omega, by omega, by go_num, rfl, HL, HX, HG⟩
            case measure => simp [intOf]; omega
          | false =>
            have HX : Hid (acts (l.take (k + 1)) = os ++ [x.n]) := by
              show _ = _
              rw [hte] at hd
              rw [HT.out, HO.out, add_new hd]
            obtain ⟨v', w', hrun, hgot⟩ := HG.out.add x.n (by rw [HL.out]; omega)
            have c2 : wr.cell? ⟨b, off + k * 3 + 1, none⟩ = some (.string x.n) := by rw [HG.out.2.cell (Ap.cell_lt E2.out)]; exact E2.out
            obtain ⟨_, a', c', rfl, -⟩ := hgot.form
            have HL' : Hid ((os ++ [x.n]).length = n + 1) := by
              show _ = _
              rw [List.length_append, HL.out]
              rfl
            rw [HL'.out] at hrun hgot
            have R := Lib.hid hrun
            have HG' := Lib.hid hgot
            clear hte hrun hgot
            go_wp2_with (at_builtin; refine Ap.wpList_append_run (by rfl) (.tmp 40) (.tmp 46) _ _ rfl _ _ rfl rfl _ w' R.out ?_)
            go_roundw
            case rel => exact ⟨k + 1, a', n + 1, c', os ++ [x.n], by omega, by omega, by go_num, rfl, HL', HX, HG'⟩
            case measure => simp [intOf]; omega
    · have HZ : Hid (acts l = os) := by
        have := HO.out
        rwa [List.take_of_length_le (by omega)] at this
      go_wp2_with fail
      go_ret
      exact ⟨_, rfl, by rw [HZ.out]; exact HG.out.form, HG.out.2⟩
theorem actsR_any (v : Value) (l : List Nd) (w : World) (hv : Nds w v l) (hl : l.length ≤ 1000) :
    Calls Try.prog 20 #[v] w fun e w' => ∃ y, e = .returned y ∧ Strs w' y (acts l) ∧ Below w.heap.size w w' := by
  rcases hv.form with ⟨rfl, a, cap, rfl⟩ | ⟨b, off, cap, rfl, _, hat⟩
  · exact acts_empty a cap w
  · exact acts_cells b off cap l w hl hat
end Go.Proofs.Ytcgbbhnhpkkomaa.So
