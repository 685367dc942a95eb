/- How many rows there are of actions that are all other ones; the law of traces TraceCount, walked from the contracts. -/
import Derived.Test.YtmhmfnjjdcdkcaaDoorTrl
import Derived.Test.YtmhmfnjjdcdkcaaDoorTrq
namespace Go.Proofs.YtmhmfnjjdcdkcaaDoor.Tr
open Go Go.RowKit
set_option maxRecDepth 20000

/-- Choices of places. -/
def cnt : Nat → Nat → Nat
  | 0 => fun _ => 1
  | m + 1 => fun n => Nat.rec 1 (fun n r => cnt m (n + 1) + r) n
theorem cnt_nil (n : Nat) : cnt 0 n = 1 := rfl
theorem cnt_succ (m n : Nat) : cnt (m + 1) (n + 1) = cnt m (n + 1) + cnt (m + 1) n := rfl
theorem cnt_zero (m : Nat) : cnt m 0 = 1 := by cases m <;> rfl
theorem mx_cnt : ∀ (n : Nat) (a b : List ByteArray), a.length + b.length ≤ n → (mx n a b).length = cnt a.length b.length
  | n, [], b, _ => by rw [mx_nil]; rfl
  | n, x :: a, [], _ => by rw [mx_nil_r]; rfl
  | 0, x :: a, y :: b, h => by simp at h
  | n + 1, x :: a, y :: b, h => by
    simp only [List.length_cons] at h
    simp only [mx, List.length_append, List.length_map, List.length_cons]
    rw [mx_cnt n a (y :: b) (by simp; omega), mx_cnt n (x :: a) b (by simp; omega)]
    rfl
theorem mx_nodup : ∀ (n : Nat) (a b : List ByteArray), (∀ x ∈ a, x ∉ b) → (mx n a b).Nodup
  | n, [], b, _ => by rw [mx_nil]; simp
  | n, x :: a, [], _ => by rw [mx_nil_r]; simp
  | 0, x :: a, y :: b, _ => by simp [mx]
  | n + 1, x :: a, y :: b, h => by
    simp only [mx]
    have hxy : x ≠ y := fun e => h x (by simp) (by simp [e])
    have h1 : (mx n a (y :: b)).Nodup := mx_nodup n a (y :: b) fun z hz => h z (by simp [hz])
    have h2 : (mx n (x :: a) b).Nodup := mx_nodup n (x :: a) b fun z hz hb => h z hz (by simp [hb])
    refine List.nodup_append.2 ⟨List.Pairwise.map _ (fun p q hpq e => hpq (by simpa using e)) h1, List.Pairwise.map _ (fun p q hpq e => hpq (by simpa using e)) h2, fun p hp q hq e => ?_⟩
    obtain ⟨s, _, rfl⟩ := List.mem_map.1 hp
    obtain ⟨u, _, rfl⟩ := List.mem_map.1 hq
    exact hxy (by simpa using (List.cons.inj e).1)
theorem ins_new {t : Tr} : ∀ {l : List Tr}, t ∉ l → (ins t l).length = l.length + 1
  | [], _ => rfl
  | p :: l, h => by
    unfold ins
    split
    · rfl
    · split
      · have := ins_new (t := t) (l := l) fun h' => h (List.mem_cons_of_mem _ h')
        simp [this]
      · exact absurd (cmp_eq0 (p := t) (q := p) (by have := cmp_bd t p; omega)) (fun e => h (by simp [e]))
theorem norm_nodup : ∀ {l : List Tr}, l.Nodup → (norm l).length = l.length
  | [], _ => rfl
  | t :: l, h => by
    have h' := List.nodup_cons.1 h
    rw [norm, ins_new (by rw [mem_norm]; exact h'.1), norm_nodup h'.2]
    rfl
theorem mix_cnt {a b : List ByteArray} (hl : a.length + b.length ≤ 19) (h : ∀ x ∈ a, x ∉ b) : (mix a b).length = cnt a.length b.length := by
  unfold mix pr
  rw [List.length_map, norm_nodup, List.length_map, mx_cnt 19 a b hl]
  exact List.Pairwise.map _ (fun p q hpq e => hpq (by simpa using e)) (mx_nodup 19 a b h)

/-- The names that the statement gives. -/
abbrev nms : ByteArray := ⟨#[97, 98, 99, 100, 101, 102, 103, 104, 105, 106, 107, 108]⟩
def nm (i : Nat) : ByteArray := nms.extract i (i + 1)
theorem nm_inj {i j : Nat} (hi : i < 12) (hj : j < 12) (h : nm i = nm j) : i = j := by
  have key : ∀ i, i < 12 → (nm i).data = #[UInt8.ofNat (97 + i)] := by decide
  have e := congrArg ByteArray.data h
  rw [key i hi, key j hj] at e
  have e2 : UInt8.ofNat (97 + i) = UInt8.ofNat (97 + j) := by simpa using e
  have e3 := congrArg UInt8.toNat e2
  simp [UInt8.toNat_ofNat'] at e3
  omega
/-- Some of them, from one on. -/
def nmr (s k : Nat) : List ByteArray := (List.range k).map fun i => nm (s + i)
theorem nmr_len (s k : Nat) : (nmr s k).length = k := by simp [nmr]
theorem nmr_snoc (s k : Nat) : nmr s (k + 1) = nmr s k ++ [nm (s + k)] := by simp [nmr, List.range_succ]
theorem nmr_apart {m n : Nat} (h : m + n ≤ 12) : ∀ x ∈ nmr 0 m, x ∉ nmr m n := by
  intro x hx hy
  obtain ⟨i, hi, rfl⟩ := List.mem_map.1 hx
  obtain ⟨j, hj, e⟩ := List.mem_map.1 hy
  simp at hi hj
  have := nm_inj (by omega) (by omega) e
  omega
theorem count_all {m n : Nat} (h : m + n ≤ 8) : (mix (nmr 0 m) (nmr m n)).length = cnt m n := by
  rw [mix_cnt (by rw [nmr_len, nmr_len]; omega) (nmr_apart (by omega)), nmr_len, nmr_len]

theorem run_append_str {wr : World} {base : Nat} {v : Value} {l : List ByteArray} {s : ByteArray} (hown : wr.ownsRow base 9 1 v l.length (l.map .string)) (hbase : base ≤ wr.heap.size) (hlen : l.length ≤ 2000000) :
    ∃ v' w', (Builtin.append_ #[22, 22] 22 #[v, .slice (some ⟨wr.heap.size, 0, none⟩) 1 1]).run Tryd.prog (wr.alloc (.cells #[.string s] 9)) = .ok v' w' ∧ w'.ownsRow base 9 1 v' (l ++ [s]).length ((l ++ [s]).map .string) ∧ Below base wr w' := by
  obtain ⟨i0, hi, hz, hs1, hb8⟩ := info_parts infoS
  obtain ⟨v', w', h1, h2, _, h4, _⟩ := Ap.run_append_one (P := Tryd.prog) (ty := 22) Tryd.underlying22 hi hz hs1 hb8 (by rfl) (by omega) hown hbase #[.string s] rfl
    (fun u hu => by
      simp at hu
      subst hu
      rfl) (by unfold maxLen; omega) (by omega)
  exact ⟨v', w', h1, by simpa using h2, h4⟩

theorem cnt_all : ∀ m, m < 7 → ∀ k, k < 7 → wrap64 ((wrap64 ((cnt m k : Int) * ((m : Int) + (k : Int) + 1))).tdiv ((k : Int) + 1)) = ((cnt m (k + 1) : Nat) : Int) := by decide +kernel
theorem cnt_step {m k : Nat} (hm : m < 7) (hk : k < 7) : wrap64 ((wrap64 ((cnt m k : Int) * ((m : Int) + (k : Int) + 1))).tdiv ((k : Int) + 1)) = ((cnt m (k + 1) : Nat) : Int) := cnt_all m hm k hk

set_option maxHeartbeats 4000000 in
theorem count_small (C : Con) (m n : Nat) (w : World) (h : Sg.Tab w) (hm : m ≤ 6) (hn : n ≤ 6) (hs : m + n ≤ 8) :
    Calls Tryd.prog 8 #[.int .i64 m, .int .i64 n] w fun e w' => e = .returned (.bool true) ∧ Below w.heap.size w w' := by
  go_enter Tryd.func8, Tryd.ntmps8
  go_wp2_with fail
  go_loopw [6, 33] (fun v i wr => ∃ k : Nat, k ≤ m ∧ i = .int .i64 k ∧ Below w.heap.size w wr ∧ wr.ownsRow w.heap.size 9 1 v (nmr 0 k).length ((nmr 0 k).map .string)) (fun _ i _ => m - (intOf i).toNat)
  case atStart => exact ⟨0, Nat.zero_le _, rfl, Below.refl _ _, ⟨rfl, .inl ⟨rfl, rfl⟩⟩⟩
  case round =>
    obtain ⟨k, hk, rfl, hb, hown⟩ := hrel
    have HB := Lib.hid hb
    have HO := Lib.hid hown
    clear hb hown
    by_cases hlt : k < m
    · obtain ⟨v2, w2, hrun, ho2, hb2⟩ := run_append_str (s := nm (0 + k)) HO.out HB.out.size (by rw [nmr_len]; omega)
      rw [← nmr_snoc] at ho2
      rw [Nat.zero_add] at hrun
      have HRUN := Lib.hid hrun
      have O2 := Lib.hid ho2
      have B2 := Lib.hid (HB.out.trans hb2)
      clear hrun ho2 hb2
      go_wp2_with (at_builtin; refine Ap.wpList_append_run (by rfl) _ _ _ _ rfl _ _ rfl rfl v2 w2 HRUN.out ?_)
      go_roundw
      case rel => exact ⟨k + 1, by omega, by go_num, B2.out, O2.out⟩
      case measure => simp [intOf]; omega
    · obtain rfl : k = m := by omega
      have HA : Hid (Strs wr u6 (nmr 0 k)) := Ap.Rd.owned HO.out
      clear HO
      obtain ⟨wo, rfl⟩ : ∃ wo : World, wo = wr := ⟨_, rfl⟩
      go_wp2_with fail
      go_loopw [7, 8, 46] (fun v c i wx => ∃ j : Nat, j ≤ n ∧ i = .int .i64 j ∧ c = .int .i64 (cnt k j) ∧ Below wo.heap.size wo wx ∧ wx.ownsRow wo.heap.size 9 1 v (nmr k j).length ((nmr k j).map .string)) (fun _ _ i _ => n - (intOf i).toNat)
      case atStart => exact ⟨0, Nat.zero_le _, rfl, by rw [cnt_zero]; rfl, Below.refl _ _, ⟨rfl, .inl ⟨rfl, rfl⟩⟩⟩
      case round =>
        obtain ⟨j, hj, rfl, rfl, hb, hown⟩ := hrel
        have XB := Lib.hid hb
        have XO := Lib.hid hown
        clear hb hown
        by_cases hjt : j < n
        · obtain ⟨v2, w2, hrun, ho2, hb2⟩ := run_append_str (s := nm (k + j)) XO.out XB.out.size (by rw [nmr_len]; omega)
          rw [← nmr_snoc] at ho2
          have HRUN := Lib.hid hrun
          have O2 := Lib.hid ho2
          have B2 := Lib.hid (XB.out.trans hb2)
          have HC := Lib.hid (cnt_step (m := k) (k := j) (by omega) (by omega))
          clear hrun ho2 hb2
          go_wp2_with (at_builtin; refine Ap.wpList_append_run (by rfl) _ _ _ _ rfl _ _ rfl rfl v2 w2 HRUN.out ?_)
          go_roundw
          case rel =>
            exact ⟨j + 1, by omega, by go_num, congrArg (Value.int .i64) HC.out, B2.out, O2.out⟩
          case measure => simp [intOf]; omega
        · obtain rfl : j = n := by omega
          have HBn : Hid (Strs wr u7 (nmr k j)) := Ap.Rd.owned XO.out
          have HCA := Lib.hid (count_all (m := k) (n := j) (by omega))
          have BA := Lib.hid (HB.out.trans (XB.out.mono HB.out.size))
          go_wp2_with fail
          refine (alive_any C _ (Tab.below h BA.out)).mono ?_
          rintro e w3 ⟨rfl, hb3⟩
          have B3 := Lib.hid (BA.out.trans (hb3.mono BA.out.size))
          have A3 := Lib.hid ((HA.out.below XB.out).below hb3)
          have N3 := Lib.hid (HBn.out.below hb3)
          clear hb3
          go_wp2_with fail
          refine (C.cMix _ _ (nmr 0 k) (nmr k j) _ (Tab.below h B3.out) A3.out N3.out (by rw [nmr_len, nmr_len]; omega)).mono ?_
          rintro e w4 ⟨v4, rfl, hr4, hb4⟩
          obtain ⟨a4, c4, rfl, -⟩ := hr4.val
          rw [HCA.out]
          have B4 := Lib.hid (B3.out.trans (hb4.mono B3.out.size))
          clear hr4 hb4
          go_wp2_with fail
          go_ret
          exact ⟨ret_bool (by simp), B4.out⟩

set_option maxHeartbeats 1000000 in
theorem count_law (C : Con) (m n : Int) (w : World) (h : Sg.Tab w) :
    Calls Tryd.prog 8 #[.int .i64 m, .int .i64 n] w fun e w' => e = .returned (.bool true) ∧ Below w.heap.size w w' := by
  by_cases hs : 0 ≤ m ∧ 0 ≤ n ∧ m ≤ 6 ∧ n ≤ 6 ∧ m + n ≤ 8
  · obtain ⟨h1, h2, h3, h4, h5⟩ := hs
    obtain ⟨m', rfl⟩ := Int.eq_ofNat_of_zero_le h1
    obtain ⟨n', rfl⟩ := Int.eq_ofNat_of_zero_le h2
    exact count_small C m' n' w h (by omega) (by omega) (by omega)
  · by_cases g1 : m < 0
    · have d1 : decide (m < 0) = true := by simpa using g1
      clear hs
      go_enter Tryd.func8, Tryd.ntmps8
      go_wp2_with fail
      refine (alive_any C _ h).mono ?_
      rintro e w2 ⟨rfl, hb2⟩
      go_wp2_with fail
      go_ret
      exact ⟨rfl, hb2⟩
    have d1 : decide (m < 0) = false := by simpa using g1
    by_cases g2 : n < 0
    · have d2 : decide (n < 0) = true := by simpa using g2
      clear hs
      go_enter Tryd.func8, Tryd.ntmps8
      go_wp2_with fail
      refine (alive_any C _ h).mono ?_
      rintro e w2 ⟨rfl, hb2⟩
      go_wp2_with fail
      go_ret
      exact ⟨rfl, hb2⟩
    have d2 : decide (n < 0) = false := by simpa using g2
    by_cases g3 : 6 < m
    · have d3 : decide (6 < m) = true := by simpa using g3
      clear hs
      go_enter Tryd.func8, Tryd.ntmps8
      go_wp2_with fail
      refine (alive_any C _ h).mono ?_
      rintro e w2 ⟨rfl, hb2⟩
      go_wp2_with fail
      go_ret
      exact ⟨rfl, hb2⟩
    have d3 : decide (6 < m) = false := by simpa using g3
    by_cases g4 : 6 < n
    · have d4 : decide (6 < n) = true := by simpa using g4
      clear hs
      go_enter Tryd.func8, Tryd.ntmps8
      go_wp2_with fail
      refine (alive_any C _ h).mono ?_
      rintro e w2 ⟨rfl, hb2⟩
      go_wp2_with fail
      go_ret
      exact ⟨rfl, hb2⟩
    have d4 : decide (6 < n) = false := by simpa using g4
    have g5 : 8 < m + n := by omega
    have d5 : decide (8 < m + n) = true := by simpa using g5
    clear hs
    go_enter Tryd.func8, Tryd.ntmps8
    go_wp2_with fail
    refine (alive_any C _ h).mono ?_
    rintro e w2 ⟨rfl, hb2⟩
    go_wp2_with fail
    go_ret
    exact ⟨rfl, hb2⟩
end Go.Proofs.YtmhmfnjjdcdkcaaDoor.Tr
