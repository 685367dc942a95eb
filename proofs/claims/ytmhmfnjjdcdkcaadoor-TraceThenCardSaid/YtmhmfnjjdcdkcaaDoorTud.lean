/- The program's behind: what is left of some rests behind an action; the walk. -/
import Derived.Test.YtmhmfnjjdcdkcaaDoorTuc
import Derived.Test.YtmhmfnjjdcdkcaaDoorTr4
namespace Go.Proofs.YtmhmfnjjdcdkcaaDoor.Tr
open Go Go.RowKit
set_option maxRecDepth 20000

theorem infoRs : (Tryd.prog.info? 73).map (fun i => (i.zero, i.size, i.bytes)) = some (some (.agg #[.slice none 0 0, .slice none 0 0]), 2, 48) := by kernel_rfl
/-- One rest appended to a row that the call owns. -/
theorem run_append_rest {wr : World} {base n : Nat} {v a b : Value} {cs : List Value} (hown : wr.ownsRow base 73 2 v n cs) (hbase : base ≤ wr.heap.size) (ha : a.oneCell' = true) (hb : b.oneCell' = true) (hlen : n ≤ 1000000) :
    ∃ v' w', (Builtin.append_ #[69, 69] 69 #[v, .slice (some ⟨wr.heap.size, 0, none⟩) 1 1]).run Tryd.prog (wr.alloc (.cells #[a, b] 73)) = .ok v' w' ∧
      w'.ownsRow base 73 2 v' (n + 1) (cs ++ [a, b]) ∧ wr.grownBy w' v.ownBlock ∧ Below base wr w' ∧ Ap.Fresh wr v v' := by
  obtain ⟨i0, hi, hz, hs1, hb8⟩ := info_parts infoRs
  obtain ⟨v', w', h1, h2, h3, h4, h5⟩ := Ap.run_append_one (P := Tryd.prog) (ty := 69) Tryd.underlying69 hi hz hs1 hb8 (by rfl) (by omega) hown hbase #[a, b] rfl
    (fun u hu => by
      simp at hu
      rcases hu with rfl | rfl
      · exact ha
      · exact hb) (by unfold maxLen; omega) (by omega)
  exact ⟨v', w', h1, by simpa using h2, h3, h4, h5⟩
/-- The same as the walk spells it. -/
theorem run_append_rest' {wr : World} {base n g : Nat} {v a b : Value} {cs : List Value} (hg : wr.heap.size = g) (hown : wr.ownsRow base 73 2 v n cs) (hbase : base ≤ wr.heap.size) (ha : a.oneCell' = true) (hb : b.oneCell' = true) (hlen : n ≤ 1000000) :
    ∃ v' w', (Builtin.append_ #[69, 69] 69 #[v, .slice (some ⟨g, 0, none⟩) 1 1]).run Tryd.prog (wr.alloc (.cells #[a, b] 73)).drew = .ok v' w' ∧
      w'.ownsRow base 73 2 v' (n + 1) (cs ++ [a, b]) ∧ wr.grownBy w' v.ownBlock ∧ Below base wr w' ∧ Ap.Fresh wr v v' := by
  subst hg
  obtain ⟨v', w', h1, h2, h3, h4, h5⟩ := run_append_rest (wr := wr.drew) (a := a) (b := b) (Ap.own_below hown (Below.refl _ _).drew) hbase ha hb hlen
  exact ⟨v', w', h1, h2, gb_trans (gb_drew _ _) h3, (Below.refl _ _).drew.trans h4, h5⟩
theorem RsC.snoc {ok : Nat → Prop} {w : World} {a b : Value} {q : Rst} (ha : StrsO ok w a q.1) (hb : StrsO ok w b q.2) : ∀ {cs : List Value} {qs : List Rst}, RsC ok w cs qs → RsC ok w (cs ++ [a, b]) (qs ++ [q])
  | [], [], _ => ⟨ha, hb, trivial⟩
  | _ :: _ :: _, _ :: _, h => ⟨h.1, h.2.1, RsC.snoc ha hb h.2.2⟩
  | [], _ :: _, h => h.elim
  | [_], [], h => h.elim
  | [_], _ :: _, h => h.elim
  | _ :: _ :: _, [], h => h.elim
/-- The rest behind the first, wherever an empty rest is said to lie. -/
theorem strsO_tail {ok : Nat → Prop} {w : World} {b off cap : Nat} {x : ByteArray} {l : List ByteArray} (h : StrsO ok w (.slice (some ⟨b, off, none⟩) (l.length + 1) cap) (x :: l)) (o : Nat) (ho : o = off + 1 ∨ cap = 1) :
    StrsO ok w (.slice (some ⟨b, o, none⟩) l.length (cap - 1)) l := by
  obtain ⟨hl, a, cap', hv, hc, hn, hcell⟩ := h
  cases hv
  simp at hc
  refine ⟨by simp, some ⟨b, o, none⟩, cap - 1, rfl, by omega, fun h => (by cases h), fun h0 => ?_⟩
  obtain ⟨b', off', ha, hok, hlt, hj⟩ := hcell (by simp)
  cases ha
  rcases ho with rfl | h1
  · refine ⟨b, off + 1, rfl, hok, hlt, fun j u hu => ?_⟩
    rw [show off + 1 + j = off + (j + 1) by omega]
    exact hj (j + 1) u (by simpa using hu)
  · omega
theorem bh_take (x : ByteArray) (left : List Rst) (k : Nat) (h : k < left.length) : bh x (left.take (k + 1)) = bh x (left.take k) ++ bh1 x left[k] := by
  rw [List.take_succ_eq_append_getElem h, bh, List.flatMap_append]
  simp [bh]
theorem bh_len (x : ByteArray) : ∀ left : List Rst, (bh x left).length ≤ 2 * left.length
  | [] => by simp [bh]
  | q :: left => by
    have := bh_len x left
    have e : bh x (q :: left) = bh1 x q ++ bh x left := by simp [bh]
    have e2 : (bh1 x q).length ≤ 2 := by
      unfold bh1
      rw [List.length_append]
      split <;> split <;> simp
    rw [e, List.length_append, List.length_cons]
    omega
theorem str_ne {x y : ByteArray} (h : y ≠ x) : (y.toList == x.toList) = false := by
  rw [beq_eq_false_iff_ne]
  exact fun e => h (toList_inj e)
/-- A rest of a row: its two cells, and where its actions lie. -/
theorem Rss.formO {ok : Nat → Prop} {w : World} {v : Value} {qs : List Rst} (h : Rss ok w v qs) : ∃ a cap, v = .slice a qs.length cap ∧
    ∀ k, (hk : k < qs.length) → ∃ b off x y, a = some ⟨b, off, none⟩ ∧ w.cell? ⟨b, off + k * 2, none⟩ = some x ∧ w.cell? ⟨b, off + k * 2 + 1, none⟩ = some y ∧ StrsO ok w x qs[k].1 ∧ StrsO ok w y qs[k].2 := by
  obtain ⟨cs, ⟨_, a, cap, rfl, _, _, hcell⟩, hc⟩ := h
  refine ⟨a, cap, rfl, fun k hk => ?_⟩
  obtain ⟨b, off, ha, _, _, hj⟩ := hcell (by omega)
  obtain ⟨x, y, h1, h2, h3, h4⟩ := hc.at k hk
  exact ⟨b, off, x, y, ha, by rw [Nat.mul_comm k 2]; exact hj _ _ h1, by rw [Nat.mul_comm k 2, Nat.add_assoc]; exact hj _ _ h2, h3, h4⟩

/-- The rests that were found so far. -/
def BhI (ok : Nat → Prop) (x : ByteArray) (left : List Rst) (w : World) (k : Nat) (v : Value) (wr : World) : Prop :=
  ∃ cs, wr.ownsRow w.heap.size 73 2 v (bh x (left.take k)).length cs ∧ RsC ok w cs (bh x (left.take k)) ∧ Below w.heap.size w wr

set_option maxHeartbeats 8000000 in
theorem behind_loop (ok : Nat → Prop) (v : Value) (left : List Rst) (x : ByteArray) (w : World) (h : Rss ok w v left) (hlen : left.length ≤ 100000) (hq : ∀ q ∈ left, q.1.length ≤ 1000 ∧ q.2.length ≤ 1000)
    (fin : ∀ (v1 : Value) (w1 : World), BhI ok x left w left.length v1 w1 → Calls Tryd.prog 67 #[v1, .func (.func 68) #[] #[]] w1 fun e w' => ∃ vl l', e = .returned vl ∧ Rss (fun b => ok b ∨ w.heap.size ≤ b) w' vl l' ∧ (∀ p, p ∈ l' ↔ p ∈ bh x left) ∧ l'.length ≤ 2 * left.length ∧ Below w.heap.size w w') :
    Calls Tryd.prog 50 #[v, .string x] w fun e w' => ∃ vl l', e = .returned vl ∧ Rss (fun b => ok b ∨ w.heap.size ≤ b) w' vl l' ∧ (∀ p, p ∈ l' ↔ p ∈ bh x left) ∧ l'.length ≤ 2 * left.length ∧ Below w.heap.size w w' := by
  obtain ⟨a, cap, rfl, hf⟩ := h.formO
  have HF := Lib.hid hf
  have HQ := Lib.hid hq
  have FIN := Lib.hid fin
  clear hf hq h fin
  go_enter Tryd.func50, Tryd.ntmps50
  go_wp2_with fail
  go_loopw [5, 10] (fun vn i wr => ∃ k : Nat, k ≤ left.length ∧ i = .int .i64 (k : Int) ∧ BhI ok x left w k vn wr) (fun _ i _ => left.length - (intOf i).toNat)
  case atStart => exact ⟨0, Nat.zero_le _, rfl, [], ⟨rfl, .inl ⟨rfl, rfl⟩⟩, trivial, Below.refl _ _⟩
  case round =>
    obtain ⟨k, hk, rfl, HI⟩ := hrel
    by_cases hlt : k < left.length
    · obtain ⟨cs, hown, hrs, hb⟩ := HI
      have hbl := bh_len x (left.take k)
      have hkk : (left.take k).length = k := by simp; omega
      obtain ⟨b, off, xv, yv, rfl, e0, e1, s0, s1⟩ := HF.out k hlt
      have c0 : wr.cell? ⟨b, off + k * 2, none⟩ = some xv := by rw [hb.cell (Ap.cell_lt e0)]; exact e0
      have c1 : wr.cell? ⟨b, off + k * 2 + 1, none⟩ = some yv := by rw [hb.cell (Ap.cell_lt e1)]; exact e1
      have hq := HQ.out _ (List.getElem_mem hlt)
      have ht := bh_take x left k hlt
      obtain ⟨q, hqq⟩ : ∃ q, left[k] = q := ⟨_, rfl⟩
      rw [hqq] at hq ht s0 s1
      clear hqq e0 e1
      obtain ⟨qa, qb⟩ := q
      simp only at hq s0 s1
      obtain ⟨n0, hn0⟩ : ∃ n0, (bh x (left.take k)).length = n0 := ⟨_, rfl⟩
      rw [hn0] at hown hbl
      obtain ⟨_, a3, c3, rfl, -⟩ := id (Ap.Rd.owned hown)
      have HO := Lib.hid hown
      have HR := Lib.hid hrs
      have HB := Lib.hid hb
      have HN := Lib.hid hn0
      have HT := Lib.hid ht
      have S0 := Lib.hid s0
      have S1 := Lib.hid s1
      have hnb : some wr.heap.size ≠ (Value.slice a3 n0 c3).ownBlock := fun e => by
        have := Ap.own_lt hown _ e.symm
        omega
      have HNB := Lib.hid hnb
      clear hown hrs hb ht s0 s1 hn0 hnb
      cases qb with
      | nil =>
        obtain ⟨_, ay, cy, rfl, -⟩ := id S1.out
        cases qa with
        | nil =>
          obtain ⟨_, ax, cx, rfl, -⟩ := id S0.out

          go_wp2_with fail
          go_roundw
          case rel =>
            refine ⟨k + 1, by omega, by go_num, cs, ?_, ?_, HB.out.alloc HB.out.size _⟩
            · rw [HT.out, show bh1 x ([], []) = [] by simp [bh1], List.append_nil, HN.out]; exact HO.out.alloc _
            · rw [HT.out, show bh1 x ([], []) = [] by simp [bh1], List.append_nil]; exact HR.out
          case measure => simp [intOf]; omega
        | cons z l =>
          obtain ⟨_, ax, cx, rfl, _, _, hcx⟩ := id S0.out
          obtain ⟨b1, o1, rfl, _, hlt1, hj1⟩ := hcx (by simp)
          have hz0 : w.cell? ⟨b1, o1, none⟩ = some (.string z) := hj1 0 (.string z) (by simp)
          have HZ0 := Lib.hid hz0
          clear hj1 hcx hz0
          have hl1 : (0 : Int) < (l.length : Int) + 1 := by omega
          have f1 : (wr.alloc (.cells #[.slice (some ⟨b1, o1, none⟩) (l.length + 1) cx, .slice ay 0 cy] 73)).cell? ⟨b1, o1, none⟩ = some (.string z) := by rw [World.cell?_alloc_lt _ _ _ (Nat.lt_of_lt_of_le hlt1 HB.out.size), HB.out.cell (p := ⟨b1, o1, none⟩) hlt1]; exact HZ0.out

          by_cases hzx : z = x
          · subst hzx
            have heqz : (z.toList == z.toList) = true := by simp
            obtain ⟨p1, hp1, rs1⟩ : ∃ p1, (p1 = o1 + 1 ∨ cx = 1) ∧ ∀ w : World, (Instr.slice 22 (.slice (some ⟨b1, o1, none⟩) (l.length + 1) cx) (some (.int .i64 1)) none none).run Tryd.prog w = .ok (.slice (some ⟨b1, p1, none⟩) l.length (cx - 1)) w := ⟨_, (by by_cases h : cx = 1 <;> simp [h]), slice1 b1 o1 l.length cx⟩
            have TA := Lib.hid (strsO_tail S0.out p1 hp1)
            clear hp1
            obtain ⟨v5, w5, hr5, ho5, hg5, hb5, _⟩ := run_append_rest' (wr := wr.alloc (.cells #[.slice (some ⟨b1, o1, none⟩) (l.length + 1) cx, .slice ay 0 cy] 73)) (g := wr.heap.size + 1) (a := .slice (some ⟨b1, p1, none⟩) l.length (cx - 1)) (b := .slice ay 0 cy) (by simp) (HO.out.alloc (.cells #[.slice (some ⟨b1, o1, none⟩) (l.length + 1) cx, .slice ay 0 cy] 73)) (HB.out.alloc HB.out.size (.cells #[.slice (some ⟨b1, o1, none⟩) (l.length + 1) cx, .slice ay 0 cy] 73)).size rfl rfl (by omega)
            have g0 : w5.cell? ⟨wr.heap.size, 0, none⟩ = some (.slice (some ⟨b1, o1, none⟩) (l.length + 1) cx) := hg5.cell (a := ⟨wr.heap.size, 0, none⟩) (by simp [go_sem]) HNB.out
            have g1 : w5.cell? ⟨wr.heap.size, 1, none⟩ = some (.slice ay 0 cy) := hg5.cell (a := ⟨wr.heap.size, 1, none⟩) (by simp [go_sem]) HNB.out
            have R5 := Lib.hid hr5
            have O5 := Lib.hid ho5
            have B5 := Lib.hid ((HB.out.alloc HB.out.size (.cells #[.slice (some ⟨b1, o1, none⟩) (l.length + 1) cx, .slice ay 0 cy] 73)).trans hb5)
            obtain ⟨_, a5, c5, rfl, -⟩ := id (Ap.Rd.owned ho5)
            clear hr5 ho5 hg5 hb5
            go_wp2_with fail
            go_region_held3 (fun w' => w'.cell? ⟨wr.heap.size, 0, none⟩ = some (.slice (some ⟨b1, o1, none⟩) (l.length + 1) cx) ∧ w'.cell? ⟨wr.heap.size, 1, none⟩ = some (.slice ay 0 cy)) (first | exact ⟨g0, g1⟩ | fail | (simp [go_sem]; done) | go_keep | fail) (first
              | (refine Ap.step_append_run (by rfl) _ _ _ _ rfl _ _ rfl rfl _ w5 R5.out ?_)
              | fail)
            go_wp2_with fail
            go_roundw
            case rel =>
              refine ⟨k + 1, by omega, by go_num, cs ++ [.slice (some ⟨b1, p1, none⟩) l.length (cx - 1), .slice ay 0 cy], ?_, ?_, B5.out⟩
              · rw [HT.out, show bh1 z ((z :: l), []) = [(l, [])] by simp [bh1], List.length_append, HN.out]; exact O5.out
              · rw [HT.out, show bh1 z ((z :: l), []) = [(l, [])] by simp [bh1]]; exact RsC.snoc (q := (l, [])) TA.out S1.out HR.out
            case measure => simp [intOf]; omega
          · have heqz := str_ne hzx
            have HZX := Lib.hid hzx
            clear hzx
            go_wp2_with fail
            go_roundw
            case rel =>
              refine ⟨k + 1, by omega, by go_num, cs, ?_, ?_, HB.out.alloc HB.out.size _⟩
              · rw [HT.out, show bh1 x ((z :: l), []) = [] by simp [bh1, HZX.out], List.append_nil, HN.out]; exact HO.out.alloc _
              · rw [HT.out, show bh1 x ((z :: l), []) = [] by simp [bh1, HZX.out], List.append_nil]; exact HR.out
            case measure => simp [intOf]; omega
      | cons y m =>
        obtain ⟨_, ay, cy, rfl, _, _, hcy⟩ := id S1.out
        obtain ⟨b2, o2, rfl, _, hlt2, hj2⟩ := hcy (by simp)
        have hy0 : w.cell? ⟨b2, o2, none⟩ = some (.string y) := hj2 0 (.string y) (by simp)
        have f2 : ∀ o, (wr.alloc o).cell? ⟨b2, o2, none⟩ = some (.string y) := fun o => by rw [World.cell?_alloc_lt _ _ _ (Nat.lt_of_lt_of_le hlt2 HB.out.size), HB.out.cell (p := ⟨b2, o2, none⟩) hlt2]; exact hy0
        have F2 := Lib.hid f2
        clear hj2 hcy hy0 f2
        have hm1 : (0 : Int) < (m.length : Int) + 1 := by omega
        by_cases hyx : y = x
        · subst hyx
          have heq : (y.toList == y.toList) = true := by simp
          obtain ⟨p2, hp2, rs2⟩ : ∃ p2, (p2 = o2 + 1 ∨ cy = 1) ∧ ∀ w : World, (Instr.slice 22 (.slice (some ⟨b2, o2, none⟩) (m.length + 1) cy) (some (.int .i64 1)) none none).run Tryd.prog w = .ok (.slice (some ⟨b2, p2, none⟩) m.length (cy - 1)) w := ⟨_, (by by_cases h : cy = 1 <;> simp [h]), slice1 b2 o2 m.length cy⟩
          have TB := Lib.hid (strsO_tail S1.out p2 hp2)
          clear hp2
          cases qa with
          | nil =>
            obtain ⟨_, ax, cx, rfl, -⟩ := id S0.out
            have f2 := F2.out (.cells #[.slice ax 0 cx, .slice (some ⟨b2, o2, none⟩) (m.length + 1) cy] 73)
            obtain ⟨v4, w4, hr4, ho4, hg4, hb4, hfr4⟩ := run_append_rest' (wr := wr.alloc (.cells #[.slice ax 0 cx, .slice (some ⟨b2, o2, none⟩) (m.length + 1) cy] 73)) (g := wr.heap.size + 1) (a := .slice ax 0 cx) (b := .slice (some ⟨b2, p2, none⟩) m.length (cy - 1)) (by simp) (HO.out.alloc (.cells #[.slice ax 0 cx, .slice (some ⟨b2, o2, none⟩) (m.length + 1) cy] 73)) (HB.out.alloc HB.out.size (.cells #[.slice ax 0 cx, .slice (some ⟨b2, o2, none⟩) (m.length + 1) cy] 73)).size rfl rfl (by omega)
            have kb0 : w4.cell? ⟨wr.heap.size, 0, none⟩ = some (.slice ax 0 cx) := hg4.cell (a := ⟨wr.heap.size, 0, none⟩) (by simp [go_sem]) HNB.out
            have kb1 : w4.cell? ⟨wr.heap.size, 1, none⟩ = some (.slice (some ⟨b2, o2, none⟩) (m.length + 1) cy) := hg4.cell (a := ⟨wr.heap.size, 1, none⟩) (by simp [go_sem]) HNB.out
            have R4 := Lib.hid hr4
            have HB2 := Lib.hid ((HB.out.alloc HB.out.size (.cells #[.slice ax 0 cx, .slice (some ⟨b2, o2, none⟩) (m.length + 1) cy] 73)).trans hb4)
            have HR2 := Lib.hid (RsC.snoc (q := ([], m)) S0.out TB.out HR.out)
            have hnb2 : some wr.heap.size ≠ v4.ownBlock := fun e => by
              rcases hfr4 with h | ⟨k', h, h'⟩
              · rw [h] at e; exact HNB.out e
              · rw [h] at e
                cases e
                simp at h'
                omega
            have HNB2 := Lib.hid hnb2
            obtain ⟨_, a4, c4, rfl, -⟩ := id (Ap.Rd.owned ho4)
            have HO2 := Lib.hid ho4
            clear hr4 ho4 hg4 hb4 hfr4 hnb2
            go_wp2_with fail
            go_region_held3 (fun w' => w'.cell? ⟨wr.heap.size, 0, none⟩ = some (.slice ax 0 cx) ∧ w'.cell? ⟨wr.heap.size, 1, none⟩ = some (.slice (some ⟨b2, o2, none⟩) (m.length + 1) cy)) (first | exact ⟨kb0, kb1⟩ | (simp [go_sem]; done) | go_keep | fail) (first
              | (refine Ap.step_append_run (by rfl) _ _ _ _ rfl _ _ rfl rfl _ w4 R4.out ?_)
              | fail)
            go_wp2_with fail
            go_roundw
            case rel =>
              refine ⟨k + 1, by omega, by go_num, cs ++ [.slice ax 0 cx, .slice (some ⟨b2, p2, none⟩) m.length (cy - 1)], ?_, ?_, HB2.out⟩
              · rw [HT.out, show bh1 y ([], (y :: m)) = [([], m)] by simp [bh1], List.length_append, HN.out]; exact HO2.out
              · rw [HT.out, show bh1 y ([], (y :: m)) = [([], m)] by simp [bh1]]; exact HR2.out
            case measure => simp [intOf]; omega
          | cons z l =>
            obtain ⟨_, ax, cx, rfl, _, _, hcx⟩ := id S0.out
            obtain ⟨b1, o1, rfl, _, hlt1, hj1⟩ := hcx (by simp)
            have hz0 : w.cell? ⟨b1, o1, none⟩ = some (.string z) := hj1 0 (.string z) (by simp)
            have HZ0 := Lib.hid hz0
            clear hj1 hcx hz0
            have hl1 : (0 : Int) < (l.length : Int) + 1 := by omega
            have f2 := F2.out (.cells #[.slice (some ⟨b1, o1, none⟩) (l.length + 1) cx, .slice (some ⟨b2, o2, none⟩) (m.length + 1) cy] 73)
            obtain ⟨v4, w4, hr4, ho4, hg4, hb4, hfr4⟩ := run_append_rest' (wr := wr.alloc (.cells #[.slice (some ⟨b1, o1, none⟩) (l.length + 1) cx, .slice (some ⟨b2, o2, none⟩) (m.length + 1) cy] 73)) (g := wr.heap.size + 1) (a := .slice (some ⟨b1, o1, none⟩) (l.length + 1) cx) (b := .slice (some ⟨b2, p2, none⟩) m.length (cy - 1)) (by simp) (HO.out.alloc (.cells #[.slice (some ⟨b1, o1, none⟩) (l.length + 1) cx, .slice (some ⟨b2, o2, none⟩) (m.length + 1) cy] 73)) (HB.out.alloc HB.out.size (.cells #[.slice (some ⟨b1, o1, none⟩) (l.length + 1) cx, .slice (some ⟨b2, o2, none⟩) (m.length + 1) cy] 73)).size rfl rfl (by omega)
            have kb0 : w4.cell? ⟨wr.heap.size, 0, none⟩ = some (.slice (some ⟨b1, o1, none⟩) (l.length + 1) cx) := hg4.cell (a := ⟨wr.heap.size, 0, none⟩) (by simp [go_sem]) HNB.out
            have kb1 : w4.cell? ⟨wr.heap.size, 1, none⟩ = some (.slice (some ⟨b2, o2, none⟩) (m.length + 1) cy) := hg4.cell (a := ⟨wr.heap.size, 1, none⟩) (by simp [go_sem]) HNB.out
            have R4 := Lib.hid hr4
            have HB2 := Lib.hid ((HB.out.alloc HB.out.size (.cells #[.slice (some ⟨b1, o1, none⟩) (l.length + 1) cx, .slice (some ⟨b2, o2, none⟩) (m.length + 1) cy] 73)).trans hb4)
            have HR2 := Lib.hid (RsC.snoc (q := ((z :: l), m)) S0.out TB.out HR.out)
            have hnb2 : some wr.heap.size ≠ v4.ownBlock := fun e => by
              rcases hfr4 with h | ⟨k', h, h'⟩
              · rw [h] at e; exact HNB.out e
              · rw [h] at e
                cases e
                simp at h'
                omega
            have HNB2 := Lib.hid hnb2
            obtain ⟨_, a4, c4, rfl, -⟩ := id (Ap.Rd.owned ho4)
            have HO2 := Lib.hid ho4
            clear hr4 ho4 hg4 hb4 hfr4 hnb2
            go_wp2_with fail
            go_region_held3 (fun w' => w'.cell? ⟨wr.heap.size, 0, none⟩ = some (.slice (some ⟨b1, o1, none⟩) (l.length + 1) cx) ∧ w'.cell? ⟨wr.heap.size, 1, none⟩ = some (.slice (some ⟨b2, o2, none⟩) (m.length + 1) cy)) (first | exact ⟨kb0, kb1⟩ | (simp [go_sem]; done) | go_keep | fail) (first
              | (refine Ap.step_append_run (by rfl) _ _ _ _ rfl _ _ rfl rfl _ w4 R4.out ?_)
              | fail)
            have f1 : w4.cell? ⟨b1, o1, none⟩ = some (.string z) := by rw [HB2.out.cell (p := ⟨b1, o1, none⟩) hlt1]; exact HZ0.out
            by_cases hzx : z = y
            · subst hzx
              have heqz : (z.toList == z.toList) = true := by simp
              obtain ⟨p1, hp1, rs1⟩ : ∃ p1, (p1 = o1 + 1 ∨ cx = 1) ∧ ∀ w : World, (Instr.slice 22 (.slice (some ⟨b1, o1, none⟩) (l.length + 1) cx) (some (.int .i64 1)) none none).run Tryd.prog w = .ok (.slice (some ⟨b1, p1, none⟩) l.length (cx - 1)) w := ⟨_, (by by_cases h : cx = 1 <;> simp [h]), slice1 b1 o1 l.length cx⟩
              have TA := Lib.hid (strsO_tail S0.out p1 hp1)
              clear hp1
              obtain ⟨v5, w5, hr5, ho5, hg5, hb5, _⟩ := run_append_rest' (wr := w4) (g := w4.heap.size) (a := .slice (some ⟨b1, p1, none⟩) l.length (cx - 1)) (b := .slice (some ⟨b2, o2, none⟩) (m.length + 1) cy) (by simp) (HO2.out) (HB2.out).size rfl rfl (by omega)
              have g0 : w5.cell? ⟨wr.heap.size, 0, none⟩ = some (.slice (some ⟨b1, o1, none⟩) (l.length + 1) cx) := hg5.cell (a := ⟨wr.heap.size, 0, none⟩) (by exact kb0) HNB2.out
              have g1 : w5.cell? ⟨wr.heap.size, 1, none⟩ = some (.slice (some ⟨b2, o2, none⟩) (m.length + 1) cy) := hg5.cell (a := ⟨wr.heap.size, 1, none⟩) (by exact kb1) HNB2.out
              have R5 := Lib.hid hr5
              have O5 := Lib.hid ho5
              have B5 := Lib.hid ((HB2.out).trans hb5)
              obtain ⟨_, a5, c5, rfl, -⟩ := id (Ap.Rd.owned ho5)
              clear hr5 ho5 hg5 hb5
              go_wp2_with fail
              go_region_held3 (fun w' => w'.cell? ⟨wr.heap.size, 0, none⟩ = some (.slice (some ⟨b1, o1, none⟩) (l.length + 1) cx) ∧ w'.cell? ⟨wr.heap.size, 1, none⟩ = some (.slice (some ⟨b2, o2, none⟩) (m.length + 1) cy)) (first | exact ⟨g0, g1⟩ | exact ⟨kb0, kb1⟩ | (simp [go_sem]; done) | go_keep | fail) (first
                | (refine Ap.step_append_run (by rfl) _ _ _ _ rfl _ _ rfl rfl _ w5 R5.out ?_)
                | fail)
              go_wp2_with fail
              go_roundw
              case rel =>
                refine ⟨k + 1, by omega, by go_num, cs ++ [.slice (some ⟨b1, o1, none⟩) (l.length + 1) cx, .slice (some ⟨b2, p2, none⟩) m.length (cy - 1)] ++ [.slice (some ⟨b1, p1, none⟩) l.length (cx - 1), .slice (some ⟨b2, o2, none⟩) (m.length + 1) cy], ?_, ?_, B5.out⟩
                · rw [HT.out, show bh1 z ((z :: l), (z :: m)) = [((z :: l), m)] ++ [(l, (z :: m))] by simp [bh1], List.length_append, List.length_append, HN.out]; exact O5.out
                · rw [HT.out, show bh1 z ((z :: l), (z :: m)) = [((z :: l), m)] ++ [(l, (z :: m))] by simp [bh1], ← List.append_assoc]; exact RsC.snoc (q := (l, z :: m)) TA.out S1.out HR2.out
              case measure => simp [intOf]; omega
            · have heqz := str_ne hzx
              have HZX := Lib.hid hzx
              clear hzx
              go_wp2_with fail
              go_roundw
              case rel =>
                refine ⟨k + 1, by omega, by go_num, cs ++ [.slice (some ⟨b1, o1, none⟩) (l.length + 1) cx, .slice (some ⟨b2, p2, none⟩) m.length (cy - 1)], ?_, ?_, HB2.out⟩
                · rw [HT.out, show bh1 y ((z :: l), (y :: m)) = [((z :: l), m)] by simp [bh1, HZX.out], List.length_append, HN.out]; exact HO2.out
                · rw [HT.out, show bh1 y ((z :: l), (y :: m)) = [((z :: l), m)] by simp [bh1, HZX.out]]; exact HR2.out
              case measure => simp [intOf]; omega
        · have heq := str_ne hyx
          have HYX := Lib.hid hyx
          clear hyx
          cases qa with
          | nil =>
            obtain ⟨_, ax, cx, rfl, -⟩ := id S0.out
            have f2 := F2.out (.cells #[.slice ax 0 cx, .slice (some ⟨b2, o2, none⟩) (m.length + 1) cy] 73)
            go_wp2_with fail
            go_roundw
            case rel =>
              refine ⟨k + 1, by omega, by go_num, cs, ?_, ?_, HB.out.alloc HB.out.size _⟩
              · rw [HT.out, show bh1 x ([], (y :: m)) = [] by simp [bh1, HYX.out], List.append_nil, HN.out]; exact HO.out.alloc _
              · rw [HT.out, show bh1 x ([], (y :: m)) = [] by simp [bh1, HYX.out], List.append_nil]; exact HR.out
            case measure => simp [intOf]; omega
          | cons z l =>
            obtain ⟨_, ax, cx, rfl, _, _, hcx⟩ := id S0.out
            obtain ⟨b1, o1, rfl, _, hlt1, hj1⟩ := hcx (by simp)
            have hz0 : w.cell? ⟨b1, o1, none⟩ = some (.string z) := hj1 0 (.string z) (by simp)
            have HZ0 := Lib.hid hz0
            clear hj1 hcx hz0
            have hl1 : (0 : Int) < (l.length : Int) + 1 := by omega
            have f1 : (wr.alloc (.cells #[.slice (some ⟨b1, o1, none⟩) (l.length + 1) cx, .slice (some ⟨b2, o2, none⟩) (m.length + 1) cy] 73)).cell? ⟨b1, o1, none⟩ = some (.string z) := by rw [World.cell?_alloc_lt _ _ _ (Nat.lt_of_lt_of_le hlt1 HB.out.size), HB.out.cell (p := ⟨b1, o1, none⟩) hlt1]; exact HZ0.out
            have f2 := F2.out (.cells #[.slice (some ⟨b1, o1, none⟩) (l.length + 1) cx, .slice (some ⟨b2, o2, none⟩) (m.length + 1) cy] 73)
            by_cases hzx : z = x
            · subst hzx
              have heqz : (z.toList == z.toList) = true := by simp
              obtain ⟨p1, hp1, rs1⟩ : ∃ p1, (p1 = o1 + 1 ∨ cx = 1) ∧ ∀ w : World, (Instr.slice 22 (.slice (some ⟨b1, o1, none⟩) (l.length + 1) cx) (some (.int .i64 1)) none none).run Tryd.prog w = .ok (.slice (some ⟨b1, p1, none⟩) l.length (cx - 1)) w := ⟨_, (by by_cases h : cx = 1 <;> simp [h]), slice1 b1 o1 l.length cx⟩
              have TA := Lib.hid (strsO_tail S0.out p1 hp1)
              clear hp1
              obtain ⟨v5, w5, hr5, ho5, hg5, hb5, _⟩ := run_append_rest' (wr := wr.alloc (.cells #[.slice (some ⟨b1, o1, none⟩) (l.length + 1) cx, .slice (some ⟨b2, o2, none⟩) (m.length + 1) cy] 73)) (g := wr.heap.size + 1) (a := .slice (some ⟨b1, p1, none⟩) l.length (cx - 1)) (b := .slice (some ⟨b2, o2, none⟩) (m.length + 1) cy) (by simp) (HO.out.alloc (.cells #[.slice (some ⟨b1, o1, none⟩) (l.length + 1) cx, .slice (some ⟨b2, o2, none⟩) (m.length + 1) cy] 73)) (HB.out.alloc HB.out.size (.cells #[.slice (some ⟨b1, o1, none⟩) (l.length + 1) cx, .slice (some ⟨b2, o2, none⟩) (m.length + 1) cy] 73)).size rfl rfl (by omega)
              have g0 : w5.cell? ⟨wr.heap.size, 0, none⟩ = some (.slice (some ⟨b1, o1, none⟩) (l.length + 1) cx) := hg5.cell (a := ⟨wr.heap.size, 0, none⟩) (by simp [go_sem]) HNB.out
              have g1 : w5.cell? ⟨wr.heap.size, 1, none⟩ = some (.slice (some ⟨b2, o2, none⟩) (m.length + 1) cy) := hg5.cell (a := ⟨wr.heap.size, 1, none⟩) (by simp [go_sem]) HNB.out
              have R5 := Lib.hid hr5
              have O5 := Lib.hid ho5
              have B5 := Lib.hid ((HB.out.alloc HB.out.size (.cells #[.slice (some ⟨b1, o1, none⟩) (l.length + 1) cx, .slice (some ⟨b2, o2, none⟩) (m.length + 1) cy] 73)).trans hb5)
              obtain ⟨_, a5, c5, rfl, -⟩ := id (Ap.Rd.owned ho5)
              clear hr5 ho5 hg5 hb5
              go_wp2_with fail
              go_region_held3 (fun w' => w'.cell? ⟨wr.heap.size, 0, none⟩ = some (.slice (some ⟨b1, o1, none⟩) (l.length + 1) cx) ∧ w'.cell? ⟨wr.heap.size, 1, none⟩ = some (.slice (some ⟨b2, o2, none⟩) (m.length + 1) cy)) (first | exact ⟨g0, g1⟩ | fail | (simp [go_sem]; done) | go_keep | fail) (first
                | (refine Ap.step_append_run (by rfl) _ _ _ _ rfl _ _ rfl rfl _ w5 R5.out ?_)
                | fail)
              go_wp2_with fail
              go_roundw
              case rel =>
                refine ⟨k + 1, by omega, by go_num, cs ++ [.slice (some ⟨b1, p1, none⟩) l.length (cx - 1), .slice (some ⟨b2, o2, none⟩) (m.length + 1) cy], ?_, ?_, B5.out⟩
                · rw [HT.out, show bh1 z ((z :: l), (y :: m)) = [(l, (y :: m))] by simp [bh1, HYX.out], List.length_append, HN.out]; exact O5.out
                · rw [HT.out, show bh1 z ((z :: l), (y :: m)) = [(l, (y :: m))] by simp [bh1, HYX.out]]; exact RsC.snoc (q := (l, (y :: m))) TA.out S1.out HR.out
              case measure => simp [intOf]; omega
            · have heqz := str_ne hzx
              have HZX := Lib.hid hzx
              clear hzx
              go_wp2_with fail
              go_roundw
              case rel =>
                refine ⟨k + 1, by omega, by go_num, cs, ?_, ?_, HB.out.alloc HB.out.size _⟩
                · rw [HT.out, show bh1 x ((z :: l), (y :: m)) = [] by simp [bh1, HYX.out, HZX.out], List.append_nil, HN.out]; exact HO.out.alloc _
                · rw [HT.out, show bh1 x ((z :: l), (y :: m)) = [] by simp [bh1, HYX.out, HZX.out], List.append_nil]; exact HR.out
              case measure => simp [intOf]; omega
    · have hkl : k = left.length := by omega
      subst hkl
      have HI2 := HI
      obtain ⟨cs, hown, -⟩ := HI2
      obtain ⟨n0, hn0⟩ : ∃ n0, (bh x (left.take left.length)).length = n0 := ⟨_, rfl⟩
      rw [hn0] at hown
      obtain ⟨_, a3, c3, rfl, -⟩ := id (Ap.Rd.owned hown)
      have F := Lib.hid (FIN.out _ _ HI)
      clear hown hn0 HI
      go_wp2_with fail
      refine F.out.mono ?_
      rintro e w' ⟨vl, l', rfl, hl1, hl2, hl3, hl4⟩
      have L1 := Lib.hid hl1
      have L2 := Lib.hid hl2
      have L4 := Lib.hid hl4
      obtain ⟨_, ⟨_, al, cl, rfl, -⟩, -⟩ := hl1
      clear hl2 hl4
      go_wp2_with fail
      go_ret
      exact ⟨_, l', rfl, L1.out, L2.out, hl3, L4.out⟩
end Go.Proofs.YtmhmfnjjdcdkcaaDoor.Tr
