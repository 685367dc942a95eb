/- The document's Set and Or: by halves. -/
import Derived.Test.YtmhmfnjjdcdkcaaDoorTrv
import Derived.IntWalk
namespace Go.Proofs.YtmhmfnjjdcdkcaaDoor.Tr
open Go Go.RowKit
set_option maxRecDepth 20000

theorem TrCells.take {w : World} : ∀ {cs : List Value} {ts : List Tr}, TrCells w cs ts → ∀ k, TrCells w (cs.take (k * 2)) (ts.take k)
  | [], [], _, k => by simp [TrCells]
  | a :: e :: cs, t :: ts, h, 0 => by simp [TrCells]
  | a :: e :: cs, t :: ts, h, k + 1 => by
    rw [show (k + 1) * 2 = k * 2 + 1 + 1 by omega]
    exact ⟨h.1, h.2.1, TrCells.take h.2.2 k⟩
  | [], _ :: _, h, _ => h.elim
  | [_], [], h, _ => h.elim
  | [_], _ :: _, h, _ => h.elim
  | _ :: _ :: _, [], h, _ => h.elim
theorem TrCells.drop {w : World} : ∀ {cs : List Value} {ts : List Tr}, TrCells w cs ts → ∀ k, TrCells w (cs.drop (k * 2)) (ts.drop k)
  | [], [], _, k => by simp [TrCells]
  | a :: e :: cs, t :: ts, h, 0 => by simpa using h
  | a :: e :: cs, t :: ts, h, k + 1 => by
    rw [show (k + 1) * 2 = k * 2 + 1 + 1 by omega]
    exact TrCells.drop h.2.2 k
  | [], _ :: _, h, _ => h.elim
  | [_], [], h, _ => h.elim
  | [_], _ :: _, h, _ => h.elim
  | _ :: _ :: _, [], h, _ => h.elim

/-- The beginning of a row. -/
theorem Trs.take {w : World} {b off cap : Nat} {ts : List Tr} (h : Trs w (.slice (some ⟨b, off, none⟩) ts.length cap) ts) (k : Nat) (hk : k ≤ ts.length) : Trs w (.slice (some ⟨b, off, none⟩) k cap) (ts.take k) := by
  obtain ⟨cs, ⟨hl, a, cap', hv, hc, hn, hcell⟩, ht⟩ := h
  cases hv
  refine ⟨cs.take (k * 2), ⟨?_, some ⟨b, off, none⟩, cap, ?_, ?_, fun h => (by cases h), fun h0 => ?_⟩, ht.take k⟩
  · simp; omega
  · rw [List.length_take, Nat.min_eq_left hk]
  · simp; omega
  · obtain ⟨b', off', ha, hj⟩ := hcell (by simp at h0; omega)
    cases ha
    exact ⟨b, off, rfl, fun j u hu => hj j u (by rw [List.getElem?_take] at hu; split at hu; exact hu; cases hu)⟩
/-- The rest of a row. -/
theorem Trs.drop {w : World} {b off cap : Nat} {ts : List Tr} (h : Trs w (.slice (some ⟨b, off, none⟩) ts.length cap) ts) (k : Nat) (hk : k < ts.length) : Trs w (.slice (some ⟨b, off + k * 2, none⟩) (ts.length - k) (cap - k)) (ts.drop k) := by
  obtain ⟨cs, ⟨hl, a, cap', hv, hc, hn, hcell⟩, ht⟩ := h
  cases hv
  refine ⟨cs.drop (k * 2), ⟨?_, some ⟨b, off + k * 2, none⟩, cap - k, ?_, ?_, fun h => (by cases h), fun h0 => ?_⟩, ht.drop k⟩
  · simp; omega
  · simp
  · simp; omega
  · obtain ⟨b', off', ha, hj⟩ := hcell (by omega)
    cases ha
    exact ⟨b, _, rfl, fun j u hu => by rw [Nat.add_assoc]; exact hj _ u (by rw [List.getElem?_drop] at hu; exact hu)⟩

theorem Few.sub {l m : List Tr} (h : Few l) (hl : m.length ≤ l.length) (hm : ∀ t ∈ m, t ∈ l) : Few m := ⟨Nat.le_trans hl h.1, fun t ht => h.2 t (hm t ht)⟩
theorem Few.norm {l : List Tr} (h : Few l) : Few (norm l) := h.sub (length_norm l) fun t ht => (mem_norm t l).1 ht
theorem norm_short {l : List Tr} (h : l.length < 2) : norm l = l := by
  match l, h with
  | [], _ => rfl
  | [t], _ => rfl

set_option maxHeartbeats 2000000 in
theorem set_any (n : Nat) : ∀ (x : Value) (l : List Tr) (w : World), l.length ≤ n → Trs w x l → Few l →
    Calls Tryd.prog 21 #[x] w fun e w' => ∃ v, e = .returned v ∧ Trs w' v (norm l) ∧ Below w.heap.size w w' := by
  induction n with
  | zero =>
    intro x l w hn hx hf
    obtain rfl : l = [] := List.eq_nil_of_length_eq_zero (by omega)
    obtain ⟨a, c, rfl, _⟩ := hx.val
    have HX := Lib.hid hx
    clear hx hf
    go_enter Tryd.func21, Tryd.ntmps21
    go_wp2_with fail
    go_ret
    exact ⟨_, rfl, HX.out, Below.refl _ _⟩
  | succ n ih =>
    intro x l w hn hx hf
    by_cases h2 : l.length < 2
    · obtain ⟨a, c, rfl, _⟩ := hx.val
      have HX := Lib.hid hx
      have HN := Lib.hid (norm_short h2)
      clear hx hf ih
      go_enter Tryd.func21, Tryd.ntmps21
      go_wp2_with fail
      go_ret
      exact ⟨_, rfl, by rw [HN.out]; exact HX.out, Below.refl _ _⟩
    · rcases hx.form with ⟨rfl, _⟩ | ⟨b, off, cap, rfl, _⟩
      · simp at h2
      have hcap : l.length ≤ cap := by
        obtain ⟨_, ⟨_, a, cap', hv, hc, _⟩, _⟩ := hx
        cases hv
        exact hc
      obtain ⟨hf2, hh⟩ : ∃ hf2, l.length / 2 = hf2 := ⟨_, rfl⟩
      have hh1 : 0 < hf2 := by omega
      have hh2 : hf2 < l.length := by omega
      have hh3 : l.length - hf2 ≤ n := by omega
      have hh4 : hf2 ≤ n := by omega
      have HT1 := Lib.hid (hx.take hf2 (by omega))
      have HT2 := Lib.hid (hx.drop hf2 (by omega))
      have IH := Lib.hid ih
      have HF := Lib.hid hf
      have hlen := hf.1
      have i1 : (0 : Int) ≤ (hf2 : Int) := by omega
      have i2 : (hf2 : Int) ≤ (l.length : Int) := by omega
      have i3 : (hf2 : Int) ≤ (cap : Int) := by omega
      have i4 : (l.length : Int) ≤ (cap : Int) := by omega
      have q1 : (l.length : Int).tdiv 2 = (hf2 : Int) := by rw [← hh]; rfl
      have q2 : IntKind.i64.wrap (hf2 : Int) = (hf2 : Int) := IntWalk.i64_in _ (by omega)
      clear hx hf ih hh
      go_enter Tryd.func21, Tryd.ntmps21
      go_wp2_with fail
      go_region_held3 (fun _ => True) (trivial) (first
        | (go_at_call 21
           (with_reducible refine (IH.out (.slice (some ⟨b, off, none⟩) hf2 cap) (l.take hf2) _ (by simp; omega) (HT1.out.below (Below.refl _ _).drew) (HF.out.sub (by simp; omega) (fun t ht => List.mem_of_mem_take ht))).mono ?_)
           rintro e w1 ⟨v1, rfl, ht1, hb1⟩
           have T1 := Lib.hid ht1
           have B1 : Hid (Below w.heap.size w w1) := (Below.refl _ _).drew.trans hb1
           clear ht1 hb1)
        | (go_at_call 21
           (with_reducible refine (IH.out (.slice (some ⟨b, off + hf2 * 2, none⟩) (l.length - hf2) (cap - hf2)) (l.drop hf2) _ (by simp; omega) (HT2.out.below B1.out) (HF.out.sub (by simp) (fun t ht => List.mem_of_mem_drop ht))).mono ?_)
           rintro e w2 ⟨v2, rfl, ht2, hb2⟩
           have T2 := Lib.hid ht2
           have T3 := Lib.hid (T1.out.below hb2)
           have B2 := Lib.hid (B1.out.trans (hb2.mono B1.out.size))
           clear ht2 hb2)
        | (go_at_call 43
           (with_reducible refine (merge_any v1 v2 (norm (l.take hf2)) (norm (l.drop hf2)) _ T3.out T2.out (HF.out.sub (by simp; omega) (fun t ht => List.mem_of_mem_take ht)).norm (HF.out.sub (by simp) (fun t ht => List.mem_of_mem_drop ht)).norm ?_).mono ?_)
           · have e1 := length_norm (l.take hf2)
             have e2 := length_norm (l.drop hf2)
             simp at e1 e2
             omega
           rintro e w3 ⟨v3, rfl, ht3, hb3⟩
           have T4 := Lib.hid ht3
           have B3 := Lib.hid (B2.out.trans (hb3.mono B2.out.size))
           clear ht3 hb3))
      go_wp2_with fail
      go_ret
      refine ⟨_, rfl, ?_, B3.out⟩
      have := T4.out
      rw [mg_norm _ _ _ (Nat.lt_succ_self _), List.take_append_drop] at this
      exact this

theorem or_any (x y : Value) (l m : List Tr) (w : World) (hx : Trs w x l) (hy : Trs w y m) (hf : Few (l ++ m)) :
    Calls Tryd.prog 22 #[x, y] w fun e w' => ∃ v, e = .returned v ∧ Trs w' v (norm (l ++ m)) ∧ Below w.heap.size w w' := by
  have HX := Lib.hid hx
  have HY := Lib.hid hy
  have HF := Lib.hid hf
  have hl : Few l := hf.sub (by simp) (fun t ht => by simp [ht])
  have hm : Few m := hf.sub (by simp) (fun t ht => by simp [ht])
  have HL := Lib.hid hl
  have HM := Lib.hid hm
  have hlen : l.length + m.length ≤ 1000000 := by have := hf.1; simpa using this
  clear hx hy hf hl hm
  go_enter Tryd.func22, Tryd.ntmps22
  go_wp2_with fail
  refine (set_any l.length x l _ (Nat.le_refl _) HX.out HL.out).mono ?_
  rintro e w1 ⟨v1, rfl, ht1, hb1⟩
  have T1 := Lib.hid ht1
  have B1 := Lib.hid hb1
  clear ht1 hb1
  go_wp2_with fail
  refine (set_any m.length y m _ (Nat.le_refl _) (HY.out.below B1.out) HM.out).mono ?_
  rintro e w2 ⟨v2, rfl, ht2, hb2⟩
  have T2 := Lib.hid ht2
  have T3 := Lib.hid (T1.out.below hb2)
  have B2 := Lib.hid (B1.out.trans (hb2.mono B1.out.size))
  clear ht2 hb2
  go_wp2_with fail
  refine (merge_any v1 v2 (norm l) (norm m) _ T3.out T2.out HL.out.norm HM.out.norm (by have := length_norm l; have := length_norm m; omega)).mono ?_
  rintro e w3 ⟨v3, rfl, ht3, hb3⟩
  have T4 := Lib.hid ht3
  have B3 := Lib.hid (B2.out.trans (hb3.mono B2.out.size))
  clear ht3 hb3
  go_wp2_with fail
  go_ret
  refine ⟨_, rfl, ?_, B3.out⟩
  have := T4.out
  rw [mg_norm _ _ _ (Nat.lt_succ_self _)] at this
  exact this
end Go.Proofs.YtmhmfnjjdcdkcaaDoor.Tr
