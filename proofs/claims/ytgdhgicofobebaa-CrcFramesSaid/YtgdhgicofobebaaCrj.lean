/- The program's Open. -/
import Derived.Test.YtgdhgicofobebaaCrh
import Derived.Test.YtgdhgicofobebaaCri
namespace Go.Proofs.Ytgdhgicofobebaa.Cr
open Go Go.RowKit
set_option maxRecDepth 20000

/-- A slice of bytes that may be written into, within a block from base on. -/
def Wr (w : World) (base : Nat) (v : Value) (l : By) : Prop := ∃ a c, v = .slice a l.length c ∧ l.length ≤ c ∧ (a = none → l.length = 0 ∧ c = 0) ∧
  (0 < l.length → ∃ g P Q, a = some ⟨g, P.length, none⟩ ∧ base ≤ g ∧ w.heap[g]? = some (.cells (P ++ (bc l ++ Q)).toArray 5 (0, 0)))
theorem Wr.bys {w : World} {base : Nat} {v : Value} {l : By} (h : Wr w base v l) : Bys w v l := by
  obtain ⟨a, c, rfl, hc, hn, hg⟩ := h
  refine ⟨by rw [bc_len, Nat.mul_one], a, c, rfl, hc, hn, fun h0 => ?_⟩
  obtain ⟨g, P, Q, rfl, _, hh⟩ := hg h0
  refine ⟨g, P.length, rfl, fun j u hu => ?_⟩
  have hj := (List.getElem?_eq_some_iff.1 hu).1
  rw [blk_cell hh, List.getElem?_append_right (by omega), Nat.add_sub_cancel_left, List.getElem?_append_left hj]
  exact hu
theorem OwB.parts {w : World} {base : Nat} {a : Option Addr} {n c : Nat} {l : By} (h : OwB w base (.slice a n c) l) (h0 : 0 < l.length) : ∃ g Q, a = some ⟨g, 0, none⟩ ∧ base ≤ g ∧ n = l.length ∧ w.heap[g]? = some (.cells (bc l ++ Q).toArray 5 (0, 0)) := by
  obtain ⟨hl, ⟨h1, h2⟩ | ⟨g, cap, cur, hv, hg, hh, hnc, hm, hs, ht⟩⟩ := h
  · rw [bc_len] at hl
    cases l with
    | nil => simp at h0
    | cons b l => simp at h2
  · cases hv
    refine ⟨g, cur.toList.drop l.length, rfl, hg, rfl, ?_⟩
    have e : bc l ++ cur.toList.drop l.length = cur.toList := by
      rw [← ht]
      rw [Nat.mul_one]
      exact List.take_append_drop _ _
    rw [e]
    simpa using hh
/-- What stands behind the first k bytes of such a row. -/
theorem OwB.behind {w : World} {base : Nat} {a : Option Addr} {n c : Nat} {x l : By} (h : OwB w base (.slice a n c) (x ++ l)) (hx : 0 < x.length) {a' : Option Addr} (ha' : ∀ g, a = some ⟨g, 0, none⟩ → (0 < l.length → a' = some ⟨g, x.length, none⟩) ∧ a' ≠ none) : Wr w base (.slice a' (n - x.length) (c - x.length)) l := by
  have hcap := h.bys.cap
  obtain ⟨g, Q, rfl, hg, hn, hh⟩ := h.parts (by rw [List.length_append]; omega)
  rw [List.length_append] at hn
  obtain ⟨h1, h2⟩ := ha' g rfl
  refine ⟨a', c - x.length, by congr 1; omega, by omega, fun h => absurd h h2, fun h0 => ⟨g, bc x, Q, ?_, hg, ?_⟩⟩
  · rw [bc_len]; exact h1 h0
  · rw [hh, bc_append, List.append_assoc]
theorem Bys.drop {w : World} {a a' : Option Addr} {n c k : Nat} {l : By} (h : Bys w (.slice a n c) l) (hk : k ≤ n) (ha : ∀ b o, a = some ⟨b, o, none⟩ → k < n → a' = some ⟨b, o + k, none⟩) (hn' : a' = none → a = none) : Bys w (.slice a' (n - k) (c - k)) (l.drop k) := by
  have hlen := h.len
  obtain ⟨_, a1, c', hv, hc, hn, hcell⟩ := h
  cases hv
  have hl : (l.drop k).length = l.length - k := by rw [List.length_drop]
  refine ⟨by rw [bc_len, Nat.mul_one], a', c - k, by rw [hl], by omega, fun h => ?_, fun h0 => ?_⟩
  · have := hn (hn' h)
    rw [hl]
    omega
  · rw [hl] at h0
    obtain ⟨b, off, ha1, hj⟩ := hcell (by omega)
    refine ⟨b, off + k, ha b off ha1 (by omega), fun j u hu => ?_⟩
    rw [Nat.add_assoc]
    refine hj (k + j) u ?_
    rw [bc, List.map_drop, List.getElem?_drop] at hu
    exact hu
set_option maxHeartbeats 1000000 in
theorem openP_len (a : Option Addr) (m c : Nat) (w : World) (hl : m < 16) :
    Calls Try.prog 21 #[.slice a m c] w fun e w' => e = .returned (.tuple #[.int .u64 0, .slice none 0 0, .bool false]) ∧ Below w.heap.size w w' := by
  go_enter Try.func21, Try.ntmps21
  go_wp2_with fail
  go_ret3
  exact ⟨rfl, Below.refl _ _⟩
theorem openP_short (v : Value) (b : By) (w : World) (hv : Bys w v b) (hl : b.length < 16) :
    Calls Try.prog 21 #[v] w fun e w' => e = .returned (.tuple #[.int .u64 0, .slice none 0 0, .bool false]) ∧ Below w.heap.size w w' := by
  obtain ⟨a, m, c, rfl, hm⟩ := hv.split
  exact openP_len a m c w (by omega)
set_option maxHeartbeats 4000000 in
theorem openP_any (v : Value) (b : By) (w : World) (hv : Bys w v b) (hl : b.length ≤ 4398046511104) (h16 : 16 ≤ b.length) :
    Calls Try.prog 21 #[v] w fun e w' => (openF b = none ∧ e = .returned (.tuple #[.int .u64 0, .slice none 0 0, .bool false]) ∨ ∃ n d y, openF b = some (n, d) ∧ e = .returned (.tuple #[.int .u64 (n : Int), y, .bool true]) ∧ Wr w' w.heap.size y d) ∧ Below w.heap.size w w' := by
  obtain ⟨a, m, c, rfl, hm⟩ := hv.split
  have hcap := hv.cap
  obtain ⟨bk, off, rfl, -⟩ := hv.at (k := 0) (by omega)
  rw [hm] at hl h16
  have hk8 : ¬ c = 8 := by omega
  have i8 : (8 : Int) ≤ (m : Int) := by omega
  have V1 := hv.take (k := 8) (by omega)
  have V2 := (hv.take (k := 12) (by omega)).drop (k := 8) (a' := some ⟨bk, off + 8, none⟩) (by omega) (fun b o h _ => by cases h; rfl) (fun h => by cases h)
  have HG1 := Lib.hid (fun j => getP_any _ _ (w.drewN j) (V1.below (Below.drewN _ j _)) (by rw [List.length_take]; omega))
  have HG2 := Lib.hid (fun j => getP_any _ _ (w.drewN j) (V2.below (Below.drewN _ j _)) (by rw [List.length_drop, List.length_take]; omega))
  rw [List.take_take, Nat.min_self] at HG1
  rw [List.drop_take, List.take_take, show min 8 (12 - 8) = 4 from rfl] at HG2
  obtain ⟨n, hn⟩ : ∃ n, ge (b.take 8) = n := ⟨_, rfl⟩
  obtain ⟨L, hL⟩ : ∃ L, ge ((b.drop 8).take 4) = L := ⟨_, rfl⟩
  rw [hn] at HG1
  rw [hL] at HG2
  go_enter Try.func21, Try.ntmps21
  go_wp2_with fail
  clear V1 V2
  go_quiet (first | (with_reducible refine Calls.quiet_of_same ((HG1.out _).mono fun _ _ h => ⟨h.1, h.2.symm⟩)) | (with_reducible refine Calls.quiet_of_same ((HG2.out _).mono fun _ _ h => ⟨h.1, h.2.symm⟩)))
  have hL32 : L < 4294967296 := by
    have h := ge_lt ((b.drop 8).take 4)
    rw [List.length_take, List.length_drop, Nat.min_eq_left (by omega), hL] at h
    exact h
  have hn64 : n < 18446744073709551616 := by
    have h := ge_lt (b.take 8)
    rw [List.length_take, Nat.min_eq_left (by omega), hn] at h
    exact h
  have e16 : IntKind.u64.wrap ((m : Int) - 16) = ((m - 16 : Nat) : Int) := by rw [IntWalk.u64_in _ ⟨by omega, by omega⟩]; omega
  have hD : Below w.heap.size w (w.drewN nq) := Below.drewN _ _ _
  obtain ⟨W, hW⟩ : ∃ W, w.drewN nq = W := ⟨_, rfl⟩
  rw [hW] at hD
  have D := Lib.hid hD
  have HB := Lib.hid hm
  have HN := Lib.hid hn
  have HL := Lib.hid hL
  have V := Lib.hid hv
  have V16 := Lib.hid (fun dp h1 h2 => (hv.take (k := 16 + L) · |>.drop (k := 16) (a' := dp) (by omega) h1 h2))
  clear hD hm hn hL hv
  by_cases hbig : (m - 16 : Nat) < L
  · have HF : Hid (openF b = none) := by
      unfold openF
      rw [HL.out, HB.out, if_neg (by omega), if_pos (by omega)]
      exact Lib.hid rfl
    have g1 : ((m - 16 : Nat) : Int) < (L : Int) := by omega
    go_wp2_with fail
    go_ret3
    exact ⟨Or.inl ⟨HF.out, rfl⟩, D.out⟩
  · have g1 : ¬ ((m - 16 : Nat) : Int) < (L : Int) := by omega
    have e17 : IntKind.u64.wrap (16 + (L : Int)) = ((16 + L : Nat) : Int) := by rw [IntWalk.u64_in _ ⟨by omega, by omega⟩]; omega
    obtain ⟨dp, hdp⟩ : ∃ dp : Option Addr, (if c = 16 then some ⟨bk, off, none⟩ else some ⟨bk, off + 16, none⟩) = dp := ⟨_, rfl⟩
    have j1 : 16 + L ≤ c := by omega
    have j2 : (16 : Int) ≤ ((16 + L : Nat) : Int) := by omega
    have j3 : ((16 + L : Nat) : Int) ≤ (c : Int) := by omega
    have VD : Bys W (.slice dp L (c - 16)) ((b.drop 16).take L) := by
      have h := V16.out dp (fun b' o h hlt => by cases h; rw [← hdp, if_neg (by omega)]) (fun h => by rw [← hdp] at h; split at h <;> cases h) (by omega)
      rw [List.drop_take, Nat.add_sub_cancel_left] at h
      exact h.below D.out
    have hdl : ((b.drop 16).take L).length = L := by rw [List.length_take, List.length_drop, HB.out]; omega
    have HO : Hid (openF b = if L > 2048 then none else if frame n ((b.drop 16).take L) = b.take (16 + L) then some (n, (b.drop 16).take L) else none) := by
      show _ = _
      unfold openF
      rw [HL.out, HN.out, HB.out, if_neg (by omega)]
      by_cases h : L > 2048
      · rw [if_pos (Or.inl h), if_pos h]
      · rw [if_neg (by omega), if_neg h]
    generalize (b.drop 16).take L = d at VD hdl HO
    have HDL := Lib.hid hdl
    clear V16
    by_cases hbig2 : L > 2048
    · have HF := Lib.hid (frameP_long n _ d W VD (by omega))
      have HNo : Hid (openF b = none) := by have := HO.out; rw [if_pos hbig2] at this; exact this
      clear VD hdl hbig2
      go_wp2_with fail
      refine HF.out.mono ?_
      rintro e w' ⟨rfl, rfl⟩
      go_wp2_with fail
      go_ret3
      exact ⟨Or.inl ⟨HNo.out, rfl⟩, D.out⟩
    · have HF := Lib.hid (frameP_any n _ d W VD (by omega))
      have HS : Hid (openF b = if frame n d = b.take (16 + L) then some (n, d) else none) := by have := HO.out; rw [if_neg hbig2] at this; exact this
      clear VD hdl hbig2 HO
      go_wp2_with fail
      refine HF.out.mono ?_
      rintro e w1 ⟨y, rfl, hy, hb1⟩
      have D1 := Lib.hid (D.out.trans (hb1.mono D.out.size))
      obtain ⟨ay, my, cy, rfl, hmy⟩ := hy.bys.split
      have hfl : my = 16 + L := by rw [← hmy, frame_len, HDL.out]
      have HP := Lib.hid (prefixP_any _ _ b (frame n d) w1 (V.out.below D1.out) hy.bys)
      rw [frame_len, HDL.out, HB.out, decide_eq_true (show 16 + L ≤ m by omega), Bool.true_and] at HP
      subst hfl
      have HY := Lib.hid (Ap.own_base hy D.out.size)
      clear hb1 hy hmy
      by_cases he : b.take (16 + L) = frame n d
      · rw [decide_eq_true he] at HP
        have HE : Hid (openF b = some (n, d)) := by have := HS.out; rw [if_pos he.symm] at this; exact this
        clear he
        go_wp2_with fail
        refine HP.out.mono ?_
        rintro e w' ⟨rfl, rfl⟩
        go_wp2_with fail
        have hO : OwB w1 w.heap.size (.slice ay (16 + L) cy) ((hd n d ++ pu 4 (sm n d).toNat) ++ d) := by
          have h := HY.out
          rw [show frame n d = (hd n d ++ pu 4 (sm n d).toNat) ++ d by rw [frame, List.append_assoc]] at h
          exact h
        have hx16 : (hd n d ++ pu 4 (sm n d).toNat).length = 16 := by rw [List.length_append, hd_len, pu_len]
        obtain ⟨g, _, hag, -, -, -⟩ := hO.parts (by rw [List.length_append]; omega)
        subst hag
        have hcy : 16 + L ≤ cy := hO.bys.cap
        obtain ⟨dq, hdq⟩ : ∃ dq : Option Addr, (if cy = 16 then some ⟨g, 0, none⟩ else some ⟨g, 16, none⟩) = dq := ⟨_, rfl⟩
        have HW : Hid (Wr w1 w.heap.size (.slice dq (16 + L - 16) (cy - 16)) d) := by
          have h := hO.behind (a' := dq) (by omega) (fun g' hg' => by
            cases hg'
            rw [hx16]
            exact ⟨fun h0 => by rw [← hdq, if_neg (by have := HDL.out; omega)], fun h0 => by rw [← hdq] at h0; split at h0 <;> cases h0⟩)
          rw [hx16] at h
          exact h
        have hDw : ∀ (X : World) (j : Nat), Below X.heap.size X (X.drewN j) := fun X j => Below.drewN _ _ _
        rw [Nat.add_sub_cancel_left] at HW
        have HDW := Lib.hid hDw
        clear hO hx16 hDw
        go_quiet (fail)
        go_wp2_with fail
        go_ret3
        exact ⟨Or.inr ⟨n, d, _, HE.out, rfl, HW.out⟩, D1.out.trans ((HDW.out _ _).mono D1.out.size)⟩
      · rw [decide_eq_false he] at HP
        have HE : Hid (openF b = none) := by have := HS.out; rw [if_neg (fun e => he e.symm)] at this; exact this
        clear he
        go_wp2_with fail
        refine HP.out.mono ?_
        rintro e w' ⟨rfl, rfl⟩
        go_wp2_with fail
        go_ret3
        exact ⟨Or.inl ⟨HE.out, rfl⟩, D1.out⟩
end Go.Proofs.Ytgdhgicofobebaa.Cr
