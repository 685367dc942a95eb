/- The program's waits, second, kids: the walks. The document's bang, Doomed: the walks. Plain: the move of any number; how many moves there are, and that they rise; numbers in decimal. The document's Path: the walk. The document's waits, Active: the walks. The program's Active: goesOn, the row of what goes on, the walk. The program's doomed and Doomed: the walks. -/
import Derived.Test.YtpingbiibbmcaaaGreatQ24
import Derived.Test.YtpingbiibbmcaaaGreatQ07
import Derived.Test.YtpingbiibbmcaaaGreatQ23
import Derived.Test.YtpingbiibbmcaaaGreatQ13
import Derived.Test.YtpingbiibbmcaaaGreatQ05
import Derived.Test.YtpingbiibbmcaaaGreatQ14
import Derived.Deep.QuietTactic
import Derived.Lib.ItoaNum
import Derived.Test.YtpingbiibbmcaaaGreatQ22
import Derived.Test.YtpingbiibbmcaaaGreatQ18
import Derived.Shelf.Abstract
import Derived.OwnWalk

namespace Go.Proofs.YtpingbiibbmcaaaGreat.Do
open Go Go.RowKit Go.Proofs.YtpingbiibbmcaaaGreat.Rw Go.Proofs.YtpingbiibbmcaaaGreat.So Go.Proofs.YtpingbiibbmcaaaGreat.Se
set_option maxRecDepth 20000

set_option maxHeartbeats 1000000 in
theorem waitsP_any (k : Int) (w : World) : Calls Tryz.prog 70 #[.int .i64 k] w fun e w' => e = .returned (.bool (wk k)) ∧ w = w' := by
  rcases cases15 k with rfl | rfl | rfl | rfl | rfl | rfl | rfl | rfl | rfl | rfl | rfl | rfl | rfl | rfl | h
  case inr.inr.inr.inr.inr.inr.inr.inr.inr.inr.inr.inr.inr.inr =>
    obtain ⟨h1, h2, h3, h4, h5, h6, h7, h8, h9, h10, h11, h12, h13, h14⟩ := h
    have g1 : (k == 1) = false := beq_eq_false_iff_ne.2 h1
    have g6 : (k == 6) = false := beq_eq_false_iff_ne.2 h6
    have g4 : (k == 4) = false := beq_eq_false_iff_ne.2 h4
    have g10 : (k == 10) = false := beq_eq_false_iff_ne.2 h10
    have hr : Hid (wk k = false) := Lib.hid (by unfold wk; rw [g1, g6, g4, g10]; rfl)
    clear h1 h2 h3 h4 h5 h6 h7 h8 h9 h10 h11 h12 h13 h14
    go_enter Tryz.func70, Tryz.ntmps70
    go_wp2_with fail
    go_ret
    exact ⟨ret_bool hr.out.symm, rfl⟩
  all_goals
    go_enter Tryz.func70, Tryz.ntmps70
    go_wp2_with fail
    go_ret
    exact ⟨rfl, rfl⟩
theorem nds_drop {w : World} {b off c : Nat} {l : List Nd} (h : At w b off l) (hc : l.length ≤ c) (d : Nat) (hd : d ≤ l.length) : Nds w (.slice (some ⟨b, off + d * 3, none⟩) (l.length - d) (c - d)) (l.drop d) := by
  have := part_nds h d (l.length - d) (c - d) (by omega) (by omega)
  rwa [List.take_of_length_le (by rw [List.length_drop]; exact Nat.le_refl _)] at this
set_option maxHeartbeats 1000000 in
theorem second_any (b off c : Nat) (l : List Nd) (i : Nat) (w : World) (hat : At w b off l) (hc : l.length ≤ c) (hl : l.length ≤ 1000) (hi : i + 1 < l.length) :
    Calls Tryz.prog 87 #[.slice (some ⟨b, off, none⟩) l.length c, .int .i64 (i : Int)] w fun e w' => e = .returned (.int .i64 (i + 1 + size (l.drop (i + 1)) : Nat)) ∧ Below w.heap.size w w' := by
  have HN := Lib.hid (nds_drop hat hc (i + 1) (by omega))
  have HL : Hid ((l.drop (i + 1)).length ≤ 1000000) := Lib.hid (by rw [List.length_drop]; omega)
  have hs : size (l.drop (i + 1)) ≤ 1000 := Nat.le_trans (size_le _) (by rw [List.length_drop]; omega)
  obtain ⟨z, hz⟩ : ∃ z, size (l.drop (i + 1)) = z := ⟨_, rfl⟩
  rw [hz] at hs ⊢
  have HZ := Lib.hid hz
  clear hat hz
  go_enter Tryz.func87, Tryz.ntmps87
  go_wp2_with fail
  refine (Rx.sizeP_any _ (l.drop (i + 1)) _ HN.out HL.out).mono ?_
  rw [HZ.out]
  rintro e w' ⟨rfl, hb⟩
  have HB := Lib.hid hb
  clear hb
  go_wp2_with fail
  go_ret
  exact ⟨by congr 2, HB.out⟩
/-- What comes of calls of a function value on places, one behind the other. -/
def Chain (fn : Nat) (caps : Array Value) (Q : World → Prop) : List Nat → World → Prop
  | [], w => Q w
  | k :: ks, w => Calls Tryz.prog fn (#[.int .i64 (k : Int)] ++ caps) w fun e w1 => e = .returned (.tuple #[]) ∧ Chain fn caps Q ks w1
theorem kdA_get {l : List Nd} {i : Nat} (hi : i < l.length) : kdA l i = kdK l i l[i].k := kdA_at (List.getElem?_eq_getElem hi)
set_option maxHeartbeats 2000000 in
theorem kids_any (fn : Nat) (caps : Array Value) (eg : ∀ args w, (callFunc fn args).run Tryz.prog w = .ok (.enter fn args) w) (Q : World → Prop) (b off c : Nat) (l : List Nd) (i : Nat) (w : World) (hat : At w b off l) (hc : l.length ≤ c) (hl : l.length ≤ 1000)
    (hi : i < l.length) (h7 : l[i].k = 7 → i + 1 < l.length) (H : ∀ w0, Below w.heap.size w w0 → Chain fn caps Q (kdA l i) w0) :
    Calls Tryz.prog 71 #[.slice (some ⟨b, off, none⟩) l.length c, .int .i64 (i : Int), .func (.func fn) #[] caps] w fun e w' => e = .returned (.tuple #[]) ∧ Q w' := by
  rw [kdA_get hi] at H
  have e0 := (hat i hi).1
  have hi2 : (i : Int) < l.length := by omega
  have c1 : ((i + 1 : Nat) : Int) = (i : Int) + 1 := by omega
  obtain ⟨k, hk⟩ : ∃ k, l[i].k = k := ⟨_, rfl⟩
  rw [hk] at e0 H h7
  have HAT := Lib.hid hat
  have HH := Lib.hid H
  clear hat H hk
  have grp : ∀ k : Int, (k = 5 ∨ k = 8 ∨ k = 9 ∨ k = 12 ∨ k = 13) → kdK l i k = [i + 1] := fun k h => by unfold kdK; rw [if_neg (by omega), if_pos h]
  have non : ∀ k : Int, k ≠ 7 → ¬ (k = 5 ∨ k = 8 ∨ k = 9 ∨ k = 12 ∨ k = 13) → kdK l i k = [] := fun k h1 h2 => by unfold kdK; rw [if_neg h1, if_neg h2]
  have GRP := Lib.hid grp
  have NON := Lib.hid non
  clear grp non
  by_cases k7 : k = 7
  · subst k7
    have h8 := h7 rfl
    have HS := Lib.hid (second_any b off c l i w HAT.out hc hl h8)
    have C : Hid (∀ w0, Below w.heap.size w w0 → Calls Tryz.prog fn (#[.int .i64 ((i + 1 + size (l.drop (i + 1)) : Nat) : Int)] ++ caps) w0 fun e w1 => e = .returned (.tuple #[]) ∧ Calls Tryz.prog fn (#[.int .i64 ((i : Int) + 1)] ++ caps) w1 fun e w2 => e = .returned (.tuple #[]) ∧ Q w2) := Lib.hid fun w0 hb => by
      have := HH.out w0 hb
      rw [show kdK l i 7 = [i + 1 + size (l.drop (i + 1)), i + 1] from rfl] at this
      rw [← c1]
      exact this
    generalize ((i + 1 + size (l.drop (i + 1)) : Nat) : Int) = z at HS C
    clear HH GRP NON h7 c1
    go_enter Tryz.func71, Tryz.ntmps71
    go_wp2_with fail
    refine HS.out.mono ?_
    rintro e w1 ⟨rfl, hb1⟩
    have D1 := Lib.hid hb1
    clear hb1
    go_wp2_with fail
    refine (C.out _ D1.out).mono ?_
    rintro e w2 ⟨rfl, h2⟩
    have C2 := Lib.hid h2
    clear h2
    go_wp2_with fail
    refine C2.out.mono ?_
    rintro e w3 ⟨rfl, h3⟩
    have C3 := Lib.hid h3
    clear h3
    go_wp2_with fail
    go_end0
    exact ⟨rfl, C3.out⟩
  · by_cases kg : k = 5 ∨ k = 8 ∨ k = 9 ∨ k = 12 ∨ k = 13
    · have C : Hid (Calls Tryz.prog fn (#[.int .i64 ((i : Int) + 1)] ++ caps) w fun e w2 => e = .returned (.tuple #[]) ∧ Q w2) := Lib.hid (by
        have := HH.out w (Below.refl _ _)
        rw [GRP.out _ kg] at this
        rw [← c1]
        exact this)
      clear HH GRP NON h7 c1
      rcases kg with rfl | rfl | rfl | rfl | rfl
      all_goals
        clear k7
        go_enter Tryz.func71, Tryz.ntmps71
        go_wp2_with fail
        refine C.out.mono ?_
        rintro e w3 ⟨rfl, h3⟩
        have C3 := Lib.hid h3
        clear h3
        go_wp2_with fail
        go_end0
        exact ⟨rfl, C3.out⟩
    · have C : Hid (Q w) := Lib.hid (by
        have := HH.out w (Below.refl _ _)
        rw [NON.out _ k7 kg] at this
        exact this)
      have g5 : (k == 5) = false := beq_eq_false_iff_ne.2 (by omega)
      have g8 : (k == 8) = false := beq_eq_false_iff_ne.2 (by omega)
      have g9 : (k == 9) = false := beq_eq_false_iff_ne.2 (by omega)
      have g12 : (k == 12) = false := beq_eq_false_iff_ne.2 (by omega)
      have g13 : (k == 13) = false := beq_eq_false_iff_ne.2 (by omega)
      have g7 : (k == 7) = false := beq_eq_false_iff_ne.2 k7
      clear HH GRP NON h7 c1 k7 kg
      go_enter Tryz.func71, Tryz.ntmps71
      go_wp2_with fail
      go_end0
      exact ⟨rfl, C.out⟩
end Go.Proofs.YtpingbiibbmcaaaGreat.Do

namespace Go.Proofs.YtpingbiibbmcaaaGreat.Do
open Go Go.RowKit Go.Proofs.YtpingbiibbmcaaaGreat.Rw Go.Proofs.YtpingbiibbmcaaaGreat.So Go.Proofs.YtpingbiibbmcaaaGreat.Se
set_option maxRecDepth 20000

end Go.Proofs.YtpingbiibbmcaaaGreat.Do

namespace Go.Proofs.YtpingbiibbmcaaaGreat.Me
open Go Go.RowKit Go.Proofs.YtpingbiibbmcaaaGreat.Rw Go.Proofs.YtpingbiibbmcaaaGreat.So Go.Proofs.YtpingbiibbmcaaaGreat.Se Go.Proofs.YtpingbiibbmcaaaGreat.Do
set_option maxRecDepth 20000

/-- The number of a move, among m of them. -/
def nr (n : Int) (m : Nat) : Nat := (n % (m : Int)).toNat
theorem nr_lt {n : Int} {m : Nat} (h : 0 < m) : nr n m < m := by
  unfold nr
  have h1 := Int.emod_nonneg n (b := (m : Int)) (by omega)
  have h2 := Int.emod_lt_of_pos n (b := (m : Int)) (by omega)
  omega
/-- As the remainder of a division that cuts tells it. -/
theorem nr_tmod {n : Int} {m : Nat} (h : 0 < m) : (nr n m : Int) = if n.tmod m < 0 then n.tmod m + m else n.tmod m := by
  unfold nr
  have h1 := Int.emod_nonneg n (b := (m : Int)) (by omega)
  have h2 := Int.emod_lt_of_pos n (b := (m : Int)) (by omega)
  rw [Int.toNat_of_nonneg h1, Int.tmod_eq_emod]
  split
  · rw [if_neg (by omega)]; omega
  · rw [if_pos (by rw [Int.natAbs_natCast]; omega), Int.natAbs_natCast]; omega
/-- The move of a number, and what is said of it. -/
noncomputable def pkM (l : List Nd) (n : Int) : Mv := (enR l)[nr n (enR l).length]?.getD ⟨0, 0⟩
noncomputable def pkE (l : List Nd) : Int := if (enR l).length = 0 then 120 else 0
theorem pkM_at {l : List Nd} {n : Int} {k : Nat} (hk : k < (enR l).length) (e : nr n (enR l).length = k) : pkM l n = (enR l)[k] := by
  unfold pkM
  rw [e, List.getElem?_eq_getElem hk]
  rfl
theorem pkM_mem {l : List Nd} {n : Int} (h : 0 < (enR l).length) : pkM l n ∈ enR l := by
  rw [pkM_at (nr_lt h) rfl]
  exact List.getElem_mem _
/-- The places that wait are actions, choices, yields and pairs. -/
theorem wt_kind : ∀ (t : Tm) (l : List Nd) (i : Nat), AtT l i t → ∀ k ∈ wt t i, wkAt l k = true := by
  have one : ∀ {t a : Tm} {x : Nd}, (∀ (l : List Nd) (i : Nat), AtT l i a → ∀ k ∈ wt a i, wkAt l k = true) → flat t = x :: flat a → (∀ i, wt t i = wt a (i + 1)) → ∀ (l : List Nd) (i : Nat), AtT l i t → ∀ k ∈ wt t i, wkAt l k = true := by
    intro t a x ia e hw l i h k hk
    rw [hw] at hk
    exact ia l (i + 1) (at_one h e).2 k hk
  have left : ∀ {t a b : Tm} {x : Nd}, (∀ (l : List Nd) (i : Nat), AtT l i a → ∀ k ∈ wt a i, wkAt l k = true) → flat t = x :: (flat a ++ flat b) → (∀ i, wt t i = wt a (i + 1)) → ∀ (l : List Nd) (i : Nat), AtT l i t → ∀ k ∈ wt t i, wkAt l k = true := by
    intro t a b x ia e hw l i h k hk
    rw [hw] at hk
    exact ia l (i + 1) (at_two h e).2.1 k hk
  have here : ∀ {t : Tm} {x : Nd}, (∀ (l : List Nd) (i : Nat), AtT l i t → l[i]? = some x) → wk x.k = true → (∀ i, wt t i = [i]) → ∀ (l : List Nd) (i : Nat), AtT l i t → ∀ k ∈ wt t i, wkAt l k = true := by
    intro t x hx hw ht l i h k hk
    rw [ht, List.mem_singleton] at hk
    subst hk
    rw [wk_at (hx l _ h), hw]
  intro t
  induction t with
  | act s => exact here (x := nAct s) (fun _ _ h => at_none h rfl) rfl fun _ => rfl
  | yield => exact here (x := nOf 4) (fun _ _ h => at_none h rfl) rfl fun _ => rfl
  | alt a b => exact here (x := nOf 6) (fun _ _ h => (at_two h rfl).1) rfl fun _ => rfl
  | pair a b => exact here (x := nOf 10) (fun _ _ h => (at_two h rfl).1) rfl fun _ => rfl
  | skip => intro l i _ k hk; simp [wt] at hk
  | throw => intro l i _ k hk; simp [wt] at hk
  | over s => intro l i _ k hk; simp [wt] at hk
  | fin s c => intro l i _ k hk; simp [wt] at hk
  | block a ia => exact one (x := nOf 9) ia rfl fun _ => rfl
  | seq a b ia ib => exact left (x := nOf 5) ia rfl fun _ => rfl
  | hand a b ia ib => exact left (x := nOf 8) ia rfl fun _ => rfl
  | going a b ia ib => exact left (x := nOf 12) ia rfl fun _ => rfl
  | stack a b ia ib => exact left (x := nOf 13) ia rfl fun _ => rfl
  | par a b ia ib =>
    intro l i h k hk
    obtain ⟨_, ha, hb⟩ := at_two (x := nOf 7) h rfl
    rcases List.mem_append.1 hk with hk | hk
    · exact ia l (i + 1) ha k hk
    · exact ib l (i + 1 + sz a) hb k hk
theorem av_kind {l : List Nd} {z : Int} (h : z ∈ av l) : kn l z = 1 ∨ kn l z = 6 ∨ kn l z = 4 ∨ kn l z = 10 := by
  cases hs : setB l with
  | false => rw [av_no hs] at h; cases h
  | true =>
    obtain ⟨t, rfl, hg, hn⟩ := set_iff.1 hs
    obtain ⟨k, hk, rfl⟩ := (mem_av hg hn).1 h
    have := wt_kind t (flat t) 0 (AtT.self t) k hk
    unfold wkAt at this
    unfold kn
    rw [Int.toNat_natCast]
    cases hx : (flat t)[k]? with
    | none => rw [hx] at this; cases this
    | some x =>
      rw [hx] at this
      have h2 : wk x.k = true := this
      unfold wk at h2
      simp only [Bool.or_eq_true, beq_iff_eq] at h2
      show x.k = 1 ∨ x.k = 6 ∨ x.k = 4 ∨ x.k = 10
      omega
/-- Is there a second move at a place? -/
noncomputable def two (l : List Nd) (z : Int) : Bool := kn l z == 6 || ((kn l z == 4 || kn l z == 10) && fr l z)
/-- The moves rise, each once. -/
def Up (x y : Mv) : Prop := x.p < y.p ∨ (x.p = y.p ∧ x.h < y.h)
theorem hw_up (k : Int) (f : Bool) (z : Int) : (hw k f z).Pairwise Up ∧ ∀ x ∈ hw k f z, x.p = z := by
  unfold hw Up
  split
  · simp
  · split
    · simp
    · cases f <;> simp
end Go.Proofs.YtpingbiibbmcaaaGreat.Me

namespace Go.Proofs.YtpingbiibbmcaaaGreat.Do
open Go Go.RowKit Go.Proofs.YtpingbiibbmcaaaGreat.Rw Go.Proofs.YtpingbiibbmcaaaGreat.So Go.Proofs.YtpingbiibbmcaaaGreat.Se
set_option maxRecDepth 20000

theorem infoRw : (Tryz.prog.info? 22).map (fun i => (i.zero, i.size, i.bytes)) = some (some (.slice none 0 0), 1, 24) := by kernel_rfl
theorem pth_len : ∀ (t : Tm) (i p : Nat), (pth t i p).1.length ≤ sz t := by
  intro t
  induction t with
  | par a b ia ib =>
    intro i p
    have h1 := ia (i + 1) p
    have h2 := ib (i + 1 + sz a) p
    have := sz_pos a
    have := sz_pos b
    simp only [pth, sz]
    split
    · simp
    · split
      · split
        · omega
        · simp; omega
      · split
        · omega
        · simp; omega
  | block a ia => intro i p; have := ia (i + 1) p; simp only [pth, sz]; split; simp; simp; omega
  | fin s c ic => intro i p; have := ic (i + 1) p; simp only [pth, sz]; split; simp; omega
  | seq a b ia ib => intro i p; have := ia (i + 1) p; have := ib (i + 1 + sz a) p; simp only [pth, sz]; split; simp; split <;> omega
  | alt a b ia ib => intro i p; have := ia (i + 1) p; have := ib (i + 1 + sz a) p; simp only [pth, sz]; split; simp; split <;> omega
  | hand a b ia ib => intro i p; have := ia (i + 1) p; have := ib (i + 1 + sz a) p; simp only [pth, sz]; split; simp; split <;> omega
  | pair a b ia ib => intro i p; have := ia (i + 1) p; have := ib (i + 1 + sz a) p; simp only [pth, sz]; split; simp; split <;> omega
  | going a b ia ib => intro i p; have := ia (i + 1) p; have := ib (i + 1 + sz a) p; simp only [pth, sz]; split; simp; split <;> omega
  | stack a b ia ib => intro i p; have := ia (i + 1) p; have := ib (i + 1 + sz a) p; simp only [pth, sz]; split; simp; split <;> omega
  | _ => intro i p; simp [pth]
end Go.Proofs.YtpingbiibbmcaaaGreat.Do

namespace Go.Proofs.YtpingbiibbmcaaaGreat.Do
open Go Go.RowKit Go.Proofs.YtpingbiibbmcaaaGreat.Rw Go.Proofs.YtpingbiibbmcaaaGreat.So Go.Proofs.YtpingbiibbmcaaaGreat.Se
set_option maxRecDepth 20000

end Go.Proofs.YtpingbiibbmcaaaGreat.Do

namespace Go.Proofs.YtpingbiibbmcaaaGreat.Do
open Go Go.RowKit Go.Proofs.YtpingbiibbmcaaaGreat.Rw Go.Proofs.YtpingbiibbmcaaaGreat.So Go.Proofs.YtpingbiibbmcaaaGreat.Se
set_option maxRecDepth 20000

theorem infoBo : (Tryz.prog.info? 4).map (fun i => (i.zero, i.size, i.bytes)) = some (some (.bool false), 1, 1) := by kernel_rfl
/-- Which places go on, as a row of the call's own tells: in block g, told of in box B. -/
structure OnS (n B g : Nat) (on : Nat → Bool) (w : World) : Prop where
  box : w.cell? ⟨B, 0, none⟩ = some (.slice (some ⟨g, 0, none⟩) n n)
  ne : B ≠ g
  cell : ∀ j : Nat, j < n → w.cell? ⟨g, j, none⟩ = some (.bool (on j))
  soft : ∀ j : Nat, w.frozen? ⟨g, j, none⟩ = false
theorem OnS.below {n B g M : Nat} {on : Nat → Bool} {w w' : World} (h : OnS n B g on w) (hb : Below M w w') (hB : B < M) (hg : g < M) : OnS n B g on w' :=
  ⟨by rw [hb.cell hB]; exact h.box, h.ne, fun j hj => by rw [hb.cell (p := ⟨g, j, none⟩) hg]; exact h.cell j hj, fun j => (World.frozen?_of_block (hb.block _ hg)).trans (h.soft j)⟩
theorem OnS.set {n B g : Nat} {on : Nat → Bool} {w : World} (h : OnS n B g on w) (k : Nat) (hk : k < n) : OnS n B g (fun j => on j || decide (j = k)) (w.setCell ⟨g, k, none⟩ (.bool true)) := by
  refine ⟨by rw [cell_set_ne _ _ _ _ _ h.ne]; exact h.box, h.ne, fun j hj => ?_, fun j => by rw [frozen_set]; exact h.soft j⟩
  by_cases e : j = k
  · subst e
    rw [cell_set_eq (h.cell j hj)]
    simp
  · rw [cell_set_o (fun e' => e e'.symm), h.cell j hj]
    simp [e]
theorem GotJ.set {base : Nat} {w : World} {v : Value} {l : List Int} (h : GotJ base w v l) {g : Nat} (hg : g < base) (o : Nat) (x : Value) : GotJ base (w.setCell ⟨g, o, none⟩ x) v l := by
  obtain ⟨⟨hl, h1⟩, h2⟩ := h
  refine ⟨⟨hl, ?_⟩, by rw [show (w.setCell ⟨g, o, none⟩ x).heap.size = w.heap.size by simp [World.setCell]]; exact h2⟩
  rcases h1 with h1 | ⟨g', cap, cur, rfl, hb, hh, hr⟩
  · exact .inl h1
  · exact .inr ⟨g', cap, cur, rfl, hb, by rw [Rx.heap_setCell, if_neg (by omega)]; exact hh, hr⟩
set_option maxHeartbeats 1000000 in
theorem goesOn_any (B g n k : Nat) (x : Bool) (w : World) (hB : w.cell? ⟨B, 0, none⟩ = some (.slice (some ⟨g, 0, none⟩) n n)) (hk : k < n) (hc : w.cell? ⟨g, k, none⟩ = some (.bool x)) (hf : w.frozen? ⟨g, k, none⟩ = false) :
    Calls Tryz.prog 69 #[.int .i64 (k : Int), .pointer (some ⟨B, 0, none⟩)] w fun e w' => e = .returned (.tuple #[]) ∧ w' = w.setCell ⟨g, k, none⟩ (.bool true) := by
  go_enter Tryz.func69, Tryz.ntmps69
  go_wp2_with fail
  go_end0
  exact ⟨rfl, rfl⟩
theorem on_chain {n B g : Nat} (P : World → Prop) (hP : ∀ w j, P w → P (w.setCell ⟨g, j, none⟩ (.bool true))) : ∀ (ks : List Nat) (on : Nat → Bool) (w : World), (∀ k ∈ ks, k < n) → OnS n B g on w → P w →
    Chain 69 #[.pointer (some ⟨B, 0, none⟩)] (fun w' => OnS n B g (fun j => on j || decide (j ∈ ks)) w' ∧ P w') ks w
  | [], on, w, _, h, hp => by
    refine ⟨?_, hp⟩
    simpa using h
  | k :: ks, on, w, hk, h, hp => by
    have hkn := hk k (List.mem_cons_self ..)
    refine (goesOn_any B g n k _ w h.box hkn (h.cell k hkn) (h.soft k)).mono ?_
    rintro e w1 ⟨rfl, rfl⟩
    refine ⟨rfl, ?_⟩
    have := on_chain P hP ks _ _ (fun j hj => hk j (List.mem_cons_of_mem _ hj)) (h.set k hkn) (hP w k hp)
    have e : (fun j => (on j || decide (j = k)) || decide (j ∈ ks)) = fun j => on j || decide (j ∈ k :: ks) := by
      funext j
      simp [Bool.or_assoc]
    rw [e] at this
    exact this
theorem pushJ {base : Nat} {w : World} {v : Value} {l : List Int} (h : GotJ base w v l) (x : Int) (hl : l.length ≤ 1000000) :
    ∃ v' w', (Builtin.append_ #[23, 23] 23 #[v, .slice (some ⟨w.heap.size, 0, none⟩) 1 1]).run Tryz.prog (w.alloc (.cells #[.int .i64 x] 3)) = .ok v' w' ∧ GotJ base w' v' (l ++ [x]) ∧ Below base w w' := by
  have hb := below1 w (.cells #[.int .i64 x] 3)
  obtain ⟨v', w', h1, h2, h3⟩ := (h.below hb).row (int_new w x 3) (by simp; omega)
  exact ⟨v', w', h1, h2, (hb.mono h.2).trans h3⟩
theorem activeP_no (v : Value) (l : List Nd) (w : World) (hv : Nds w v l) (hS : Calls Tryz.prog 68 #[v] w fun e w' => e = .returned (.bool false) ∧ Below w.heap.size w w') :
    Calls Tryz.prog 56 #[v] w fun e w' => ∃ y, e = .returned y ∧ Ints w' y [] ∧ Below w.heap.size w w' := by
  have HS := Lib.hid hS
  obtain ⟨_, a, c, rfl, -⟩ := hv
  clear hS
  go_enter Tryz.func56, Tryz.ntmps56
  go_wp2_with fail
  refine HS.out.mono ?_
  rintro e w1 ⟨rfl, hb1⟩
  have D1 := Lib.hid hb1
  clear hb1
  go_wp2_with fail
  go_ret
  exact ⟨_, rfl, ints_nil _, D1.out⟩
/-- The places as integers. -/
abbrev toI (L : List Nat) : List Int := L.map Int.ofNat
theorem OnS.start {n : Nat} {w1 w2 : World} (hg : w1.grownBy w2 none) (ho : w2.ownsRow w1.heap.size 4 1 (.slice (some ⟨w1.heap.size, 0, none⟩) n n) n (madeCells (Value.bool false).cells (n * 1)).toList) (ty : TypeId) :
    OnS n w2.heap.size w1.heap.size (fun _ => false) (w2.alloc (.cells #[.slice (some ⟨w1.heap.size, 0, none⟩) n n] ty)) ∧ w1.heap.size < w2.heap.size ∧ Below w1.heap.size w1 w2 := by
  have hb := (Below.refl w1.heap.size w1).grown hg (Nat.le_refl _) (fun k hk => by cases hk)
  have hb2 := below1 w2 (.cells #[.slice (some ⟨w1.heap.size, 0, none⟩) n n] ty)
  rw [show (Value.bool false).cells = #[Value.bool false] from rfl, Nat.mul_one, toList_madeCells_one] at ho
  obtain ⟨_, ⟨h0, _⟩ | ⟨g, cap, cur, hv, _, hh, h1, h2, h3, h4⟩⟩ := ho
  · cases h0
  · cases hv
    have hlt : w1.heap.size < w2.heap.size := Nat.lt_of_not_le fun hle => by rw [Array.getElem?_eq_none hle] at hh; cases hh
    refine ⟨⟨?_, by omega, fun j hj => ?_, fun j => ?_⟩, hlt, hb⟩
    · rw [World.cell?_alloc_new]
      rfl
    · rw [hb2.cell (p := ⟨w1.heap.size, j, none⟩) hlt]
      have : cur.toList[j]? = some (.bool false) := by
        have e : (cur.toList.take (n * 1))[j]? = (List.replicate n (Value.bool false))[j]? := by rw [h4]
        rw [List.getElem?_take_of_lt (by omega)] at e
        rw [e, List.getElem?_replicate, if_pos hj]
      simp only [World.cell?, hh]
      simpa using this
    · refine (World.frozen?_of_block (hb2.block _ hlt)).trans ?_
      simp [World.frozen?, hh]
theorem run_len (l : List Nd) : ∀ (n i : Nat) (s : StaA), (runA l i n s).2.length ≤ s.2.length + n
  | 0, i, s => Nat.le_refl _
  | n + 1, i, s => by
    rw [runA]
    have h := run_len l n (i + 1) (stpA l i s)
    have : (stpA l i s).2.length ≤ s.2.length + 1 := by
      unfold stpA
      split
      · show (if wkAt l i = true then s.2 ++ [i] else s.2).length ≤ _
        split
        · simp
        · omega
      · omega
    omega
theorem kids_on (b off c : Nat) (t : Tm) (k : Nat) (w wx : World) (n B g base : Nat) (on : Nat → Bool) (v : Value) (L : List Int) (hat : At w b off (flat t)) (hn : sz t = n) (hc : n ≤ c) (hl : n ≤ 1000) (hk : k < n) (h1 : OnS n B g on wx) (h2 : GotJ base wx v L) (h3 : Below w.heap.size w wx)
    (hB : B < wx.heap.size) (hg : g < base) (hgx : g < wx.heap.size) (hgw : w.heap.size ≤ g) :
    Calls Tryz.prog 71 #[.slice (some ⟨b, off, none⟩) n c, .int .i64 (k : Int), .func (.func 69) #[] #[.pointer (some ⟨B, 0, none⟩)]] wx
      fun e w' => e = .returned (.tuple #[]) ∧ OnS n B g (fun j => on j || decide (j ∈ kdA (flat t) k)) w' ∧ GotJ base w' v L ∧ Below w.heap.size w w' ∧ B < w'.heap.size ∧ g < w'.heap.size := by
  have eg : ∀ args w, (callFunc 69 args).run Tryz.prog w = .ok (.enter 69 args) w := enters_of Tryz.func69 (by kernel_rfl) rfl
  have hlen : (flat t).length = n := by rw [Se.flat_len]; exact hn
  have hin := kdA_in t (flat t) 0 (AtT.self t) k (Nat.zero_le _) (by omega)
  have hat2 : At wx b off (flat t) := fun j hj => ⟨by rw [h3.cell (Ap.cell_lt (hat j hj).1)]; exact (hat j hj).1, by rw [h3.cell (Ap.cell_lt (hat j hj).2.1)]; exact (hat j hj).2.1, by rw [h3.cell (Ap.cell_lt (hat j hj).2.2)]; exact (hat j hj).2.2⟩
  have := kids_any 69 #[.pointer (some ⟨B, 0, none⟩)] eg (fun w' => OnS n B g (fun j => on j || decide (j ∈ kdA (flat t) k)) w' ∧ (GotJ base w' v L ∧ Below w.heap.size w w' ∧ B < w'.heap.size ∧ g < w'.heap.size)) b off c (flat t) k wx hat2 (by omega) (by omega) (by omega)
    (fun h7 => by
      have := hin (k + 1) (by rw [kdA_get (by omega), h7]; simp [kdK])
      omega)
    (fun w0 hb => on_chain (fun w' => GotJ base w' v L ∧ Below w.heap.size w w' ∧ B < w'.heap.size ∧ g < w'.heap.size) (fun w' j ⟨p1, p2, p3, p4⟩ => ⟨p1.set hg _ _, Rx.below_setCell p2 _ _ _ hgw, by rw [show (w'.setCell ⟨g, j, none⟩ (.bool true)).heap.size = w'.heap.size by simp [World.setCell]]; exact ⟨p3, p4⟩⟩) _ _ _
      (fun j hj => by have := hin j hj; omega) (h1.below hb hB hgx) ⟨h2.below hb, h3.trans (hb.mono h3.size), Nat.lt_of_lt_of_le hB hb.size, Nat.lt_of_lt_of_le hgx hb.size⟩)
  rw [hlen] at this
  exact this
set_option maxHeartbeats 4000000 in
theorem activeP_go (b off c : Nat) (t : Tm) (w : World) (hat : At w b off (flat t)) (hc : sz t ≤ c) (hl : sz t ≤ 400)
    (hS : Calls Tryz.prog 68 #[.slice (some ⟨b, off, none⟩) (sz t) c] w fun e w' => e = .returned (.bool true) ∧ Below w.heap.size w w') :
    Calls Tryz.prog 56 #[.slice (some ⟨b, off, none⟩) (sz t) c] w fun e w' => ∃ y, e = .returned y ∧ Ints w' y (toI (wt t 0)) ∧ Below w.heap.size w w' := by
  obtain ⟨i0, hi0, hz0, hs0, hb0⟩ := info_parts infoBo
  have HS := Lib.hid hS
  have HAT := Lib.hid hat
  have HR := Lib.hid (run_all t)
  have hfl := Se.flat_len t
  have hpos := sz_pos t
  obtain ⟨n, hn⟩ : ∃ n, sz t = n := ⟨_, rfl⟩
  have HKID := Lib.hid (fun k wx B g base on v L hk h1 h2 h3 h4 h5 h6 h7 => kids_on b off c t k w wx n B g base on v L hat hn (by omega) (by omega) hk h1 h2 h3 h4 h5 h6 h7)
  rw [hn] at HS HR hfl hpos hc hl ⊢
  generalize wt t 0 = WT at HR ⊢
  obtain ⟨l, hlt⟩ : ∃ l, flat t = l := ⟨_, rfl⟩
  rw [hlt] at HAT HR hfl HKID
  clear hS hat hlt hn
  go_enter Tryz.func56, Tryz.ntmps56
  go_wp2_with fail
  refine HS.out.mono ?_
  rintro e w1 ⟨rfl, hb1⟩
  have D1 := Lib.hid hb1
  clear hb1
  go_wp2_with (at_make; refine wpList_make_full _ rfl _ _ 92 rfl w1.heap.size 4 i0 _ 1 Tryz.underlying92 hi0 hz0 hs0 .i64 .i64 _ _ n rfl rfl rfl rfl (by rw [hb0]; omega) (by unfold maxLen; omega) (Nat.le_refl _) ?_; intro w2 hown2 hgrow2)
  obtain ⟨hon, hlt2, hb2⟩ := OnS.start hgrow2 hown2 92
  obtain ⟨g, hg⟩ : ∃ g, w1.heap.size = g := ⟨_, rfl⟩
  obtain ⟨B, hB⟩ : ∃ B, w2.heap.size = B := ⟨_, rfl⟩
  have hb2' := hb2.mono D1.out.size
  rw [hg, hB] at hon hlt2 ⊢
  obtain ⟨W2, hW2⟩ : ∃ W2, w2.alloc (.cells #[.slice (some ⟨g, 0, none⟩) n n] 92) = W2 := ⟨_, rfl⟩
  have hsz : W2.heap.size = B + 1 := by rw [← hW2, ← hB]; simp
  have DW2 : Below w.heap.size w W2 := by
    rw [← hW2]
    have h := D1.out.trans hb2'
    exact h.trans ((below1 w2 _).mono h.size)
  have hgw : w.heap.size ≤ g := by rw [← hg]; exact D1.out.size
  rw [hW2] at hon ⊢
  have G0 := goesOn_any B g n 0 _ W2 hon.box (by omega) (hon.cell 0 (by omega)) (hon.soft 0)
  rw [show ((0 : Nat) : Int) = 0 from rfl] at G0
  refine G0.mono ?_
  rintro e w3 ⟨rfl, hw3⟩
  have ON3 : Hid (OnS n B g st0.1 w3) := Lib.hid (by
    have h := hon.set 0 (by omega)
    rw [← hw3] at h
    have e : (fun j => (fun _ => false) j || decide (j = 0)) = st0.1 := by funext j; simp [st0]
    rw [e] at h
    exact h)
  have D3 : Hid (Below w.heap.size w w3) := Lib.hid (by rw [hw3]; exact Rx.below_setCell DW2 _ _ _ hgw)
  have HSZ : Hid (B < w3.heap.size ∧ g < w3.heap.size ∧ w.heap.size ≤ g) := Lib.hid (by
    rw [hw3, show (W2.setCell ⟨g, 0, none⟩ (.bool true)).heap.size = W2.heap.size by simp [World.setCell]]
    omega)
  clear hon hlt2 hb2 hb2' hg hB hW2 hsz DW2 hgw G0 hw3 hown2 hgrow2 hi0 hz0 hs0 hb0 D1 HS
  go_wp2_with fail
  go_loopw [5, 18] (fun v i wr => ∃ k : Nat, k ≤ n ∧ i = .int .i64 k ∧ Hid (GotJ w3.heap.size wr v (toI (runA l 0 k st0).2)) ∧ Hid (OnS n B g (runA l 0 k st0).1 wr) ∧ Hid (Below w.heap.size w wr ∧ B < wr.heap.size ∧ g < wr.heap.size)) (fun _ i _ => n - (intOf i).toNat)
  case atStart => exact ⟨0, Nat.zero_le _, rfl, Lib.hid (GotJ.start _ _ (Nat.le_refl _)), ON3, Lib.hid ⟨D3.out, HSZ.out.1, HSZ.out.2.1⟩⟩
  case round =>
    obtain ⟨k, hk, rfl, HG, HO, HB⟩ := hrel
    obtain ⟨va, vc, hv⟩ := HG.out.slice
    obtain ⟨m, hm⟩ : ∃ m, (toI (runA l 0 k st0).2).length = m := ⟨_, rfl⟩
    rw [hm] at hv
    subst hv
    by_cases hlt : k < n
    · have c1 := HO.out.box
      have c2 := HO.out.cell k hlt
      have HX := Lib.hid (run_last l k st0)
      have HLEN := Lib.hid (run_len l k 0 st0)
      have e1 := (HAT.out k (by omega)).1
      have e2 : wr.cell? ⟨b, off + k * 3, none⟩ = some (.int .i64 (l[k]'(by omega)).k) := by rw [HB.out.1.cell (Ap.cell_lt e1)]; exact e1
      have hw := wk_at (List.getElem?_eq_getElem (l := l) (i := k) (by omega))
      obtain ⟨q, hq⟩ : ∃ q, (l[k]'(by omega)).k = q := ⟨_, rfl⟩
      rw [hq] at e2 hw
      have HW := Lib.hid hw
      clear e1 hw hq
      obtain ⟨s, hs⟩ : ∃ s, runA l 0 k st0 = s := ⟨_, rfl⟩
      rw [hs] at HG HO HX HLEN c2
      have HL2 : Hid ((toI s.2).length ≤ 1000000) := Lib.hid (by
        have h := HLEN.out
        have : st0.2.length = 0 := rfl
        rw [List.length_map]
        omega)
      clear hs hm HLEN
      obtain ⟨x, hx⟩ : ∃ x, s.1 k = x := ⟨_, rfl⟩
      rw [hx] at c2
      have HX1 := Lib.hid hx
      clear hx
      cases x with
      | false =>
        have HX2 : Hid (runA l 0 (k + 1) st0 = s) := Lib.hid (by rw [HX.out]; unfold stpA; rw [if_neg (by rw [HX1.out]; simp)])
        clear HX HX1 HL2
        go_wp2_with fail
        go_roundw
        case rel => exact ⟨k + 1, by omega, by go_num, by rw [HX2.out]; exact HG, by rw [HX2.out]; exact HO, HB⟩
        case measure => simp [intOf]; omega
      | true =>
        have HWT := Lib.hid (waitsP_any q)
        have HX2 : Hid (runA l 0 (k + 1) st0 = (fun j => s.1 j || decide (j ∈ kdA l k), if wk q = true then s.2 ++ [k] else s.2)) := Lib.hid (by rw [HX.out]; unfold stpA; rw [if_pos HX1.out, HW.out])
        have HK := Lib.hid (fun wx v L h1 h2 h3 h4 h5 => HKID.out k wx B g w3.heap.size s.1 v L hlt h1 h2 h3 h4 HSZ.out.2.1 h5 HSZ.out.2.2)
        clear HX HX1 HW HKID
        obtain ⟨y, hy⟩ : ∃ y, wk q = y := ⟨_, rfl⟩
        rw [hy] at HWT HX2
        clear hy
        cases y with
        | false =>
          go_wp2_with fail
          refine (HWT.out _).mono ?_
          rintro e w4 ⟨rfl, rfl⟩
          go_wp2_with fail
          refine (HK.out _ _ _ HO.out HG.out HB.out.1 HB.out.2.1 HB.out.2.2).mono ?_
          rintro e w5 ⟨rfl, ho, hg, hb, h1, h2⟩
          have HO5 := Lib.hid ho
          have HG5 := Lib.hid hg
          have HB5 := Lib.hid (show _ ∧ _ ∧ _ from ⟨hb, h1, h2⟩)
          clear ho hg hb h1 h2
          go_wp2_with fail
          go_roundw
          case rel => exact ⟨k + 1, by omega, by go_num, by rw [HX2.out]; exact HG5, by rw [HX2.out]; exact HO5, HB5⟩
          case measure => simp [intOf]; omega
        | true =>
          have HX3 : Hid (runA l 0 (k + 1) st0 = (fun j => s.1 j || decide (j ∈ kdA l k), s.2 ++ [k])) := Lib.hid (by rw [HX2.out]; simp)
          clear HX2
          obtain ⟨v', w', hrun, hg', hb'⟩ := pushJ HG.out (k : Int) HL2.out
          have RUN := Lib.hid hrun
          have G' := Lib.hid hg'
          have O' := Lib.hid (HO.out.below hb' HSZ.out.1 HSZ.out.2.1)
          have B' : Hid (Below w.heap.size w w' ∧ B < w'.heap.size ∧ g < w'.heap.size) := Lib.hid ⟨HB.out.1.trans (hb'.mono D3.out.size), Nat.lt_of_lt_of_le HB.out.2.1 (Nat.le_trans (Nat.le_refl _) (by have := hb'.size; exact this)), Nat.lt_of_lt_of_le HB.out.2.2 hb'.size⟩
          clear hrun hg' hb'
          go_wp2_with fail
          refine (HWT.out _).mono ?_
          rintro e w4 ⟨rfl, rfl⟩
          go_wp2_with (at_builtin; refine Ap.wpList_append_run (by rfl) _ _ _ _ rfl _ _ rfl rfl v' w' RUN.out ?_)
          refine (HK.out _ _ _ O'.out G'.out B'.out.1 B'.out.2.1 B'.out.2.2).mono ?_
          rintro e w5 ⟨rfl, ho, hg, hb, h1, h2⟩
          have HO5 := Lib.hid ho
          have HG5 := Lib.hid hg
          have HB5 := Lib.hid (show _ ∧ _ ∧ _ from ⟨hb, h1, h2⟩)
          clear ho hg hb h1 h2
          go_wp2_with fail
          go_roundw
          case rel => exact ⟨k + 1, by omega, by go_num, by rw [HX3.out, show toI ((fun j => s.1 j || decide (j ∈ kdA l k), s.2 ++ [k]) : StaA).2 = toI s.2 ++ [(k : Int)] by simp [toI]]; exact HG5, by rw [HX3.out]; exact HO5, HB5⟩
          case measure => simp [intOf]; omega
    · have hkl : k = n := by omega
      subst hkl
      rw [HR.out] at HG
      go_wp2_with fail
      go_ret
      exact ⟨_, rfl, HG.out.ints, HB.out.1⟩
end Go.Proofs.YtpingbiibbmcaaaGreat.Do

namespace Go.Proofs.YtpingbiibbmcaaaGreat.Do
open Go Go.RowKit Go.Proofs.YtpingbiibbmcaaaGreat.Rw Go.Proofs.YtpingbiibbmcaaaGreat.So Go.Proofs.YtpingbiibbmcaaaGreat.Se
set_option maxRecDepth 20000

abbrev Wdm (t : Tm) : Prop := ∀ (b off c : Nat) (l : List Nd) (i : Nat) (w : World), At w b off l → AtT l i t → l.length ≤ c → l.length ≤ 1000 →
  Calls Tryz.prog 116 #[.slice (some ⟨b, off, none⟩) l.length c, .int .i64 (i : Int)] w fun e w' => e = .returned (.bool (bangT t)) ∧ Below w.heap.size w w'
theorem at_below {w w' : World} {b off M : Nat} {l : List Nd} (h : At w b off l) (hb : Below M w w') (hM : M = w.heap.size) : At w' b off l := fun k hk => by
  subst hM
  exact ⟨by rw [hb.cell (Ap.cell_lt (h k hk).1)]; exact (h k hk).1, by rw [hb.cell (Ap.cell_lt (h k hk).2.1)]; exact (h k hk).2.1, by rw [hb.cell (Ap.cell_lt (h k hk).2.2)]; exact (h k hk).2.2⟩
/-- What has been told so far, in box B1; the row in box B2. -/
structure DS (w : World) (B1 B2 : Nat) (v : Value) (x : Bool) (wx : World) : Prop where
  is : wx.cell? ⟨B1, 0, none⟩ = some (.bool x)
  soft : wx.frozen? ⟨B1, 0, none⟩ = false
  box : wx.cell? ⟨B2, 0, none⟩ = some v
  ne : B2 ≠ B1
  old : w.heap.size ≤ B1
  bel : Below w.heap.size w wx
theorem DS.start (w : World) (v : Value) (t1 t2 : TypeId) : DS w (w.heap.size + 1) w.heap.size v false ((w.alloc (.cells #[v] t1)).alloc (.cells #[.bool false] t2)) := by
  have b1 := below1 w (.cells #[v] t1)
  have b2 := below1 (w.alloc (.cells #[v] t1)) (.cells #[.bool false] t2)
  have hs : (w.alloc (.cells #[v] t1)).heap.size = w.heap.size + 1 := by simp
  refine ⟨?_, ?_, ?_, by omega, by omega, b1.trans (b2.mono b1.size)⟩
  · rw [← hs, World.cell?_alloc_new]
    rfl
  · rw [← hs]
    simp [go_sem]
  · rw [b2.cell (p := ⟨w.heap.size, 0, none⟩) (by rw [hs]; exact Nat.lt_succ_self _), World.cell?_alloc_new]
    rfl
theorem DS.below {w : World} {B1 B2 : Nat} {v : Value} {x : Bool} {wx wy : World} (h : DS w B1 B2 v x wx) (hb : Below wx.heap.size wx wy) : DS w B1 B2 v x wy :=
  ⟨by rw [hb.cell (Ap.cell_lt h.is)]; exact h.is, (World.frozen?_of_block (hb.block _ (Ap.cell_lt h.is))).trans h.soft, by rw [hb.cell (Ap.cell_lt h.box)]; exact h.box, h.ne, h.old, h.bel.trans (hb.mono h.bel.size)⟩
theorem DS.set {w : World} {B1 B2 : Nat} {v : Value} {x : Bool} {wx : World} (h : DS w B1 B2 v x wx) (y : Bool) : DS w B1 B2 v y (wx.setCell ⟨B1, 0, none⟩ (.bool y)) :=
  ⟨cell_set_eq h.is, by rw [frozen_set]; exact h.soft, by rw [cell_set_ne _ _ _ _ _ h.ne]; exact h.box, h.ne, h.old, Rx.below_setCell h.bel _ _ _ h.old⟩
set_option maxHeartbeats 1000000 in
theorem dp1_any {t : Tm} (W : Wdm t) (b off c : Nat) (l : List Nd) (i : Nat) (w wx : World) (B1 B2 : Nat) (x : Bool) (hat : At w b off l) (htt : AtT l i t) (hc : l.length ≤ c) (hl : l.length ≤ 1000) (hD : DS w B1 B2 (.slice (some ⟨b, off, none⟩) l.length c) x wx) :
    Calls Tryz.prog 125 #[.int .i64 (i : Int), .pointer (some ⟨B1, 0, none⟩), .pointer (some ⟨B2, 0, none⟩)] wx fun e w' => e = .returned (.tuple #[]) ∧ DS w B1 B2 (.slice (some ⟨b, off, none⟩) l.length c) (x || bangT t) w' := by
  have HD := Lib.hid hD
  have HW := Lib.hid (fun wy (hb : Below wx.heap.size wx wy) => W b off c l i wy (at_below (at_below hat hD.bel rfl) hb rfl) htt hc hl)
  have e1 := hD.is
  have e2 := hD.box
  have f1 := hD.soft
  have KP := Lib.hid (fun wy (hb : Below wx.heap.size wx wy) => hD.below hb)
  clear hat htt hD
  cases x with
  | true =>
    clear HW KP
    go_enter Tryz.func125, Tryz.ntmps125
    go_wp2_with fail
    go_end0
    exact ⟨rfl, by rw [Bool.true_or]; exact HD.out.set true⟩
  | false =>
    go_enter Tryz.func125, Tryz.ntmps125
    go_wp2_with fail
    refine (HW.out _ (Below.refl _ _)).mono ?_
    rintro e w1 ⟨rfl, hb1⟩
    have K1 := Lib.hid (KP.out _ hb1)
    have d1 := K1.out.is
    have d2 := K1.out.soft
    clear hb1
    go_wp2_with fail
    go_end0
    exact ⟨rfl, by rw [Bool.false_or]; exact K1.out.set _⟩
set_option maxHeartbeats 2000000 in
theorem dp_no (b off c : Nat) (l : List Nd) (i : Nat) (w : World) (hat : At w b off l) (hi : i < l.length) (hk : l[i].k = 1 ∨ l[i].k = 2 ∨ l[i].k = 3 ∨ l[i].k = 4 ∨ l[i].k = 6 ∨ l[i].k = 8 ∨ l[i].k = 9 ∨ l[i].k = 10) :
    Calls Tryz.prog 116 #[.slice (some ⟨b, off, none⟩) l.length c, .int .i64 (i : Int)] w fun e w' => e = .returned (.bool false) ∧ Below w.heap.size w w' := by
  have e0 := (hat i hi).1
  have hi2 : (i : Int) < l.length := by omega
  obtain ⟨k, hk2⟩ : ∃ k, l[i].k = k := ⟨_, rfl⟩
  rw [hk2] at e0 hk
  have hb := Ap.cell_lt e0
  clear hat hk2
  rcases hk with rfl | rfl | rfl | rfl | rfl | rfl | rfl | rfl
  all_goals
    go_enter Tryz.func116, Tryz.ntmps116
    go_wp2_with fail
    go_ret
    exact ⟨rfl, below1 _ _⟩
set_option maxHeartbeats 2000000 in
theorem dp_end (b off c : Nat) (l : List Nd) (i : Nat) (w : World) (hat : At w b off l) (hi : i < l.length) (hk : l[i].k = 11 ∨ l[i].k = 14) :
    Calls Tryz.prog 116 #[.slice (some ⟨b, off, none⟩) l.length c, .int .i64 (i : Int)] w fun e w' => e = .returned (.bool (l[i].s == 2)) ∧ Below w.heap.size w w' := by
  have e0 := (hat i hi).1
  have e2 := (hat i hi).2.2
  have hi2 : (i : Int) < l.length := by omega
  obtain ⟨k, hk2⟩ : ∃ k, l[i].k = k := ⟨_, rfl⟩
  obtain ⟨s, hs⟩ : ∃ s, l[i].s = s := ⟨_, rfl⟩
  rw [hk2] at e0 hk
  rw [hs] at e2 ⊢
  have hb := Ap.cell_lt e0
  clear hat hk2 hs
  rcases hk with rfl | rfl
  all_goals
    go_enter Tryz.func116, Tryz.ntmps116
    go_wp2_with fail
    go_ret
    exact ⟨rfl, below1 _ _⟩
set_option maxHeartbeats 4000000 in
theorem dp_go (b off c : Nat) (l : List Nd) (i : Nat) (w : World) (r : Bool) (hat : At w b off l) (hc : l.length ≤ c) (hl : l.length ≤ 1000) (hi : i < l.length) (h7 : l[i].k = 7 → i + 1 < l.length) (hk : l[i].k = 5 ∨ l[i].k = 12 ∨ l[i].k = 13 ∨ l[i].k = 7)
    (H : ∀ w0 B1 B2, DS w B1 B2 (.slice (some ⟨b, off, none⟩) l.length c) false w0 → Chain 125 #[.pointer (some ⟨B1, 0, none⟩), .pointer (some ⟨B2, 0, none⟩)] (fun w' => DS w B1 B2 (.slice (some ⟨b, off, none⟩) l.length c) r w') (kdA l i) w0) :
    Calls Tryz.prog 116 #[.slice (some ⟨b, off, none⟩) l.length c, .int .i64 (i : Int)] w fun e w' => e = .returned (.bool r) ∧ Below w.heap.size w w' := by
  have eg : ∀ args w, (callFunc 125 args).run Tryz.prog w = .ok (.enter 125 args) w := enters_of Tryz.func125 (by kernel_rfl) rfl
  have e0 := (hat i hi).1
  have hi2 : (i : Int) < l.length := by omega
  have HK := Lib.hid (fun wx B1 B2 (hD : DS w B1 B2 (.slice (some ⟨b, off, none⟩) l.length c) false wx) => kids_any 125 #[.pointer (some ⟨B1, 0, none⟩), .pointer (some ⟨B2, 0, none⟩)] eg (fun w' => DS w B1 B2 (.slice (some ⟨b, off, none⟩) l.length c) r w') b off c l i wx (at_below hat hD.bel rfl) hc hl hi h7
    (fun w0 hb => H w0 B1 B2 (hD.below hb)))
  obtain ⟨k, hk2⟩ : ∃ k, l[i].k = k := ⟨_, rfl⟩
  rw [hk2] at e0 hk
  have hb := Ap.cell_lt e0
  clear hat hk2 H eg h7
  rcases hk with rfl | rfl | rfl | rfl
  all_goals
    go_enter Tryz.func116, Tryz.ntmps116
    go_wp2_with fail
    refine (HK.out _ (w.heap.size + 1) w.heap.size ?_).mono ?_
    · exact DS.start _ _ _ _
    rintro e w1 ⟨rfl, hD⟩
    have d1 := hD.is
    have D1 := Lib.hid hD.bel
    clear hD
    go_wp2_with fail
    go_ret
    exact ⟨rfl, D1.out⟩
theorem get_of {l : List Nd} {i : Nat} {x : Nd} (h : l[i]? = some x) : ∃ hi : i < l.length, l[i] = x := List.getElem?_eq_some_iff.1 h
theorem doomed_any : ∀ t : Tm, Wdm t := by
  have leaf : ∀ {t : Tm} {x : Nd}, (x.k = 1 ∨ x.k = 2 ∨ x.k = 3 ∨ x.k = 4 ∨ x.k = 6 ∨ x.k = 8 ∨ x.k = 9 ∨ x.k = 10) → (∀ l i, AtT l i t → l[i]? = some x) → bangT t = false → Wdm t := by
    intro t x hx hA hb bb off c l i w hat htt hc hl
    obtain ⟨hi, e⟩ := get_of (hA l i htt)
    rw [hb]
    exact dp_no bb off c l i w hat hi (by rw [e]; exact hx)
  have over : ∀ {t : Tm} {x : Nd}, (x.k = 11 ∨ x.k = 14) → (∀ l i, AtT l i t → l[i]? = some x) → bangT t = (x.s == 2) → Wdm t := by
    intro t x hx hA hb bb off c l i w hat htt hc hl
    obtain ⟨hi, e⟩ := get_of (hA l i htt)
    have := dp_end bb off c l i w hat hi (by rw [e]; exact hx)
    rw [e] at this
    rw [hb]
    exact this
  have one : ∀ {t a b : Tm} {x : Nd}, Wdm a → (x.k = 5 ∨ x.k = 12 ∨ x.k = 13) → flat t = x :: (flat a ++ flat b) → bangT t = bangT a → Wdm t := by
    intro t a b x ia hx e hb bb off c l i w hat htt hc hl
    obtain ⟨h1, h2, h3⟩ := at_two htt e
    obtain ⟨hi, ex⟩ := get_of h1
    have hkd : kdA l i = [i + 1] := by
      rw [kdA_at h1]
      unfold kdK
      rw [if_neg (by omega), if_pos (by omega)]
    refine dp_go bb off c l i w _ hat hc hl hi (fun h => by rw [ex] at h; omega) (by rw [ex]; omega) fun w0 B1 B2 hD => ?_
    rw [hkd, hb]
    refine (dp1_any ia bb off c l (i + 1) w w0 B1 B2 false hat h2 hc hl hD).mono ?_
    rintro e w1 ⟨rfl, h⟩
    exact ⟨rfl, h⟩
  intro t
  induction t with
  | act s => exact leaf (x := nAct s) (by simp) (fun _ _ h => at_none h rfl) rfl
  | skip => exact leaf (x := nOf 2) (by simp [nOf]) (fun _ _ h => at_none h rfl) rfl
  | throw => exact leaf (x := nOf 3) (by simp [nOf]) (fun _ _ h => at_none h rfl) rfl
  | yield => exact leaf (x := nOf 4) (by simp [nOf]) (fun _ _ h => at_none h rfl) rfl
  | alt a b ia ib => exact leaf (x := nOf 6) (by simp [nOf]) (fun _ _ h => (at_two h rfl).1) rfl
  | hand a b ia ib => exact leaf (x := nOf 8) (by simp [nOf]) (fun _ _ h => (at_two h rfl).1) rfl
  | block a ia => exact leaf (x := nOf 9) (by simp [nOf]) (fun _ _ h => (at_one h rfl).1) rfl
  | pair a b ia ib => exact leaf (x := nOf 10) (by simp [nOf]) (fun _ _ h => (at_two h rfl).1) rfl
  | over s => exact over (x := ⟨11, ⟨#[]⟩, s⟩) (by simp) (fun _ _ h => at_none h rfl) rfl
  | fin s c ic => exact over (x := nEnd s) (by simp) (fun _ _ h => (at_one h rfl).1) rfl
  | seq a b ia ib => exact one (x := nOf 5) ia (by simp [nOf]) rfl rfl
  | going a b ia ib => exact one (x := nOf 12) ia (by simp [nOf]) rfl rfl
  | stack a b ia ib => exact one (x := nOf 13) ia (by simp [nOf]) rfl rfl
  | par a b ia ib =>
    intro bb off c l i w hat htt hc hl
    obtain ⟨h1, h2, h3⟩ := at_two (x := nOf 7) htt rfl
    obtain ⟨hi, ex⟩ := get_of h1
    have hkd : kdA l i = [i + 1 + sz a, i + 1] := by
      rw [kdA_at h1, ← h2.size]
      rfl
    have hlt := h3.lt
    have hp := sz_pos b
    refine dp_go bb off c l i w _ hat hc hl hi (fun _ => by omega) (by rw [ex]; simp [nOf]) fun w0 B1 B2 hD => ?_
    rw [hkd]
    refine (dp1_any ib bb off c l (i + 1 + sz a) w w0 B1 B2 false hat h3 hc hl hD).mono ?_
    rintro e w1 ⟨rfl, h⟩
    refine ⟨rfl, ?_⟩
    refine (dp1_any ia bb off c l (i + 1) w w1 B1 B2 _ hat h2 hc hl h).mono ?_
    rintro e w2 ⟨rfl, h'⟩
    refine ⟨rfl, ?_⟩
    have e3 : bangT (.par a b) = (false || bangT b || bangT a) := by
      rw [show bangT (.par a b) = (bangT a || bangT b) from rfl, Bool.false_or, Bool.or_comm]
    rw [e3]
    exact h'
end Go.Proofs.YtpingbiibbmcaaaGreat.Do
