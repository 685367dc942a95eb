/- The document's Kids: its rows are parts of the row that was given, wherever that was made. What the program's package row is asked to do, as contracts of its calls; and the statements' own first look at it, walked from them. The document's Set: by halves. -/
import Derived.Test.YtdkaoiomndkbjaaGreatDoorQ05
import Derived.Test.YtdkaoiomndkbjaaGreatDoorQ06
import Derived.IntWalk

namespace Go.Proofs.YtdkaoiomndkbjaaGreatDoor.Rw
open Go Go.RowKit
set_option maxRecDepth 20000
def Made0 (w0 w wr : World) (v : Value) (l : List Nd) (k p : Nat) : Prop := ∃ cs d, Far l 0 k p d ∧ wr.ownsRow w.heap.size 22 1 v k cs ∧ RwC w0 cs (kidsN k (l.drop 1)) ∧ Below w.heap.size w wr
theorem Made0.start (w0 w : World) (l : List Nd) : Made0 w0 w w (.slice none 0 0) l 0 1 := ⟨[], 0, Far.start l 0, ⟨rfl, .inl ⟨rfl, rfl⟩⟩, trivial, Below.refl _ _⟩
theorem Made0.next {w0 w wr : World} {v : Value} {l : List Nd} {k p c' d' b off cap : Nat} (h : Made0 w0 w wr v l k p) (ht : T (l.drop p) = some (c', d')) (hat : At w0 b off l) (hp : p + c' ≤ l.length) (hc : c' ≤ cap) (hk : k ≤ 2) :
    ∃ v' w', (Builtin.append_ #[60, 60] 60 #[v, .slice (some ⟨wr.heap.size, 0, none⟩) 1 1]).run Tryz.prog (wr.alloc (.cells #[.slice (some ⟨b, off + p * 3, none⟩) c' cap] 22)) = .ok v' w' ∧ Made0 w0 w w' v' l (k + 1) (p + c') := by
  obtain ⟨cs, d, hfar, hown, hrw, hb⟩ := h
  obtain ⟨i0, hi, hz, hs1, hb8⟩ := info_parts infoR
  obtain ⟨v', w', h1, h2, h3, h4, h5⟩ := Ap.run_append_one (P := Tryz.prog) (ty := 60) Tryz.underlying60 hi hz hs1 hb8 (by rfl) (by omega) hown hb.size #[.slice (some ⟨b, off + p * 3, none⟩) c' cap] rfl
    (by intro u hu; simp at hu; subst hu; rfl) (by unfold maxLen; omega) (by omega)
  refine ⟨v', w', h1, cs ++ [.slice (some ⟨b, off + p * 3, none⟩) c' cap], max d d', hfar.next ht, h2, ?_, hb.trans h4⟩
  rw [kids_next hfar ht]
  exact hrw.snoc (part_nds hat p c' cap hp hc)
set_option maxHeartbeats 2000000 in
theorem kids_cells0 (b off cap : Nat) (l : List Nd) (w0 w : World) (hn : Nds w (.slice (some ⟨b, off, none⟩) l.length cap) l) (hat0 : At w0 b off l) (hat : At w b off l) (hl : l.length ≤ 1000000) (hcap : l.length ≤ cap) (hs : size l ≠ 0) :
    Calls Tryz.prog 46 #[.slice (some ⟨b, off, none⟩) l.length cap] w fun e w' => ∃ y cs, e = .returned y ∧ Ap.Rd w' 1 y (kids l).length cs ∧ RwC w0 cs (kids l) ∧ Below w.heap.size w w' := by
  have h0 : 0 < l.length := by have := size_le l; omega
  have HN := Lib.hid hn
  have HA := Lib.hid hat0
  have HS := Lib.hid hs
  have hz := size_le l
  have HM := Lib.hid (fun k p d => kids_more (k := k) (p := p) (d := d) h0 hs)
  have HK := Lib.hid (kids_of h0 hs)
  have hbd := ar_le l[0].k
  have e0 := (hat 0 h0).1
  rw [Nat.zero_mul, Nat.add_zero] at e0
  obtain ⟨z, hzz⟩ : ∃ z, size l = z := ⟨_, rfl⟩
  have HZ := Lib.hid hzz
  rw [hzz] at hs hz
  have gz : ((z : Int) == 0) = false := by rw [beq_eq_false_iff_ne]; omega
  obtain ⟨kk, hkk⟩ : ∃ kk, l[0].k = kk := ⟨_, rfl⟩
  rw [hkk] at hbd e0 HM HK
  obtain ⟨x, hx⟩ : ∃ x, ar kk = x := ⟨_, rfl⟩
  have HX := Lib.hid hx
  rw [hx] at hbd HM HK
  have E0 := Lib.hid e0
  clear hn hat hat0 hkk hx hzz e0
  go_enter Tryz.func46, Tryz.ntmps46
  go_wp2_with fail
  refine (sizeR_any _ l _ HN.out hl).mono ?_
  rw [HZ.out]
  rintro e w' ⟨rfl, rfl⟩
  go_wp2_with fail
  go_loopw [3, 4, 5] (fun o a i wr => ∃ k p : Nat, (k : Int) ≤ max x 0 ∧ p ≤ l.length ∧ a = .int .i64 p ∧ i = .int .i64 k ∧ Hid (Made0 w0 w wr o l k p)) (fun _ _ i _ => (x - intOf i).toNat)
  case atStart => exact ⟨0, 1, by omega, by omega, rfl, rfl, Lib.hid (Made0.start w0 w l)⟩
  case round =>
    obtain ⟨k, p, hk, hp, rfl, rfl, HD⟩ := hrel
    have HB : Hid (Below w.heap.size w wr) := by obtain ⟨_, _, _, _, _, hb⟩ := HD.out; exact hb
    have c0 : wr.cell? ⟨b, off, none⟩ = some (.int .i64 kk) := by rw [HB.out.cell (Ap.cell_lt E0.out)]; exact E0.out
    by_cases hkl : (k : Int) < x
    · obtain ⟨c', d', ht⟩ : ∃ c' d', T (l.drop p) = some (c', d') := by
        obtain ⟨_, d, hfar, _⟩ := HD.out
        exact HM.out k p d hfar hkl
      have hb' := T_bd ht
      rw [List.length_drop] at hb'
      obtain ⟨q, hq⟩ : ∃ q, p + c' = q := ⟨_, rfl⟩
      obtain rfl : c' = q - p := by omega
      have HT := Lib.hid ht
      have HQ : Hid (WalkPost p (some (q - p, d')) = fun w e w' => e = .returned (.tuple #[.int .i64 (q : Int), .int .i64 (d' : Int)]) ∧ w = w') := by
        funext w e w'
        unfold WalkPost
        have hnx : nx p (some (q - p, d')) = (q : Int) := by simp only [nx]; omega
        rw [hnx]
        rfl
      obtain ⟨v', w', hrun, hmade⟩ := HD.out.next (cap := cap - p) ht HA.out (by omega) (by omega) (by omega)
      rw [hq] at hmade
      have R := Lib.hid hrun
      have HD' := Lib.hid hmade
      have i1 : p ≤ q := by omega
      have i2 : q ≤ cap := by omega
      have i3 : p < cap := by omega
      have i4 : q ≤ l.length := by omega
      clear ht hb' hq hrun hmade
      go_wp2_with fail
      refine (arR_any _ _).mono ?_
      rw [HX.out]
      rintro e w'' ⟨rfl, rfl⟩
      go_wp2_with fail
      refine (walk_any _ l p _ (HN.out.below HB.out) hl hp).mono ?_
      rw [HT.out, HQ.out]
      rintro e w'' ⟨rfl, rfl⟩
      go_wp2_with (at_builtin; refine Ap.wpList_append_run (by rfl) (.tmp 26) (.tmp 31) _ _ rfl _ _ rfl rfl v' w' R.out ?_)
      go_roundw
      case rel => exact ⟨k + 1, q, by omega, i4, rfl, by go_num, HD'⟩
      case measure => simp [intOf]; omega
    · go_wp2_with fail
      refine (arR_any _ _).mono ?_
      rw [HX.out]
      rintro e w'' ⟨rfl, rfl⟩
      go_wp2_with fail
      go_ret
      obtain ⟨cs, d, _, hown, hrw, hb⟩ := HD.out
      have hrw' : RwC w0 cs (kids l) := by rw [HK.out, show x.toNat = k by omega]; exact hrw
      refine ⟨_, cs, rfl, ?_, hrw', HB.out⟩
      rw [HK.out, show x.toNat = k by omega, kidsN_len]
      exact Ap.Rd.owned hown
theorem kidsR_of (v : Value) (l : List Nd) (w0 w : World) (hw : Below w0.heap.size w0 w) (hv : Nds w0 v l) (hl : l.length ≤ 1000000) :
    Calls Tryz.prog 46 #[v] w fun e w' => ∃ y cs, e = .returned y ∧ Ap.Rd w' 1 y (kids l).length cs ∧ RwC w0 cs (kids l) ∧ Below w.heap.size w w' := by
  by_cases hs : size l = 0
  · refine (kids_none v l w (hv.below hw) hl hs).mono ?_
    rintro e w' ⟨rfl, rfl⟩
    have hk : kids l = [] := by unfold kids; rw [if_pos hs]
    rw [hk]
    exact ⟨_, [], rfl, ⟨rfl, none, 0, rfl, Nat.le_refl _, fun _ => ⟨rfl, rfl⟩, fun h => absurd h (Nat.lt_irrefl 0)⟩, trivial, Below.refl _ _⟩
  · have hv' := hv.below hw
    rcases hv.form with ⟨rfl, _, _, rfl⟩ | ⟨b, off, cap, rfl, hc, hat⟩
    · exact absurd rfl hs
    · refine kids_cells0 b off cap l w0 w hv' hat (fun k hk => ?_) hl hc hs
      obtain ⟨h1, h2, h3⟩ := hat k hk
      exact ⟨by rw [hw.cell (Ap.cell_lt h1)]; exact h1, by rw [hw.cell (Ap.cell_lt h2)]; exact h2, by rw [hw.cell (Ap.cell_lt h3)]; exact h3⟩
end Go.Proofs.YtdkaoiomndkbjaaGreatDoor.Rw

namespace Go.Proofs.YtdkaoiomndkbjaaGreatDoor.Rw
open Go Go.RowKit
set_option maxRecDepth 20000
def n0 : Nd := ⟨5, ⟨#[]⟩, 0⟩
def n1 : Nd := ⟨1, ⟨#[97]⟩, 0⟩
def n2 : Nd := ⟨6, ⟨#[]⟩, 0⟩
def n3 : Nd := ⟨2, ⟨#[]⟩, 0⟩
def n4 : Nd := ⟨3, ⟨#[]⟩, 0⟩
def aL : List Nd := [n0, n1, n2, n3, n4]
end Go.Proofs.YtdkaoiomndkbjaaGreatDoor.Rw

namespace Go.Proofs.YtdkaoiomndkbjaaGreatDoor.Tr
open Go Go.RowKit
set_option maxRecDepth 20000
end Go.Proofs.YtdkaoiomndkbjaaGreatDoor.Tr
