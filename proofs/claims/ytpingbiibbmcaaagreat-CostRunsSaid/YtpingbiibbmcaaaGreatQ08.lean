/- The document's plain, paired, plainOn, pairedOn and Is, walked kind by kind. -/
import Derived.Test.YtpingbiibbmcaaaGreatQ06

namespace Go.Proofs.YtpingbiibbmcaaaGreat.So
open Go Go.RowKit Go.Proofs.YtpingbiibbmcaaaGreat.Rw
set_option maxRecDepth 20000

set_option maxHeartbeats 1000000 in
theorem plain_1 (l : List Nd) (v y : Value) (w : World) (ht : Tre l) (hk : hd l = 1) (hv : Nds w v l) (_ : Rws w y (kids l)) (_ : IsC l.length) : Calls Tryz.prog 46 #[v, y] w fun e w' => e = .returned (.bool (plainB Is l)) ∧ Below w.heap.size w w' := by
  obtain ⟨b, o, c, rfl, hc⟩ := head_cell hv ht
  rw [hk] at hc
  have hpos := ht.pos
  have HR : Hid (plainB Is l = true) := by
    show _ = _
    unfold plainB
    rw [hk]
    rfl
  clear hk hv ht
  go_enter Tryz.func46, Tryz.ntmps46
  go_wp2_with fail
  go_ret
  exact ⟨ret_bool HR.out.symm, Below.refl _ _⟩
set_option maxHeartbeats 1000000 in
theorem plain_2 (l : List Nd) (v y : Value) (w : World) (ht : Tre l) (hk : hd l = 2) (hv : Nds w v l) (_ : Rws w y (kids l)) (_ : IsC l.length) : Calls Tryz.prog 46 #[v, y] w fun e w' => e = .returned (.bool (plainB Is l)) ∧ Below w.heap.size w w' := by
  obtain ⟨b, o, c, rfl, hc⟩ := head_cell hv ht
  rw [hk] at hc
  have hpos := ht.pos
  have HR : Hid (plainB Is l = true) := by
    show _ = _
    unfold plainB
    rw [hk]
    rfl
  clear hk hv ht
  go_enter Tryz.func46, Tryz.ntmps46
  go_wp2_with fail
  go_ret
  exact ⟨ret_bool HR.out.symm, Below.refl _ _⟩
set_option maxHeartbeats 1000000 in
theorem plain_3 (l : List Nd) (v y : Value) (w : World) (ht : Tre l) (hk : hd l = 3) (hv : Nds w v l) (_ : Rws w y (kids l)) (_ : IsC l.length) : Calls Tryz.prog 46 #[v, y] w fun e w' => e = .returned (.bool (plainB Is l)) ∧ Below w.heap.size w w' := by
  obtain ⟨b, o, c, rfl, hc⟩ := head_cell hv ht
  rw [hk] at hc
  have hpos := ht.pos
  have HR : Hid (plainB Is l = true) := by
    show _ = _
    unfold plainB
    rw [hk]
    rfl
  clear hk hv ht
  go_enter Tryz.func46, Tryz.ntmps46
  go_wp2_with fail
  go_ret
  exact ⟨ret_bool HR.out.symm, Below.refl _ _⟩
set_option maxHeartbeats 1000000 in
theorem plain_4 (l : List Nd) (v y : Value) (w : World) (ht : Tre l) (hk : hd l = 4) (hv : Nds w v l) (_ : Rws w y (kids l)) (_ : IsC l.length) : Calls Tryz.prog 46 #[v, y] w fun e w' => e = .returned (.bool (plainB Is l)) ∧ Below w.heap.size w w' := by
  obtain ⟨b, o, c, rfl, hc⟩ := head_cell hv ht
  rw [hk] at hc
  have hpos := ht.pos
  have HR : Hid (plainB Is l = true) := by
    show _ = _
    unfold plainB
    rw [hk]
    rfl
  clear hk hv ht
  go_enter Tryz.func46, Tryz.ntmps46
  go_wp2_with fail
  go_ret
  exact ⟨ret_bool HR.out.symm, Below.refl _ _⟩
set_option maxHeartbeats 1000000 in
theorem plain_5 (l : List Nd) (v y : Value) (w : World) (ht : Tre l) (hk : hd l = 5) (hv : Nds w v l) (hy : Rws w y (kids l)) (ih : IsC l.length) : Calls Tryz.prog 46 #[v, y] w fun e w' => e = .returned (.bool (plainB Is l)) ∧ Below w.heap.size w w' := by
  obtain ⟨b, o, c, rfl, hc⟩ := head_cell hv ht
  rw [hk] at hc
  have hpos := ht.pos
  obtain ⟨r0, r1, e, t0, t1, s0, s1⟩ := ht.two (by rw [hk]; rfl)
  have HR : Hid (plainB Is l = (Is 1 r0 && Is 1 r1)) := by
    show _ = _
    unfold plainB k0 k1
    rw [hk, e]
    rfl
  rw [e] at hy
  obtain ⟨b', o', c', a0, a1, rfl, q0, q1, n0, n1⟩ := two_rows hy
  have IH := Lib.hid (ih r0 1 w a0 s0 t0 n0 (by omega) (by omega))
  have IH1 := Lib.hid (fun w' h => ih r1 1 w' a1 s1 t1 h (by omega) (by omega))
  have N1 := Lib.hid n1
  have Q1 := Lib.hid q1
  clear hk hv ht e hy ih n0 n1 q1
  go_enter Tryz.func46, Tryz.ntmps46
  go_wp2_with fail
  refine IH.out.mono ?_
  cases h0 : Is 1 r0 with
  | false =>
    rw [h0, Bool.false_and] at HR
    rintro e w' ⟨rfl, hb⟩
    go_wp2_with fail
    go_ret
    exact ⟨ret_bool HR.out.symm, hb⟩
  | true =>
    rw [h0, Bool.true_and] at HR
    rintro e w1 ⟨rfl, hb⟩
    have q1 : w1.cell? ⟨b', o' + 1, none⟩ = some a1 := by rw [hb.cell (Ap.cell_lt Q1.out)]; exact Q1.out
    have HB := Lib.hid hb
    clear hb h0
    go_wp2_with fail
    refine (IH1.out _ (N1.out.below HB.out)).mono ?_
    rintro e w2 ⟨rfl, hb⟩
    go_wp2_with fail
    go_ret
    exact ⟨ret_bool HR.out.symm, HB.out.trans (hb.mono HB.out.size)⟩
set_option maxHeartbeats 1000000 in
theorem plain_6 (l : List Nd) (v y : Value) (w : World) (ht : Tre l) (hk : hd l = 6) (hv : Nds w v l) (hy : Rws w y (kids l)) (ih : IsC l.length) : Calls Tryz.prog 46 #[v, y] w fun e w' => e = .returned (.bool (plainB Is l)) ∧ Below w.heap.size w w' := by
  obtain ⟨b, o, c, rfl, hc⟩ := head_cell hv ht
  rw [hk] at hc
  have hpos := ht.pos
  obtain ⟨r0, r1, e, t0, t1, s0, s1⟩ := ht.two (by rw [hk]; rfl)
  have HR : Hid (plainB Is l = (Is 1 r0 && Is 1 r1)) := by
    show _ = _
    unfold plainB k0 k1
    rw [hk, e]
    rfl
  rw [e] at hy
  obtain ⟨b', o', c', a0, a1, rfl, q0, q1, n0, n1⟩ := two_rows hy
  have IH := Lib.hid (ih r0 1 w a0 s0 t0 n0 (by omega) (by omega))
  have IH1 := Lib.hid (fun w' h => ih r1 1 w' a1 s1 t1 h (by omega) (by omega))
  have N1 := Lib.hid n1
  have Q1 := Lib.hid q1
  clear hk hv ht e hy ih n0 n1 q1
  go_enter Tryz.func46, Tryz.ntmps46
  go_wp2_with fail
  refine IH.out.mono ?_
  cases h0 : Is 1 r0 with
  | false =>
    rw [h0, Bool.false_and] at HR
    rintro e w' ⟨rfl, hb⟩
    go_wp2_with fail
    go_ret
    exact ⟨ret_bool HR.out.symm, hb⟩
  | true =>
    rw [h0, Bool.true_and] at HR
    rintro e w1 ⟨rfl, hb⟩
    have q1 : w1.cell? ⟨b', o' + 1, none⟩ = some a1 := by rw [hb.cell (Ap.cell_lt Q1.out)]; exact Q1.out
    have HB := Lib.hid hb
    clear hb h0
    go_wp2_with fail
    refine (IH1.out _ (N1.out.below HB.out)).mono ?_
    rintro e w2 ⟨rfl, hb⟩
    go_wp2_with fail
    go_ret
    exact ⟨ret_bool HR.out.symm, HB.out.trans (hb.mono HB.out.size)⟩
set_option maxHeartbeats 1000000 in
theorem plain_7 (l : List Nd) (v y : Value) (w : World) (ht : Tre l) (hk : hd l = 7) (hv : Nds w v l) (hy : Rws w y (kids l)) (ih : IsC l.length) : Calls Tryz.prog 46 #[v, y] w fun e w' => e = .returned (.bool (plainB Is l)) ∧ Below w.heap.size w w' := by
  obtain ⟨b, o, c, rfl, hc⟩ := head_cell hv ht
  rw [hk] at hc
  have hpos := ht.pos
  obtain ⟨r0, r1, e, t0, t1, s0, s1⟩ := ht.two (by rw [hk]; rfl)
  have HR : Hid (plainB Is l = (Is 1 r0 && Is 1 r1)) := by
    show _ = _
    unfold plainB k0 k1
    rw [hk, e]
    rfl
  rw [e] at hy
  obtain ⟨b', o', c', a0, a1, rfl, q0, q1, n0, n1⟩ := two_rows hy
  have IH := Lib.hid (ih r0 1 w a0 s0 t0 n0 (by omega) (by omega))
  have IH1 := Lib.hid (fun w' h => ih r1 1 w' a1 s1 t1 h (by omega) (by omega))
  have N1 := Lib.hid n1
  have Q1 := Lib.hid q1
  clear hk hv ht e hy ih n0 n1 q1
  go_enter Tryz.func46, Tryz.ntmps46
  go_wp2_with fail
  refine IH.out.mono ?_
  cases h0 : Is 1 r0 with
  | false =>
    rw [h0, Bool.false_and] at HR
    rintro e w' ⟨rfl, hb⟩
    go_wp2_with fail
    go_ret
    exact ⟨ret_bool HR.out.symm, hb⟩
  | true =>
    rw [h0, Bool.true_and] at HR
    rintro e w1 ⟨rfl, hb⟩
    have q1 : w1.cell? ⟨b', o' + 1, none⟩ = some a1 := by rw [hb.cell (Ap.cell_lt Q1.out)]; exact Q1.out
    have HB := Lib.hid hb
    clear hb h0
    go_wp2_with fail
    refine (IH1.out _ (N1.out.below HB.out)).mono ?_
    rintro e w2 ⟨rfl, hb⟩
    go_wp2_with fail
    go_ret
    exact ⟨ret_bool HR.out.symm, HB.out.trans (hb.mono HB.out.size)⟩
set_option maxHeartbeats 1000000 in
theorem plain_8 (l : List Nd) (v y : Value) (w : World) (ht : Tre l) (hk : hd l = 8) (hv : Nds w v l) (hy : Rws w y (kids l)) (ih : IsC l.length) : Calls Tryz.prog 46 #[v, y] w fun e w' => e = .returned (.bool (plainB Is l)) ∧ Below w.heap.size w w' := by
  obtain ⟨b, o, c, rfl, hc⟩ := head_cell hv ht
  rw [hk] at hc
  have hpos := ht.pos
  obtain ⟨r0, r1, e, t0, t1, s0, s1⟩ := ht.two (by rw [hk]; rfl)
  have HR : Hid (plainB Is l = (Is 1 r0 && Is 1 r1)) := by
    show _ = _
    unfold plainB k0 k1
    rw [hk, e]
    rfl
  rw [e] at hy
  obtain ⟨b', o', c', a0, a1, rfl, q0, q1, n0, n1⟩ := two_rows hy
  have IH := Lib.hid (ih r0 1 w a0 s0 t0 n0 (by omega) (by omega))
  have IH1 := Lib.hid (fun w' h => ih r1 1 w' a1 s1 t1 h (by omega) (by omega))
  have N1 := Lib.hid n1
  have Q1 := Lib.hid q1
  clear hk hv ht e hy ih n0 n1 q1
  go_enter Tryz.func46, Tryz.ntmps46
  go_wp2_with fail
  refine IH.out.mono ?_
  cases h0 : Is 1 r0 with
  | false =>
    rw [h0, Bool.false_and] at HR
    rintro e w' ⟨rfl, hb⟩
    go_wp2_with fail
    go_ret
    exact ⟨ret_bool HR.out.symm, hb⟩
  | true =>
    rw [h0, Bool.true_and] at HR
    rintro e w1 ⟨rfl, hb⟩
    have q1 : w1.cell? ⟨b', o' + 1, none⟩ = some a1 := by rw [hb.cell (Ap.cell_lt Q1.out)]; exact Q1.out
    have HB := Lib.hid hb
    clear hb h0
    go_wp2_with fail
    refine (IH1.out _ (N1.out.below HB.out)).mono ?_
    rintro e w2 ⟨rfl, hb⟩
    go_wp2_with fail
    go_ret
    exact ⟨ret_bool HR.out.symm, HB.out.trans (hb.mono HB.out.size)⟩
set_option maxHeartbeats 1000000 in
theorem plain_9 (l : List Nd) (v y : Value) (w : World) (ht : Tre l) (hk : hd l = 9) (hv : Nds w v l) (hy : Rws w y (kids l)) (ih : IsC l.length) : Calls Tryz.prog 46 #[v, y] w fun e w' => e = .returned (.bool (plainB Is l)) ∧ Below w.heap.size w w' := by
  obtain ⟨b, o, c, rfl, hc⟩ := head_cell hv ht
  rw [hk] at hc
  have hpos := ht.pos
  obtain ⟨r0, e, t0, s0⟩ := ht.one (by rw [hk]; rfl)
  have HR : Hid (plainB Is l = Is 2 r0) := by
    show _ = _
    unfold plainB k0
    rw [hk, e]
    rfl
  rw [e] at hy
  obtain ⟨b', o', c', a0, rfl, q0, n0⟩ := one_row hy
  have IH := Lib.hid (ih r0 2 w a0 s0 t0 n0 (by omega) (by omega))
  clear hk hv ht e hy ih n0
  go_enter Tryz.func46, Tryz.ntmps46
  go_wp2_with fail
  refine IH.out.mono ?_
  rintro e w' ⟨rfl, hb⟩
  go_wp2_with fail
  go_ret
  exact ⟨ret_bool HR.out.symm, hb⟩
set_option maxHeartbeats 1000000 in
theorem plain_10 (l : List Nd) (v y : Value) (w : World) (ht : Tre l) (hk : hd l = 10) (hv : Nds w v l) (_ : Rws w y (kids l)) (_ : IsC l.length) : Calls Tryz.prog 46 #[v, y] w fun e w' => e = .returned (.bool (plainB Is l)) ∧ Below w.heap.size w w' := by
  obtain ⟨b, o, c, rfl, hc⟩ := head_cell hv ht
  rw [hk] at hc
  have hpos := ht.pos
  have HR : Hid (plainB Is l = false) := by
    show _ = _
    unfold plainB
    rw [hk]
    rfl
  clear hk hv ht
  go_enter Tryz.func46, Tryz.ntmps46
  go_wp2_with fail
  go_ret
  exact ⟨ret_bool HR.out.symm, Below.refl _ _⟩
set_option maxHeartbeats 1000000 in
theorem plain_11 (l : List Nd) (v y : Value) (w : World) (ht : Tre l) (hk : hd l = 11) (hv : Nds w v l) (_ : Rws w y (kids l)) (_ : IsC l.length) : Calls Tryz.prog 46 #[v, y] w fun e w' => e = .returned (.bool (plainB Is l)) ∧ Below w.heap.size w w' := by
  obtain ⟨b, o, c, rfl, hc⟩ := head_cell hv ht
  rw [hk] at hc
  have hpos := ht.pos
  have HR : Hid (plainB Is l = false) := by
    show _ = _
    unfold plainB
    rw [hk]
    rfl
  clear hk hv ht
  go_enter Tryz.func46, Tryz.ntmps46
  go_wp2_with fail
  go_ret
  exact ⟨ret_bool HR.out.symm, Below.refl _ _⟩
set_option maxHeartbeats 1000000 in
theorem plain_12 (l : List Nd) (v y : Value) (w : World) (ht : Tre l) (hk : hd l = 12) (hv : Nds w v l) (_ : Rws w y (kids l)) (_ : IsC l.length) : Calls Tryz.prog 46 #[v, y] w fun e w' => e = .returned (.bool (plainB Is l)) ∧ Below w.heap.size w w' := by
  obtain ⟨b, o, c, rfl, hc⟩ := head_cell hv ht
  rw [hk] at hc
  have hpos := ht.pos
  have HR : Hid (plainB Is l = false) := by
    show _ = _
    unfold plainB
    rw [hk]
    rfl
  clear hk hv ht
  go_enter Tryz.func46, Tryz.ntmps46
  go_wp2_with fail
  go_ret
  exact ⟨ret_bool HR.out.symm, Below.refl _ _⟩
set_option maxHeartbeats 1000000 in
theorem plain_13 (l : List Nd) (v y : Value) (w : World) (ht : Tre l) (hk : hd l = 13) (hv : Nds w v l) (_ : Rws w y (kids l)) (_ : IsC l.length) : Calls Tryz.prog 46 #[v, y] w fun e w' => e = .returned (.bool (plainB Is l)) ∧ Below w.heap.size w w' := by
  obtain ⟨b, o, c, rfl, hc⟩ := head_cell hv ht
  rw [hk] at hc
  have hpos := ht.pos
  have HR : Hid (plainB Is l = false) := by
    show _ = _
    unfold plainB
    rw [hk]
    rfl
  clear hk hv ht
  go_enter Tryz.func46, Tryz.ntmps46
  go_wp2_with fail
  go_ret
  exact ⟨ret_bool HR.out.symm, Below.refl _ _⟩
set_option maxHeartbeats 1000000 in
theorem plain_14 (l : List Nd) (v y : Value) (w : World) (ht : Tre l) (hk : hd l = 14) (hv : Nds w v l) (_ : Rws w y (kids l)) (_ : IsC l.length) : Calls Tryz.prog 46 #[v, y] w fun e w' => e = .returned (.bool (plainB Is l)) ∧ Below w.heap.size w w' := by
  obtain ⟨b, o, c, rfl, hc⟩ := head_cell hv ht
  rw [hk] at hc
  have hpos := ht.pos
  have HR : Hid (plainB Is l = false) := by
    show _ = _
    unfold plainB
    rw [hk]
    rfl
  clear hk hv ht
  go_enter Tryz.func46, Tryz.ntmps46
  go_wp2_with fail
  go_ret
  exact ⟨ret_bool HR.out.symm, Below.refl _ _⟩
theorem plain_any (l : List Nd) (v y : Value) (w : World) (ht : Tre l) (hv : Nds w v l) (hy : Rws w y (kids l)) (ih : IsC l.length) : Calls Tryz.prog 46 #[v, y] w fun e w' => e = .returned (.bool (plainB Is l)) ∧ Below w.heap.size w w' := by
  rcases kinds ht.ar with h | h | h | h | h | h | h | h | h | h | h | h | h | h
  · exact plain_1 l v y w ht h hv hy ih
  · exact plain_2 l v y w ht h hv hy ih
  · exact plain_3 l v y w ht h hv hy ih
  · exact plain_4 l v y w ht h hv hy ih
  · exact plain_5 l v y w ht h hv hy ih
  · exact plain_6 l v y w ht h hv hy ih
  · exact plain_7 l v y w ht h hv hy ih
  · exact plain_8 l v y w ht h hv hy ih
  · exact plain_9 l v y w ht h hv hy ih
  · exact plain_10 l v y w ht h hv hy ih
  · exact plain_11 l v y w ht h hv hy ih
  · exact plain_12 l v y w ht h hv hy ih
  · exact plain_13 l v y w ht h hv hy ih
  · exact plain_14 l v y w ht h hv hy ih

set_option maxHeartbeats 1000000 in
theorem paired_1 (l : List Nd) (v y : Value) (w : World) (ht : Tre l) (hk : hd l = 1) (hv : Nds w v l) (_ : Rws w y (kids l)) (_ : IsC l.length) : Calls Tryz.prog 47 #[v, y] w fun e w' => e = .returned (.bool (pairedB Is l)) ∧ Below w.heap.size w w' := by
  obtain ⟨b, o, c, rfl, hc⟩ := head_cell hv ht
  rw [hk] at hc
  have hpos := ht.pos
  have HR : Hid (pairedB Is l = false) := by
    show _ = _
    unfold pairedB
    rw [hk]
    rfl
  clear hk hv ht
  go_enter Tryz.func47, Tryz.ntmps47
  go_wp2_with fail
  go_ret
  exact ⟨ret_bool HR.out.symm, Below.refl _ _⟩
set_option maxHeartbeats 1000000 in
theorem paired_2 (l : List Nd) (v y : Value) (w : World) (ht : Tre l) (hk : hd l = 2) (hv : Nds w v l) (_ : Rws w y (kids l)) (_ : IsC l.length) : Calls Tryz.prog 47 #[v, y] w fun e w' => e = .returned (.bool (pairedB Is l)) ∧ Below w.heap.size w w' := by
  obtain ⟨b, o, c, rfl, hc⟩ := head_cell hv ht
  rw [hk] at hc
  have hpos := ht.pos
  have HR : Hid (pairedB Is l = false) := by
    show _ = _
    unfold pairedB
    rw [hk]
    rfl
  clear hk hv ht
  go_enter Tryz.func47, Tryz.ntmps47
  go_wp2_with fail
  go_ret
  exact ⟨ret_bool HR.out.symm, Below.refl _ _⟩
set_option maxHeartbeats 1000000 in
theorem paired_3 (l : List Nd) (v y : Value) (w : World) (ht : Tre l) (hk : hd l = 3) (hv : Nds w v l) (_ : Rws w y (kids l)) (_ : IsC l.length) : Calls Tryz.prog 47 #[v, y] w fun e w' => e = .returned (.bool (pairedB Is l)) ∧ Below w.heap.size w w' := by
  obtain ⟨b, o, c, rfl, hc⟩ := head_cell hv ht
  rw [hk] at hc
  have hpos := ht.pos
  have HR : Hid (pairedB Is l = false) := by
    show _ = _
    unfold pairedB
    rw [hk]
    rfl
  clear hk hv ht
  go_enter Tryz.func47, Tryz.ntmps47
  go_wp2_with fail
  go_ret
  exact ⟨ret_bool HR.out.symm, Below.refl _ _⟩
set_option maxHeartbeats 1000000 in
theorem paired_4 (l : List Nd) (v y : Value) (w : World) (ht : Tre l) (hk : hd l = 4) (hv : Nds w v l) (_ : Rws w y (kids l)) (_ : IsC l.length) : Calls Tryz.prog 47 #[v, y] w fun e w' => e = .returned (.bool (pairedB Is l)) ∧ Below w.heap.size w w' := by
  obtain ⟨b, o, c, rfl, hc⟩ := head_cell hv ht
  rw [hk] at hc
  have hpos := ht.pos
  have HR : Hid (pairedB Is l = false) := by
    show _ = _
    unfold pairedB
    rw [hk]
    rfl
  clear hk hv ht
  go_enter Tryz.func47, Tryz.ntmps47
  go_wp2_with fail
  go_ret
  exact ⟨ret_bool HR.out.symm, Below.refl _ _⟩
set_option maxHeartbeats 1000000 in
theorem paired_5 (l : List Nd) (v y : Value) (w : World) (ht : Tre l) (hk : hd l = 5) (hv : Nds w v l) (hy : Rws w y (kids l)) (ih : IsC l.length) : Calls Tryz.prog 47 #[v, y] w fun e w' => e = .returned (.bool (pairedB Is l)) ∧ Below w.heap.size w w' := by
  obtain ⟨b, o, c, rfl, hc⟩ := head_cell hv ht
  rw [hk] at hc
  have hpos := ht.pos
  obtain ⟨r0, r1, e, t0, t1, s0, s1⟩ := ht.two (by rw [hk]; rfl)
  have HR : Hid (pairedB Is l = (Is 2 r0 && Is 2 r1)) := by
    show _ = _
    unfold pairedB k0 k1
    rw [hk, e]
    rfl
  rw [e] at hy
  obtain ⟨b', o', c', a0, a1, rfl, q0, q1, n0, n1⟩ := two_rows hy
  have IH := Lib.hid (ih r0 2 w a0 s0 t0 n0 (by omega) (by omega))
  have IH1 := Lib.hid (fun w' h => ih r1 2 w' a1 s1 t1 h (by omega) (by omega))
  have N1 := Lib.hid n1
  have Q1 := Lib.hid q1
  clear hk hv ht e hy ih n0 n1 q1
  go_enter Tryz.func47, Tryz.ntmps47
  go_wp2_with fail
  refine IH.out.mono ?_
  cases h0 : Is 2 r0 with
  | false =>
    rw [h0, Bool.false_and] at HR
    rintro e w' ⟨rfl, hb⟩
    go_wp2_with fail
    go_ret
    exact ⟨ret_bool HR.out.symm, hb⟩
  | true =>
    rw [h0, Bool.true_and] at HR
    rintro e w1 ⟨rfl, hb⟩
    have q1 : w1.cell? ⟨b', o' + 1, none⟩ = some a1 := by rw [hb.cell (Ap.cell_lt Q1.out)]; exact Q1.out
    have HB := Lib.hid hb
    clear hb h0
    go_wp2_with fail
    refine (IH1.out _ (N1.out.below HB.out)).mono ?_
    rintro e w2 ⟨rfl, hb⟩
    go_wp2_with fail
    go_ret
    exact ⟨ret_bool HR.out.symm, HB.out.trans (hb.mono HB.out.size)⟩
set_option maxHeartbeats 1000000 in
theorem paired_6 (l : List Nd) (v y : Value) (w : World) (ht : Tre l) (hk : hd l = 6) (hv : Nds w v l) (hy : Rws w y (kids l)) (ih : IsC l.length) : Calls Tryz.prog 47 #[v, y] w fun e w' => e = .returned (.bool (pairedB Is l)) ∧ Below w.heap.size w w' := by
  obtain ⟨b, o, c, rfl, hc⟩ := head_cell hv ht
  rw [hk] at hc
  have hpos := ht.pos
  obtain ⟨r0, r1, e, t0, t1, s0, s1⟩ := ht.two (by rw [hk]; rfl)
  have HR : Hid (pairedB Is l = (Is 2 r0 && Is 2 r1)) := by
    show _ = _
    unfold pairedB k0 k1
    rw [hk, e]
    rfl
  rw [e] at hy
  obtain ⟨b', o', c', a0, a1, rfl, q0, q1, n0, n1⟩ := two_rows hy
  have IH := Lib.hid (ih r0 2 w a0 s0 t0 n0 (by omega) (by omega))
  have IH1 := Lib.hid (fun w' h => ih r1 2 w' a1 s1 t1 h (by omega) (by omega))
  have N1 := Lib.hid n1
  have Q1 := Lib.hid q1
  clear hk hv ht e hy ih n0 n1 q1
  go_enter Tryz.func47, Tryz.ntmps47
  go_wp2_with fail
  refine IH.out.mono ?_
  cases h0 : Is 2 r0 with
  | false =>
    rw [h0, Bool.false_and] at HR
    rintro e w' ⟨rfl, hb⟩
    go_wp2_with fail
    go_ret
    exact ⟨ret_bool HR.out.symm, hb⟩
  | true =>
    rw [h0, Bool.true_and] at HR
    rintro e w1 ⟨rfl, hb⟩
    have q1 : w1.cell? ⟨b', o' + 1, none⟩ = some a1 := by rw [hb.cell (Ap.cell_lt Q1.out)]; exact Q1.out
    have HB := Lib.hid hb
    clear hb h0
    go_wp2_with fail
    refine (IH1.out _ (N1.out.below HB.out)).mono ?_
    rintro e w2 ⟨rfl, hb⟩
    go_wp2_with fail
    go_ret
    exact ⟨ret_bool HR.out.symm, HB.out.trans (hb.mono HB.out.size)⟩
set_option maxHeartbeats 1000000 in
theorem paired_7 (l : List Nd) (v y : Value) (w : World) (ht : Tre l) (hk : hd l = 7) (hv : Nds w v l) (hy : Rws w y (kids l)) (ih : IsC l.length) : Calls Tryz.prog 47 #[v, y] w fun e w' => e = .returned (.bool (pairedB Is l)) ∧ Below w.heap.size w w' := by
  obtain ⟨b, o, c, rfl, hc⟩ := head_cell hv ht
  rw [hk] at hc
  have hpos := ht.pos
  obtain ⟨r0, r1, e, t0, t1, s0, s1⟩ := ht.two (by rw [hk]; rfl)
  have HR : Hid (pairedB Is l = (Is 2 r0 && Is 2 r1)) := by
    show _ = _
    unfold pairedB k0 k1
    rw [hk, e]
    rfl
  rw [e] at hy
  obtain ⟨b', o', c', a0, a1, rfl, q0, q1, n0, n1⟩ := two_rows hy
  have IH := Lib.hid (ih r0 2 w a0 s0 t0 n0 (by omega) (by omega))
  have IH1 := Lib.hid (fun w' h => ih r1 2 w' a1 s1 t1 h (by omega) (by omega))
  have N1 := Lib.hid n1
  have Q1 := Lib.hid q1
  clear hk hv ht e hy ih n0 n1 q1
  go_enter Tryz.func47, Tryz.ntmps47
  go_wp2_with fail
  refine IH.out.mono ?_
  cases h0 : Is 2 r0 with
  | false =>
    rw [h0, Bool.false_and] at HR
    rintro e w' ⟨rfl, hb⟩
    go_wp2_with fail
    go_ret
    exact ⟨ret_bool HR.out.symm, hb⟩
  | true =>
    rw [h0, Bool.true_and] at HR
    rintro e w1 ⟨rfl, hb⟩
    have q1 : w1.cell? ⟨b', o' + 1, none⟩ = some a1 := by rw [hb.cell (Ap.cell_lt Q1.out)]; exact Q1.out
    have HB := Lib.hid hb
    clear hb h0
    go_wp2_with fail
    refine (IH1.out _ (N1.out.below HB.out)).mono ?_
    rintro e w2 ⟨rfl, hb⟩
    go_wp2_with fail
    go_ret
    exact ⟨ret_bool HR.out.symm, HB.out.trans (hb.mono HB.out.size)⟩
set_option maxHeartbeats 1000000 in
theorem paired_8 (l : List Nd) (v y : Value) (w : World) (ht : Tre l) (hk : hd l = 8) (hv : Nds w v l) (_ : Rws w y (kids l)) (_ : IsC l.length) : Calls Tryz.prog 47 #[v, y] w fun e w' => e = .returned (.bool (pairedB Is l)) ∧ Below w.heap.size w w' := by
  obtain ⟨b, o, c, rfl, hc⟩ := head_cell hv ht
  rw [hk] at hc
  have hpos := ht.pos
  have HR : Hid (pairedB Is l = false) := by
    show _ = _
    unfold pairedB
    rw [hk]
    rfl
  clear hk hv ht
  go_enter Tryz.func47, Tryz.ntmps47
  go_wp2_with fail
  go_ret
  exact ⟨ret_bool HR.out.symm, Below.refl _ _⟩
set_option maxHeartbeats 1000000 in
theorem paired_9 (l : List Nd) (v y : Value) (w : World) (ht : Tre l) (hk : hd l = 9) (hv : Nds w v l) (_ : Rws w y (kids l)) (_ : IsC l.length) : Calls Tryz.prog 47 #[v, y] w fun e w' => e = .returned (.bool (pairedB Is l)) ∧ Below w.heap.size w w' := by
  obtain ⟨b, o, c, rfl, hc⟩ := head_cell hv ht
  rw [hk] at hc
  have hpos := ht.pos
  have HR : Hid (pairedB Is l = false) := by
    show _ = _
    unfold pairedB
    rw [hk]
    rfl
  clear hk hv ht
  go_enter Tryz.func47, Tryz.ntmps47
  go_wp2_with fail
  go_ret
  exact ⟨ret_bool HR.out.symm, Below.refl _ _⟩
set_option maxHeartbeats 1000000 in
theorem paired_10 (l : List Nd) (v y : Value) (w : World) (ht : Tre l) (hk : hd l = 10) (hv : Nds w v l) (hy : Rws w y (kids l)) (ih : IsC l.length) : Calls Tryz.prog 47 #[v, y] w fun e w' => e = .returned (.bool (pairedB Is l)) ∧ Below w.heap.size w w' := by
  obtain ⟨b, o, c, rfl, hc⟩ := head_cell hv ht
  rw [hk] at hc
  have hpos := ht.pos
  obtain ⟨r0, r1, e, t0, t1, s0, s1⟩ := ht.two (by rw [hk]; rfl)
  have HR : Hid (pairedB Is l = (Is 1 r0 && Is 1 r1)) := by
    show _ = _
    unfold pairedB k0 k1
    rw [hk, e]
    rfl
  rw [e] at hy
  obtain ⟨b', o', c', a0, a1, rfl, q0, q1, n0, n1⟩ := two_rows hy
  have IH := Lib.hid (ih r0 1 w a0 s0 t0 n0 (by omega) (by omega))
  have IH1 := Lib.hid (fun w' h => ih r1 1 w' a1 s1 t1 h (by omega) (by omega))
  have N1 := Lib.hid n1
  have Q1 := Lib.hid q1
  clear hk hv ht e hy ih n0 n1 q1
  go_enter Tryz.func47, Tryz.ntmps47
  go_wp2_with fail
  refine IH.out.mono ?_
  cases h0 : Is 1 r0 with
  | false =>
    rw [h0, Bool.false_and] at HR
    rintro e w' ⟨rfl, hb⟩
    go_wp2_with fail
    go_ret
    exact ⟨ret_bool HR.out.symm, hb⟩
  | true =>
    rw [h0, Bool.true_and] at HR
    rintro e w1 ⟨rfl, hb⟩
    have q1 : w1.cell? ⟨b', o' + 1, none⟩ = some a1 := by rw [hb.cell (Ap.cell_lt Q1.out)]; exact Q1.out
    have HB := Lib.hid hb
    clear hb h0
    go_wp2_with fail
    refine (IH1.out _ (N1.out.below HB.out)).mono ?_
    rintro e w2 ⟨rfl, hb⟩
    go_wp2_with fail
    go_ret
    exact ⟨ret_bool HR.out.symm, HB.out.trans (hb.mono HB.out.size)⟩
set_option maxHeartbeats 1000000 in
theorem paired_11 (l : List Nd) (v y : Value) (w : World) (ht : Tre l) (hk : hd l = 11) (hv : Nds w v l) (_ : Rws w y (kids l)) (_ : IsC l.length) : Calls Tryz.prog 47 #[v, y] w fun e w' => e = .returned (.bool (pairedB Is l)) ∧ Below w.heap.size w w' := by
  obtain ⟨b, o, c, rfl, hc⟩ := head_cell hv ht
  rw [hk] at hc
  have hpos := ht.pos
  have HR : Hid (pairedB Is l = false) := by
    show _ = _
    unfold pairedB
    rw [hk]
    rfl
  clear hk hv ht
  go_enter Tryz.func47, Tryz.ntmps47
  go_wp2_with fail
  go_ret
  exact ⟨ret_bool HR.out.symm, Below.refl _ _⟩
set_option maxHeartbeats 1000000 in
theorem paired_12 (l : List Nd) (v y : Value) (w : World) (ht : Tre l) (hk : hd l = 12) (hv : Nds w v l) (_ : Rws w y (kids l)) (_ : IsC l.length) : Calls Tryz.prog 47 #[v, y] w fun e w' => e = .returned (.bool (pairedB Is l)) ∧ Below w.heap.size w w' := by
  obtain ⟨b, o, c, rfl, hc⟩ := head_cell hv ht
  rw [hk] at hc
  have hpos := ht.pos
  have HR : Hid (pairedB Is l = false) := by
    show _ = _
    unfold pairedB
    rw [hk]
    rfl
  clear hk hv ht
  go_enter Tryz.func47, Tryz.ntmps47
  go_wp2_with fail
  go_ret
  exact ⟨ret_bool HR.out.symm, Below.refl _ _⟩
set_option maxHeartbeats 1000000 in
theorem paired_13 (l : List Nd) (v y : Value) (w : World) (ht : Tre l) (hk : hd l = 13) (hv : Nds w v l) (_ : Rws w y (kids l)) (_ : IsC l.length) : Calls Tryz.prog 47 #[v, y] w fun e w' => e = .returned (.bool (pairedB Is l)) ∧ Below w.heap.size w w' := by
  obtain ⟨b, o, c, rfl, hc⟩ := head_cell hv ht
  rw [hk] at hc
  have hpos := ht.pos
  have HR : Hid (pairedB Is l = false) := by
    show _ = _
    unfold pairedB
    rw [hk]
    rfl
  clear hk hv ht
  go_enter Tryz.func47, Tryz.ntmps47
  go_wp2_with fail
  go_ret
  exact ⟨ret_bool HR.out.symm, Below.refl _ _⟩
set_option maxHeartbeats 1000000 in
theorem paired_14 (l : List Nd) (v y : Value) (w : World) (ht : Tre l) (hk : hd l = 14) (hv : Nds w v l) (_ : Rws w y (kids l)) (_ : IsC l.length) : Calls Tryz.prog 47 #[v, y] w fun e w' => e = .returned (.bool (pairedB Is l)) ∧ Below w.heap.size w w' := by
  obtain ⟨b, o, c, rfl, hc⟩ := head_cell hv ht
  rw [hk] at hc
  have hpos := ht.pos
  have HR : Hid (pairedB Is l = false) := by
    show _ = _
    unfold pairedB
    rw [hk]
    rfl
  clear hk hv ht
  go_enter Tryz.func47, Tryz.ntmps47
  go_wp2_with fail
  go_ret
  exact ⟨ret_bool HR.out.symm, Below.refl _ _⟩
theorem paired_any (l : List Nd) (v y : Value) (w : World) (ht : Tre l) (hv : Nds w v l) (hy : Rws w y (kids l)) (ih : IsC l.length) : Calls Tryz.prog 47 #[v, y] w fun e w' => e = .returned (.bool (pairedB Is l)) ∧ Below w.heap.size w w' := by
  rcases kinds ht.ar with h | h | h | h | h | h | h | h | h | h | h | h | h | h
  · exact paired_1 l v y w ht h hv hy ih
  · exact paired_2 l v y w ht h hv hy ih
  · exact paired_3 l v y w ht h hv hy ih
  · exact paired_4 l v y w ht h hv hy ih
  · exact paired_5 l v y w ht h hv hy ih
  · exact paired_6 l v y w ht h hv hy ih
  · exact paired_7 l v y w ht h hv hy ih
  · exact paired_8 l v y w ht h hv hy ih
  · exact paired_9 l v y w ht h hv hy ih
  · exact paired_10 l v y w ht h hv hy ih
  · exact paired_11 l v y w ht h hv hy ih
  · exact paired_12 l v y w ht h hv hy ih
  · exact paired_13 l v y w ht h hv hy ih
  · exact paired_14 l v y w ht h hv hy ih

set_option maxHeartbeats 1000000 in
theorem plainOn_1 (l : List Nd) (v y : Value) (w : World) (ht : Tre l) (hk : hd l = 1) (hv : Nds w v l) (_ : Rws w y (kids l)) (_ : IsC l.length) : Calls Tryz.prog 48 #[v, y] w fun e w' => e = .returned (.bool (plainOnB Is l)) ∧ Below w.heap.size w w' := by
  obtain ⟨b, o, c, rfl, hc⟩ := head_cell hv ht
  rw [hk] at hc
  have hpos := ht.pos
  have HR : Hid (plainOnB Is l = false) := by
    show _ = _
    unfold plainOnB
    rw [hk]
    rfl
  clear hk hv ht
  go_enter Tryz.func48, Tryz.ntmps48
  go_wp2_with fail
  go_ret
  exact ⟨ret_bool HR.out.symm, Below.refl _ _⟩
set_option maxHeartbeats 1000000 in
theorem plainOn_2 (l : List Nd) (v y : Value) (w : World) (ht : Tre l) (hk : hd l = 2) (hv : Nds w v l) (_ : Rws w y (kids l)) (_ : IsC l.length) : Calls Tryz.prog 48 #[v, y] w fun e w' => e = .returned (.bool (plainOnB Is l)) ∧ Below w.heap.size w w' := by
  obtain ⟨b, o, c, rfl, hc⟩ := head_cell hv ht
  rw [hk] at hc
  have hpos := ht.pos
  have HR : Hid (plainOnB Is l = false) := by
    show _ = _
    unfold plainOnB
    rw [hk]
    rfl
  clear hk hv ht
  go_enter Tryz.func48, Tryz.ntmps48
  go_wp2_with fail
  go_ret
  exact ⟨ret_bool HR.out.symm, Below.refl _ _⟩
set_option maxHeartbeats 1000000 in
theorem plainOn_3 (l : List Nd) (v y : Value) (w : World) (ht : Tre l) (hk : hd l = 3) (hv : Nds w v l) (_ : Rws w y (kids l)) (_ : IsC l.length) : Calls Tryz.prog 48 #[v, y] w fun e w' => e = .returned (.bool (plainOnB Is l)) ∧ Below w.heap.size w w' := by
  obtain ⟨b, o, c, rfl, hc⟩ := head_cell hv ht
  rw [hk] at hc
  have hpos := ht.pos
  have HR : Hid (plainOnB Is l = false) := by
    show _ = _
    unfold plainOnB
    rw [hk]
    rfl
  clear hk hv ht
  go_enter Tryz.func48, Tryz.ntmps48
  go_wp2_with fail
  go_ret
  exact ⟨ret_bool HR.out.symm, Below.refl _ _⟩
set_option maxHeartbeats 1000000 in
theorem plainOn_4 (l : List Nd) (v y : Value) (w : World) (ht : Tre l) (hk : hd l = 4) (hv : Nds w v l) (_ : Rws w y (kids l)) (_ : IsC l.length) : Calls Tryz.prog 48 #[v, y] w fun e w' => e = .returned (.bool (plainOnB Is l)) ∧ Below w.heap.size w w' := by
  obtain ⟨b, o, c, rfl, hc⟩ := head_cell hv ht
  rw [hk] at hc
  have hpos := ht.pos
  have HR : Hid (plainOnB Is l = false) := by
    show _ = _
    unfold plainOnB
    rw [hk]
    rfl
  clear hk hv ht
  go_enter Tryz.func48, Tryz.ntmps48
  go_wp2_with fail
  go_ret
  exact ⟨ret_bool HR.out.symm, Below.refl _ _⟩
set_option maxHeartbeats 1000000 in
theorem plainOn_5 (l : List Nd) (v y : Value) (w : World) (ht : Tre l) (hk : hd l = 5) (hv : Nds w v l) (hy : Rws w y (kids l)) (ih : IsC l.length) : Calls Tryz.prog 48 #[v, y] w fun e w' => e = .returned (.bool (plainOnB Is l)) ∧ Below w.heap.size w w' := by
  obtain ⟨b, o, c, rfl, hc⟩ := head_cell hv ht
  rw [hk] at hc
  have hpos := ht.pos
  obtain ⟨r0, r1, e, t0, t1, s0, s1⟩ := ht.two (by rw [hk]; rfl)
  have HR : Hid (plainOnB Is l = (Is 3 r0 && Is 1 r1)) := by
    show _ = _
    unfold plainOnB k0 k1
    rw [hk, e]
    rfl
  rw [e] at hy
  obtain ⟨b', o', c', a0, a1, rfl, q0, q1, n0, n1⟩ := two_rows hy
  have IH := Lib.hid (ih r0 3 w a0 s0 t0 n0 (by omega) (by omega))
  have IH1 := Lib.hid (fun w' h => ih r1 1 w' a1 s1 t1 h (by omega) (by omega))
  have N1 := Lib.hid n1
  have Q1 := Lib.hid q1
  clear hk hv ht e hy ih n0 n1 q1
  go_enter Tryz.func48, Tryz.ntmps48
  go_wp2_with fail
  refine IH.out.mono ?_
  cases h0 : Is 3 r0 with
  | false =>
    rw [h0, Bool.false_and] at HR
    rintro e w' ⟨rfl, hb⟩
    go_wp2_with fail
    go_ret
    exact ⟨ret_bool HR.out.symm, hb⟩
  | true =>
    rw [h0, Bool.true_and] at HR
    rintro e w1 ⟨rfl, hb⟩
    have q1 : w1.cell? ⟨b', o' + 1, none⟩ = some a1 := by rw [hb.cell (Ap.cell_lt Q1.out)]; exact Q1.out
    have HB := Lib.hid hb
    clear hb h0
    go_wp2_with fail
    refine (IH1.out _ (N1.out.below HB.out)).mono ?_
    rintro e w2 ⟨rfl, hb⟩
    go_wp2_with fail
    go_ret
    exact ⟨ret_bool HR.out.symm, HB.out.trans (hb.mono HB.out.size)⟩
set_option maxHeartbeats 1000000 in
theorem plainOn_6 (l : List Nd) (v y : Value) (w : World) (ht : Tre l) (hk : hd l = 6) (hv : Nds w v l) (_ : Rws w y (kids l)) (_ : IsC l.length) : Calls Tryz.prog 48 #[v, y] w fun e w' => e = .returned (.bool (plainOnB Is l)) ∧ Below w.heap.size w w' := by
  obtain ⟨b, o, c, rfl, hc⟩ := head_cell hv ht
  rw [hk] at hc
  have hpos := ht.pos
  have HR : Hid (plainOnB Is l = false) := by
    show _ = _
    unfold plainOnB
    rw [hk]
    rfl
  clear hk hv ht
  go_enter Tryz.func48, Tryz.ntmps48
  go_wp2_with fail
  go_ret
  exact ⟨ret_bool HR.out.symm, Below.refl _ _⟩
set_option maxHeartbeats 1000000 in
theorem plainOn_7 (l : List Nd) (v y : Value) (w : World) (ht : Tre l) (hk : hd l = 7) (hv : Nds w v l) (hy : Rws w y (kids l)) (ih : IsC l.length) : Calls Tryz.prog 48 #[v, y] w fun e w' => e = .returned (.bool (plainOnB Is l)) ∧ Below w.heap.size w w' := by
  obtain ⟨b, o, c, rfl, hc⟩ := head_cell hv ht
  rw [hk] at hc
  have hpos := ht.pos
  obtain ⟨r0, r1, e, t0, t1, s0, s1⟩ := ht.two (by rw [hk]; rfl)
  have HR : Hid (plainOnB Is l = (Is 3 r0 && Is 3 r1)) := by
    show _ = _
    unfold plainOnB k0 k1
    rw [hk, e]
    rfl
  rw [e] at hy
  obtain ⟨b', o', c', a0, a1, rfl, q0, q1, n0, n1⟩ := two_rows hy
  have IH := Lib.hid (ih r0 3 w a0 s0 t0 n0 (by omega) (by omega))
  have IH1 := Lib.hid (fun w' h => ih r1 3 w' a1 s1 t1 h (by omega) (by omega))
  have N1 := Lib.hid n1
  have Q1 := Lib.hid q1
  clear hk hv ht e hy ih n0 n1 q1
  go_enter Tryz.func48, Tryz.ntmps48
  go_wp2_with fail
  refine IH.out.mono ?_
  cases h0 : Is 3 r0 with
  | false =>
    rw [h0, Bool.false_and] at HR
    rintro e w' ⟨rfl, hb⟩
    go_wp2_with fail
    go_ret
    exact ⟨ret_bool HR.out.symm, hb⟩
  | true =>
    rw [h0, Bool.true_and] at HR
    rintro e w1 ⟨rfl, hb⟩
    have q1 : w1.cell? ⟨b', o' + 1, none⟩ = some a1 := by rw [hb.cell (Ap.cell_lt Q1.out)]; exact Q1.out
    have HB := Lib.hid hb
    clear hb h0
    go_wp2_with fail
    refine (IH1.out _ (N1.out.below HB.out)).mono ?_
    rintro e w2 ⟨rfl, hb⟩
    go_wp2_with fail
    go_ret
    exact ⟨ret_bool HR.out.symm, HB.out.trans (hb.mono HB.out.size)⟩
set_option maxHeartbeats 1000000 in
theorem plainOn_8 (l : List Nd) (v y : Value) (w : World) (ht : Tre l) (hk : hd l = 8) (hv : Nds w v l) (hy : Rws w y (kids l)) (ih : IsC l.length) : Calls Tryz.prog 48 #[v, y] w fun e w' => e = .returned (.bool (plainOnB Is l)) ∧ Below w.heap.size w w' := by
  obtain ⟨b, o, c, rfl, hc⟩ := head_cell hv ht
  rw [hk] at hc
  have hpos := ht.pos
  obtain ⟨r0, r1, e, t0, t1, s0, s1⟩ := ht.two (by rw [hk]; rfl)
  have HR : Hid (plainOnB Is l = (Is 3 r0 && Is 1 r1)) := by
    show _ = _
    unfold plainOnB k0 k1
    rw [hk, e]
    rfl
  rw [e] at hy
  obtain ⟨b', o', c', a0, a1, rfl, q0, q1, n0, n1⟩ := two_rows hy
  have IH := Lib.hid (ih r0 3 w a0 s0 t0 n0 (by omega) (by omega))
  have IH1 := Lib.hid (fun w' h => ih r1 1 w' a1 s1 t1 h (by omega) (by omega))
  have N1 := Lib.hid n1
  have Q1 := Lib.hid q1
  clear hk hv ht e hy ih n0 n1 q1
  go_enter Tryz.func48, Tryz.ntmps48
  go_wp2_with fail
  refine IH.out.mono ?_
  cases h0 : Is 3 r0 with
  | false =>
    rw [h0, Bool.false_and] at HR
    rintro e w' ⟨rfl, hb⟩
    go_wp2_with fail
    go_ret
    exact ⟨ret_bool HR.out.symm, hb⟩
  | true =>
    rw [h0, Bool.true_and] at HR
    rintro e w1 ⟨rfl, hb⟩
    have q1 : w1.cell? ⟨b', o' + 1, none⟩ = some a1 := by rw [hb.cell (Ap.cell_lt Q1.out)]; exact Q1.out
    have HB := Lib.hid hb
    clear hb h0
    go_wp2_with fail
    refine (IH1.out _ (N1.out.below HB.out)).mono ?_
    rintro e w2 ⟨rfl, hb⟩
    go_wp2_with fail
    go_ret
    exact ⟨ret_bool HR.out.symm, HB.out.trans (hb.mono HB.out.size)⟩
set_option maxHeartbeats 1000000 in
theorem plainOn_9 (l : List Nd) (v y : Value) (w : World) (ht : Tre l) (hk : hd l = 9) (hv : Nds w v l) (hy : Rws w y (kids l)) (ih : IsC l.length) : Calls Tryz.prog 48 #[v, y] w fun e w' => e = .returned (.bool (plainOnB Is l)) ∧ Below w.heap.size w w' := by
  obtain ⟨b, o, c, rfl, hc⟩ := head_cell hv ht
  rw [hk] at hc
  have hpos := ht.pos
  obtain ⟨r0, e, t0, s0⟩ := ht.one (by rw [hk]; rfl)
  have HR : Hid (plainOnB Is l = Is 4 r0) := by
    show _ = _
    unfold plainOnB k0
    rw [hk, e]
    rfl
  rw [e] at hy
  obtain ⟨b', o', c', a0, rfl, q0, n0⟩ := one_row hy
  have IH := Lib.hid (ih r0 4 w a0 s0 t0 n0 (by omega) (by omega))
  clear hk hv ht e hy ih n0
  go_enter Tryz.func48, Tryz.ntmps48
  go_wp2_with fail
  refine IH.out.mono ?_
  rintro e w' ⟨rfl, hb⟩
  go_wp2_with fail
  go_ret
  exact ⟨ret_bool HR.out.symm, hb⟩
set_option maxHeartbeats 1000000 in
theorem plainOn_10 (l : List Nd) (v y : Value) (w : World) (ht : Tre l) (hk : hd l = 10) (hv : Nds w v l) (_ : Rws w y (kids l)) (_ : IsC l.length) : Calls Tryz.prog 48 #[v, y] w fun e w' => e = .returned (.bool (plainOnB Is l)) ∧ Below w.heap.size w w' := by
  obtain ⟨b, o, c, rfl, hc⟩ := head_cell hv ht
  rw [hk] at hc
  have hpos := ht.pos
  have HR : Hid (plainOnB Is l = false) := by
    show _ = _
    unfold plainOnB
    rw [hk]
    rfl
  clear hk hv ht
  go_enter Tryz.func48, Tryz.ntmps48
  go_wp2_with fail
  go_ret
  exact ⟨ret_bool HR.out.symm, Below.refl _ _⟩
set_option maxHeartbeats 1000000 in
theorem plainOn_11 (l : List Nd) (v y : Value) (w : World) (ht : Tre l) (hk : hd l = 11) (hv : Nds w v l) (_ : Rws w y (kids l)) (_ : IsC l.length) : Calls Tryz.prog 48 #[v, y] w fun e w' => e = .returned (.bool (plainOnB Is l)) ∧ Below w.heap.size w w' := by
  obtain ⟨b, o, c, rfl, hc⟩ := head_cell hv ht
  rw [hk] at hc
  have hpos := ht.pos
  have HR : Hid (plainOnB Is l = true) := by
    show _ = _
    unfold plainOnB
    rw [hk]
    rfl
  clear hk hv ht
  go_enter Tryz.func48, Tryz.ntmps48
  go_wp2_with fail
  go_ret
  exact ⟨ret_bool HR.out.symm, Below.refl _ _⟩
set_option maxHeartbeats 1000000 in
theorem plainOn_12 (l : List Nd) (v y : Value) (w : World) (ht : Tre l) (hk : hd l = 12) (hv : Nds w v l) (_ : Rws w y (kids l)) (_ : IsC l.length) : Calls Tryz.prog 48 #[v, y] w fun e w' => e = .returned (.bool (plainOnB Is l)) ∧ Below w.heap.size w w' := by
  obtain ⟨b, o, c, rfl, hc⟩ := head_cell hv ht
  rw [hk] at hc
  have hpos := ht.pos
  have HR : Hid (plainOnB Is l = false) := by
    show _ = _
    unfold plainOnB
    rw [hk]
    rfl
  clear hk hv ht
  go_enter Tryz.func48, Tryz.ntmps48
  go_wp2_with fail
  go_ret
  exact ⟨ret_bool HR.out.symm, Below.refl _ _⟩
set_option maxHeartbeats 1000000 in
theorem plainOn_13 (l : List Nd) (v y : Value) (w : World) (ht : Tre l) (hk : hd l = 13) (hv : Nds w v l) (_ : Rws w y (kids l)) (_ : IsC l.length) : Calls Tryz.prog 48 #[v, y] w fun e w' => e = .returned (.bool (plainOnB Is l)) ∧ Below w.heap.size w w' := by
  obtain ⟨b, o, c, rfl, hc⟩ := head_cell hv ht
  rw [hk] at hc
  have hpos := ht.pos
  have HR : Hid (plainOnB Is l = false) := by
    show _ = _
    unfold plainOnB
    rw [hk]
    rfl
  clear hk hv ht
  go_enter Tryz.func48, Tryz.ntmps48
  go_wp2_with fail
  go_ret
  exact ⟨ret_bool HR.out.symm, Below.refl _ _⟩
set_option maxHeartbeats 1000000 in
theorem plainOn_14 (l : List Nd) (v y : Value) (w : World) (ht : Tre l) (hk : hd l = 14) (hv : Nds w v l) (_ : Rws w y (kids l)) (_ : IsC l.length) : Calls Tryz.prog 48 #[v, y] w fun e w' => e = .returned (.bool (plainOnB Is l)) ∧ Below w.heap.size w w' := by
  obtain ⟨b, o, c, rfl, hc⟩ := head_cell hv ht
  rw [hk] at hc
  have hpos := ht.pos
  have HR : Hid (plainOnB Is l = false) := by
    show _ = _
    unfold plainOnB
    rw [hk]
    rfl
  clear hk hv ht
  go_enter Tryz.func48, Tryz.ntmps48
  go_wp2_with fail
  go_ret
  exact ⟨ret_bool HR.out.symm, Below.refl _ _⟩
theorem plainOn_any (l : List Nd) (v y : Value) (w : World) (ht : Tre l) (hv : Nds w v l) (hy : Rws w y (kids l)) (ih : IsC l.length) : Calls Tryz.prog 48 #[v, y] w fun e w' => e = .returned (.bool (plainOnB Is l)) ∧ Below w.heap.size w w' := by
  rcases kinds ht.ar with h | h | h | h | h | h | h | h | h | h | h | h | h | h
  · exact plainOn_1 l v y w ht h hv hy ih
  · exact plainOn_2 l v y w ht h hv hy ih
  · exact plainOn_3 l v y w ht h hv hy ih
  · exact plainOn_4 l v y w ht h hv hy ih
  · exact plainOn_5 l v y w ht h hv hy ih
  · exact plainOn_6 l v y w ht h hv hy ih
  · exact plainOn_7 l v y w ht h hv hy ih
  · exact plainOn_8 l v y w ht h hv hy ih
  · exact plainOn_9 l v y w ht h hv hy ih
  · exact plainOn_10 l v y w ht h hv hy ih
  · exact plainOn_11 l v y w ht h hv hy ih
  · exact plainOn_12 l v y w ht h hv hy ih
  · exact plainOn_13 l v y w ht h hv hy ih
  · exact plainOn_14 l v y w ht h hv hy ih

set_option maxHeartbeats 1000000 in
theorem pairedOn_1 (l : List Nd) (v y : Value) (w : World) (ht : Tre l) (hk : hd l = 1) (hv : Nds w v l) (_ : Rws w y (kids l)) (_ : IsC l.length) : Calls Tryz.prog 49 #[v, y] w fun e w' => e = .returned (.bool (pairedOnB Is l)) ∧ Below w.heap.size w w' := by
  obtain ⟨b, o, c, rfl, hc⟩ := head_cell hv ht
  rw [hk] at hc
  have hpos := ht.pos
  have HR : Hid (pairedOnB Is l = false) := by
    show _ = _
    unfold pairedOnB
    rw [hk]
    rfl
  clear hk hv ht
  go_enter Tryz.func49, Tryz.ntmps49
  go_wp2_with fail
  go_ret
  exact ⟨ret_bool HR.out.symm, Below.refl _ _⟩
set_option maxHeartbeats 1000000 in
theorem pairedOn_2 (l : List Nd) (v y : Value) (w : World) (ht : Tre l) (hk : hd l = 2) (hv : Nds w v l) (_ : Rws w y (kids l)) (_ : IsC l.length) : Calls Tryz.prog 49 #[v, y] w fun e w' => e = .returned (.bool (pairedOnB Is l)) ∧ Below w.heap.size w w' := by
  obtain ⟨b, o, c, rfl, hc⟩ := head_cell hv ht
  rw [hk] at hc
  have hpos := ht.pos
  have HR : Hid (pairedOnB Is l = false) := by
    show _ = _
    unfold pairedOnB
    rw [hk]
    rfl
  clear hk hv ht
  go_enter Tryz.func49, Tryz.ntmps49
  go_wp2_with fail
  go_ret
  exact ⟨ret_bool HR.out.symm, Below.refl _ _⟩
set_option maxHeartbeats 1000000 in
theorem pairedOn_3 (l : List Nd) (v y : Value) (w : World) (ht : Tre l) (hk : hd l = 3) (hv : Nds w v l) (_ : Rws w y (kids l)) (_ : IsC l.length) : Calls Tryz.prog 49 #[v, y] w fun e w' => e = .returned (.bool (pairedOnB Is l)) ∧ Below w.heap.size w w' := by
  obtain ⟨b, o, c, rfl, hc⟩ := head_cell hv ht
  rw [hk] at hc
  have hpos := ht.pos
  have HR : Hid (pairedOnB Is l = false) := by
    show _ = _
    unfold pairedOnB
    rw [hk]
    rfl
  clear hk hv ht
  go_enter Tryz.func49, Tryz.ntmps49
  go_wp2_with fail
  go_ret
  exact ⟨ret_bool HR.out.symm, Below.refl _ _⟩
set_option maxHeartbeats 1000000 in
theorem pairedOn_4 (l : List Nd) (v y : Value) (w : World) (ht : Tre l) (hk : hd l = 4) (hv : Nds w v l) (_ : Rws w y (kids l)) (_ : IsC l.length) : Calls Tryz.prog 49 #[v, y] w fun e w' => e = .returned (.bool (pairedOnB Is l)) ∧ Below w.heap.size w w' := by
  obtain ⟨b, o, c, rfl, hc⟩ := head_cell hv ht
  rw [hk] at hc
  have hpos := ht.pos
  have HR : Hid (pairedOnB Is l = false) := by
    show _ = _
    unfold pairedOnB
    rw [hk]
    rfl
  clear hk hv ht
  go_enter Tryz.func49, Tryz.ntmps49
  go_wp2_with fail
  go_ret
  exact ⟨ret_bool HR.out.symm, Below.refl _ _⟩
set_option maxHeartbeats 1000000 in
theorem pairedOn_5 (l : List Nd) (v y : Value) (w : World) (ht : Tre l) (hk : hd l = 5) (hv : Nds w v l) (hy : Rws w y (kids l)) (ih : IsC l.length) : Calls Tryz.prog 49 #[v, y] w fun e w' => e = .returned (.bool (pairedOnB Is l)) ∧ Below w.heap.size w w' := by
  obtain ⟨b, o, c, rfl, hc⟩ := head_cell hv ht
  rw [hk] at hc
  have hpos := ht.pos
  obtain ⟨r0, r1, e, t0, t1, s0, s1⟩ := ht.two (by rw [hk]; rfl)
  have HR : Hid (pairedOnB Is l = (Is 4 r0 && Is 2 r1)) := by
    show _ = _
    unfold pairedOnB k0 k1
    rw [hk, e]
    rfl
  rw [e] at hy
  obtain ⟨b', o', c', a0, a1, rfl, q0, q1, n0, n1⟩ := two_rows hy
  have IH := Lib.hid (ih r0 4 w a0 s0 t0 n0 (by omega) (by omega))
  have IH1 := Lib.hid (fun w' h => ih r1 2 w' a1 s1 t1 h (by omega) (by omega))
  have N1 := Lib.hid n1
  have Q1 := Lib.hid q1
  clear hk hv ht e hy ih n0 n1 q1
  go_enter Tryz.func49, Tryz.ntmps49
  go_wp2_with fail
  refine IH.out.mono ?_
  cases h0 : Is 4 r0 with
  | false =>
    rw [h0, Bool.false_and] at HR
    rintro e w' ⟨rfl, hb⟩
    go_wp2_with fail
    go_ret
    exact ⟨ret_bool HR.out.symm, hb⟩
  | true =>
    rw [h0, Bool.true_and] at HR
    rintro e w1 ⟨rfl, hb⟩
    have q1 : w1.cell? ⟨b', o' + 1, none⟩ = some a1 := by rw [hb.cell (Ap.cell_lt Q1.out)]; exact Q1.out
    have HB := Lib.hid hb
    clear hb h0
    go_wp2_with fail
    refine (IH1.out _ (N1.out.below HB.out)).mono ?_
    rintro e w2 ⟨rfl, hb⟩
    go_wp2_with fail
    go_ret
    exact ⟨ret_bool HR.out.symm, HB.out.trans (hb.mono HB.out.size)⟩
set_option maxHeartbeats 1000000 in
theorem pairedOn_6 (l : List Nd) (v y : Value) (w : World) (ht : Tre l) (hk : hd l = 6) (hv : Nds w v l) (_ : Rws w y (kids l)) (_ : IsC l.length) : Calls Tryz.prog 49 #[v, y] w fun e w' => e = .returned (.bool (pairedOnB Is l)) ∧ Below w.heap.size w w' := by
  obtain ⟨b, o, c, rfl, hc⟩ := head_cell hv ht
  rw [hk] at hc
  have hpos := ht.pos
  have HR : Hid (pairedOnB Is l = false) := by
    show _ = _
    unfold pairedOnB
    rw [hk]
    rfl
  clear hk hv ht
  go_enter Tryz.func49, Tryz.ntmps49
  go_wp2_with fail
  go_ret
  exact ⟨ret_bool HR.out.symm, Below.refl _ _⟩
set_option maxHeartbeats 1000000 in
theorem pairedOn_7 (l : List Nd) (v y : Value) (w : World) (ht : Tre l) (hk : hd l = 7) (hv : Nds w v l) (hy : Rws w y (kids l)) (ih : IsC l.length) : Calls Tryz.prog 49 #[v, y] w fun e w' => e = .returned (.bool (pairedOnB Is l)) ∧ Below w.heap.size w w' := by
  obtain ⟨b, o, c, rfl, hc⟩ := head_cell hv ht
  rw [hk] at hc
  have hpos := ht.pos
  obtain ⟨r0, r1, e, t0, t1, s0, s1⟩ := ht.two (by rw [hk]; rfl)
  have HR : Hid (pairedOnB Is l = (Is 4 r0 && Is 4 r1)) := by
    show _ = _
    unfold pairedOnB k0 k1
    rw [hk, e]
    rfl
  rw [e] at hy
  obtain ⟨b', o', c', a0, a1, rfl, q0, q1, n0, n1⟩ := two_rows hy
  have IH := Lib.hid (ih r0 4 w a0 s0 t0 n0 (by omega) (by omega))
  have IH1 := Lib.hid (fun w' h => ih r1 4 w' a1 s1 t1 h (by omega) (by omega))
  have N1 := Lib.hid n1
  have Q1 := Lib.hid q1
  clear hk hv ht e hy ih n0 n1 q1
  go_enter Tryz.func49, Tryz.ntmps49
  go_wp2_with fail
  refine IH.out.mono ?_
  cases h0 : Is 4 r0 with
  | false =>
    rw [h0, Bool.false_and] at HR
    rintro e w' ⟨rfl, hb⟩
    go_wp2_with fail
    go_ret
    exact ⟨ret_bool HR.out.symm, hb⟩
  | true =>
    rw [h0, Bool.true_and] at HR
    rintro e w1 ⟨rfl, hb⟩
    have q1 : w1.cell? ⟨b', o' + 1, none⟩ = some a1 := by rw [hb.cell (Ap.cell_lt Q1.out)]; exact Q1.out
    have HB := Lib.hid hb
    clear hb h0
    go_wp2_with fail
    refine (IH1.out _ (N1.out.below HB.out)).mono ?_
    rintro e w2 ⟨rfl, hb⟩
    go_wp2_with fail
    go_ret
    exact ⟨ret_bool HR.out.symm, HB.out.trans (hb.mono HB.out.size)⟩
set_option maxHeartbeats 1000000 in
theorem pairedOn_8 (l : List Nd) (v y : Value) (w : World) (ht : Tre l) (hk : hd l = 8) (hv : Nds w v l) (_ : Rws w y (kids l)) (_ : IsC l.length) : Calls Tryz.prog 49 #[v, y] w fun e w' => e = .returned (.bool (pairedOnB Is l)) ∧ Below w.heap.size w w' := by
  obtain ⟨b, o, c, rfl, hc⟩ := head_cell hv ht
  rw [hk] at hc
  have hpos := ht.pos
  have HR : Hid (pairedOnB Is l = false) := by
    show _ = _
    unfold pairedOnB
    rw [hk]
    rfl
  clear hk hv ht
  go_enter Tryz.func49, Tryz.ntmps49
  go_wp2_with fail
  go_ret
  exact ⟨ret_bool HR.out.symm, Below.refl _ _⟩
set_option maxHeartbeats 1000000 in
theorem pairedOn_9 (l : List Nd) (v y : Value) (w : World) (ht : Tre l) (hk : hd l = 9) (hv : Nds w v l) (_ : Rws w y (kids l)) (_ : IsC l.length) : Calls Tryz.prog 49 #[v, y] w fun e w' => e = .returned (.bool (pairedOnB Is l)) ∧ Below w.heap.size w w' := by
  obtain ⟨b, o, c, rfl, hc⟩ := head_cell hv ht
  rw [hk] at hc
  have hpos := ht.pos
  have HR : Hid (pairedOnB Is l = false) := by
    show _ = _
    unfold pairedOnB
    rw [hk]
    rfl
  clear hk hv ht
  go_enter Tryz.func49, Tryz.ntmps49
  go_wp2_with fail
  go_ret
  exact ⟨ret_bool HR.out.symm, Below.refl _ _⟩
set_option maxHeartbeats 1000000 in
theorem pairedOn_10 (l : List Nd) (v y : Value) (w : World) (ht : Tre l) (hk : hd l = 10) (hv : Nds w v l) (_ : Rws w y (kids l)) (_ : IsC l.length) : Calls Tryz.prog 49 #[v, y] w fun e w' => e = .returned (.bool (pairedOnB Is l)) ∧ Below w.heap.size w w' := by
  obtain ⟨b, o, c, rfl, hc⟩ := head_cell hv ht
  rw [hk] at hc
  have hpos := ht.pos
  have HR : Hid (pairedOnB Is l = false) := by
    show _ = _
    unfold pairedOnB
    rw [hk]
    rfl
  clear hk hv ht
  go_enter Tryz.func49, Tryz.ntmps49
  go_wp2_with fail
  go_ret
  exact ⟨ret_bool HR.out.symm, Below.refl _ _⟩
set_option maxHeartbeats 1000000 in
theorem pairedOn_11 (l : List Nd) (v y : Value) (w : World) (ht : Tre l) (hk : hd l = 11) (hv : Nds w v l) (_ : Rws w y (kids l)) (_ : IsC l.length) : Calls Tryz.prog 49 #[v, y] w fun e w' => e = .returned (.bool (pairedOnB Is l)) ∧ Below w.heap.size w w' := by
  obtain ⟨b, o, c, rfl, hc⟩ := head_cell hv ht
  rw [hk] at hc
  have hpos := ht.pos
  have HR : Hid (pairedOnB Is l = false) := by
    show _ = _
    unfold pairedOnB
    rw [hk]
    rfl
  clear hk hv ht
  go_enter Tryz.func49, Tryz.ntmps49
  go_wp2_with fail
  go_ret
  exact ⟨ret_bool HR.out.symm, Below.refl _ _⟩
set_option maxHeartbeats 1000000 in
theorem pairedOn_12 (l : List Nd) (v y : Value) (w : World) (ht : Tre l) (hk : hd l = 12) (hv : Nds w v l) (hy : Rws w y (kids l)) (ih : IsC l.length) : Calls Tryz.prog 49 #[v, y] w fun e w' => e = .returned (.bool (pairedOnB Is l)) ∧ Below w.heap.size w w' := by
  obtain ⟨b, o, c, rfl, hc⟩ := head_cell hv ht
  rw [hk] at hc
  have hpos := ht.pos
  obtain ⟨r0, r1, e, t0, t1, s0, s1⟩ := ht.two (by rw [hk]; rfl)
  have HR : Hid (pairedOnB Is l = (Is 3 r0 && Is 1 r1)) := by
    show _ = _
    unfold pairedOnB k0 k1
    rw [hk, e]
    rfl
  rw [e] at hy
  obtain ⟨b', o', c', a0, a1, rfl, q0, q1, n0, n1⟩ := two_rows hy
  have IH := Lib.hid (ih r0 3 w a0 s0 t0 n0 (by omega) (by omega))
  have IH1 := Lib.hid (fun w' h => ih r1 1 w' a1 s1 t1 h (by omega) (by omega))
  have N1 := Lib.hid n1
  have Q1 := Lib.hid q1
  clear hk hv ht e hy ih n0 n1 q1
  go_enter Tryz.func49, Tryz.ntmps49
  go_wp2_with fail
  refine IH.out.mono ?_
  cases h0 : Is 3 r0 with
  | false =>
    rw [h0, Bool.false_and] at HR
    rintro e w' ⟨rfl, hb⟩
    go_wp2_with fail
    go_ret
    exact ⟨ret_bool HR.out.symm, hb⟩
  | true =>
    rw [h0, Bool.true_and] at HR
    rintro e w1 ⟨rfl, hb⟩
    have q1 : w1.cell? ⟨b', o' + 1, none⟩ = some a1 := by rw [hb.cell (Ap.cell_lt Q1.out)]; exact Q1.out
    have HB := Lib.hid hb
    clear hb h0
    go_wp2_with fail
    refine (IH1.out _ (N1.out.below HB.out)).mono ?_
    rintro e w2 ⟨rfl, hb⟩
    go_wp2_with fail
    go_ret
    exact ⟨ret_bool HR.out.symm, HB.out.trans (hb.mono HB.out.size)⟩
set_option maxHeartbeats 1000000 in
theorem pairedOn_13 (l : List Nd) (v y : Value) (w : World) (ht : Tre l) (hk : hd l = 13) (hv : Nds w v l) (hy : Rws w y (kids l)) (ih : IsC l.length) : Calls Tryz.prog 49 #[v, y] w fun e w' => e = .returned (.bool (pairedOnB Is l)) ∧ Below w.heap.size w w' := by
  obtain ⟨b, o, c, rfl, hc⟩ := head_cell hv ht
  rw [hk] at hc
  have hpos := ht.pos
  obtain ⟨r0, r1, e, t0, t1, s0, s1⟩ := ht.two (by rw [hk]; rfl)
  have HR : Hid (pairedOnB Is l = (Is 4 r0 && Is 1 r1)) := by
    show _ = _
    unfold pairedOnB k0 k1
    rw [hk, e]
    rfl
  rw [e] at hy
  obtain ⟨b', o', c', a0, a1, rfl, q0, q1, n0, n1⟩ := two_rows hy
  have IH := Lib.hid (ih r0 4 w a0 s0 t0 n0 (by omega) (by omega))
  have IH1 := Lib.hid (fun w' h => ih r1 1 w' a1 s1 t1 h (by omega) (by omega))
  have N1 := Lib.hid n1
  have Q1 := Lib.hid q1
  clear hk hv ht e hy ih n0 n1 q1
  go_enter Tryz.func49, Tryz.ntmps49
  go_wp2_with fail
  refine IH.out.mono ?_
  cases h0 : Is 4 r0 with
  | false =>
    rw [h0, Bool.false_and] at HR
    rintro e w' ⟨rfl, hb⟩
    go_wp2_with fail
    go_ret
    exact ⟨ret_bool HR.out.symm, hb⟩
  | true =>
    rw [h0, Bool.true_and] at HR
    rintro e w1 ⟨rfl, hb⟩
    have q1 : w1.cell? ⟨b', o' + 1, none⟩ = some a1 := by rw [hb.cell (Ap.cell_lt Q1.out)]; exact Q1.out
    have HB := Lib.hid hb
    clear hb h0
    go_wp2_with fail
    refine (IH1.out _ (N1.out.below HB.out)).mono ?_
    rintro e w2 ⟨rfl, hb⟩
    go_wp2_with fail
    go_ret
    exact ⟨ret_bool HR.out.symm, HB.out.trans (hb.mono HB.out.size)⟩
set_option maxHeartbeats 1000000 in
theorem pairedOn_14 (l : List Nd) (v y : Value) (w : World) (ht : Tre l) (hk : hd l = 14) (hv : Nds w v l) (hy : Rws w y (kids l)) (ih : IsC l.length) : Calls Tryz.prog 49 #[v, y] w fun e w' => e = .returned (.bool (pairedOnB Is l)) ∧ Below w.heap.size w w' := by
  obtain ⟨b, o, c, rfl, hc⟩ := head_cell hv ht
  rw [hk] at hc
  have hpos := ht.pos
  obtain ⟨r0, e, t0, s0⟩ := ht.one (by rw [hk]; rfl)
  have HR : Hid (pairedOnB Is l = Is 1 r0) := by
    show _ = _
    unfold pairedOnB k0
    rw [hk, e]
    rfl
  rw [e] at hy
  obtain ⟨b', o', c', a0, rfl, q0, n0⟩ := one_row hy
  have IH := Lib.hid (ih r0 1 w a0 s0 t0 n0 (by omega) (by omega))
  clear hk hv ht e hy ih n0
  go_enter Tryz.func49, Tryz.ntmps49
  go_wp2_with fail
  refine IH.out.mono ?_
  rintro e w' ⟨rfl, hb⟩
  go_wp2_with fail
  go_ret
  exact ⟨ret_bool HR.out.symm, hb⟩
theorem pairedOn_any (l : List Nd) (v y : Value) (w : World) (ht : Tre l) (hv : Nds w v l) (hy : Rws w y (kids l)) (ih : IsC l.length) : Calls Tryz.prog 49 #[v, y] w fun e w' => e = .returned (.bool (pairedOnB Is l)) ∧ Below w.heap.size w w' := by
  rcases kinds ht.ar with h | h | h | h | h | h | h | h | h | h | h | h | h | h
  · exact pairedOn_1 l v y w ht h hv hy ih
  · exact pairedOn_2 l v y w ht h hv hy ih
  · exact pairedOn_3 l v y w ht h hv hy ih
  · exact pairedOn_4 l v y w ht h hv hy ih
  · exact pairedOn_5 l v y w ht h hv hy ih
  · exact pairedOn_6 l v y w ht h hv hy ih
  · exact pairedOn_7 l v y w ht h hv hy ih
  · exact pairedOn_8 l v y w ht h hv hy ih
  · exact pairedOn_9 l v y w ht h hv hy ih
  · exact pairedOn_10 l v y w ht h hv hy ih
  · exact pairedOn_11 l v y w ht h hv hy ih
  · exact pairedOn_12 l v y w ht h hv hy ih
  · exact pairedOn_13 l v y w ht h hv hy ih
  · exact pairedOn_14 l v y w ht h hv hy ih

end Go.Proofs.YtpingbiibbmcaaaGreat.So
