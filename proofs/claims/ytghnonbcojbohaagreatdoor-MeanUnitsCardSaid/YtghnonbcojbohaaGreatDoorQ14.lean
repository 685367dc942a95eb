/- Plain: the sort of what is made of two trees. The document's mixed at any two rows: the walk of the step. The document's mixed at any two rows. The document's Par: the walk. All traces of two, and all rows of two: what they are. Rows mixed: that order does not matter, and that each row has the actions of both in their order. What the program's package trace answers: how that is said. What is made of the traces, or the pairs, of two: plain; how many they are, which actions they have, how they end. -/
import Derived.Test.YtghnonbcojbohaaGreatDoorQ13
import Derived.Test.YtghnonbcojbohaaGreatDoorQ03
import Derived.Test.YtghnonbcojbohaaGreatDoorQ04
import Derived.Test.YtghnonbcojbohaaGreatDoorQ12

namespace Go.Proofs.YtghnonbcojbohaaGreatDoor.So
open Go Go.RowKit Go.Proofs.YtghnonbcojbohaaGreatDoor.Rw
set_option maxRecDepth 20000

theorem mk_5_11 {a b : List Nd} (ha : of a = 1) (hb : of b = 1) (hl : a.length + b.length < 200) : of (nOf 5 :: (a ++ b)) = 1 := by
  have wa := (of_one ha).1
  have wb := (of_one hb).1
  obtain ⟨a1, a2, a3, a4⟩ := plain_all (of_one ha).2
  obtain ⟨b1, b2, b3, b4⟩ := plain_all (of_one hb).2
  rw [of_whole (whole_mk2 (k := 5) rfl (by decide +kernel) wa wb hl)]
  have hk := (kids_mk (k := 5) rfl (whole_tre wa) (whole_tre wb)).2
  have e0 : k0 (nOf 5 :: (a ++ b)) = a := by unfold k0; rw [hk]; rfl
  have e1 : k1 (nOf 5 :: (a ++ b)) = b := by unfold k1; rw [hk]; rfl
  have f1 := eq_5_1 (l := nOf 5 :: (a ++ b)) rfl
  rw [e0, a1, e1, b1] at f1
  have g1 : Is 1 (nOf 5 :: (a ++ b)) = true := f1
  exact first_plain g1
theorem mk_6_11 {a b : List Nd} (ha : of a = 1) (hb : of b = 1) (hl : a.length + b.length < 200) : of (nOf 6 :: (a ++ b)) = 1 := by
  have wa := (of_one ha).1
  have wb := (of_one hb).1
  obtain ⟨a1, a2, a3, a4⟩ := plain_all (of_one ha).2
  obtain ⟨b1, b2, b3, b4⟩ := plain_all (of_one hb).2
  rw [of_whole (whole_mk2 (k := 6) rfl (by decide +kernel) wa wb hl)]
  have hk := (kids_mk (k := 6) rfl (whole_tre wa) (whole_tre wb)).2
  have e0 : k0 (nOf 6 :: (a ++ b)) = a := by unfold k0; rw [hk]; rfl
  have e1 : k1 (nOf 6 :: (a ++ b)) = b := by unfold k1; rw [hk]; rfl
  have f1 := eq_6_1 (l := nOf 6 :: (a ++ b)) rfl
  rw [e0, a1, e1, b1] at f1
  have g1 : Is 1 (nOf 6 :: (a ++ b)) = true := f1
  exact first_plain g1
theorem mk_7_11 {a b : List Nd} (ha : of a = 1) (hb : of b = 1) (hl : a.length + b.length < 200) : of (nOf 7 :: (a ++ b)) = 1 := by
  have wa := (of_one ha).1
  have wb := (of_one hb).1
  obtain ⟨a1, a2, a3, a4⟩ := plain_all (of_one ha).2
  obtain ⟨b1, b2, b3, b4⟩ := plain_all (of_one hb).2
  rw [of_whole (whole_mk2 (k := 7) rfl (by decide +kernel) wa wb hl)]
  have hk := (kids_mk (k := 7) rfl (whole_tre wa) (whole_tre wb)).2
  have e0 : k0 (nOf 7 :: (a ++ b)) = a := by unfold k0; rw [hk]; rfl
  have e1 : k1 (nOf 7 :: (a ++ b)) = b := by unfold k1; rw [hk]; rfl
  have f1 := eq_7_1 (l := nOf 7 :: (a ++ b)) rfl
  rw [e0, a1, e1, b1] at f1
  have g1 : Is 1 (nOf 7 :: (a ++ b)) = true := f1
  exact first_plain g1
theorem mk_8_11 {a b : List Nd} (ha : of a = 1) (hb : of b = 1) (hl : a.length + b.length < 200) : of (nOf 8 :: (a ++ b)) = 1 := by
  have wa := (of_one ha).1
  have wb := (of_one hb).1
  obtain ⟨a1, a2, a3, a4⟩ := plain_all (of_one ha).2
  obtain ⟨b1, b2, b3, b4⟩ := plain_all (of_one hb).2
  rw [of_whole (whole_mk2 (k := 8) rfl (by decide +kernel) wa wb hl)]
  have hk := (kids_mk (k := 8) rfl (whole_tre wa) (whole_tre wb)).2
  have e0 : k0 (nOf 8 :: (a ++ b)) = a := by unfold k0; rw [hk]; rfl
  have e1 : k1 (nOf 8 :: (a ++ b)) = b := by unfold k1; rw [hk]; rfl
  have f1 := eq_8_1 (l := nOf 8 :: (a ++ b)) rfl
  rw [e0, a1, e1, b1] at f1
  have g1 : Is 1 (nOf 8 :: (a ++ b)) = true := f1
  exact first_plain g1
theorem mk_10_11 {a b : List Nd} (ha : of a = 1) (hb : of b = 1) (hl : a.length + b.length < 200) : of (nOf 10 :: (a ++ b)) = 2 := by
  have wa := (of_one ha).1
  have wb := (of_one hb).1
  obtain ⟨a1, a2, a3, a4⟩ := plain_all (of_one ha).2
  obtain ⟨b1, b2, b3, b4⟩ := plain_all (of_one hb).2
  rw [of_whole (whole_mk2 (k := 10) rfl (by decide +kernel) wa wb hl)]
  have hk := (kids_mk (k := 10) rfl (whole_tre wa) (whole_tre wb)).2
  have e0 : k0 (nOf 10 :: (a ++ b)) = a := by unfold k0; rw [hk]; rfl
  have e1 : k1 (nOf 10 :: (a ++ b)) = b := by unfold k1; rw [hk]; rfl
  have f2 := eq_10_2 (l := nOf 10 :: (a ++ b)) rfl
  rw [e0, a1, e1, b1] at f2
  have g2 : Is 2 (nOf 10 :: (a ++ b)) = true := f2
  exact first_paired g2
end Go.Proofs.YtghnonbcojbohaaGreatDoor.So

namespace Go.Proofs.YtghnonbcojbohaaGreatDoor.Tr
open Go Go.RowKit
set_option maxRecDepth 20000

theorem rws_of {ok : Nat → Prop} {w : World} {base : Nat} {e : TypeId} {v : Value} {cs : List Value} {rs : List (List ByteArray)} (ho : w.ownsRow base e 1 v rs.length cs) (hr : RwO ok w cs rs) : Rws w v rs :=
  ⟨cs, Ap.Rd.owned ho, hr.map fun _ _ h => Ap.RdO.imp h fun _ _ _ => trivial⟩
theorem keep2 {w w' : World} {b1 o1 b2 o2 : Nat} {x y : Value} (h : Below w.heap.size w w') (e1 : w.cell? ⟨b1, o1, none⟩ = some x) (e2 : w.cell? ⟨b2, o2, none⟩ = some y) : w'.cell? ⟨b1, o1, none⟩ = some x ∧ w'.cell? ⟨b2, o2, none⟩ = some y := by
  refine ⟨?_, ?_⟩
  · rw [h.cell (Ap.cell_lt e1)]; exact e1
  · rw [h.cell (Ap.cell_lt e2)]; exact e2

set_option maxHeartbeats 4000000 in
theorem mixed_step (n : Nat) (hn : n ≤ 19) (ih : ∀ (x y : Value) (l m : List ByteArray) (w : World), l.length + m.length ≤ n → Strs w x l → Strs w y m → Calls Tryz.prog 160 #[x, y] w (Mxd w n l m))
    (b1 o1 c1 b2 o2 c2 p1 p2 : Nat) (x0 y0 : ByteArray) (l m : List ByteArray) (w : World) (hlen : l.length + m.length + 1 ≤ n)
    (hx : Strs w (.slice (some ⟨b1, o1, none⟩) (l.length + 1) c1) (x0 :: l)) (hy : Strs w (.slice (some ⟨b2, o2, none⟩) (m.length + 1) c2) (y0 :: m))
    (hp1 : p1 = o1 + 1 ∨ c1 = 1) (hp2 : p2 = o2 + 1 ∨ c2 = 1)
    (r1 : ∀ w : World, (Instr.slice 44 (.slice (some ⟨b1, o1, none⟩) (l.length + 1) c1) (some (.int .i64 1)) none none).run Tryz.prog w = .ok (.slice (some ⟨b1, p1, none⟩) l.length (c1 - 1)) w)
    (r2 : ∀ w : World, (Instr.slice 44 (.slice (some ⟨b2, o2, none⟩) (m.length + 1) c2) (some (.int .i64 1)) none none).run Tryz.prog w = .ok (.slice (some ⟨b2, p2, none⟩) m.length (c2 - 1)) w) :
    Calls Tryz.prog 160 #[.slice (some ⟨b1, o1, none⟩) (l.length + 1) c1, .slice (some ⟨b2, o2, none⟩) (m.length + 1) c2] w (Mxd w (n + 1) (x0 :: l) (y0 :: m)) := by
  have IH := Lib.hid ih
  have HX := Lib.hid hx
  have HY := Lib.hid hy
  have T1 := Lib.hid (hx.tail p1 hp1)
  have T2 := Lib.hid (hy.tail p2 hp2)
  have e1 : w.cell? ⟨b1, o1, none⟩ = some (.string x0) := by
    rcases hx.form with ⟨h, _⟩ | ⟨b, o, c, hv, hc⟩
    · cases h
    · cases hv
      exact hc 0 (by simp)
  have e2 : w.cell? ⟨b2, o2, none⟩ = some (.string y0) := by
    rcases hy.form with ⟨h, _⟩ | ⟨b, o, c, hv, hc⟩
    · cases h
    · cases hv
      exact hc 0 (by simp)
  have hne1 : (((l.length + 1 : Nat) : Int) == 0) = false := by rw [beq_eq_false_iff_ne]; omega
  have hne2 : (((m.length + 1 : Nat) : Int) == 0) = false := by rw [beq_eq_false_iff_ne]; omega
  clear ih hx hy hp1 hp2
  go_enter Tryz.func160, Tryz.ntmps160
  go_wp2_with fail
  go_region_held3 (fun w' => w'.cell? ⟨b1, o1, none⟩ = some (.string x0) ∧ w'.cell? ⟨b2, o2, none⟩ = some (.string y0)) (first | exact ⟨e1, e2⟩ | exact keep2 B1.out e1 e2 | exact keep2 B2.out e1 e2 | exact keep2 B3.out e1 e2 | exact keep2 B4.out e1 e2 | exact keep2 B5.out e1 e2 | fail) (first
    | (go_at_call 160
       (with_reducible refine (IH.out (.slice (some ⟨b1, p1, none⟩) l.length (c1 - 1)) (.slice (some ⟨b2, o2, none⟩) (m.length + 1) c2) l (y0 :: m) _ (by simp; omega) (T1.out.below (Below.refl _ _).drew) (HY.out.below (Below.refl _ _).drew)).mono ?_)
       rintro e w1 ⟨v1, cs1, rfl, ho1, hr1, hb1⟩
       have K1 := Lib.hid (rws_of ho1 hr1)
       have B1 : Hid (Below w.heap.size w w1) := (Below.refl _ _).drew.trans hb1
       clear ho1 hr1 hb1)
    | (go_at_call 188
       (with_reducible refine (ahead_any x0 v1 (mx n l (y0 :: m)) _ K1.out ?_ ?_).mono ?_)
       · exact Nat.le_trans (mx_len _ _ _) (Nat.le_trans (pow20 (by omega)) (by omega))
       · intro r hr
         have := mx_row _ _ _ _ hr
         simp at this
         omega
       rintro e w2 ⟨v2, cs2, rfl, ho2, hr2, hb2⟩
       have O2 := Lib.hid ho2
       have R2 := Lib.hid hr2
       have B2 : Hid (Below w.heap.size w w2) := B1.out.trans (hb2.mono B1.out.size)
       clear ho2 hr2 hb2)
    | (go_at_call 160
       (with_reducible refine (IH.out (.slice (some ⟨b1, o1, none⟩) (l.length + 1) c1) (.slice (some ⟨b2, p2, none⟩) m.length (c2 - 1)) (x0 :: l) m _ (by simp; omega) (HX.out.below B2.out) (T2.out.below B2.out)).mono ?_)
       rintro e w3 ⟨v3, cs3, rfl, ho3, hr3, hb3⟩
       have K3 := Lib.hid (rws_of ho3 hr3)
       have C3 : Hid (Below w2.heap.size w2 w3) := hb3
       have B3 : Hid (Below w.heap.size w w3) := B2.out.trans (hb3.mono B2.out.size)
       clear ho3 hr3 hb3)
    | (go_at_call 188
       (with_reducible refine (ahead_any y0 v3 (mx n (x0 :: l) m) _ K3.out ?_ ?_).mono ?_)
       · exact Nat.le_trans (mx_len _ _ _) (Nat.le_trans (pow20 (by omega)) (by omega))
       · intro r hr
         have := mx_row _ _ _ _ hr
         simp at this
         omega
       rintro e w4 ⟨v4, cs4, rfl, ho4, hr4, hb4⟩
       have O4 := Lib.hid ho4
       have R4 := Lib.hid hr4
       have C4 : Hid (Below w2.heap.size w2 w4) := C3.out.trans (hb4.mono C3.out.size)
       have B4 : Hid (Below w.heap.size w w4) := B3.out.trans (hb4.mono B3.out.size)
       have L4 : Hid (w2.heap.size ≤ w3.heap.size) := C3.out.size
       obtain ⟨v5, w5, hrun, ho5, hg5, hb5, hf5⟩ := run_append_rows (Ap.own_below (Ap.own_base O2.out B1.out.size) C4.out) B4.out.size (Ap.Rd.owned O4.out) R4.out.one (by
         have h1 := mx_len n l (y0 :: m)
         have h2 := mx_len n (x0 :: l) m
         have h3 := pow20 (n := n) (by omega)
         omega)
       have RUN := Lib.hid hrun
       have O5 := Lib.hid ho5
       have G5 := Lib.hid hg5
       have F5 := Lib.hid hf5
       have B5 := Lib.hid (B4.out.trans hb5)
       clear ho4 hr4 hb4 hrun ho5 hg5 hb5 hf5)
    | (refine Ap.step_append_run (by rfl) _ _ _ _ rfl _ _ rfl rfl v5 w5 RUN.out ?_)
    | fail)
  go_wp2_with fail
  go_ret
  refine ⟨_, cs2 ++ cs4, rfl, ?_, ?_, B5.out⟩
  · have := O5.out
    simpa [mx] using this
  · rw [mx]
    refine RwO.append ?_ ?_
    · refine R4.out.map fun v r h => Ap.RdO.imp (Ap.RdO.grow (v := v2) (v' := v5) (ok := fun _ => True) (Ap.RdO.imp h fun b _ hb => ⟨trivial, ?_⟩) G5.out F5.out) fun _ _ h => h.2
      intro hbo
      have h1 := Ap.own_lt O2.out b hbo.symm
      have h2 := L4.out
      omega
    · exact R2.out.map fun v r h => Ap.RdO.imp (Ap.RdO.grow (v := v2) (v' := v5) (ok := fun _ => True) (Ap.RdO.below (Ap.RdO.imp h fun b _ hb => ⟨trivial, hb.2⟩) C4.out) G5.out F5.out) fun _ _ h => h.2
end Go.Proofs.YtghnonbcojbohaaGreatDoor.Tr

namespace Go.Proofs.YtghnonbcojbohaaGreatDoor.Tr
open Go Go.RowKit
set_option maxRecDepth 20000

/-- The rest behind the first of a slice of texts. -/
theorem slice1 (b o k c : Nat) (w : World) : (Instr.slice 44 (.slice (some ⟨b, o, none⟩) (k + 1) c) (some (.int .i64 1)) none none).run Tryz.prog w = .ok (.slice (some ⟨b, if c = 1 then o else o + 1, none⟩) k (c - 1)) w := by
  have hu := Tryz.underlying44
  have h1 : (1 : Int) ≤ (k : Int) + 1 := by omega
  by_cases hc : c = 1 <;> simp [go_sem, hu, h1, hc]

theorem mixed_any (n : Nat) (hn : n ≤ 20) : ∀ (x y : Value) (l m : List ByteArray) (w : World), l.length + m.length ≤ n → Strs w x l → Strs w y m → Calls Tryz.prog 160 #[x, y] w (Mxd w n l m) := by
  induction n with
  | zero =>
    intro x y l m w hlen hx hy
    obtain rfl : l = [] := List.eq_nil_of_length_eq_zero (by omega)
    obtain ⟨_, a1, c1, rfl, _⟩ := hx
    exact mixed_nil 0 a1 c1 y m w hy
  | succ n ih =>
    intro x y l m w hlen hx hy
    match l, hx with
    | [], hx =>
      obtain ⟨_, a1, c1, rfl, _⟩ := hx
      exact mixed_nil _ a1 c1 y m w hy
    | x0 :: l, hx =>
      match m, hy with
      | [], hy =>
        have hx' := hx
        obtain ⟨_, a1, c1, rfl, _⟩ := hx'
        obtain ⟨_, a2, c2, rfl, _⟩ := hy
        exact mixed_nil_r _ x0 l a1 a2 c1 c2 w (by simp at hlen; omega) hx
      | y0 :: m, hy =>
        have hx' := hx
        have hy' := hy
        obtain ⟨_, a1, c1, rfl, hc1, _, hcell1⟩ := hx'
        obtain ⟨_, a2, c2, rfl, hc2, _, hcell2⟩ := hy'
        obtain ⟨b1, o1, rfl, _⟩ := hcell1 (by simp)
        obtain ⟨b2, o2, rfl, _⟩ := hcell2 (by simp)
        simp at hlen
        exact mixed_step n (by omega) (fun x y l m w h hx hy => ih (by omega) x y l m w h hx hy) b1 o1 c1 b2 o2 c2 _ _ x0 y0 l m w (by omega) hx hy
          (by by_cases h : c1 = 1 <;> simp [h]) (by by_cases h : c2 = 1 <;> simp [h]) (slice1 b1 o1 l.length c1) (slice1 b2 o2 m.length c2)
end Go.Proofs.YtghnonbcojbohaaGreatDoor.Tr

namespace Go.Proofs.YtghnonbcojbohaaGreatDoor.Tr
open Go Go.RowKit
set_option maxRecDepth 20000

theorem below2 (w : World) (x y : Obj) : Below w.heap.size w ((w.alloc x).alloc y) := ((Below.refl _ _).alloc (Nat.le_refl _) x).alloc (by simp) y
theorem map_snoc {α β : Type} (f : α → β) (rs : List α) (k : Nat) (h : k < rs.length) : (rs.take (k + 1)).map f = (rs.take k).map f ++ [f rs[k]] := by
  rw [List.take_succ_eq_append_getElem h, List.map_append]
  rfl

end Go.Proofs.YtghnonbcojbohaaGreatDoor.Tr

namespace Go.Proofs.YtghnonbcojbohaaGreatDoor.Tr
open Go Go.RowKit
set_option maxRecDepth 20000

/-- All traces of two, side by side. -/
def pr (p q : Tr) : List Tr := norm ((mx 19 p.a q.a).map fun r => ⟨r, Sg.both p.e q.e⟩)
/-- All rows of two. -/
def mix (a b : List ByteArray) : List (List ByteArray) := (pr ⟨a, 1⟩ ⟨b, 1⟩).map (·.a)
theorem pr_len (p q : Tr) : (pr p q).length ≤ 524288 := by
  refine Nat.le_trans (length_norm _) ?_
  rw [List.length_map]
  exact Nat.le_trans (mx_len _ _ _) (by decide)

end Go.Proofs.YtghnonbcojbohaaGreatDoor.Tr

namespace Go.Proofs.YtghnonbcojbohaaGreatDoor.Tr
open Go

theorem mx_comm (r : List ByteArray) : ∀ (n : Nat) (a b : List ByteArray), a.length + b.length ≤ n → (r ∈ mx n a b ↔ r ∈ mx n b a)
  | n, [], [], _ => by rw [mx_nil]
  | n, [], y :: b, _ => by rw [mx_nil, mx_nil_r]
  | n, x :: a, [], _ => by rw [mx_nil, mx_nil_r]
  | 0, x :: a, y :: b, h => by simp at h
  | n + 1, x :: a, y :: b, h => by
    simp only [List.length_cons] at h
    simp only [mx, List.mem_append, List.mem_map]
    have h1 : ∀ s, s ∈ mx n a (y :: b) ↔ s ∈ mx n (y :: b) a := fun s => mx_comm s n a (y :: b) (by simp; omega)
    have h2 : ∀ s, s ∈ mx n (x :: a) b ↔ s ∈ mx n b (x :: a) := fun s => mx_comm s n (x :: a) b (by simp; omega)
    constructor
    · rintro (⟨s, hs, rfl⟩ | ⟨s, hs, rfl⟩)
      · exact .inr ⟨s, (h1 s).1 hs, rfl⟩
      · exact .inl ⟨s, (h2 s).1 hs, rfl⟩
    · rintro (⟨s, hs, rfl⟩ | ⟨s, hs, rfl⟩)
      · exact .inr ⟨s, (h2 s).2 hs, rfl⟩
      · exact .inl ⟨s, (h1 s).2 hs, rfl⟩
theorem pr_comm (p q : Tr) (h : p.a.length + q.a.length ≤ 19) : pr p q = pr q p := by
  unfold pr
  rw [Sg.both_comm p.e q.e]
  refine norm_congr fun t => ?_
  simp only [List.mem_map]
  constructor
  · rintro ⟨r, hr, rfl⟩
    exact ⟨r, (mx_comm r 19 _ _ h).1 hr, rfl⟩
  · rintro ⟨r, hr, rfl⟩
    exact ⟨r, (mx_comm r 19 _ _ h).2 hr, rfl⟩
theorem mem_pr {p q t : Tr} (h : t ∈ pr p q) : t.a ∈ mx 19 p.a q.a ∧ t.e = Sg.both p.e q.e := by
  unfold pr at h
  obtain ⟨r, hr, rfl⟩ := List.mem_map.1 ((mem_norm _ _).1 h)
  exact ⟨hr, rfl⟩
theorem mix_len (a b : List ByteArray) : (mix a b).length ≤ 524288 := by unfold mix; rw [List.length_map]; exact pr_len _ _
end Go.Proofs.YtghnonbcojbohaaGreatDoor.Tr

namespace Go.Proofs.YtghnonbcojbohaaGreatDoor.Tr
open Go Go.RowKit
set_option maxRecDepth 20000

/-- Below 0, 0, above 0. -/
def sgn (c : Int) : Int := if c < 0 then -1 else if 0 < c then 1 else 0
/-- A row of the call's own that may be written into. -/
def Mine (base : Nat) (w : World) (v : Value) (l : List ByteArray) : Prop :=
  StrsO (fun b => base ≤ b) w v l ∧ ∀ b off cap, v = .slice (some ⟨b, off, none⟩) l.length cap → ∀ j, j < l.length → w.frozen? ⟨b, off + j, none⟩ = false
def SetPost (l : List Tr) (w : World) (e : Ending) (w' : World) : Prop := ∃ v, e = .returned v ∧ Trs w' v l ∧ Below w.heap.size w w'
def ThnPost (t : Tr) (w : World) (e : Ending) (w' : World) : Prop := ∃ v, e = .returned (.agg #[v, .int .i64 t.e]) ∧ Mine w.heap.size w' v t.a ∧ Below w.heap.size w w'

theorem Tab.below {w w' : World} (h : Sg.Tab w) (hb : Below w.heap.size w w') : Sg.Tab w' := by
  obtain ⟨t, fr, hg⟩ := h
  refine ⟨t, fr, ?_⟩
  rw [hb.block _ ?_]
  · exact hg
  · exact Nat.lt_of_not_le fun hle => by
      rw [Array.getElem?_eq_none hle] at hg
      cases hg

/-- Texts as the statements name them. -/
abbrev bA : ByteArray := ⟨#[97]⟩
abbrev bB : ByteArray := ⟨#[98]⟩
abbrev bC : ByteArray := ⟨#[99]⟩
end Go.Proofs.YtghnonbcojbohaaGreatDoor.Tr

namespace Go.Proofs.YtghnonbcojbohaaGreatDoor.Mn
open Go Tr

/-- One, and where it throws another one behind. -/
def hnd (p q : Tr) : Tr := if p.e = 2 then ⟨p.a ++ q.a, q.e⟩ else p
/-- What a node of a kind makes of two traces. -/
def one (k : Int) (p q : Tr) : List Tr := if k = 5 then [thn p q] else if k = 7 then pr p q else [hnd p q]
def two (k : Int) (A B : List Tr) : List Tr := if k = 6 then A ++ B else A.flatMap fun p => B.flatMap (one k p)
/-- What a block does where this pair is in it. -/
def blk1 (x : Pr) : List Tr := if x.p.e = 1 then [x.p] else if x.p.e = 2 then [⟨x.p.a ++ x.q.a, x.q.e⟩] else []
def blk (X : List Pr) : List Tr := X.flatMap blk1
def tick : Tr := ⟨[], 1⟩
/-- What has not begun gives way. -/
def way : Pr := ⟨⟨[], 3⟩, tick⟩
def going1 (B : List Tr) (p : Tr) : List Pr := if p.e = 1 then B.map (Pr.mk p) else [⟨p, tick⟩]
def going (A B : List Tr) : List Pr := A.flatMap (going1 B)
def seq1 (Y : List Pr) (x : Pr) : List Pr := if x.p.e = 1 then Y.map fun y => ⟨thn x.p y.p, thn y.q x.q⟩ else [x]
def seq (X Y : List Pr) : List Pr := X.flatMap (seq1 Y)
def par1 (x y : Pr) : List Pr := (pr x.p y.p).flatMap fun p => (pr x.q y.q).map (Pr.mk p)
def par (X Y : List Pr) : List Pr := X.flatMap fun x => Y.flatMap (par1 x)
def stack1 (C : List Tr) (x : Pr) : List Pr := C.map fun c => ⟨x.p, thn x.q c⟩
def stack (X : List Pr) (C : List Tr) : List Pr := X.flatMap (stack1 C)
def fin (e : Int) (C : List Tr) : List Pr := C.map (Pr.mk ⟨[], e⟩)
def twoP (k : Int) (X Y : List Pr) : List Pr := if k = 5 then seq X Y else if k = 7 then par X Y else X ++ Y

/-- How many. -/
def fac : Nat → Nat
  | 0 => 1
  | n + 1 => (n + 1) * fac n
def bin : Nat → Nat → Nat
  | 0, _ => 1
  | _ + 1, 0 => 1
  | i + 1, j + 1 => bin i (j + 1) + bin (i + 1) j
theorem fac_pos : ∀ n, 1 ≤ fac n
  | 0 => Nat.le_refl _
  | n + 1 => Nat.mul_pos (Nat.succ_pos n) (fac_pos n)
theorem bin_pos : ∀ i j, 1 ≤ bin i j
  | 0, _ => by rw [bin]; exact Nat.le_refl _
  | _ + 1, 0 => by rw [bin]; exact Nat.le_refl _
  | i + 1, j + 1 => by rw [bin]; have := bin_pos i (j + 1); omega
theorem fac_bin : ∀ i j, fac i * fac j * bin i j = fac (i + j)
  | 0, j => by simp [bin, fac]
  | i + 1, 0 => by simp [bin, fac]
  | i + 1, j + 1 => by
    have h1 := fac_bin i (j + 1)
    have h2 := fac_bin (i + 1) j
    rw [show i + 1 + j = i + j + 1 by omega] at h2
    rw [show i + (j + 1) = i + j + 1 by omega] at h1
    rw [show i + 1 + (j + 1) = i + j + 1 + 1 by omega, bin, Nat.mul_add]
    have e1 : fac (i + 1) * fac (j + 1) * bin i (j + 1) = (i + 1) * fac (i + j + 1) := by
      rw [← h1, fac]
      simp only [Nat.mul_assoc]
    have e2 : fac (i + 1) * fac (j + 1) * bin (i + 1) j = (j + 1) * fac (i + j + 1) := by
      rw [← h2, show fac (j + 1) = (j + 1) * fac j from rfl]
      simp only [Nat.mul_assoc, Nat.mul_left_comm]
    rw [e1, e2, ← Nat.add_mul, show fac (i + j + 1 + 1) = (i + j + 1 + 1) * fac (i + j + 1) from rfl]
    congr 1
    omega
theorem bin_l : ∀ i j, bin i j ≤ bin (i + 1) j
  | 0, j => by rw [bin]; exact bin_pos _ _
  | i + 1, 0 => by rw [bin, bin]; exact Nat.le_refl _
  | i + 1, j + 1 => by rw [bin.eq_3 (i + 1) j]; omega
theorem bin_r : ∀ i j, bin i j ≤ bin i (j + 1)
  | 0, j => by rw [bin, bin]; exact Nat.le_refl _
  | i + 1, 0 => by rw [bin]; exact bin_pos _ _
  | i + 1, j + 1 => by rw [bin.eq_3 i (j + 1)]; omega
theorem bin_ml (i j : Nat) : ∀ d, bin i j ≤ bin (i + d) j
  | 0 => Nat.le_refl _
  | d + 1 => Nat.le_trans (bin_ml i j d) (bin_l (i + d) j)
theorem bin_mr (i j : Nat) : ∀ d, bin i j ≤ bin i (j + d)
  | 0 => Nat.le_refl _
  | d + 1 => Nat.le_trans (bin_mr i j d) (bin_r i (j + d))
theorem bin_mono {i j i' j' : Nat} (h1 : i ≤ i') (h2 : j ≤ j') : bin i j ≤ bin i' j' := by
  obtain ⟨d, rfl⟩ := Nat.exists_eq_add_of_le h1
  obtain ⟨e, rfl⟩ := Nat.exists_eq_add_of_le h2
  exact Nat.le_trans (bin_ml i j d) (bin_mr (i + d) j e)
theorem bin_mul (i j : Nat) : ∀ i' j', bin i j * bin i' j' ≤ bin (i + i') (j + j')
  | 0, j' => by rw [bin, Nat.mul_one]; exact bin_mono (by omega) (by omega)
  | i' + 1, 0 => by rw [bin, Nat.mul_one]; exact bin_mono (by omega) (by omega)
  | i' + 1, j' + 1 => by
    have h1 := bin_mul i j i' (j' + 1)
    have h2 := bin_mul i j (i' + 1) j'
    rw [bin.eq_3 i' j', Nat.mul_add]
    have e : bin (i + (i' + 1)) (j + (j' + 1)) = bin (i + i') (j + (j' + 1)) + bin (i + (i' + 1)) (j + j') := by
      rw [show i + (i' + 1) = i + i' + 1 by omega, show j + (j' + 1) = j + j' + 1 by omega, bin.eq_3]
    rw [e]
    exact Nat.add_le_add h1 h2
theorem mx_bin : ∀ (n : Nat) (a b : List ByteArray), (mx n a b).length ≤ bin a.length b.length
  | n, [], b => by rw [mx_nil]; exact bin_pos _ _
  | n, x :: a, [] => by rw [mx_nil_r]; exact bin_pos _ _
  | 0, x :: a, y :: b => by simp [mx]
  | n + 1, x :: a, y :: b => by
    simp only [mx, List.length_append, List.length_map]
    have h1 := mx_bin n a (y :: b)
    have h2 := mx_bin n (x :: a) b
    show _ ≤ bin (a.length + 1) (b.length + 1)
    rw [bin]
    exact Nat.add_le_add h1 h2
theorem pr_bin (p q : Tr) : (pr p q).length ≤ bin p.a.length q.a.length := by
  refine Nat.le_trans (length_norm _) ?_
  rw [List.length_map]
  exact mx_bin _ _ _
theorem flat_len {α β : Type} (f : α → List β) (m : Nat) : ∀ l : List α, (∀ x ∈ l, (f x).length ≤ m) → (l.flatMap f).length ≤ l.length * m
  | [], _ => by simp
  | x :: l, h => by
    rw [List.flatMap_cons, List.length_append, List.length_cons, Nat.add_mul, Nat.one_mul, Nat.add_comm]
    exact Nat.add_le_add (flat_len f m l fun y hy => h y (by simp [hy])) (h x (by simp))

/-- The most that n nodes with a actions make. -/
def K (n a : Nat) : Nat := 2 ^ n * fac a
theorem K_pos (n a : Nat) : 1 ≤ K n a := Nat.mul_pos (Nat.two_pow_pos n) (fac_pos a)
theorem fac_add (a b : Nat) : fac a * fac b ≤ fac (a + b) := by
  rw [← fac_bin]
  exact Nat.le_mul_of_pos_right _ (bin_pos a b)
theorem fac_l (a b : Nat) : fac a ≤ fac (a + b) := Nat.le_trans (Nat.le_mul_of_pos_right _ (fac_pos b)) (fac_add a b)
theorem K_more {n n' a a' : Nat} (h1 : n ≤ n') (h2 : a ≤ a') : K n a ≤ K n' a' := by
  obtain ⟨d, rfl⟩ := Nat.exists_eq_add_of_le h2
  exact Nat.mul_le_mul (Nat.pow_le_pow_right (by omega) h1) (fac_l a d)
theorem K_mul (n m a b : Nat) : K n a * (K m b * bin a b) = K (n + m) (a + b) := by
  unfold K
  rw [← fac_bin, Nat.pow_add]
  simp only [Nat.mul_assoc, Nat.mul_left_comm]
theorem K_mul1 (n m a b : Nat) : K n a * K m b ≤ K (n + m) (a + b) := by
  rw [← K_mul]
  exact Nat.mul_le_mul_left _ (Nat.le_mul_of_pos_right _ (bin_pos a b))
theorem K_succ (n a : Nat) : K (n + 1) a = K n a + K n a := by
  unfold K
  rw [Nat.pow_succ, Nat.mul_assoc, Nat.mul_left_comm, Nat.two_mul]
theorem K_add (n m a b : Nat) : K n a + K m b ≤ K (n + m + 1) (a + b) := by
  rw [K_succ]
  exact Nat.add_le_add (K_more (by omega) (by omega)) (K_more (by omega) (by omega))
theorem K_last {n a : Nat} (hn : n ≤ 24) (ha : a ≤ 6) : K n a ≤ 12079595520 := Nat.le_trans (K_more hn ha) (by decide)

/-- No trace has more than a of what f asks for; no pair has. -/
def CT (f : ByteArray → Bool) (a : Nat) (A : List Tr) : Prop := ∀ t ∈ A, t.a.countP f ≤ a
def CP (f : ByteArray → Bool) (a : Nat) (X : List Pr) : Prop := ∀ x ∈ X, x.p.a.countP f + x.q.a.countP f ≤ a
theorem thn_cnt (f : ByteArray → Bool) (p q : Tr) : (thn p q).a.countP f ≤ p.a.countP f + q.a.countP f := by
  unfold thn
  split
  · simp [List.countP_append]
  · omega
theorem hnd_cnt (f : ByteArray → Bool) (p q : Tr) : (hnd p q).a.countP f ≤ p.a.countP f + q.a.countP f := by
  unfold hnd
  split
  · simp [List.countP_append]
  · omega
theorem mx_cnt (f : ByteArray → Bool) : ∀ (n : Nat) (a b r : List ByteArray), r ∈ mx n a b → r.countP f = a.countP f + b.countP f
  | n, [], b, r, h => by rw [mx_nil] at h; simp at h; simp [h]
  | n, x :: a, [], r, h => by rw [mx_nil_r] at h; simp at h; simp [h]
  | 0, x :: a, y :: b, r, h => by simp [mx] at h
  | n + 1, x :: a, y :: b, r, h => by
    simp only [mx, List.mem_append, List.mem_map] at h
    rcases h with ⟨s, hs, rfl⟩ | ⟨s, hs, rfl⟩
    · have := mx_cnt f n a (y :: b) s hs
      rw [List.countP_cons, List.countP_cons (l := a), this]
      omega
    · have := mx_cnt f n (x :: a) b s hs
      rw [List.countP_cons, List.countP_cons (l := b), this]
      omega
theorem pr_cnt (f : ByteArray → Bool) {p q t : Tr} (h : t ∈ pr p q) : t.a.countP f = p.a.countP f + q.a.countP f := mx_cnt f _ _ _ _ (mem_pr h).1
theorem one_cnt (f : ByteArray → Bool) {k : Int} {p q t : Tr} (h : t ∈ one k p q) : t.a.countP f ≤ p.a.countP f + q.a.countP f := by
  unfold one at h
  split at h
  · rw [List.mem_singleton] at h; rw [h]; exact thn_cnt f p q
  · split at h
    · exact Nat.le_of_eq (pr_cnt f h)
    · rw [List.mem_singleton] at h; rw [h]; exact hnd_cnt f p q
theorem mem_two {k : Int} {A B : List Tr} {t : Tr} : t ∈ two k A B ↔ if k = 6 then t ∈ A ∨ t ∈ B else ∃ p ∈ A, ∃ q ∈ B, t ∈ one k p q := by
  unfold two
  split
  · exact List.mem_append
  · simp only [List.mem_flatMap]
theorem CT.norm {f : ByteArray → Bool} {a : Nat} {A : List Tr} (h : CT f a A) : CT f a (norm A) := fun t ht => h t ((mem_norm t A).1 ht)
theorem CP.norm {f : ByteArray → Bool} {a : Nat} {X : List Pr} (h : CP f a X) : CP f a (pnorm X) := fun t ht => h t ((pmem_norm t X).1 ht)
theorem two_ct {f : ByteArray → Bool} {k : Int} {A B : List Tr} {a b : Nat} (h1 : CT f a A) (h2 : CT f b B) : CT f (a + b) (two k A B) := fun t ht => by
  rw [mem_two] at ht
  split at ht
  · rcases ht with ht | ht
    · have := h1 t ht; omega
    · have := h2 t ht; omega
  · obtain ⟨p, hp, q, hq, ht⟩ := ht
    have := h1 p hp
    have := h2 q hq
    have := one_cnt f ht
    omega
theorem blk_ct {f : ByteArray → Bool} {X : List Pr} {a : Nat} (h : CP f a X) : CT f a (blk X) := fun t ht => by
  obtain ⟨x, hx, ht⟩ := List.mem_flatMap.1 ht
  have := h x hx
  unfold blk1 at ht
  split at ht
  · rw [List.mem_singleton] at ht; rw [ht]; omega
  · split at ht
    · rw [List.mem_singleton] at ht; rw [ht, List.countP_append]; exact this
    · cases ht
theorem going_cp {f : ByteArray → Bool} {A B : List Tr} {a b : Nat} (h1 : CT f a A) (h2 : CT f b B) : CP f (a + b) (going A B) := fun x hx => by
  obtain ⟨p, hp, hx⟩ := List.mem_flatMap.1 hx
  have := h1 p hp
  unfold going1 at hx
  split at hx
  · obtain ⟨q, hq, rfl⟩ := List.mem_map.1 hx
    have := h2 q hq
    show p.a.countP f + q.a.countP f ≤ a + b
    omega
  · rw [List.mem_singleton] at hx
    rw [hx]
    show p.a.countP f + 0 ≤ a + b
    omega
theorem way_cp {f : ByteArray → Bool} {X : List Pr} {a : Nat} (h : CP f a X) : CP f a (X ++ [way]) := fun x hx => by
  rcases List.mem_append.1 hx with hx | hx
  · exact h x hx
  · rw [List.mem_singleton] at hx
    rw [hx]
    exact Nat.zero_le _
theorem seq_cp {f : ByteArray → Bool} {X Y : List Pr} {a b : Nat} (h1 : CP f a X) (h2 : CP f b Y) : CP f (a + b) (seq X Y) := fun z hz => by
  obtain ⟨x, hx, hz⟩ := List.mem_flatMap.1 hz
  have := h1 x hx
  unfold seq1 at hz
  split at hz
  · obtain ⟨y, hy, rfl⟩ := List.mem_map.1 hz
    have := h2 y hy
    have := thn_cnt f x.p y.p
    have := thn_cnt f y.q x.q
    show (thn x.p y.p).a.countP f + (thn y.q x.q).a.countP f ≤ a + b
    omega
  · rw [List.mem_singleton] at hz
    rw [hz]
    omega
theorem mem_par1 {x y z : Pr} : z ∈ par1 x y ↔ z.p ∈ pr x.p y.p ∧ z.q ∈ pr x.q y.q := by
  unfold par1
  simp only [List.mem_flatMap, List.mem_map]
  constructor
  · rintro ⟨p, hp, q, hq, rfl⟩
    exact ⟨hp, hq⟩
  · rintro ⟨hp, hq⟩
    exact ⟨z.p, hp, z.q, hq, rfl⟩
theorem par_cp {f : ByteArray → Bool} {X Y : List Pr} {a b : Nat} (h1 : CP f a X) (h2 : CP f b Y) : CP f (a + b) (par X Y) := fun z hz => by
  obtain ⟨x, hx, hz⟩ := List.mem_flatMap.1 hz
  obtain ⟨y, hy, hz⟩ := List.mem_flatMap.1 hz
  obtain ⟨hp, hq⟩ := mem_par1.1 hz
  have := h1 x hx
  have := h2 y hy
  rw [pr_cnt f hp, pr_cnt f hq]
  omega
theorem stack_cp {f : ByteArray → Bool} {X : List Pr} {C : List Tr} {a b : Nat} (h1 : CP f a X) (h2 : CT f b C) : CP f (a + b) (stack X C) := fun z hz => by
  obtain ⟨x, hx, hz⟩ := List.mem_flatMap.1 hz
  obtain ⟨c, hc, rfl⟩ := List.mem_map.1 hz
  have := h1 x hx
  have := h2 c hc
  have := thn_cnt f x.q c
  show x.p.a.countP f + (thn x.q c).a.countP f ≤ a + b
  omega
theorem fin_cp {f : ByteArray → Bool} {e : Int} {C : List Tr} {a : Nat} (h : CT f a C) : CP f a (fin e C) := fun z hz => by
  obtain ⟨c, hc, rfl⟩ := List.mem_map.1 hz
  have := h c hc
  show 0 + c.a.countP f ≤ a
  omega
theorem twoP_cp {f : ByteArray → Bool} {k : Int} {X Y : List Pr} {a b : Nat} (h1 : CP f a X) (h2 : CP f b Y) : CP f (a + b) (twoP k X Y) := by
  unfold twoP
  split
  · exact seq_cp h1 h2
  · split
    · exact par_cp h1 h2
    · intro z hz
      rcases List.mem_append.1 hz with hz | hz
      · have := h1 z hz; omega
      · have := h2 z hz; omega
abbrev all : ByteArray → Bool := fun _ => true
theorem CT.len {a : Nat} {A : List Tr} (h : CT all a A) {t : Tr} (ht : t ∈ A) : t.a.length ≤ a := by
  have := h t ht
  rwa [List.countP_true] at this
theorem CP.len {a : Nat} {X : List Pr} (h : CP all a X) {x : Pr} (hx : x ∈ X) : x.p.a.length + x.q.a.length ≤ a := by
  have := h x hx
  rwa [List.countP_true] at this

/-- How many there are. -/
theorem one_len (k : Int) (p q : Tr) : (one k p q).length ≤ bin p.a.length q.a.length := by
  unfold one
  split
  · exact bin_pos _ _
  · split
    · exact pr_bin p q
    · exact bin_pos _ _
theorem two_len {k : Int} {A B : List Tr} {n m a b : Nat} (h1 : CT all a A) (h2 : CT all b B) (l1 : A.length ≤ K n a) (l2 : B.length ≤ K m b) : (two k A B).length ≤ K (n + m + 1) (a + b) := by
  unfold two
  split
  · rw [List.length_append]
    exact Nat.le_trans (Nat.add_le_add l1 l2) (K_add n m a b)
  · refine Nat.le_trans (flat_len _ (K m b * bin a b) A fun p hp => ?_) (Nat.le_trans (Nat.mul_le_mul_right _ l1) (by rw [K_mul]; exact K_more (by omega) (Nat.le_refl _)))
    refine Nat.le_trans (flat_len _ (bin a b) B fun q hq => ?_) (Nat.mul_le_mul_right _ l2)
    exact Nat.le_trans (one_len k p q) (bin_mono (h1.len hp) (h2.len hq))
theorem blk_len {X : List Pr} {n a : Nat} (h : X.length ≤ K n a) : (blk X).length ≤ K (n + 1) a := by
  refine Nat.le_trans (flat_len _ 1 X fun x _ => ?_) (by rw [Nat.mul_one]; exact Nat.le_trans h (K_more (by omega) (Nat.le_refl _)))
  unfold blk1
  repeat' split
  all_goals simp
theorem going_len {A B : List Tr} {n m a b : Nat} (l1 : A.length ≤ K n a) (l2 : B.length ≤ K m b) : (going A B).length ≤ K (n + m) (a + b) := by
  refine Nat.le_trans (flat_len _ (K m b) A fun p _ => ?_) (Nat.le_trans (Nat.mul_le_mul_right _ l1) (K_mul1 n m a b))
  unfold going1
  split
  · rw [List.length_map]; exact l2
  · exact K_pos m b
theorem way_len {X : List Pr} {n a : Nat} (h : X.length ≤ K n a) : (X ++ [way]).length ≤ K (n + 1) a := by
  rw [List.length_append, K_succ]
  exact Nat.add_le_add h (K_pos n a)
theorem seq_len {X Y : List Pr} {n m a b : Nat} (l1 : X.length ≤ K n a) (l2 : Y.length ≤ K m b) : (seq X Y).length ≤ K (n + m) (a + b) := by
  refine Nat.le_trans (flat_len _ (K m b) X fun x _ => ?_) (Nat.le_trans (Nat.mul_le_mul_right _ l1) (K_mul1 n m a b))
  unfold seq1
  split
  · rw [List.length_map]; exact l2
  · exact K_pos m b
theorem par1_len {x y : Pr} {a b : Nat} (h1 : x.p.a.length + x.q.a.length ≤ a) (h2 : y.p.a.length + y.q.a.length ≤ b) : (par1 x y).length ≤ bin a b := by
  refine Nat.le_trans (flat_len _ (bin x.q.a.length y.q.a.length) _ fun p _ => ?_) (Nat.le_trans (Nat.mul_le_mul_right _ (pr_bin _ _)) (Nat.le_trans (bin_mul _ _ _ _) (bin_mono h1 h2)))
  rw [List.length_map]
  exact pr_bin _ _
theorem par_len {X Y : List Pr} {n m a b : Nat} (h1 : CP all a X) (h2 : CP all b Y) (l1 : X.length ≤ K n a) (l2 : Y.length ≤ K m b) : (par X Y).length ≤ K (n + m) (a + b) := by
  refine Nat.le_trans (flat_len _ (K m b * bin a b) X fun x hx => ?_) (Nat.le_trans (Nat.mul_le_mul_right _ l1) (by rw [K_mul]; exact Nat.le_refl _))
  refine Nat.le_trans (flat_len _ (bin a b) Y fun y hy => ?_) (Nat.mul_le_mul_right _ l2)
  exact par1_len (h1.len hx) (h2.len hy)
theorem stack_len {X : List Pr} {C : List Tr} {n m a b : Nat} (l1 : X.length ≤ K n a) (l2 : C.length ≤ K m b) : (stack X C).length ≤ K (n + m) (a + b) := by
  refine Nat.le_trans (flat_len _ (K m b) X fun x _ => ?_) (Nat.le_trans (Nat.mul_le_mul_right _ l1) (K_mul1 n m a b))
  unfold stack1
  rw [List.length_map]; exact l2
theorem twoP_len {k : Int} {X Y : List Pr} {n m a b : Nat} (h1 : CP all a X) (h2 : CP all b Y) (l1 : X.length ≤ K n a) (l2 : Y.length ≤ K m b) : (twoP k X Y).length ≤ K (n + m + 1) (a + b) := by
  unfold twoP
  split
  · exact Nat.le_trans (seq_len l1 l2) (K_more (by omega) (Nat.le_refl _))
  · split
    · exact Nat.le_trans (par_len h1 h2 l1 l2) (K_more (by omega) (Nat.le_refl _))
    · rw [List.length_append]
      exact Nat.le_trans (Nat.add_le_add l1 l2) (K_add n m a b)

/-- How they end. -/
def Sgn (e : Int) : Prop := e = 1 ∨ e = 2 ∨ e = 3
def ST (A : List Tr) : Prop := ∀ t ∈ A, Sgn t.e
def SP (X : List Pr) : Prop := ∀ x ∈ X, Sgn x.p.e ∧ Sgn x.q.e
theorem sgn_both {a b : Int} (h1 : Sgn a) (h2 : Sgn b) : Sgn (Sg.both a b) := by
  rcases h1 with rfl | rfl | rfl <;> rcases h2 with rfl | rfl | rfl <;> first | exact Or.inl rfl | exact Or.inr (Or.inl rfl) | exact Or.inr (Or.inr rfl)
theorem sgn_thn {p q : Tr} (h1 : Sgn p.e) (h2 : Sgn q.e) : Sgn (thn p q).e := by
  unfold thn
  split
  · exact h2
  · exact h1
theorem sgn_pr {p q t : Tr} (h1 : Sgn p.e) (h2 : Sgn q.e) (h : t ∈ pr p q) : Sgn t.e := by
  rw [(mem_pr h).2]
  exact sgn_both h1 h2
theorem ST.norm {A : List Tr} (h : ST A) : ST (norm A) := fun t ht => h t ((mem_norm t A).1 ht)
theorem SP.norm {X : List Pr} (h : SP X) : SP (pnorm X) := fun t ht => h t ((pmem_norm t X).1 ht)
theorem two_st {k : Int} {A B : List Tr} (h1 : ST A) (h2 : ST B) : ST (two k A B) := fun t ht => by
  rw [mem_two] at ht
  split at ht
  · exact ht.elim (h1 t) (h2 t)
  · obtain ⟨p, hp, q, hq, ht⟩ := ht
    unfold one at ht
    split at ht
    · rw [List.mem_singleton] at ht; rw [ht]; exact sgn_thn (h1 p hp) (h2 q hq)
    · split at ht
      · exact sgn_pr (h1 p hp) (h2 q hq) ht
      · rw [List.mem_singleton] at ht
        rw [ht]
        unfold hnd
        split
        · exact h2 q hq
        · exact h1 p hp
theorem blk_st {X : List Pr} (h : SP X) : ST (blk X) := fun t ht => by
  obtain ⟨x, hx, ht⟩ := List.mem_flatMap.1 ht
  have := h x hx
  unfold blk1 at ht
  split at ht
  · rw [List.mem_singleton] at ht; rw [ht]; exact this.1
  · split at ht
    · rw [List.mem_singleton] at ht; rw [ht]; exact this.2
    · cases ht
theorem sgn1 : Sgn 1 := Or.inl rfl
theorem sgn3 : Sgn 3 := Or.inr (Or.inr rfl)
theorem going_sp {A B : List Tr} (h1 : ST A) (h2 : ST B) : SP (going A B) := fun x hx => by
  obtain ⟨p, hp, hx⟩ := List.mem_flatMap.1 hx
  unfold going1 at hx
  split at hx
  · obtain ⟨q, hq, rfl⟩ := List.mem_map.1 hx
    exact ⟨h1 p hp, h2 q hq⟩
  · rw [List.mem_singleton] at hx
    rw [hx]
    exact ⟨h1 p hp, sgn1⟩
theorem way_sp {X : List Pr} (h : SP X) : SP (X ++ [way]) := fun x hx => by
  rcases List.mem_append.1 hx with hx | hx
  · exact h x hx
  · rw [List.mem_singleton] at hx
    rw [hx]
    exact ⟨sgn3, sgn1⟩
theorem seq_sp {X Y : List Pr} (h1 : SP X) (h2 : SP Y) : SP (seq X Y) := fun z hz => by
  obtain ⟨x, hx, hz⟩ := List.mem_flatMap.1 hz
  unfold seq1 at hz
  split at hz
  · obtain ⟨y, hy, rfl⟩ := List.mem_map.1 hz
    exact ⟨sgn_thn (h1 x hx).1 (h2 y hy).1, sgn_thn (h2 y hy).2 (h1 x hx).2⟩
  · rw [List.mem_singleton] at hz
    rw [hz]
    exact h1 x hx
theorem par_sp {X Y : List Pr} (h1 : SP X) (h2 : SP Y) : SP (par X Y) := fun z hz => by
  obtain ⟨x, hx, hz⟩ := List.mem_flatMap.1 hz
  obtain ⟨y, hy, hz⟩ := List.mem_flatMap.1 hz
  obtain ⟨hp, hq⟩ := mem_par1.1 hz
  exact ⟨sgn_pr (h1 x hx).1 (h2 y hy).1 hp, sgn_pr (h1 x hx).2 (h2 y hy).2 hq⟩
theorem stack_sp {X : List Pr} {C : List Tr} (h1 : SP X) (h2 : ST C) : SP (stack X C) := fun z hz => by
  obtain ⟨x, hx, hz⟩ := List.mem_flatMap.1 hz
  obtain ⟨c, hc, rfl⟩ := List.mem_map.1 hz
  exact ⟨(h1 x hx).1, sgn_thn (h1 x hx).2 (h2 c hc)⟩
theorem fin_sp {e : Int} {C : List Tr} (he : Sgn e) (h : ST C) : SP (fin e C) := fun z hz => by
  obtain ⟨c, hc, rfl⟩ := List.mem_map.1 hz
  exact ⟨he, h c hc⟩
theorem twoP_sp {k : Int} {X Y : List Pr} (h1 : SP X) (h2 : SP Y) : SP (twoP k X Y) := by
  unfold twoP
  split
  · exact seq_sp h1 h2
  · split
    · exact par_sp h1 h2
    · intro z hz
      exact (List.mem_append.1 hz).elim (h1 z) (h2 z)

/-- One that ends well, or throws. -/
def LT (A : List Tr) : Prop := ∃ t ∈ A, t.e = 1 ∨ t.e = 2
def LP (X : List Pr) : Prop := ∃ x ∈ X, (x.p.e = 1 ∨ x.p.e = 2) ∧ (x.q.e = 1 ∨ x.q.e = 2)
theorem LT.norm {A : List Tr} (h : LT A) : LT (norm A) := by
  obtain ⟨t, ht, h⟩ := h
  exact ⟨t, (mem_norm t A).2 ht, h⟩
theorem LP.norm {X : List Pr} (h : LP X) : LP (pnorm X) := by
  obtain ⟨t, ht, h⟩ := h
  exact ⟨t, (pmem_norm t X).2 ht, h⟩
theorem LT.ne {A : List Tr} (h : LT A) : A ≠ [] := fun e => by
  obtain ⟨t, ht, _⟩ := h
  rw [e] at ht
  cases ht
theorem mx_ne : ∀ (n : Nat) (a b : List ByteArray), a.length + b.length ≤ n → mx n a b ≠ []
  | n, [], b, _ => by rw [mx_nil]; simp
  | n, x :: a, [], _ => by rw [mx_nil_r]; simp
  | 0, x :: a, y :: b, h => by simp at h
  | n + 1, x :: a, y :: b, h => by
    simp only [mx, ne_eq, List.append_eq_nil_iff, List.map_eq_nil_iff, not_and]
    intro e
    exact absurd e (mx_ne n a (y :: b) (by simp at h ⊢; omega))
theorem pr_ne {p q : Tr} (h : p.a.length + q.a.length ≤ 19) : ∃ t ∈ pr p q, t.e = Sg.both p.e q.e := by
  obtain ⟨r, hr⟩ := List.exists_mem_of_ne_nil _ (mx_ne 19 p.a q.a h)
  exact ⟨⟨r, Sg.both p.e q.e⟩, (mem_norm _ _).2 (List.mem_map.2 ⟨r, hr, rfl⟩), rfl⟩
theorem lv_both {a b : Int} (h1 : a = 1 ∨ a = 2) (h2 : b = 1 ∨ b = 2) : Sg.both a b = 1 ∨ Sg.both a b = 2 := by
  rcases h1 with rfl | rfl <;> rcases h2 with rfl | rfl <;> first | exact Or.inl rfl | exact Or.inr rfl
theorem two_lt {k : Int} {A B : List Tr} {a b : Nat} (c1 : CT all a A) (c2 : CT all b B) (hab : a + b ≤ 19) (h1 : LT A) (h2 : LT B) : LT (two k A B) := by
  obtain ⟨p, hp, e1⟩ := h1
  obtain ⟨q, hq, e2⟩ := h2
  have key : ∀ t, t ∈ one k p q → k ≠ 6 → (t.e = 1 ∨ t.e = 2) → LT (two k A B) := fun t ht hk he => ⟨t, by rw [mem_two, if_neg hk]; exact ⟨p, hp, q, hq, ht⟩, he⟩
  by_cases h6 : k = 6
  · exact ⟨p, by rw [mem_two, if_pos h6]; exact .inl hp, e1⟩
  · by_cases h5 : k = 5
    · refine key (thn p q) (by unfold one; rw [if_pos h5]; simp) h6 ?_
      unfold thn
      split
      · exact e2
      · exact e1
    · by_cases h7 : k = 7
      · obtain ⟨t, ht, he⟩ := pr_ne (p := p) (q := q) (by have := c1.len hp; have := c2.len hq; omega)
        exact key t (by unfold one; rw [if_neg h5, if_pos h7]; exact ht) h6 (by rw [he]; exact lv_both e1 e2)
      · refine key (hnd p q) (by unfold one; rw [if_neg h5, if_neg h7]; simp) h6 ?_
        unfold hnd
        split
        · exact e2
        · exact e1
theorem lv_thn {p q : Tr} (h1 : p.e = 1 ∨ p.e = 2) (h2 : q.e = 1 ∨ q.e = 2) : (thn p q).e = 1 ∨ (thn p q).e = 2 := by
  unfold thn
  split
  · exact h2
  · exact h1
theorem going_lp {A B : List Tr} (h1 : LT A) (h2 : LT B) : LP (going A B) := by
  obtain ⟨p, hp, e1⟩ := h1
  obtain ⟨q, hq, e2⟩ := h2
  by_cases h : p.e = 1
  · exact ⟨⟨p, q⟩, List.mem_flatMap.2 ⟨p, hp, by unfold going1; rw [if_pos h]; exact List.mem_map.2 ⟨q, hq, rfl⟩⟩, e1, e2⟩
  · exact ⟨⟨p, tick⟩, List.mem_flatMap.2 ⟨p, hp, by unfold going1; rw [if_neg h]; simp⟩, e1, .inl rfl⟩
theorem LP.more {X Y : List Pr} (h : LP X) : LP (X ++ Y) := by
  obtain ⟨x, hx, e⟩ := h
  exact ⟨x, List.mem_append.2 (.inl hx), e⟩
theorem twoP_lp {k : Int} {X Y : List Pr} {a b : Nat} (c1 : CP all a X) (c2 : CP all b Y) (hab : a + b ≤ 19) (h1 : LP X) (h2 : LP Y) : LP (twoP k X Y) := by
  obtain ⟨x, hx, e1, f1⟩ := h1
  obtain ⟨y, hy, e2, f2⟩ := h2
  unfold twoP
  split
  · by_cases h : x.p.e = 1
    · exact ⟨⟨thn x.p y.p, thn y.q x.q⟩, List.mem_flatMap.2 ⟨x, hx, by unfold seq1; rw [if_pos h]; exact List.mem_map.2 ⟨y, hy, rfl⟩⟩, lv_thn e1 e2, lv_thn f2 f1⟩
    · exact ⟨x, List.mem_flatMap.2 ⟨x, hx, by unfold seq1; rw [if_neg h]; simp⟩, e1, f1⟩
  · split
    · have l1 := c1.len hx
      have l2 := c2.len hy
      obtain ⟨t, ht, he⟩ := pr_ne (p := x.p) (q := y.p) (by omega)
      obtain ⟨u, hu, hf⟩ := pr_ne (p := x.q) (q := y.q) (by omega)
      exact ⟨⟨t, u⟩, List.mem_flatMap.2 ⟨x, hx, List.mem_flatMap.2 ⟨y, hy, mem_par1.2 ⟨ht, hu⟩⟩⟩, by show t.e = 1 ∨ t.e = 2; rw [he]; exact lv_both e1 e2, by show u.e = 1 ∨ u.e = 2; rw [hf]; exact lv_both f1 f2⟩
    · exact ⟨x, List.mem_append.2 (.inl hx), e1, f1⟩
theorem blk_lt {X : List Pr} (h : LP X) : LT (blk X) := by
  obtain ⟨x, hx, e, f⟩ := h
  by_cases h1 : x.p.e = 1
  · exact ⟨x.p, List.mem_flatMap.2 ⟨x, hx, by unfold blk1; rw [if_pos h1]; simp⟩, .inl h1⟩
  · have h2 : x.p.e = 2 := e.resolve_left h1
    exact ⟨⟨x.p.a ++ x.q.a, x.q.e⟩, List.mem_flatMap.2 ⟨x, hx, by unfold blk1; rw [if_neg h1, if_pos h2]; simp⟩, f⟩
end Go.Proofs.YtghnonbcojbohaaGreatDoor.Mn
