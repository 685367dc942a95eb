/- The statements' own first look at package row, from its contracts. -/
import Derived.Test.YtonhnajmofkcnaaRwc
namespace Go.Proofs.Ytonhnajmofkcnaa.Rw
open Go Go.RowKit
set_option maxRecDepth 20000

/-- Nodes in a block of their own. -/
theorem nds_new (w : World) (l : List Nd) (ty : TypeId) : Nds (w.alloc (.cells (cls l).toArray ty)) (.slice (some ⟨w.heap.size, 0, none⟩) l.length l.length) l := by
  refine ⟨cls_len l, some ⟨w.heap.size, 0, none⟩, l.length, rfl, Nat.le_refl _, fun h => (by cases h), fun _ => ⟨w.heap.size, 0, rfl, fun j u hu => ?_⟩⟩
  rw [Nat.zero_add, World.cell?_alloc_new]
  simpa using hu
theorem ints_new (w : World) (l : List Int) (ty : TypeId) : Ints (w.alloc (.cells (l.map (Value.int .i64)).toArray ty)) (.slice (some ⟨w.heap.size, 0, none⟩) l.length l.length) l := by
  refine ⟨by simp, some ⟨w.heap.size, 0, none⟩, l.length, rfl, Nat.le_refl _, fun h => (by cases h), fun _ => ⟨w.heap.size, 0, rfl, fun j u hu => ?_⟩⟩
  rw [Nat.zero_add, World.cell?_alloc_new]
  simpa using hu
/-- The tree, in the block of number B. -/
structure Al (w0 : World) (B : Nat) (w : World) : Prop where
  bel : Below w0.heap.size w0 w
  lt : B < w.heap.size
  at' : At w B 0 aL
theorem Al.below {w0 w w' : World} {B : Nat} (h : Al w0 B w) (hb : Below w.heap.size w w') : Al w0 B w' :=
  ⟨h.bel.trans (hb.mono h.bel.size), Nat.lt_of_lt_of_le h.lt hb.size, fun k hk => by
    obtain ⟨h1, h2, h3⟩ := h.at' k hk
    exact ⟨by rw [hb.cell (p := ⟨B, 0 + k * 3, none⟩) h.lt]; exact h1, by rw [hb.cell (p := ⟨B, 0 + k * 3 + 1, none⟩) h.lt]; exact h2, by rw [hb.cell (p := ⟨B, 0 + k * 3 + 2, none⟩) h.lt]; exact h3⟩⟩
theorem Al.all {w0 w : World} {B : Nat} (h : Al w0 B w) : Nds w (.slice (some ⟨B, 0, none⟩) 5 5) aL := part_nds h.at' 0 5 5 (by decide) (by decide)
theorem Al.tail {w0 w : World} {B : Nat} (h : Al w0 B w) : Nds w (.slice (some ⟨B, 3, none⟩) 4 4) [n1, n2, n3, n4] := part_nds h.at' 1 4 4 (by decide) (by decide)
theorem Al.head {w0 w : World} {B : Nat} (h : Al w0 B w) : Nds w (.slice (some ⟨B, 0, none⟩) 4 5) [n0, n1, n2, n3] := part_nds h.at' 0 4 5 (by decide) (by decide)
theorem Al.cells {w0 w : World} {B : Nat} (h : Al w0 B w) : w.cell? ⟨B, 0, none⟩ = some (.int .i64 5) ∧ w.cell? ⟨B, 1, none⟩ = some (.string ⟨#[]⟩) ∧ w.cell? ⟨B, 2, none⟩ = some (.int .i64 0) ∧ w.cell? ⟨B, 3, none⟩ = some (.int .i64 1) ∧ w.cell? ⟨B, 4, none⟩ = some (.string ⟨#[97]⟩) ∧ w.cell? ⟨B, 5, none⟩ = some (.int .i64 0) :=
  ⟨(h.at' 0 (by decide)).1, (h.at' 0 (by decide)).2.1, (h.at' 0 (by decide)).2.2, (h.at' 1 (by decide)).1, (h.at' 1 (by decide)).2.1, (h.at' 1 (by decide)).2.2⟩
theorem Al.new (w : World) (ty : TypeId) : Al w w.heap.size (w.alloc (.cells #[.int .i64 5, .string ⟨#[]⟩, .int .i64 0, .int .i64 1, .string ⟨#[97]⟩, .int .i64 0, .int .i64 6, .string ⟨#[]⟩, .int .i64 0, .int .i64 2, .string ⟨#[]⟩, .int .i64 0, .int .i64 3, .string ⟨#[]⟩, .int .i64 0] ty)) := by
  refine ⟨below1 w _, by simp, ?_⟩
  rcases (nds_new w aL ty).form with ⟨h, _⟩ | ⟨b, off, cap, he, _, hat⟩
  · cases h
  · cases he
    exact hat
/-- Two rows of a row. -/
theorem two_rows {w : World} {y : Value} {cs : List Value} {r s : List Nd} (h : Ap.Rd w 1 y 2 cs) (hr : RwC w cs [r, s]) :
    ∃ b o c a0 a1, y = .slice (some ⟨b, o, none⟩) 2 c ∧ w.cell? ⟨b, o, none⟩ = some a0 ∧ w.cell? ⟨b, o + 1, none⟩ = some a1 ∧ Nds w a0 r ∧ Nds w a1 s := by
  obtain ⟨_, a, c, rfl, _, _, hcell⟩ := h
  obtain ⟨b, o, rfl, hj⟩ := hcell (by omega)
  match cs, hr with
  | [a0, a1], hr => exact ⟨b, o, c, a0, a1, rfl, hj 0 _ rfl, hj 1 _ rfl, hr.1, hr.2.1⟩

/-- The tree, and its kids. -/
structure Al2 (w0 : World) (B b o c : Nat) (b0 : Option Addr) (c0 : Nat) (b1 : Option Addr) (c1 : Nat) (w : World) : Prop where
  al : Al w0 B w
  rws : Rws w (.slice (some ⟨b, o, none⟩) 2 c) [[n1], [n2, n3, n4]]
  k0 : w.cell? ⟨b, o, none⟩ = some (.slice b0 1 c0)
  k1 : w.cell? ⟨b, o + 1, none⟩ = some (.slice b1 3 c1)
theorem Al2.below {w0 w w' : World} {B b o c c0 c1 : Nat} {b0 b1 : Option Addr} (h : Al2 w0 B b o c b0 c0 b1 c1 w) (hb : Below w.heap.size w w') : Al2 w0 B b o c b0 c0 b1 c1 w' :=
  ⟨h.al.below hb, h.rws.below hb, by rw [hb.cell (Ap.cell_lt h.k0)]; exact h.k0, by rw [hb.cell (Ap.cell_lt h.k1)]; exact h.k1⟩

set_option maxHeartbeats 4000000 in
theorem alive_any (C : Con) (w : World) : Calls Try.prog 9 #[] w fun e w' => e = .returned (.bool true) ∧ Below w.heap.size w w' := by
  have I := Lib.hid (Al.new w 23)
  go_enter Try.func9, Try.ntmps9
  go_wp2_with fail
  refine (C.cKids _ aL _ I.out.all (by decide)).mono ?_
  rw [aL_kids]
  rintro e w1 ⟨y, cs, rfl, hy, ho, hb⟩
  obtain ⟨b, o, c, a0, a1, rfl, k0, k1, hn0, hn1⟩ := two_rows hy.rd ho.rwc
  obtain ⟨_, b0, c0, rfl, -⟩ := hn0
  obtain ⟨_, b1, c1, rfl, -⟩ := hn1
  have J : Hid (Al2 w w.heap.size b o c b0 c0 b1 c1 w1) := ⟨I.out.below hb, ⟨cs, hy.rd, ho.rwc⟩, k0, k1⟩
  clear I hb hy ho k0 k1 cs
  go_wp2_with fail
  refine (C.cSize _ aL _ J.out.al.all (by decide)).mono ?_
  rw [aL_size]
  rintro e wn ⟨rfl, hb⟩
  replace J := Lib.hid (J.out.below hb)
  clear hb
  go_wp2_with fail
  refine (C.cDepth _ aL _ J.out.al.all (by decide)).mono ?_
  rw [aL_depth]
  rintro e wn ⟨rfl, hb⟩
  replace J := Lib.hid (J.out.below hb)
  clear hb
  go_wp2_with fail
  refine (C.cWhole _ aL _ J.out.al.all (by decide) aL_nms).mono ?_
  rw [aL_whole]
  rintro e wn ⟨rfl, hb⟩
  replace J := Lib.hid (J.out.below hb)
  clear hb
  go_wp2_with fail
  refine (C.cWhole _ [n1, n2, n3, n4] _ J.out.al.tail (by decide) (fun x hx => aL_nms x (List.mem_cons_of_mem _ hx))).mono ?_
  rw [aL_part]
  rintro e wn ⟨rfl, hb⟩
  replace J := Lib.hid (J.out.below hb)
  clear hb
  go_wp2_with fail
  refine (C.cSize _ [n0, n1, n2, n3] _ J.out.al.head (by decide)).mono ?_
  rw [aL_cut]
  rintro e wn ⟨rfl, hb⟩
  replace J := Lib.hid (J.out.below hb)
  clear hb
  have q0 := J.out.k0
  have q1 := J.out.k1
  obtain ⟨e0, e1, e2, e3, e4, e5⟩ := J.out.al.cells
  go_wp2_with fail
  refine (C.cMake n0 _ _ _ J.out.rws (by decide) (by decide)).mono ?_
  rintro e wn ⟨m, rfl, hm0, hb⟩
  have hm := hm0.rd
  clear hm0
  replace J := Lib.hid (J.out.below hb)
  have M : Hid (Nds wn m (n0 :: [[n1], [n2, n3, n4]].flatten)) := hm
  obtain ⟨_, mb, mc, rfl, -⟩ := hm
  clear hb q0 q1 e0 e1 e2 e3 e4 e5
  go_wp2_with fail
  refine (C.cSame _ _ _ aL _ M.out J.out.al.all (by decide) (by decide)).mono ?_
  rw [show sameN (n0 :: [[n1], [n2, n3, n4]].flatten) aL = true from by decide +kernel]
  rintro e wn ⟨rfl, hb⟩
  replace J := Lib.hid (J.out.below hb)
  clear hb
  have HN := Lib.hid (fun v => ints_new v [2, 3] 3)
  have HB := Lib.hid (fun v => below1 v (.cells #[.int .i64 2, .int .i64 3] 3))
  go_wp2_with fail
  refine (C.cCount _ _ aL [2, 3] _ (J.out.al.all.below (HB.out _)) (HN.out _) (by decide) (by decide)).mono ?_
  rw [aL_cnt]
  rintro e wn ⟨rfl, hb⟩
  replace J := Lib.hid ((J.out.below (HB.out _)).below hb)
  clear hb
  go_wp2_with fail
  refine (C.cAr 9 _).mono ?_
  rw [show ar 9 = 1 from rfl]
  rintro e wn ⟨rfl, hb⟩
  replace J := Lib.hid (J.out.below hb)
  clear hb
  go_wp2_with fail
  refine (C.cAr 0 _).mono ?_
  rw [show ar 0 = -1 from rfl]
  rintro e wn ⟨rfl, hb⟩
  replace J := Lib.hid (J.out.below hb)
  clear hb
  obtain ⟨e0, e1, e2, e3, e4, e5⟩ := J.out.al.cells
  go_wp2_with fail
  refine (C.cRight n1 _ (by decide)).mono ?_
  rw [aL_rgt]
  rintro e wn ⟨rfl, hb⟩
  replace J := Lib.hid (J.out.below hb)
  clear hb e0 e1 e2 e3 e4 e5
  go_wp2_with fail
  refine (C.cRight ⟨1, ⟨#[]⟩, 0⟩ _ (by decide)).mono ?_
  rw [aL_no1]
  rintro e wn ⟨rfl, hb⟩
  replace J := Lib.hid (J.out.below hb)
  clear hb
  go_wp2_with fail
  refine (C.cRight ⟨2, ⟨#[]⟩, 1⟩ _ (by decide)).mono ?_
  rw [aL_no2]
  rintro e wn ⟨rfl, hb⟩
  replace J := Lib.hid (J.out.below hb)
  clear hb
  go_wp2_with fail
  go_ret
  exact ⟨rfl, J.out.al.bel⟩
end Go.Proofs.Ytonhnajmofkcnaa.Rw
