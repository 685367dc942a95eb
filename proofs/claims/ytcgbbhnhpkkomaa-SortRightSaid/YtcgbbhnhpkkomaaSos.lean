/- SortMakes from the contracts. -/
import Derived.Test.YtcgbbhnhpkkomaaSor
namespace Go.Proofs.Ytcgbbhnhpkkomaa.So
open Go Go.RowKit Go.Proofs.Ytcgbbhnhpkkomaa.Rw
set_option maxRecDepth 20000

theorem mk_5_11 {a b : List Nd} (ha : of a = 1) (hb : of b = 1) (hl : a.length + b.length < 200) : of (nOf 5 :: (a ++ b)) = 1 := by
  have wa := (of_one ha).1
  have wb := (of_one hb).1
  obtain ⟨a1, a2, a3, a4⟩ := plain_all (of_one ha).2
  obtain ⟨b1, b2, b3, b4⟩ := plain_all (of_one hb).2
  rw [of_whole (whole_mk2 (k := 5) rfl (by decide +kernel) wa wb hl)]
  have hk := (kids_mk (k := 5) rfl (whole_tre wa) (whole_tre wb)).2
  have e0 : k0 (nOf 5 :: (a ++ b)) = a := by unfold k0; rw [hk]; rfl
  have e1 : k1 (nOf 5 :: (a ++ b)) = b := by unfold k1; rw [hk]; rfl
  have f1 := eq_5_1 (l := nOf 5 :: (a ++ b)) rfl
  rw [e0, a1, e1, b1] at f1
  have g1 : Is 1 (nOf 5 :: (a ++ b)) = true := f1
  exact first_plain g1
theorem mk_6_11 {a b : List Nd} (ha : of a = 1) (hb : of b = 1) (hl : a.length + b.length < 200) : of (nOf 6 :: (a ++ b)) = 1 := by
  have wa := (of_one ha).1
  have wb := (of_one hb).1
  obtain ⟨a1, a2, a3, a4⟩ := plain_all (of_one ha).2
  obtain ⟨b1, b2, b3, b4⟩ := plain_all (of_one hb).2
  rw [of_whole (whole_mk2 (k := 6) rfl (by decide +kernel) wa wb hl)]
  have hk := (kids_mk (k := 6) rfl (whole_tre wa) (whole_tre wb)).2
  have e0 : k0 (nOf 6 :: (a ++ b)) = a := by unfold k0; rw [hk]; rfl
  have e1 : k1 (nOf 6 :: (a ++ b)) = b := by unfold k1; rw [hk]; rfl
  have f1 := eq_6_1 (l := nOf 6 :: (a ++ b)) rfl
  rw [e0, a1, e1, b1] at f1
  have g1 : Is 1 (nOf 6 :: (a ++ b)) = true := f1
  exact first_plain g1
theorem mk_7_11 {a b : List Nd} (ha : of a = 1) (hb : of b = 1) (hl : a.length + b.length < 200) : of (nOf 7 :: (a ++ b)) = 1 := by
  have wa := (of_one ha).1
  have wb := (of_one hb).1
  obtain ⟨a1, a2, a3, a4⟩ := plain_all (of_one ha).2
  obtain ⟨b1, b2, b3, b4⟩ := plain_all (of_one hb).2
  rw [of_whole (whole_mk2 (k := 7) rfl (by decide +kernel) wa wb hl)]
  have hk := (kids_mk (k := 7) rfl (whole_tre wa) (whole_tre wb)).2
  have e0 : k0 (nOf 7 :: (a ++ b)) = a := by unfold k0; rw [hk]; rfl
  have e1 : k1 (nOf 7 :: (a ++ b)) = b := by unfold k1; rw [hk]; rfl
  have f1 := eq_7_1 (l := nOf 7 :: (a ++ b)) rfl
  rw [e0, a1, e1, b1] at f1
  have g1 : Is 1 (nOf 7 :: (a ++ b)) = true := f1
  exact first_plain g1
theorem mk_8_11 {a b : List Nd} (ha : of a = 1) (hb : of b = 1) (hl : a.length + b.length < 200) : of (nOf 8 :: (a ++ b)) = 1 := by
  have wa := (of_one ha).1
  have wb := (of_one hb).1
  obtain ⟨a1, a2, a3, a4⟩ := plain_all (of_one ha).2
  obtain ⟨b1, b2, b3, b4⟩ := plain_all (of_one hb).2
  rw [of_whole (whole_mk2 (k := 8) rfl (by decide +kernel) wa wb hl)]
  have hk := (kids_mk (k := 8) rfl (whole_tre wa) (whole_tre wb)).2
  have e0 : k0 (nOf 8 :: (a ++ b)) = a := by unfold k0; rw [hk]; rfl
  have e1 : k1 (nOf 8 :: (a ++ b)) = b := by unfold k1; rw [hk]; rfl
  have f1 := eq_8_1 (l := nOf 8 :: (a ++ b)) rfl
  rw [e0, a1, e1, b1] at f1
  have g1 : Is 1 (nOf 8 :: (a ++ b)) = true := f1
  exact first_plain g1
theorem mk_10_11 {a b : List Nd} (ha : of a = 1) (hb : of b = 1) (hl : a.length + b.length < 200) : of (nOf 10 :: (a ++ b)) = 2 := by
  have wa := (of_one ha).1
  have wb := (of_one hb).1
  obtain ⟨a1, a2, a3, a4⟩ := plain_all (of_one ha).2
  obtain ⟨b1, b2, b3, b4⟩ := plain_all (of_one hb).2
  rw [of_whole (whole_mk2 (k := 10) rfl (by decide +kernel) wa wb hl)]
  have hk := (kids_mk (k := 10) rfl (whole_tre wa) (whole_tre wb)).2
  have e0 : k0 (nOf 10 :: (a ++ b)) = a := by unfold k0; rw [hk]; rfl
  have e1 : k1 (nOf 10 :: (a ++ b)) = b := by unfold k1; rw [hk]; rfl
  have f2 := eq_10_2 (l := nOf 10 :: (a ++ b)) rfl
  rw [e0, a1, e1, b1] at f2
  have g2 : Is 2 (nOf 10 :: (a ++ b)) = true := f2
  exact first_paired g2
theorem mk_5_12 {a b : List Nd} (ha : of a = 1) (hb : of b = 2) (hl : a.length + b.length < 200) : of (nOf 5 :: (a ++ b)) = 0 := by
  have wa := (of_one ha).1
  have wb := (of_two hb).1
  obtain ⟨a1, a2, a3, a4⟩ := plain_all (of_one ha).2
  obtain ⟨b1, b2, b3, b4⟩ := paired_all (of_two hb).2.1
  rw [of_whole (whole_mk2 (k := 5) rfl (by decide +kernel) wa wb hl)]
  have hk := (kids_mk (k := 5) rfl (whole_tre wa) (whole_tre wb)).2
  have e0 : k0 (nOf 5 :: (a ++ b)) = a := by unfold k0; rw [hk]; rfl
  have e1 : k1 (nOf 5 :: (a ++ b)) = b := by unfold k1; rw [hk]; rfl
  have f1 := eq_5_1 (l := nOf 5 :: (a ++ b)) rfl
  rw [e0, a1, e1, b1] at f1
  have g1 : Is 1 (nOf 5 :: (a ++ b)) = false := f1
  have f2 := eq_5_2 (l := nOf 5 :: (a ++ b)) rfl
  rw [e0, a2, e1, b2] at f2
  have g2 : Is 2 (nOf 5 :: (a ++ b)) = false := f2
  have f3 := eq_5_3 (l := nOf 5 :: (a ++ b)) rfl
  rw [e0, a1, e1, b1, a3] at f3
  have g3 : Is 3 (nOf 5 :: (a ++ b)) = false := f3
  have f4 := eq_5_4 (l := nOf 5 :: (a ++ b)) rfl
  rw [e0, a2, e1, b2, a4] at f4
  have g4 : Is 4 (nOf 5 :: (a ++ b)) = false := f4
  unfold first
  rw [g1, g2, g3, g4]
  rfl
theorem mk_6_12 {a b : List Nd} (ha : of a = 1) (hb : of b = 2) (hl : a.length + b.length < 200) : of (nOf 6 :: (a ++ b)) = 0 := by
  have wa := (of_one ha).1
  have wb := (of_two hb).1
  obtain ⟨a1, a2, a3, a4⟩ := plain_all (of_one ha).2
  obtain ⟨b1, b2, b3, b4⟩ := paired_all (of_two hb).2.1
  rw [of_whole (whole_mk2 (k := 6) rfl (by decide +kernel) wa wb hl)]
  have hk := (kids_mk (k := 6) rfl (whole_tre wa) (whole_tre wb)).2
  have e0 : k0 (nOf 6 :: (a ++ b)) = a := by unfold k0; rw [hk]; rfl
  have e1 : k1 (nOf 6 :: (a ++ b)) = b := by unfold k1; rw [hk]; rfl
  have f1 := eq_6_1 (l := nOf 6 :: (a ++ b)) rfl
  rw [e0, a1, e1, b1] at f1
  have g1 : Is 1 (nOf 6 :: (a ++ b)) = false := f1
  have f2 := eq_6_2 (l := nOf 6 :: (a ++ b)) rfl
  rw [e0, a2, e1, b2] at f2
  have g2 : Is 2 (nOf 6 :: (a ++ b)) = false := f2
  have f3 := eq_6_3 (l := nOf 6 :: (a ++ b)) rfl
  rw [e0, a1, e1, b1] at f3
  have g3 : Is 3 (nOf 6 :: (a ++ b)) = false := f3
  have f4 := eq_6_4 (l := nOf 6 :: (a ++ b)) rfl
  rw [e0, a2, e1, b2] at f4
  have g4 : Is 4 (nOf 6 :: (a ++ b)) = false := f4
  unfold first
  rw [g1, g2, g3, g4]
  rfl
theorem mk_7_12 {a b : List Nd} (ha : of a = 1) (hb : of b = 2) (hl : a.length + b.length < 200) : of (nOf 7 :: (a ++ b)) = 0 := by
  have wa := (of_one ha).1
  have wb := (of_two hb).1
  obtain ⟨a1, a2, a3, a4⟩ := plain_all (of_one ha).2
  obtain ⟨b1, b2, b3, b4⟩ := paired_all (of_two hb).2.1
  rw [of_whole (whole_mk2 (k := 7) rfl (by decide +kernel) wa wb hl)]
  have hk := (kids_mk (k := 7) rfl (whole_tre wa) (whole_tre wb)).2
  have e0 : k0 (nOf 7 :: (a ++ b)) = a := by unfold k0; rw [hk]; rfl
  have e1 : k1 (nOf 7 :: (a ++ b)) = b := by unfold k1; rw [hk]; rfl
  have f1 := eq_7_1 (l := nOf 7 :: (a ++ b)) rfl
  rw [e0, a1, e1, b1] at f1
  have g1 : Is 1 (nOf 7 :: (a ++ b)) = false := f1
  have f2 := eq_7_2 (l := nOf 7 :: (a ++ b)) rfl
  rw [e0, a2, e1, b2] at f2
  have g2 : Is 2 (nOf 7 :: (a ++ b)) = false := f2
  have f3 := eq_7_3 (l := nOf 7 :: (a ++ b)) rfl
  rw [e0, a1, e1, b1, a3, b3] at f3
  have g3 : Is 3 (nOf 7 :: (a ++ b)) = false := f3
  have f4 := eq_7_4 (l := nOf 7 :: (a ++ b)) rfl
  rw [e0, a2, e1, b2, a4, b4] at f4
  have g4 : Is 4 (nOf 7 :: (a ++ b)) = false := f4
  unfold first
  rw [g1, g2, g3, g4]
  rfl
theorem mk_8_12 {a b : List Nd} (ha : of a = 1) (hb : of b = 2) (hl : a.length + b.length < 200) : of (nOf 8 :: (a ++ b)) = 0 := by
  have wa := (of_one ha).1
  have wb := (of_two hb).1
  obtain ⟨a1, a2, a3, a4⟩ := plain_all (of_one ha).2
  obtain ⟨b1, b2, b3, b4⟩ := paired_all (of_two hb).2.1
  rw [of_whole (whole_mk2 (k := 8) rfl (by decide +kernel) wa wb hl)]
  have hk := (kids_mk (k := 8) rfl (whole_tre wa) (whole_tre wb)).2
  have e0 : k0 (nOf 8 :: (a ++ b)) = a := by unfold k0; rw [hk]; rfl
  have e1 : k1 (nOf 8 :: (a ++ b)) = b := by unfold k1; rw [hk]; rfl
  have f1 := eq_8_1 (l := nOf 8 :: (a ++ b)) rfl
  rw [e0, a1, e1, b1] at f1
  have g1 : Is 1 (nOf 8 :: (a ++ b)) = false := f1
  have f2 := eq_8_2 (l := nOf 8 :: (a ++ b)) rfl
  have g2 : Is 2 (nOf 8 :: (a ++ b)) = false := f2
  have f3 := eq_8_3 (l := nOf 8 :: (a ++ b)) rfl
  rw [e0, a1, e1, b1, a3] at f3
  have g3 : Is 3 (nOf 8 :: (a ++ b)) = false := f3
  have f4 := eq_8_4 (l := nOf 8 :: (a ++ b)) rfl
  have g4 : Is 4 (nOf 8 :: (a ++ b)) = false := f4
  unfold first
  rw [g1, g2, g3, g4]
  rfl
theorem mk_10_12 {a b : List Nd} (ha : of a = 1) (hb : of b = 2) (hl : a.length + b.length < 200) : of (nOf 10 :: (a ++ b)) = 0 := by
  have wa := (of_one ha).1
  have wb := (of_two hb).1
  obtain ⟨a1, a2, a3, a4⟩ := plain_all (of_one ha).2
  obtain ⟨b1, b2, b3, b4⟩ := paired_all (of_two hb).2.1
  rw [of_whole (whole_mk2 (k := 10) rfl (by decide +kernel) wa wb hl)]
  have hk := (kids_mk (k := 10) rfl (whole_tre wa) (whole_tre wb)).2
  have e0 : k0 (nOf 10 :: (a ++ b)) = a := by unfold k0; rw [hk]; rfl
  have e1 : k1 (nOf 10 :: (a ++ b)) = b := by unfold k1; rw [hk]; rfl
  have f1 := eq_10_1 (l := nOf 10 :: (a ++ b)) rfl
  have g1 : Is 1 (nOf 10 :: (a ++ b)) = false := f1
  have f2 := eq_10_2 (l := nOf 10 :: (a ++ b)) rfl
  rw [e0, a1, e1, b1] at f2
  have g2 : Is 2 (nOf 10 :: (a ++ b)) = false := f2
  have f3 := eq_10_3 (l := nOf 10 :: (a ++ b)) rfl
  have g3 : Is 3 (nOf 10 :: (a ++ b)) = false := f3
  have f4 := eq_10_4 (l := nOf 10 :: (a ++ b)) rfl
  rw [e0, a1, e1, b1] at f4
  have g4 : Is 4 (nOf 10 :: (a ++ b)) = false := f4
  unfold first
  rw [g1, g2, g3, g4]
  rfl
theorem mk_5_21 {a b : List Nd} (ha : of a = 2) (hb : of b = 1) (hl : a.length + b.length < 200) : of (nOf 5 :: (a ++ b)) = 0 := by
  have wa := (of_two ha).1
  have wb := (of_one hb).1
  obtain ⟨a1, a2, a3, a4⟩ := paired_all (of_two ha).2.1
  obtain ⟨b1, b2, b3, b4⟩ := plain_all (of_one hb).2
  rw [of_whole (whole_mk2 (k := 5) rfl (by decide +kernel) wa wb hl)]
  have hk := (kids_mk (k := 5) rfl (whole_tre wa) (whole_tre wb)).2
  have e0 : k0 (nOf 5 :: (a ++ b)) = a := by unfold k0; rw [hk]; rfl
  have e1 : k1 (nOf 5 :: (a ++ b)) = b := by unfold k1; rw [hk]; rfl
  have f1 := eq_5_1 (l := nOf 5 :: (a ++ b)) rfl
  rw [e0, a1, e1, b1] at f1
  have g1 : Is 1 (nOf 5 :: (a ++ b)) = false := f1
  have f2 := eq_5_2 (l := nOf 5 :: (a ++ b)) rfl
  rw [e0, a2, e1, b2] at f2
  have g2 : Is 2 (nOf 5 :: (a ++ b)) = false := f2
  have f3 := eq_5_3 (l := nOf 5 :: (a ++ b)) rfl
  rw [e0, a1, e1, b1, a3] at f3
  have g3 : Is 3 (nOf 5 :: (a ++ b)) = false := f3
  have f4 := eq_5_4 (l := nOf 5 :: (a ++ b)) rfl
  rw [e0, a2, e1, b2, a4] at f4
  have g4 : Is 4 (nOf 5 :: (a ++ b)) = false := f4
  unfold first
  rw [g1, g2, g3, g4]
  rfl
theorem mk_6_21 {a b : List Nd} (ha : of a = 2) (hb : of b = 1) (hl : a.length + b.length < 200) : of (nOf 6 :: (a ++ b)) = 0 := by
  have wa := (of_two ha).1
  have wb := (of_one hb).1
  obtain ⟨a1, a2, a3, a4⟩ := paired_all (of_two ha).2.1
  obtain ⟨b1, b2, b3, b4⟩ := plain_all (of_one hb).2
  rw [of_whole (whole_mk2 (k := 6) rfl (by decide +kernel) wa wb hl)]
  have hk := (kids_mk (k := 6) rfl (whole_tre wa) (whole_tre wb)).2
  have e0 : k0 (nOf 6 :: (a ++ b)) = a := by unfold k0; rw [hk]; rfl
  have e1 : k1 (nOf 6 :: (a ++ b)) = b := by unfold k1; rw [hk]; rfl
  have f1 := eq_6_1 (l := nOf 6 :: (a ++ b)) rfl
  rw [e0, a1, e1, b1] at f1
  have g1 : Is 1 (nOf 6 :: (a ++ b)) = false := f1
  have f2 := eq_6_2 (l := nOf 6 :: (a ++ b)) rfl
  rw [e0, a2, e1, b2] at f2
  have g2 : Is 2 (nOf 6 :: (a ++ b)) = false := f2
  have f3 := eq_6_3 (l := nOf 6 :: (a ++ b)) rfl
  rw [e0, a1, e1, b1] at f3
  have g3 : Is 3 (nOf 6 :: (a ++ b)) = false := f3
  have f4 := eq_6_4 (l := nOf 6 :: (a ++ b)) rfl
  rw [e0, a2, e1, b2] at f4
  have g4 : Is 4 (nOf 6 :: (a ++ b)) = false := f4
  unfold first
  rw [g1, g2, g3, g4]
  rfl
theorem mk_7_21 {a b : List Nd} (ha : of a = 2) (hb : of b = 1) (hl : a.length + b.length < 200) : of (nOf 7 :: (a ++ b)) = 0 := by
  have wa := (of_two ha).1
  have wb := (of_one hb).1
  obtain ⟨a1, a2, a3, a4⟩ := paired_all (of_two ha).2.1
  obtain ⟨b1, b2, b3, b4⟩ := plain_all (of_one hb).2
  rw [of_whole (whole_mk2 (k := 7) rfl (by decide +kernel) wa wb hl)]
  have hk := (kids_mk (k := 7) rfl (whole_tre wa) (whole_tre wb)).2
  have e0 : k0 (nOf 7 :: (a ++ b)) = a := by unfold k0; rw [hk]; rfl
  have e1 : k1 (nOf 7 :: (a ++ b)) = b := by unfold k1; rw [hk]; rfl
  have f1 := eq_7_1 (l := nOf 7 :: (a ++ b)) rfl
  rw [e0, a1, e1, b1] at f1
  have g1 : Is 1 (nOf 7 :: (a ++ b)) = false := f1
  have f2 := eq_7_2 (l := nOf 7 :: (a ++ b)) rfl
  rw [e0, a2, e1, b2] at f2
  have g2 : Is 2 (nOf 7 :: (a ++ b)) = false := f2
  have f3 := eq_7_3 (l := nOf 7 :: (a ++ b)) rfl
  rw [e0, a1, e1, b1, a3, b3] at f3
  have g3 : Is 3 (nOf 7 :: (a ++ b)) = false := f3
  have f4 := eq_7_4 (l := nOf 7 :: (a ++ b)) rfl
  rw [e0, a2, e1, b2, a4, b4] at f4
  have g4 : Is 4 (nOf 7 :: (a ++ b)) = false := f4
  unfold first
  rw [g1, g2, g3, g4]
  rfl
theorem mk_8_21 {a b : List Nd} (ha : of a = 2) (hb : of b = 1) (hl : a.length + b.length < 200) : of (nOf 8 :: (a ++ b)) = 0 := by
  have wa := (of_two ha).1
  have wb := (of_one hb).1
  obtain ⟨a1, a2, a3, a4⟩ := paired_all (of_two ha).2.1
  obtain ⟨b1, b2, b3, b4⟩ := plain_all (of_one hb).2
  rw [of_whole (whole_mk2 (k := 8) rfl (by decide +kernel) wa wb hl)]
  have hk := (kids_mk (k := 8) rfl (whole_tre wa) (whole_tre wb)).2
  have e0 : k0 (nOf 8 :: (a ++ b)) = a := by unfold k0; rw [hk]; rfl
  have e1 : k1 (nOf 8 :: (a ++ b)) = b := by unfold k1; rw [hk]; rfl
  have f1 := eq_8_1 (l := nOf 8 :: (a ++ b)) rfl
  rw [e0, a1, e1, b1] at f1
  have g1 : Is 1 (nOf 8 :: (a ++ b)) = false := f1
  have f2 := eq_8_2 (l := nOf 8 :: (a ++ b)) rfl
  have g2 : Is 2 (nOf 8 :: (a ++ b)) = false := f2
  have f3 := eq_8_3 (l := nOf 8 :: (a ++ b)) rfl
  rw [e0, a1, e1, b1, a3] at f3
  have g3 : Is 3 (nOf 8 :: (a ++ b)) = false := f3
  have f4 := eq_8_4 (l := nOf 8 :: (a ++ b)) rfl
  have g4 : Is 4 (nOf 8 :: (a ++ b)) = false := f4
  unfold first
  rw [g1, g2, g3, g4]
  rfl
theorem mk_10_21 {a b : List Nd} (ha : of a = 2) (hb : of b = 1) (hl : a.length + b.length < 200) : of (nOf 10 :: (a ++ b)) = 0 := by
  have wa := (of_two ha).1
  have wb := (of_one hb).1
  obtain ⟨a1, a2, a3, a4⟩ := paired_all (of_two ha).2.1
  obtain ⟨b1, b2, b3, b4⟩ := plain_all (of_one hb).2
  rw [of_whole (whole_mk2 (k := 10) rfl (by decide +kernel) wa wb hl)]
  have hk := (kids_mk (k := 10) rfl (whole_tre wa) (whole_tre wb)).2
  have e0 : k0 (nOf 10 :: (a ++ b)) = a := by unfold k0; rw [hk]; rfl
  have e1 : k1 (nOf 10 :: (a ++ b)) = b := by unfold k1; rw [hk]; rfl
  have f1 := eq_10_1 (l := nOf 10 :: (a ++ b)) rfl
  have g1 : Is 1 (nOf 10 :: (a ++ b)) = false := f1
  have f2 := eq_10_2 (l := nOf 10 :: (a ++ b)) rfl
  rw [e0, a1, e1, b1] at f2
  have g2 : Is 2 (nOf 10 :: (a ++ b)) = false := f2
  have f3 := eq_10_3 (l := nOf 10 :: (a ++ b)) rfl
  have g3 : Is 3 (nOf 10 :: (a ++ b)) = false := f3
  have f4 := eq_10_4 (l := nOf 10 :: (a ++ b)) rfl
  rw [e0, a1, e1, b1] at f4
  have g4 : Is 4 (nOf 10 :: (a ++ b)) = false := f4
  unfold first
  rw [g1, g2, g3, g4]
  rfl
theorem mk_5_22 {a b : List Nd} (ha : of a = 2) (hb : of b = 2) (hl : a.length + b.length < 200) : of (nOf 5 :: (a ++ b)) = 2 := by
  have wa := (of_two ha).1
  have wb := (of_two hb).1
  obtain ⟨a1, a2, a3, a4⟩ := paired_all (of_two ha).2.1
  obtain ⟨b1, b2, b3, b4⟩ := paired_all (of_two hb).2.1
  rw [of_whole (whole_mk2 (k := 5) rfl (by decide +kernel) wa wb hl)]
  have hk := (kids_mk (k := 5) rfl (whole_tre wa) (whole_tre wb)).2
  have e0 : k0 (nOf 5 :: (a ++ b)) = a := by unfold k0; rw [hk]; rfl
  have e1 : k1 (nOf 5 :: (a ++ b)) = b := by unfold k1; rw [hk]; rfl
  have f2 := eq_5_2 (l := nOf 5 :: (a ++ b)) rfl
  rw [e0, a2, e1, b2] at f2
  have g2 : Is 2 (nOf 5 :: (a ++ b)) = true := f2
  exact first_paired g2
theorem mk_6_22 {a b : List Nd} (ha : of a = 2) (hb : of b = 2) (hl : a.length + b.length < 200) : of (nOf 6 :: (a ++ b)) = 2 := by
  have wa := (of_two ha).1
  have wb := (of_two hb).1
  obtain ⟨a1, a2, a3, a4⟩ := paired_all (of_two ha).2.1
  obtain ⟨b1, b2, b3, b4⟩ := paired_all (of_two hb).2.1
  rw [of_whole (whole_mk2 (k := 6) rfl (by decide +kernel) wa wb hl)]
  have hk := (kids_mk (k := 6) rfl (whole_tre wa) (whole_tre wb)).2
  have e0 : k0 (nOf 6 :: (a ++ b)) = a := by unfold k0; rw [hk]; rfl
  have e1 : k1 (nOf 6 :: (a ++ b)) = b := by unfold k1; rw [hk]; rfl
  have f2 := eq_6_2 (l := nOf 6 :: (a ++ b)) rfl
  rw [e0, a2, e1, b2] at f2
  have g2 : Is 2 (nOf 6 :: (a ++ b)) = true := f2
  exact first_paired g2
theorem mk_7_22 {a b : List Nd} (ha : of a = 2) (hb : of b = 2) (hl : a.length + b.length < 200) : of (nOf 7 :: (a ++ b)) = 2 := by
  have wa := (of_two ha).1
  have wb := (of_two hb).1
  obtain ⟨a1, a2, a3, a4⟩ := paired_all (of_two ha).2.1
  obtain ⟨b1, b2, b3, b4⟩ := paired_all (of_two hb).2.1
  rw [of_whole (whole_mk2 (k := 7) rfl (by decide +kernel) wa wb hl)]
  have hk := (kids_mk (k := 7) rfl (whole_tre wa) (whole_tre wb)).2
  have e0 : k0 (nOf 7 :: (a ++ b)) = a := by unfold k0; rw [hk]; rfl
  have e1 : k1 (nOf 7 :: (a ++ b)) = b := by unfold k1; rw [hk]; rfl
  have f2 := eq_7_2 (l := nOf 7 :: (a ++ b)) rfl
  rw [e0, a2, e1, b2] at f2
  have g2 : Is 2 (nOf 7 :: (a ++ b)) = true := f2
  exact first_paired g2
theorem mk_8_22 {a b : List Nd} (ha : of a = 2) (hb : of b = 2) (hl : a.length + b.length < 200) : of (nOf 8 :: (a ++ b)) = 0 := by
  have wa := (of_two ha).1
  have wb := (of_two hb).1
  obtain ⟨a1, a2, a3, a4⟩ := paired_all (of_two ha).2.1
  obtain ⟨b1, b2, b3, b4⟩ := paired_all (of_two hb).2.1
  rw [of_whole (whole_mk2 (k := 8) rfl (by decide +kernel) wa wb hl)]
  have hk := (kids_mk (k := 8) rfl (whole_tre wa) (whole_tre wb)).2
  have e0 : k0 (nOf 8 :: (a ++ b)) = a := by unfold k0; rw [hk]; rfl
  have e1 : k1 (nOf 8 :: (a ++ b)) = b := by unfold k1; rw [hk]; rfl
  have f1 := eq_8_1 (l := nOf 8 :: (a ++ b)) rfl
  rw [e0, a1, e1, b1] at f1
  have g1 : Is 1 (nOf 8 :: (a ++ b)) = false := f1
  have f2 := eq_8_2 (l := nOf 8 :: (a ++ b)) rfl
  have g2 : Is 2 (nOf 8 :: (a ++ b)) = false := f2
  have f3 := eq_8_3 (l := nOf 8 :: (a ++ b)) rfl
  rw [e0, a1, e1, b1, a3] at f3
  have g3 : Is 3 (nOf 8 :: (a ++ b)) = false := f3
  have f4 := eq_8_4 (l := nOf 8 :: (a ++ b)) rfl
  have g4 : Is 4 (nOf 8 :: (a ++ b)) = false := f4
  unfold first
  rw [g1, g2, g3, g4]
  rfl
theorem mk_10_22 {a b : List Nd} (ha : of a = 2) (hb : of b = 2) (hl : a.length + b.length < 200) : of (nOf 10 :: (a ++ b)) = 0 := by
  have wa := (of_two ha).1
  have wb := (of_two hb).1
  obtain ⟨a1, a2, a3, a4⟩ := paired_all (of_two ha).2.1
  obtain ⟨b1, b2, b3, b4⟩ := paired_all (of_two hb).2.1
  rw [of_whole (whole_mk2 (k := 10) rfl (by decide +kernel) wa wb hl)]
  have hk := (kids_mk (k := 10) rfl (whole_tre wa) (whole_tre wb)).2
  have e0 : k0 (nOf 10 :: (a ++ b)) = a := by unfold k0; rw [hk]; rfl
  have e1 : k1 (nOf 10 :: (a ++ b)) = b := by unfold k1; rw [hk]; rfl
  have f1 := eq_10_1 (l := nOf 10 :: (a ++ b)) rfl
  have g1 : Is 1 (nOf 10 :: (a ++ b)) = false := f1
  have f2 := eq_10_2 (l := nOf 10 :: (a ++ b)) rfl
  rw [e0, a1, e1, b1] at f2
  have g2 : Is 2 (nOf 10 :: (a ++ b)) = false := f2
  have f3 := eq_10_3 (l := nOf 10 :: (a ++ b)) rfl
  have g3 : Is 3 (nOf 10 :: (a ++ b)) = false := f3
  have f4 := eq_10_4 (l := nOf 10 :: (a ++ b)) rfl
  rw [e0, a1, e1, b1] at f4
  have g4 : Is 4 (nOf 10 :: (a ++ b)) = false := f4
  unfold first
  rw [g1, g2, g3, g4]
  rfl
theorem mk_nms {k : Int} {a b : List Nd} (ha : Nms a) (hb : Nms b) : Nms (nOf k :: (a ++ b)) := fun x hx => by
  rcases List.mem_cons.1 hx with rfl | hx
  · show (0 : Nat) ≤ _
    exact Nat.zero_le _
  · exact (List.mem_append.1 hx).elim (ha x) (hb x)
theorem rws_new2 {w : World} {v u : Value} {l m : List Nd} (hv : Nds w v l) (hu : Nds w u m) (ty : TypeId) : Rws (w.alloc (.cells #[v, u] ty)) (.slice (some ⟨w.heap.size, 0, none⟩) 2 2) [l, m] := by
  refine ⟨[v, u], ⟨rfl, _, 2, rfl, Nat.le_refl _, fun h => (by cases h), fun _ => ⟨w.heap.size, 0, rfl, fun j y hy => ?_⟩⟩, hv.below ((Below.refl _ _).alloc (Nat.le_refl _) _), hu.below ((Below.refl _ _).alloc (Nat.le_refl _) _), trivial⟩
  rw [Nat.zero_add, World.cell?_alloc_new]
  simpa using hy
/-- The five kinds, in a block of their own. -/
def K5 (kb : Nat) (w : World) : Prop := w.cell? ⟨kb, 0, none⟩ = some (.int .i64 5) ∧ w.cell? ⟨kb, 1, none⟩ = some (.int .i64 6) ∧ w.cell? ⟨kb, 2, none⟩ = some (.int .i64 7) ∧ w.cell? ⟨kb, 3, none⟩ = some (.int .i64 8) ∧ w.cell? ⟨kb, 4, none⟩ = some (.int .i64 10)
theorem K5.below {kb : Nat} {w w' : World} (h : K5 kb w) (hb : Below w.heap.size w w') : K5 kb w' := by
  obtain ⟨h0, h1, h2, h3, h4⟩ := h
  have hlt := Ap.cell_lt h0
  exact ⟨by rw [hb.cell (p := ⟨kb, 0, none⟩) hlt]; exact h0, by rw [hb.cell (p := ⟨kb, 1, none⟩) hlt]; exact h1, by rw [hb.cell (p := ⟨kb, 2, none⟩) hlt]; exact h2, by rw [hb.cell (p := ⟨kb, 3, none⟩) hlt]; exact h3, by rw [hb.cell (p := ⟨kb, 4, none⟩) hlt]; exact h4⟩
theorem K5.new (w : World) (ty : TypeId) : K5 w.heap.size (w.alloc (.cells #[.int .i64 5, .int .i64 6, .int .i64 7, .int .i64 8, .int .i64 10] ty)) := ⟨by simp, by simp, by simp, by simp, by simp⟩

set_option maxHeartbeats 20000000 in
theorem makes_law (C : Con) (v u : Value) (l m : List Nd) (w : World) (hv : Nds w v l) (hu : Nds w u m) (hml : Nms l) (hmm : Nms m) :
    Calls Try.prog 6 #[v, u] w fun e w' => e = .returned (.bool true) ∧ Below w.heap.size w w' := by
  have J : Hid (Kq w v u l m w) := ⟨Below.refl _ _, hv, hu⟩
  have HML := Lib.hid hml
  have HMM := Lib.hid hmm
  obtain ⟨_, a, cap, rfl, -⟩ := hv
  obtain ⟨_, a1, cap1, rfl, -⟩ := hu
  clear hml hmm
  go_enter Try.func6, Try.ntmps6
  go_wp2_with fail
  refine (few_any _ l _ J.out.nds).mono ?_
  cases hf : fewB l with
  | false =>
    rintro e w' ⟨rfl, rfl⟩
    go_wp2_with fail
    refine (alive_any C _).mono ?_
    rintro e wn ⟨rfl, hb⟩
    replace J := Lib.hid (J.out.below hb)
    clear hb
    go_wp2_with fail
    go_ret
    exact ⟨rfl, J.out.bel⟩
  | true =>
  have hl := few_len hf
  clear hf
  rintro e w' ⟨rfl, rfl⟩
  go_wp2_with fail
  refine (few_any _ m _ J.out.m).mono ?_
  cases hf : fewB m with
  | false =>
    rintro e w' ⟨rfl, rfl⟩
    go_wp2_with fail
    refine (alive_any C _).mono ?_
    rintro e wn ⟨rfl, hb⟩
    replace J := Lib.hid (J.out.below hb)
    clear hb
    go_wp2_with fail
    go_ret
    exact ⟨rfl, J.out.bel⟩
  | true =>
  have hlm := few_len hf
  clear hf
  rintro e w' ⟨rfl, rfl⟩
  by_cases hsum : l.length + m.length < 200
  case neg =>
    have hs2 : 200 ≤ l.length + m.length := by omega
    have hs3 : (200 : Int) ≤ (l.length : Int) + (m.length : Int) := by omega
    clear hsum
    go_wp2_with fail
    refine (alive_any C _).mono ?_
    rintro e wn ⟨rfl, hb⟩
    replace J := Lib.hid (J.out.below hb)
    clear hb
    go_wp2_with fail
    go_ret
    exact ⟨rfl, J.out.bel⟩
  have hs3 : ¬ (200 : Int) ≤ (l.length : Int) + (m.length : Int) := by omega
  have hs4 : (l.length : Int) + (m.length : Int) < 200 := by omega
  have hz1 := of_cases l
  have hz2 := of_cases m
  obtain ⟨z1, hzz1⟩ : ∃ z, of l = z := ⟨_, rfl⟩
  obtain ⟨z2, hzz2⟩ : ∃ z, of m = z := ⟨_, rfl⟩
  have HZ1 := Lib.hid hzz1
  have HZ2 := Lib.hid hzz2
  rw [hzz1] at hz1
  rw [hzz2] at hz2
  clear hzz1 hzz2
  have HW := Lib.hid (fun w' (h : Kq w (.slice a l.length cap) (.slice a1 m.length cap1) l m w') => rws_new2 h.nds h.m 22)
  have HB0 := Lib.hid (fun w' : World => (Below.refl w'.heap.size w').alloc (Nat.le_refl _) (.cells #[.slice a l.length cap, .slice a1 m.length cap1] 22))
  have HK5 := Lib.hid (fun w' : World => K5.new w' 3)
  have HBK := Lib.hid (fun w' : World => (Below.refl w'.heap.size w').alloc (Nat.le_refl _) (.cells #[.int .i64 5, .int .i64 6, .int .i64 7, .int .i64 8, .int .i64 10] 3))
  have HNM := Lib.hid (fun k => mk_nms (k := k) HML.out HMM.out)
  go_wp2_with fail
  refine (C.cOf _ l _ J.out.nds (by omega) HML.out).mono ?_
  rw [HZ1.out]
  rintro e wn ⟨rfl, hb⟩
  replace J := Lib.hid (J.out.below hb)
  clear hb
  go_wp2_with fail
  refine (C.cOf _ m _ J.out.m (by omega) HMM.out).mono ?_
  rw [HZ2.out]
  rintro e wn ⟨rfl, hb⟩
  replace J := Lib.hid (J.out.below hb)
  clear hb
  rcases hz1 with rfl | rfl | rfl | rfl | rfl
  · rcases hz2 with rfl | rfl | rfl | rfl | rfl
    · go_wp2_with fail
      refine (alive_any C _).mono ?_
      rintro e wn ⟨rfl, hb⟩
      replace J := Lib.hid (J.out.below hb)
      clear hb
      go_wp2_with fail
      go_ret
      exact ⟨rfl, J.out.bel⟩
    · go_wp2_with fail
      refine (alive_any C _).mono ?_
      rintro e wn ⟨rfl, hb⟩
      replace J := Lib.hid (J.out.below hb)
      clear hb
      go_wp2_with fail
      go_ret
      exact ⟨rfl, J.out.bel⟩
    · go_wp2_with fail
      refine (alive_any C _).mono ?_
      rintro e wn ⟨rfl, hb⟩
      replace J := Lib.hid (J.out.below hb)
      clear hb
      go_wp2_with fail
      go_ret
      exact ⟨rfl, J.out.bel⟩
    · go_wp2_with fail
      refine (alive_any C _).mono ?_
      rintro e wn ⟨rfl, hb⟩
      replace J := Lib.hid (J.out.below hb)
      clear hb
      go_wp2_with fail
      go_ret
      exact ⟨rfl, J.out.bel⟩
    · go_wp2_with fail
      refine (alive_any C _).mono ?_
      rintro e wn ⟨rfl, hb⟩
      replace J := Lib.hid (J.out.below hb)
      clear hb
      go_wp2_with fail
      go_ret
      exact ⟨rfl, J.out.bel⟩
  · rcases hz2 with rfl | rfl | rfl | rfl | rfl
    · go_wp2_with fail
      refine (alive_any C _).mono ?_
      rintro e wn ⟨rfl, hb⟩
      replace J := Lib.hid (J.out.below hb)
      clear hb
      go_wp2_with fail
      go_ret
      exact ⟨rfl, J.out.bel⟩
    · have hno : True := trivial
      go_wp2_with fail
      obtain ⟨kb, hkb⟩ : ∃ kb, wn.heap.size = kb := ⟨_, rfl⟩
      have K := Lib.hid (HK5.out wn)
      have J2 := Lib.hid (J.out.below (HBK.out wn))
      rw [hkb] at K ⊢
      clear J hkb
      go_loopw [8, 9, 48, 52, 56, 63] (fun _ _ i _ _ _ wr => ∃ j : Int, 0 ≤ j ∧ j ≤ 5 ∧ i = .int .i64 j ∧ Hid (Kq w (.slice a l.length cap) (.slice a1 m.length cap1) l m wr) ∧ Hid (K5 kb wr)) (fun _ _ i _ _ _ _ => (5 - intOf i).toNat)
      case atStart => exact ⟨0, by omega, by omega, rfl, J2, K⟩
      case round =>
        clear J2 K
        obtain ⟨j, hj0, hj5, rfl, J, K⟩ := hrel
        have hjj : j = 0 ∨ j = 1 ∨ j = 2 ∨ j = 3 ∨ j = 4 ∨ j = 5 := by omega
        clear hj0 hj5
        obtain ⟨q0, q1, q2, q3, q4⟩ := K.out
        rcases hjj with rfl | rfl | rfl | rfl | rfl | rfl
        · have HMK := Lib.hid (mk_5_11 HZ1.out HZ2.out hsum)
          go_wp2_with fail
          refine (C.cMake (nOf 5) _ [l, m] _ (HW.out _ J.out) (by simp) (by simp; omega)).mono ?_
          rintro e wm ⟨y, rfl, hy, hb⟩
          replace J := Lib.hid ((J.out.below (HB0.out _)).below hb)
          replace K := Lib.hid ((K.out.below (HB0.out _)).below hb)
          have Y : Hid (Nds wm y (nOf 5 :: (l ++ m))) := Lib.hid (by simpa using hy)
          clear hy hb q0 q1 q2 q3 q4
          go_wp2_with fail
          refine (C.cOf _ (nOf 5 :: (l ++ m)) _ Y.out (by simp; omega) (HNM.out 5)).mono ?_
          rw [HMK.out]
          rintro e wo ⟨rfl, hb⟩
          replace J := Lib.hid (J.out.below hb)
          replace K := Lib.hid (K.out.below hb)
          clear hb
          go_wp2_with fail
          go_roundw
          case rel => exact ⟨1, by omega, by omega, rfl, J, K⟩
          case measure => simp [intOf]
        · have HMK := Lib.hid (mk_6_11 HZ1.out HZ2.out hsum)
          go_wp2_with fail
          refine (C.cMake (nOf 6) _ [l, m] _ (HW.out _ J.out) (by simp) (by simp; omega)).mono ?_
          rintro e wm ⟨y, rfl, hy, hb⟩
          replace J := Lib.hid ((J.out.below (HB0.out _)).below hb)
          replace K := Lib.hid ((K.out.below (HB0.out _)).below hb)
          have Y : Hid (Nds wm y (nOf 6 :: (l ++ m))) := Lib.hid (by simpa using hy)
          clear hy hb q0 q1 q2 q3 q4
          go_wp2_with fail
          refine (C.cOf _ (nOf 6 :: (l ++ m)) _ Y.out (by simp; omega) (HNM.out 6)).mono ?_
          rw [HMK.out]
          rintro e wo ⟨rfl, hb⟩
          replace J := Lib.hid (J.out.below hb)
          replace K := Lib.hid (K.out.below hb)
          clear hb
          go_wp2_with fail
          go_roundw
          case rel => exact ⟨2, by omega, by omega, rfl, J, K⟩
          case measure => simp [intOf]
        · have HMK := Lib.hid (mk_7_11 HZ1.out HZ2.out hsum)
          go_wp2_with fail
          refine (C.cMake (nOf 7) _ [l, m] _ (HW.out _ J.out) (by simp) (by simp; omega)).mono ?_
          rintro e wm ⟨y, rfl, hy, hb⟩
          replace J := Lib.hid ((J.out.below (HB0.out _)).below hb)
          replace K := Lib.hid ((K.out.below (HB0.out _)).below hb)
          have Y : Hid (Nds wm y (nOf 7 :: (l ++ m))) := Lib.hid (by simpa using hy)
          clear hy hb q0 q1 q2 q3 q4
          go_wp2_with fail
          refine (C.cOf _ (nOf 7 :: (l ++ m)) _ Y.out (by simp; omega) (HNM.out 7)).mono ?_
          rw [HMK.out]
          rintro e wo ⟨rfl, hb⟩
          replace J := Lib.hid (J.out.below hb)
          replace K := Lib.hid (K.out.below hb)
          clear hb
          go_wp2_with fail
          go_roundw
          case rel => exact ⟨3, by omega, by omega, rfl, J, K⟩
          case measure => simp [intOf]
        · have HMK := Lib.hid (mk_8_11 HZ1.out HZ2.out hsum)
          go_wp2_with fail
          refine (C.cMake (nOf 8) _ [l, m] _ (HW.out _ J.out) (by simp) (by simp; omega)).mono ?_
          rintro e wm ⟨y, rfl, hy, hb⟩
          replace J := Lib.hid ((J.out.below (HB0.out _)).below hb)
          replace K := Lib.hid ((K.out.below (HB0.out _)).below hb)
          have Y : Hid (Nds wm y (nOf 8 :: (l ++ m))) := Lib.hid (by simpa using hy)
          clear hy hb q0 q1 q2 q3 q4
          go_wp2_with fail
          refine (C.cOf _ (nOf 8 :: (l ++ m)) _ Y.out (by simp; omega) (HNM.out 8)).mono ?_
          rw [HMK.out]
          rintro e wo ⟨rfl, hb⟩
          replace J := Lib.hid (J.out.below hb)
          replace K := Lib.hid (K.out.below hb)
          clear hb
          go_wp2_with fail
          go_roundw
          case rel => exact ⟨4, by omega, by omega, rfl, J, K⟩
          case measure => simp [intOf]
        · have HMK := Lib.hid (mk_10_11 HZ1.out HZ2.out hsum)
          go_wp2_with fail
          refine (C.cMake (nOf 10) _ [l, m] _ (HW.out _ J.out) (by simp) (by simp; omega)).mono ?_
          rintro e wm ⟨y, rfl, hy, hb⟩
          replace J := Lib.hid ((J.out.below (HB0.out _)).below hb)
          replace K := Lib.hid ((K.out.below (HB0.out _)).below hb)
          have Y : Hid (Nds wm y (nOf 10 :: (l ++ m))) := Lib.hid (by simpa using hy)
          clear hy hb q0 q1 q2 q3 q4
          go_wp2_with fail
          refine (C.cOf _ (nOf 10 :: (l ++ m)) _ Y.out (by simp; omega) (HNM.out 10)).mono ?_
          rw [HMK.out]
          rintro e wo ⟨rfl, hb⟩
          replace J := Lib.hid (J.out.below hb)
          replace K := Lib.hid (K.out.below hb)
          clear hb
          go_wp2_with fail
          go_roundw
          case rel => exact ⟨5, by omega, by omega, rfl, J, K⟩
          case measure => simp [intOf]
        · clear q0 q1 q2 q3 q4
          go_wp2_with fail
          refine (alive_any C _).mono ?_
          rintro e wn ⟨rfl, hb⟩
          replace J := Lib.hid (J.out.below hb)
          clear hb
          go_wp2_with fail
          go_ret
          exact ⟨rfl, J.out.bel⟩
    · have hno : True := trivial
      go_wp2_with fail
      obtain ⟨kb, hkb⟩ : ∃ kb, wn.heap.size = kb := ⟨_, rfl⟩
      have K := Lib.hid (HK5.out wn)
      have J2 := Lib.hid (J.out.below (HBK.out wn))
      rw [hkb] at K ⊢
      clear J hkb
      go_loopw [8, 9, 48, 52, 56, 63] (fun _ _ i _ _ _ wr => ∃ j : Int, 0 ≤ j ∧ j ≤ 5 ∧ i = .int .i64 j ∧ Hid (Kq w (.slice a l.length cap) (.slice a1 m.length cap1) l m wr) ∧ Hid (K5 kb wr)) (fun _ _ i _ _ _ _ => (5 - intOf i).toNat)
      case atStart => exact ⟨0, by omega, by omega, rfl, J2, K⟩
      case round =>
        clear J2 K
        obtain ⟨j, hj0, hj5, rfl, J, K⟩ := hrel
        have hjj : j = 0 ∨ j = 1 ∨ j = 2 ∨ j = 3 ∨ j = 4 ∨ j = 5 := by omega
        clear hj0 hj5
        obtain ⟨q0, q1, q2, q3, q4⟩ := K.out
        rcases hjj with rfl | rfl | rfl | rfl | rfl | rfl
        · have HMK := Lib.hid (mk_5_12 HZ1.out HZ2.out hsum)
          go_wp2_with fail
          refine (C.cMake (nOf 5) _ [l, m] _ (HW.out _ J.out) (by simp) (by simp; omega)).mono ?_
          rintro e wm ⟨y, rfl, hy, hb⟩
          replace J := Lib.hid ((J.out.below (HB0.out _)).below hb)
          replace K := Lib.hid ((K.out.below (HB0.out _)).below hb)
          have Y : Hid (Nds wm y (nOf 5 :: (l ++ m))) := Lib.hid (by simpa using hy)
          clear hy hb q0 q1 q2 q3 q4
          go_wp2_with fail
          refine (C.cOf _ (nOf 5 :: (l ++ m)) _ Y.out (by simp; omega) (HNM.out 5)).mono ?_
          rw [HMK.out]
          rintro e wo ⟨rfl, hb⟩
          replace J := Lib.hid (J.out.below hb)
          replace K := Lib.hid (K.out.below hb)
          clear hb
          go_wp2_with fail
          go_roundw
          case rel => exact ⟨1, by omega, by omega, rfl, J, K⟩
          case measure => simp [intOf]
        · have HMK := Lib.hid (mk_6_12 HZ1.out HZ2.out hsum)
          go_wp2_with fail
          refine (C.cMake (nOf 6) _ [l, m] _ (HW.out _ J.out) (by simp) (by simp; omega)).mono ?_
          rintro e wm ⟨y, rfl, hy, hb⟩
          replace J := Lib.hid ((J.out.below (HB0.out _)).below hb)
          replace K := Lib.hid ((K.out.below (HB0.out _)).below hb)
          have Y : Hid (Nds wm y (nOf 6 :: (l ++ m))) := Lib.hid (by simpa using hy)
          clear hy hb q0 q1 q2 q3 q4
          go_wp2_with fail
          refine (C.cOf _ (nOf 6 :: (l ++ m)) _ Y.out (by simp; omega) (HNM.out 6)).mono ?_
          rw [HMK.out]
          rintro e wo ⟨rfl, hb⟩
          replace J := Lib.hid (J.out.below hb)
          replace K := Lib.hid (K.out.below hb)
          clear hb
          go_wp2_with fail
          go_roundw
          case rel => exact ⟨2, by omega, by omega, rfl, J, K⟩
          case measure => simp [intOf]
        · have HMK := Lib.hid (mk_7_12 HZ1.out HZ2.out hsum)
          go_wp2_with fail
          refine (C.cMake (nOf 7) _ [l, m] _ (HW.out _ J.out) (by simp) (by simp; omega)).mono ?_
          rintro e wm ⟨y, rfl, hy, hb⟩
          replace J := Lib.hid ((J.out.below (HB0.out _)).below hb)
          replace K := Lib.hid ((K.out.below (HB0.out _)).below hb)
          have Y : Hid (Nds wm y (nOf 7 :: (l ++ m))) := Lib.hid (by simpa using hy)
          clear hy hb q0 q1 q2 q3 q4
          go_wp2_with fail
          refine (C.cOf _ (nOf 7 :: (l ++ m)) _ Y.out (by simp; omega) (HNM.out 7)).mono ?_
          rw [HMK.out]
          rintro e wo ⟨rfl, hb⟩
          replace J := Lib.hid (J.out.below hb)
          replace K := Lib.hid (K.out.below hb)
          clear hb
          go_wp2_with fail
          go_roundw
          case rel => exact ⟨3, by omega, by omega, rfl, J, K⟩
          case measure => simp [intOf]
        · have HMK := Lib.hid (mk_8_12 HZ1.out HZ2.out hsum)
          go_wp2_with fail
          refine (C.cMake (nOf 8) _ [l, m] _ (HW.out _ J.out) (by simp) (by simp; omega)).mono ?_
          rintro e wm ⟨y, rfl, hy, hb⟩
          replace J := Lib.hid ((J.out.below (HB0.out _)).below hb)
          replace K := Lib.hid ((K.out.below (HB0.out _)).below hb)
          have Y : Hid (Nds wm y (nOf 8 :: (l ++ m))) := Lib.hid (by simpa using hy)
          clear hy hb q0 q1 q2 q3 q4
          go_wp2_with fail
          refine (C.cOf _ (nOf 8 :: (l ++ m)) _ Y.out (by simp; omega) (HNM.out 8)).mono ?_
          rw [HMK.out]
          rintro e wo ⟨rfl, hb⟩
          replace J := Lib.hid (J.out.below hb)
          replace K := Lib.hid (K.out.below hb)
          clear hb
          go_wp2_with fail
          go_roundw
          case rel => exact ⟨4, by omega, by omega, rfl, J, K⟩
          case measure => simp [intOf]
        · have HMK := Lib.hid (mk_10_12 HZ1.out HZ2.out hsum)
          go_wp2_with fail
          refine (C.cMake (nOf 10) _ [l, m] _ (HW.out _ J.out) (by simp) (by simp; omega)).mono ?_
          rintro e wm ⟨y, rfl, hy, hb⟩
          replace J := Lib.hid ((J.out.below (HB0.out _)).below hb)
          replace K := Lib.hid ((K.out.below (HB0.out _)).below hb)
          have Y : Hid (Nds wm y (nOf 10 :: (l ++ m))) := Lib.hid (by simpa using hy)
          clear hy hb q0 q1 q2 q3 q4
          go_wp2_with fail
          refine (C.cOf _ (nOf 10 :: (l ++ m)) _ Y.out (by simp; omega) (HNM.out 10)).mono ?_
          rw [HMK.out]
          rintro e wo ⟨rfl, hb⟩
          replace J := Lib.hid (J.out.below hb)
          replace K := Lib.hid (K.out.below hb)
          clear hb
          go_wp2_with fail
          go_roundw
          case rel => exact ⟨5, by omega, by omega, rfl, J, K⟩
          case measure => simp [intOf]
        · clear q0 q1 q2 q3 q4
          go_wp2_with fail
          refine (alive_any C _).mono ?_
          rintro e wn ⟨rfl, hb⟩
          replace J := Lib.hid (J.out.below hb)
          clear hb
          go_wp2_with fail
          go_ret
          exact ⟨rfl, J.out.bel⟩
    · go_wp2_with fail
      refine (alive_any C _).mono ?_
      rintro e wn ⟨rfl, hb⟩
      replace J := Lib.hid (J.out.below hb)
      clear hb
      go_wp2_with fail
      go_ret
      exact ⟨rfl, J.out.bel⟩
    · go_wp2_with fail
      refine (alive_any C _).mono ?_
      rintro e wn ⟨rfl, hb⟩
      replace J := Lib.hid (J.out.below hb)
      clear hb
      go_wp2_with fail
      go_ret
      exact ⟨rfl, J.out.bel⟩
  · rcases hz2 with rfl | rfl | rfl | rfl | rfl
    · go_wp2_with fail
      refine (alive_any C _).mono ?_
      rintro e wn ⟨rfl, hb⟩
      replace J := Lib.hid (J.out.below hb)
      clear hb
      go_wp2_with fail
      go_ret
      exact ⟨rfl, J.out.bel⟩
    · have hno : True := trivial
      go_wp2_with fail
      obtain ⟨kb, hkb⟩ : ∃ kb, wn.heap.size = kb := ⟨_, rfl⟩
      have K := Lib.hid (HK5.out wn)
      have J2 := Lib.hid (J.out.below (HBK.out wn))
      rw [hkb] at K ⊢
      clear J hkb
      go_loopw [8, 9, 48, 52, 56, 63] (fun _ _ i _ _ _ wr => ∃ j : Int, 0 ≤ j ∧ j ≤ 5 ∧ i = .int .i64 j ∧ Hid (Kq w (.slice a l.length cap) (.slice a1 m.length cap1) l m wr) ∧ Hid (K5 kb wr)) (fun _ _ i _ _ _ _ => (5 - intOf i).toNat)
      case atStart => exact ⟨0, by omega, by omega, rfl, J2, K⟩
      case round =>
        clear J2 K
        obtain ⟨j, hj0, hj5, rfl, J, K⟩ := hrel
        have hjj : j = 0 ∨ j = 1 ∨ j = 2 ∨ j = 3 ∨ j = 4 ∨ j = 5 := by omega
        clear hj0 hj5
        obtain ⟨q0, q1, q2, q3, q4⟩ := K.out
        rcases hjj with rfl | rfl | rfl | rfl | rfl | rfl
        · have HMK := Lib.hid (mk_5_21 HZ1.out HZ2.out hsum)
          go_wp2_with fail
          refine (C.cMake (nOf 5) _ [l, m] _ (HW.out _ J.out) (by simp) (by simp; omega)).mono ?_
          rintro e wm ⟨y, rfl, hy, hb⟩
          replace J := Lib.hid ((J.out.below (HB0.out _)).below hb)
          replace K := Lib.hid ((K.out.below (HB0.out _)).below hb)
          have Y : Hid (Nds wm y (nOf 5 :: (l ++ m))) := Lib.hid (by simpa using hy)
          clear hy hb q0 q1 q2 q3 q4
          go_wp2_with fail
          refine (C.cOf _ (nOf 5 :: (l ++ m)) _ Y.out (by simp; omega) (HNM.out 5)).mono ?_
          rw [HMK.out]
          rintro e wo ⟨rfl, hb⟩
          replace J := Lib.hid (J.out.below hb)
          replace K := Lib.hid (K.out.below hb)
          clear hb
          go_wp2_with fail
          go_roundw
          case rel => exact ⟨1, by omega, by omega, rfl, J, K⟩
          case measure => simp [intOf]
        · have HMK := Lib.hid (mk_6_21 HZ1.out HZ2.out hsum)
          go_wp2_with fail
          refine (C.cMake (nOf 6) _ [l, m] _ (HW.out _ J.out) (by simp) (by simp; omega)).mono ?_
          rintro e wm ⟨y, rfl, hy, hb⟩
          replace J := Lib.hid ((J.out.below (HB0.out _)).below hb)
          replace K := Lib.hid ((K.out.below (HB0.out _)).below hb)
          have Y : Hid (Nds wm y (nOf 6 :: (l ++ m))) := Lib.hid (by simpa using hy)
          clear hy hb q0 q1 q2 q3 q4
          go_wp2_with fail
          refine (C.cOf _ (nOf 6 :: (l ++ m)) _ Y.out (by simp; omega) (HNM.out 6)).mono ?_
          rw [HMK.out]
          rintro e wo ⟨rfl, hb⟩
          replace J := Lib.hid (J.out.below hb)
          replace K := Lib.hid (K.out.below hb)
          clear hb
          go_wp2_with fail
          go_roundw
          case rel => exact ⟨2, by omega, by omega, rfl, J, K⟩
          case measure => simp [intOf]
        · have HMK := Lib.hid (mk_7_21 HZ1.out HZ2.out hsum)
          go_wp2_with fail
          refine (C.cMake (nOf 7) _ [l, m] _ (HW.out _ J.out) (by simp) (by simp; omega)).mono ?_
          rintro e wm ⟨y, rfl, hy, hb⟩
          replace J := Lib.hid ((J.out.below (HB0.out _)).below hb)
          replace K := Lib.hid ((K.out.below (HB0.out _)).below hb)
          have Y : Hid (Nds wm y (nOf 7 :: (l ++ m))) := Lib.hid (by simpa using hy)
          clear hy hb q0 q1 q2 q3 q4
          go_wp2_with fail
          refine (C.cOf _ (nOf 7 :: (l ++ m)) _ Y.out (by simp; omega) (HNM.out 7)).mono ?_
          rw [HMK.out]
          rintro e wo ⟨rfl, hb⟩
          replace J := Lib.hid (J.out.below hb)
          replace K := Lib.hid (K.out.below hb)
          clear hb
          go_wp2_with fail
          go_roundw
          case rel => exact ⟨3, by omega, by omega, rfl, J, K⟩
          case measure => simp [intOf]
        · have HMK := Lib.hid (mk_8_21 HZ1.out HZ2.out hsum)
          go_wp2_with fail
          refine (C.cMake (nOf 8) _ [l, m] _ (HW.out _ J.out) (by simp) (by simp; omega)).mono ?_
          rintro e wm ⟨y, rfl, hy, hb⟩
          replace J := Lib.hid ((J.out.below (HB0.out _)).below hb)
          replace K := Lib.hid ((K.out.below (HB0.out _)).below hb)
          have Y : Hid (Nds wm y (nOf 8 :: (l ++ m))) := Lib.hid (by simpa using hy)
          clear hy hb q0 q1 q2 q3 q4
          go_wp2_with fail
          refine (C.cOf _ (nOf 8 :: (l ++ m)) _ Y.out (by simp; omega) (HNM.out 8)).mono ?_
          rw [HMK.out]
          rintro e wo ⟨rfl, hb⟩
          replace J := Lib.hid (J.out.below hb)
          replace K := Lib.hid (K.out.below hb)
          clear hb
          go_wp2_with fail
          go_roundw
          case rel => exact ⟨4, by omega, by omega, rfl, J, K⟩
          case measure => simp [intOf]
        · have HMK := Lib.hid (mk_10_21 HZ1.out HZ2.out hsum)
          go_wp2_with fail
          refine (C.cMake (nOf 10) _ [l, m] _ (HW.out _ J.out) (by simp) (by simp; omega)).mono ?_
          rintro e wm ⟨y, rfl, hy, hb⟩
          replace J := Lib.hid ((J.out.below (HB0.out _)).below hb)
          replace K := Lib.hid ((K.out.below (HB0.out _)).below hb)
          have Y : Hid (Nds wm y (nOf 10 :: (l ++ m))) := Lib.hid (by simpa using hy)
          clear hy hb q0 q1 q2 q3 q4
          go_wp2_with fail
          refine (C.cOf _ (nOf 10 :: (l ++ m)) _ Y.out (by simp; omega) (HNM.out 10)).mono ?_
          rw [HMK.out]
          rintro e wo ⟨rfl, hb⟩
          replace J := Lib.hid (J.out.below hb)
          replace K := Lib.hid (K.out.below hb)
          clear hb
          go_wp2_with fail
          go_roundw
          case rel => exact ⟨5, by omega, by omega, rfl, J, K⟩
          case measure => simp [intOf]
        · clear q0 q1 q2 q3 q4
          go_wp2_with fail
          refine (alive_any C _).mono ?_
          rintro e wn ⟨rfl, hb⟩
          replace J := Lib.hid (J.out.below hb)
          clear hb
          go_wp2_with fail
          go_ret
          exact ⟨rfl, J.out.bel⟩
    · have hno : True := trivial
      go_wp2_with fail
      obtain ⟨kb, hkb⟩ : ∃ kb, wn.heap.size = kb := ⟨_, rfl⟩
      have K := Lib.hid (HK5.out wn)
      have J2 := Lib.hid (J.out.below (HBK.out wn))
      rw [hkb] at K ⊢
      clear J hkb
      go_loopw [8, 9, 48, 52, 56, 63] (fun _ _ i _ _ _ wr => ∃ j : Int, 0 ≤ j ∧ j ≤ 5 ∧ i = .int .i64 j ∧ Hid (Kq w (.slice a l.length cap) (.slice a1 m.length cap1) l m wr) ∧ Hid (K5 kb wr)) (fun _ _ i _ _ _ _ => (5 - intOf i).toNat)
      case atStart => exact ⟨0, by omega, by omega, rfl, J2, K⟩
      case round =>
        clear J2 K
        obtain ⟨j, hj0, hj5, rfl, J, K⟩ := hrel
        have hjj : j = 0 ∨ j = 1 ∨ j = 2 ∨ j = 3 ∨ j = 4 ∨ j = 5 := by omega
        clear hj0 hj5
        obtain ⟨q0, q1, q2, q3, q4⟩ := K.out
        rcases hjj with rfl | rfl | rfl | rfl | rfl | rfl
        · have HMK := Lib.hid (mk_5_22 HZ1.out HZ2.out hsum)
          go_wp2_with fail
          refine (C.cMake (nOf 5) _ [l, m] _ (HW.out _ J.out) (by simp) (by simp; omega)).mono ?_
          rintro e wm ⟨y, rfl, hy, hb⟩
          replace J := Lib.hid ((J.out.below (HB0.out _)).below hb)
          replace K := Lib.hid ((K.out.below (HB0.out _)).below hb)
          have Y : Hid (Nds wm y (nOf 5 :: (l ++ m))) := Lib.hid (by simpa using hy)
          clear hy hb q0 q1 q2 q3 q4
          go_wp2_with fail
          refine (C.cOf _ (nOf 5 :: (l ++ m)) _ Y.out (by simp; omega) (HNM.out 5)).mono ?_
          rw [HMK.out]
          rintro e wo ⟨rfl, hb⟩
          replace J := Lib.hid (J.out.below hb)
          replace K := Lib.hid (K.out.below hb)
          clear hb
          go_wp2_with fail
          go_roundw
          case rel => exact ⟨1, by omega, by omega, rfl, J, K⟩
          case measure => simp [intOf]
        · have HMK := Lib.hid (mk_6_22 HZ1.out HZ2.out hsum)
          go_wp2_with fail
          refine (C.cMake (nOf 6) _ [l, m] _ (HW.out _ J.out) (by simp) (by simp; omega)).mono ?_
          rintro e wm ⟨y, rfl, hy, hb⟩
          replace J := Lib.hid ((J.out.below (HB0.out _)).below hb)
          replace K := Lib.hid ((K.out.below (HB0.out _)).below hb)
          have Y : Hid (Nds wm y (nOf 6 :: (l ++ m))) := Lib.hid (by simpa using hy)
          clear hy hb q0 q1 q2 q3 q4
          go_wp2_with fail
          refine (C.cOf _ (nOf 6 :: (l ++ m)) _ Y.out (by simp; omega) (HNM.out 6)).mono ?_
          rw [HMK.out]
          rintro e wo ⟨rfl, hb⟩
          replace J := Lib.hid (J.out.below hb)
          replace K := Lib.hid (K.out.below hb)
          clear hb
          go_wp2_with fail
          go_roundw
          case rel => exact ⟨2, by omega, by omega, rfl, J, K⟩
          case measure => simp [intOf]
        · have HMK := Lib.hid (mk_7_22 HZ1.out HZ2.out hsum)
          go_wp2_with fail
          refine (C.cMake (nOf 7) _ [l, m] _ (HW.out _ J.out) (by simp) (by simp; omega)).mono ?_
          rintro e wm ⟨y, rfl, hy, hb⟩
          replace J := Lib.hid ((J.out.below (HB0.out _)).below hb)
          replace K := Lib.hid ((K.out.below (HB0.out _)).below hb)
          have Y : Hid (Nds wm y (nOf 7 :: (l ++ m))) := Lib.hid (by simpa using hy)
          clear hy hb q0 q1 q2 q3 q4
          go_wp2_with fail
          refine (C.cOf _ (nOf 7 :: (l ++ m)) _ Y.out (by simp; omega) (HNM.out 7)).mono ?_
          rw [HMK.out]
          rintro e wo ⟨rfl, hb⟩
          replace J := Lib.hid (J.out.below hb)
          replace K := Lib.hid (K.out.below hb)
          clear hb
          go_wp2_with fail
          go_roundw
          case rel => exact ⟨3, by omega, by omega, rfl, J, K⟩
          case measure => simp [intOf]
        · have HMK := Lib.hid (mk_8_22 HZ1.out HZ2.out hsum)
          go_wp2_with fail
          refine (C.cMake (nOf 8) _ [l, m] _ (HW.out _ J.out) (by simp) (by simp; omega)).mono ?_
          rintro e wm ⟨y, rfl, hy, hb⟩
          replace J := Lib.hid ((J.out.below (HB0.out _)).below hb)
          replace K := Lib.hid ((K.out.below (HB0.out _)).below hb)
          have Y : Hid (Nds wm y (nOf 8 :: (l ++ m))) := Lib.hid (by simpa using hy)
          clear hy hb q0 q1 q2 q3 q4
          go_wp2_with fail
          refine (C.cOf _ (nOf 8 :: (l ++ m)) _ Y.out (by simp; omega) (HNM.out 8)).mono ?_
          rw [HMK.out]
          rintro e wo ⟨rfl, hb⟩
          replace J := Lib.hid (J.out.below hb)
          replace K := Lib.hid (K.out.below hb)
          clear hb
          go_wp2_with fail
          go_roundw
          case rel => exact ⟨4, by omega, by omega, rfl, J, K⟩
          case measure => simp [intOf]
        · have HMK := Lib.hid (mk_10_22 HZ1.out HZ2.out hsum)
          go_wp2_with fail
          refine (C.cMake (nOf 10) _ [l, m] _ (HW.out _ J.out) (by simp) (by simp; omega)).mono ?_
          rintro e wm ⟨y, rfl, hy, hb⟩
          replace J := Lib.hid ((J.out.below (HB0.out _)).below hb)
          replace K := Lib.hid ((K.out.below (HB0.out _)).below hb)
          have Y : Hid (Nds wm y (nOf 10 :: (l ++ m))) := Lib.hid (by simpa using hy)
          clear hy hb q0 q1 q2 q3 q4
          go_wp2_with fail
          refine (C.cOf _ (nOf 10 :: (l ++ m)) _ Y.out (by simp; omega) (HNM.out 10)).mono ?_
          rw [HMK.out]
          rintro e wo ⟨rfl, hb⟩
          replace J := Lib.hid (J.out.below hb)
          replace K := Lib.hid (K.out.below hb)
          clear hb
          go_wp2_with fail
          go_roundw
          case rel => exact ⟨5, by omega, by omega, rfl, J, K⟩
          case measure => simp [intOf]
        · clear q0 q1 q2 q3 q4
          go_wp2_with fail
          refine (alive_any C _).mono ?_
          rintro e wn ⟨rfl, hb⟩
          replace J := Lib.hid (J.out.below hb)
          clear hb
          go_wp2_with fail
          go_ret
          exact ⟨rfl, J.out.bel⟩
    · go_wp2_with fail
      refine (alive_any C _).mono ?_
      rintro e wn ⟨rfl, hb⟩
      replace J := Lib.hid (J.out.below hb)
      clear hb
      go_wp2_with fail
      go_ret
      exact ⟨rfl, J.out.bel⟩
    · go_wp2_with fail
      refine (alive_any C _).mono ?_
      rintro e wn ⟨rfl, hb⟩
      replace J := Lib.hid (J.out.below hb)
      clear hb
      go_wp2_with fail
      go_ret
      exact ⟨rfl, J.out.bel⟩
  · rcases hz2 with rfl | rfl | rfl | rfl | rfl
    · go_wp2_with fail
      refine (alive_any C _).mono ?_
      rintro e wn ⟨rfl, hb⟩
      replace J := Lib.hid (J.out.below hb)
      clear hb
      go_wp2_with fail
      go_ret
      exact ⟨rfl, J.out.bel⟩
    · go_wp2_with fail
      refine (alive_any C _).mono ?_
      rintro e wn ⟨rfl, hb⟩
      replace J := Lib.hid (J.out.below hb)
      clear hb
      go_wp2_with fail
      go_ret
      exact ⟨rfl, J.out.bel⟩
    · go_wp2_with fail
      refine (alive_any C _).mono ?_
      rintro e wn ⟨rfl, hb⟩
      replace J := Lib.hid (J.out.below hb)
      clear hb
      go_wp2_with fail
      go_ret
      exact ⟨rfl, J.out.bel⟩
    · go_wp2_with fail
      refine (alive_any C _).mono ?_
      rintro e wn ⟨rfl, hb⟩
      replace J := Lib.hid (J.out.below hb)
      clear hb
      go_wp2_with fail
      go_ret
      exact ⟨rfl, J.out.bel⟩
    · go_wp2_with fail
      refine (alive_any C _).mono ?_
      rintro e wn ⟨rfl, hb⟩
      replace J := Lib.hid (J.out.below hb)
      clear hb
      go_wp2_with fail
      go_ret
      exact ⟨rfl, J.out.bel⟩
  · rcases hz2 with rfl | rfl | rfl | rfl | rfl
    · go_wp2_with fail
      refine (alive_any C _).mono ?_
      rintro e wn ⟨rfl, hb⟩
      replace J := Lib.hid (J.out.below hb)
      clear hb
      go_wp2_with fail
      go_ret
      exact ⟨rfl, J.out.bel⟩
    · go_wp2_with fail
      refine (alive_any C _).mono ?_
      rintro e wn ⟨rfl, hb⟩
      replace J := Lib.hid (J.out.below hb)
      clear hb
      go_wp2_with fail
      go_ret
      exact ⟨rfl, J.out.bel⟩
    · go_wp2_with fail
      refine (alive_any C _).mono ?_
      rintro e wn ⟨rfl, hb⟩
      replace J := Lib.hid (J.out.below hb)
      clear hb
      go_wp2_with fail
      go_ret
      exact ⟨rfl, J.out.bel⟩
    · go_wp2_with fail
      refine (alive_any C _).mono ?_
      rintro e wn ⟨rfl, hb⟩
      replace J := Lib.hid (J.out.below hb)
      clear hb
      go_wp2_with fail
      go_ret
      exact ⟨rfl, J.out.bel⟩
    · go_wp2_with fail
      refine (alive_any C _).mono ?_
      rintro e wn ⟨rfl, hb⟩
      replace J := Lib.hid (J.out.below hb)
      clear hb
      go_wp2_with fail
      go_ret
      exact ⟨rfl, J.out.bel⟩
end Go.Proofs.Ytcgbbhnhpkkomaa.So
