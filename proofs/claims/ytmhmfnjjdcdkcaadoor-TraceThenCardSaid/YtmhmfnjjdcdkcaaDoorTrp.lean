/- The laws of traces, walked from the contracts: TraceTexts. -/
import Derived.Test.YtmhmfnjjdcdkcaaDoorTrl
namespace Go.Proofs.YtmhmfnjjdcdkcaaDoor.Tr
open Go Go.RowKit
set_option maxRecDepth 20000

theorem new1 {w : World} {v0 : Value} {t0 : Tr} (b : Nat) (hb : b = w.heap.size) (h0 : Strs w v0 t0.a) (ty : TypeId) : Trs (w.alloc (.cells #[v0, .int .i64 t0.e] ty)) (.slice (some ⟨b, 0, none⟩) 1 1) [t0] := by
  subst hb
  have b1 : Below w.heap.size w (w.alloc (.cells #[v0, .int .i64 t0.e] ty)) := (Below.refl _ _).alloc (Nat.le_refl _) _
  refine ⟨[v0, .int .i64 t0.e], ⟨rfl, _, 1, rfl, Nat.le_refl _, fun h => (by cases h), fun _ => ⟨w.heap.size, 0, rfl, fun j u hu => ?_⟩⟩, h0.below b1, rfl, trivial⟩
  rw [Nat.zero_add, World.cell?_alloc_new]
  simpa using hu
theorem new2 {w : World} {v0 v1 : Value} {t0 t1 : Tr} (b : Nat) (hb : b = w.heap.size) (h0 : Strs w v0 t0.a) (h1 : Strs w v1 t1.a) (ty : TypeId) : Trs (w.alloc (.cells #[v0, .int .i64 t0.e, v1, .int .i64 t1.e] ty)) (.slice (some ⟨b, 0, none⟩) 2 2) [t0, t1] := by
  subst hb
  have b1 : Below w.heap.size w (w.alloc (.cells #[v0, .int .i64 t0.e, v1, .int .i64 t1.e] ty)) := (Below.refl _ _).alloc (Nat.le_refl _) _
  refine ⟨[v0, .int .i64 t0.e, v1, .int .i64 t1.e], ⟨rfl, _, 2, rfl, Nat.le_refl _, fun h => (by cases h), fun _ => ⟨w.heap.size, 0, rfl, fun j u hu => ?_⟩⟩, h0.below b1, rfl, h1.below b1, rfl, trivial⟩
  rw [Nat.zero_add, World.cell?_alloc_new]
  simpa using hu
/-- What was boxed is still read. -/
theorem keep_box {w w' : World} {x y : Value} {ty : TypeId} (hb : Below (w.heap.size + 1) (w.alloc (.cells #[x, y] ty)) w') : w'.cell? ⟨w.heap.size, 0, none⟩ = some x ∧ w'.cell? ⟨w.heap.size, 1, none⟩ = some y := ⟨cell_boxed hb 0, cell_boxed hb 1⟩

set_option maxHeartbeats 4000000 in
theorem texts_any (C : Con) (v : Value) (t : Tr) (w : World) (h : Sg.Tab w) (hv : Strs w v t.a) (hl : t.a.length ≤ 1125899906842624) (hs : fewB [t] = true → (txs t.a).length ≤ 8388608) :
    Calls Tryd.prog 9 #[.agg #[v, .int .i64 t.e]] w fun e w' => e = .returned (.bool true) ∧ Below w.heap.size w w' := by
  have HV := Lib.hid hv
  obtain ⟨_, a, c, rfl, -⟩ := hv
  have HS := Lib.hid hs
  clear hs
  obtain ⟨fb, hf⟩ : ∃ fb, fewB [t] = fb := ⟨_, rfl⟩
  have HF := Lib.hid hf
  clear hf
  go_enter Tryd.func9, Tryd.ntmps9
  go_wp2_with fail
  have B0 : Hid (Below (w.heap.size + 1) (w.alloc (.cells #[.slice a t.a.length c, .int .i64 t.e] 24)) (w.alloc (.cells #[.slice a t.a.length c, .int .i64 t.e] 24))) := Below.refl _ _
  have HV1 := Lib.hid (HV.out.below (below_box B0.out))
  refine (few_any _ [t] _ (new1 _ (by simp) HV1.out _) (by simp [maxLen]) (by simpa using hl)).mono ?_
  rw [HF.out]
  rintro e w1 ⟨rfl, hb1⟩
  have B1 : Hid (Below (w.heap.size + 1) (w.alloc (.cells #[.slice a t.a.length c, .int .i64 t.e] 24)) w1) := (B0.out.alloc (by simp) _).trans (hb1.mono (by simp))
  clear hb1 B0 HV1
  have T1 := Lib.hid (Tab.below h (below_box B1.out))
  cases fb with
  | false =>
    go_wp2_with fail
    refine (alive_any C _ T1.out).mono ?_
    rintro e w2 ⟨rfl, hb2⟩
    have B2 := Lib.hid ((below_box B1.out).trans (hb2.mono (below_box B1.out).size))
    clear hb2
    go_wp2_with fail
    go_ret
    exact ⟨rfl, B2.out⟩
  | true =>
    have hsm := HS.out HF.out
    have hfw := few_of HF.out
    have hlen : t.a.length ≤ 1000 := by have := hfw.2; simpa [acts] using this
    have e1 : w1.cell? ⟨w.heap.size, 0, none⟩ = some (.slice a t.a.length c) := cell_boxed B1.out 0
    have e2 : w1.cell? ⟨w.heap.size, 1, none⟩ = some (.int .i64 t.e) := cell_boxed B1.out 1
    clear hfw
    go_wp2_with fail
    have BX : Hid (∀ w' w'' : World, Below (w.heap.size + 1) (w.alloc (.cells #[.slice a t.a.length c, .int .i64 t.e] 24)) w' → Below w'.heap.size w' w'' → Below (w.heap.size + 1) (w.alloc (.cells #[.slice a t.a.length c, .int .i64 t.e] 24)) w'') :=
      fun w' w'' h1 h2 => h1.trans (h2.mono (by have := h1.size; simpa using this))
    go_region_held3 (fun w' => w'.cell? ⟨w.heap.size, 0, none⟩ = some (.slice a t.a.length c) ∧ w'.cell? ⟨w.heap.size, 1, none⟩ = some (.int .i64 t.e)) (first | exact ⟨e1, e2⟩ | exact keep_box B2.out | exact keep_box B3.out | exact keep_box B4.out | fail) (first
      | (go_at_call 12
         refine (alive_any C _ (Tab.below h (below_box B1.out.drew))).mono ?_
         rintro e w2 ⟨rfl, hb2⟩
         have B2 := Lib.hid (BX.out _ _ B1.out.drew hb2)
         have T2 := Lib.hid (Tab.below h (below_box B2.out))
         clear hb2)
      | (go_at_call 33
         refine (C.cText _ t _ T2.out (HV.out.below (below_box B2.out)) hlen hsm).mono ?_
         rintro e w3 ⟨rfl, hb3⟩
         have B3 := Lib.hid (BX.out _ _ B2.out hb3)
         clear hb3)
      | (go_at_call 34
         refine (text_any _ t _ (HV.out.below (below_box B3.out)) (by omega) (by omega)).mono ?_
         rintro e w4 ⟨rfl, hb4⟩
         have B4 := Lib.hid (BX.out _ _ B3.out hb4)
         clear hb4)
      | fail)
    go_wp2_with fail
    go_ret
    exact ⟨rfl, below_box B4.out⟩
end Go.Proofs.YtmhmfnjjdcdkcaaDoor.Tr
