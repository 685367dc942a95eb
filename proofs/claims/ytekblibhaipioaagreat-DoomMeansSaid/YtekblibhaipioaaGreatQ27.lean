/- The program's plainOfTwo, and its closures: the walks. Worlds that only grew; the program's order of pairs: the walks. Plain: what is beside a place, and whether a block is above it. The statements' own first look at package settle: the walk. The document's mixed and Par: where what they tell lies; the walks. The document's order of pairs: the walk; merging rows of pairs: plain steps. The program's with, going, stacked: the walks. Plain: which places of a row wait, whether it will end by a throw, what is beside a place, whether it may give way. The document's behind, Then: where what they tell lies; the walks. -/
import Derived.Test.YtekblibhaipioaaGreatQ26
import Derived.Test.YtekblibhaipioaaGreatQ06
import Derived.Test.YtekblibhaipioaaGreatQ21
import Derived.Test.YtekblibhaipioaaGreatQ14
import Derived.Test.YtekblibhaipioaaGreatQ12
import Derived.Test.YtekblibhaipioaaGreatQ10

namespace Go.Proofs.YtekblibhaipioaaGreat.Mn
open Go Go.RowKit Tr
set_option maxRecDepth 20000
theorem box1_new (w : World) (a : Value) (t : TypeId) : (w.alloc (.cells #[a] t)).cell? ⟨w.heap.size, 0, none⟩ = some a := by simp
theorem flat_one {α β : Type} (f : α → List β) {l : List α} {x : α} (h : x ∈ l) : (f x).length ≤ (l.flatMap f).length := by
  obtain ⟨s, t, rfl⟩ := List.append_of_mem h
  rw [List.flatMap_append, List.flatMap_cons, List.length_append, List.length_append]
  omega
set_option maxHeartbeats 1000000 in
theorem pot1_any (T : TCon) (ok : Nat → Prop) (bx : Nat) (a y : Value) (t : Tr) (l : List Tr) (w : World) (hb : w.cell? ⟨bx, 0, none⟩ = some y) (hs : StrsO ok w a t.a) (hl : TsO ok w y l) (hlen : l.length ≤ 1000000000000) (hrow : ∀ u ∈ l, t.a.length + u.a.length ≤ 1000000) :
    Calls Tryz.prog 93 #[.agg #[a, .int .i64 t.e], .pointer (some ⟨bx, 0, none⟩)] w (OutT ok (l.map (thn t)) w) := by
  have HB := Lib.hid (fun o => bel1 w o)
  have C := Lib.hid (fun w1 (hb : Below w.heap.size w w1) => then_any T ok a y t l w1 (so_below hs hb) (hl.below hb) hlen hrow)
  have hlt := Ap.cell_lt hb
  generalize l.map (thn t) = L at C ⊢
  obtain ⟨_, a1, k1, rfl, _⟩ := hs
  obtain ⟨_, ⟨_, a2, k2, rfl, _⟩, _⟩ := hl
  go_enter Tryz.func93, Tryz.ntmps93
  go_wp2_with fail
  refine (C.out _ (HB.out _)).mono ?_
  intro e w2 ho
  have HO := Lib.hid (ho.up (HB.out _) fun b h => .inl h)
  obtain ⟨a4, k4, rfl, _, _⟩ := ho
  go_wp2_with fail
  go_ret
  exact HO.out
set_option maxHeartbeats 2000000 in
theorem plain5_any (T : TCon) (x y : Value) (A B : List Tr) (w : World) (hx : TsO any w x A) (hy : TsO any w y B) (hA : A.length ≤ 1000000000000) (hB : B.length ≤ 1000000000000) (hrow : ∀ t ∈ A, ∀ u ∈ B, t.a.length + u.a.length ≤ 9)
    (hout : (A.flatMap fun t => B.map (thn t)).length ≤ 1000000000000) :
    Calls Tryz.prog 51 #[.int .i64 5, x, y] w (OutT any (A.flatMap fun t => B.map (thn t)) w) := by
  have eg : ∀ args w, (callFunc 93 args).run Tryz.prog w = .ok (.enter 93 args) w := enters_of Tryz.func93 (by kernel_rfl) rfl
  have hin : ∀ t ∈ A, (B.map (thn t)).length ≤ 1000000000000 := fun t ht => Nat.le_trans (flat_one (fun t => B.map (thn t)) ht) hout
  have C := Lib.hid (fun ty => eachTT 93 #[.pointer (some ⟨w.heap.size, 0, none⟩)] eg any x A (fun t => B.map (thn t)) (w.alloc (.cells #[y] ty)) (hx.below (bel1 _ _))
    (fun wr hb t ht a ha => by
      have hc : wr.cell? ⟨w.heap.size, 0, none⟩ = some y := by rw [hb.cell (p := ⟨w.heap.size, 0, none⟩) (by simp)]; exact box1_new _ _ _
      have hY := (((hy.imp (ok' := fun b => any b ∧ b < (w.alloc (.cells #[y] ty)).heap.size) fun b hlt h => ⟨h, by simp; omega⟩).below (bel1 w (.cells #[y] ty))).below hb)
      exact pot1_any T _ w.heap.size a y t B wr hc ha hY hB (fun u hu => by have := hrow t ht u hu; omega)) hA hout)
  generalize (A.flatMap fun t => B.map (thn t)) = L at C ⊢
  obtain ⟨_, ⟨_, a1, k1, rfl, _⟩, _⟩ := hx
  obtain ⟨_, ⟨_, a2, k2, rfl, _⟩, _⟩ := hy
  clear hin
  go_enter Tryz.func51, Tryz.ntmps51
  go_wp2_with fail
  refine (C.out _).mono ?_
  intro e w2 ho
  have HO := Lib.hid (ho.up (bel1 w _) fun b h => .inl h)
  obtain ⟨a4, k4, rfl, _, _⟩ := ho
  go_wp2_with fail
  go_ret
  exact HO.out
set_option maxHeartbeats 1000000 in
theorem pot2_any (T : TCon) (ok : Nat → Prop) (bx : Nat) (a y : Value) (t : Tr) (l : List Tr) (w : World) (hb : w.cell? ⟨bx, 0, none⟩ = some y) (hs : StrsO ok w a t.a) (hl : TsO ok w y l) (hlen : l.length ≤ 1000000000000) (hout : (l.flatMap (pr t)).length ≤ 1000000000000) (hrow : ∀ u ∈ l, t.a.length + u.a.length ≤ 9) :
    Calls Tryz.prog 94 #[.agg #[a, .int .i64 t.e], .pointer (some ⟨bx, 0, none⟩)] w (OutT ok (l.flatMap (pr t)) w) := by
  have HB := Lib.hid (fun o => bel1 w o)
  have C := Lib.hid (fun w1 (hb : Below w.heap.size w w1) => beside_any T ok a y t l w1 (so_below hs hb) (hl.below hb) hlen hout hrow)
  have hlt := Ap.cell_lt hb
  generalize l.flatMap (pr t) = L at C ⊢
  obtain ⟨_, a1, k1, rfl, _⟩ := hs
  obtain ⟨_, ⟨_, a2, k2, rfl, _⟩, _⟩ := hl
  go_enter Tryz.func94, Tryz.ntmps94
  go_wp2_with fail
  refine (C.out _ (HB.out _)).mono ?_
  intro e w2 ho
  have HO := Lib.hid (ho.up (HB.out _) fun b h => .inl h)
  obtain ⟨a4, k4, rfl, _, _⟩ := ho
  go_wp2_with fail
  go_ret
  exact HO.out
set_option maxHeartbeats 2000000 in
theorem plain7_any (T : TCon) (x y : Value) (A B : List Tr) (w : World) (hx : TsO any w x A) (hy : TsO any w y B) (hA : A.length ≤ 1000000000000) (hB : B.length ≤ 1000000000000) (hrow : ∀ t ∈ A, ∀ u ∈ B, t.a.length + u.a.length ≤ 9)
    (hout : (A.flatMap fun t => B.flatMap (pr t)).length ≤ 1000000000000) :
    Calls Tryz.prog 51 #[.int .i64 7, x, y] w (OutT any (A.flatMap fun t => B.flatMap (pr t)) w) := by
  have eg : ∀ args w, (callFunc 94 args).run Tryz.prog w = .ok (.enter 94 args) w := enters_of Tryz.func94 (by kernel_rfl) rfl
  have hin : ∀ t ∈ A, (B.flatMap (pr t)).length ≤ 1000000000000 := fun t ht => Nat.le_trans (flat_one (fun t => B.flatMap (pr t)) ht) hout
  have C := Lib.hid (fun ty => eachTT 94 #[.pointer (some ⟨w.heap.size, 0, none⟩)] eg any x A (fun t => B.flatMap (pr t)) (w.alloc (.cells #[y] ty)) (hx.below (bel1 _ _))
    (fun wr hb t ht a ha => by
      have hc : wr.cell? ⟨w.heap.size, 0, none⟩ = some y := by rw [hb.cell (p := ⟨w.heap.size, 0, none⟩) (by simp)]; exact box1_new _ _ _
      have hY := (((hy.imp (ok' := fun b => any b ∧ b < (w.alloc (.cells #[y] ty)).heap.size) fun b hlt h => ⟨h, by simp; omega⟩).below (bel1 w (.cells #[y] ty))).below hb)
      exact pot2_any T _ w.heap.size a y t B wr hc ha hY hB (hin t ht) (fun u hu => by have := hrow t ht u hu; omega)) hA hout)
  generalize (A.flatMap fun t => B.flatMap (pr t)) = L at C ⊢
  obtain ⟨_, ⟨_, a1, k1, rfl, _⟩, _⟩ := hx
  obtain ⟨_, ⟨_, a2, k2, rfl, _⟩, _⟩ := hy
  clear hin
  go_enter Tryz.func51, Tryz.ntmps51
  go_wp2_with fail
  refine (C.out _).mono ?_
  intro e w2 ho
  have HO := Lib.hid (ho.up (bel1 w _) fun b h => .inl h)
  obtain ⟨a4, k4, rfl, _, _⟩ := ho
  go_wp2_with fail
  go_ret
  exact HO.out
set_option maxHeartbeats 1000000 in
theorem pot3_any (T : TCon) (ok : Nat → Prop) (bx : Nat) (a y : Value) (t : Tr) (l : List Tr) (w : World) (hb : w.cell? ⟨bx, 0, none⟩ = some y) (hs : StrsO ok w a t.a) (hl : TsO ok w y l) (hlen : l.length ≤ 1000000000000) (hrow : ∀ u ∈ l, t.a.length + u.a.length ≤ 1000000) :
    Calls Tryz.prog 96 #[.agg #[a, .int .i64 t.e], .pointer (some ⟨bx, 0, none⟩)] w (OutT ok (hdl t l) w) := by
  have HB := Lib.hid (fun o => bel1 w o)
  have C := Lib.hid (fun w1 (hb : Below w.heap.size w w1) => handed_any T ok a y t l w1 (so_below hs hb) (hl.below hb) hlen hrow)
  have hlt := Ap.cell_lt hb
  generalize hdl t l = L at C ⊢
  obtain ⟨_, a1, k1, rfl, _⟩ := hs
  obtain ⟨_, ⟨_, a2, k2, rfl, _⟩, _⟩ := hl
  go_enter Tryz.func96, Tryz.ntmps96
  go_wp2_with fail
  refine (C.out _ (HB.out _)).mono ?_
  intro e w2 ho
  have HO := Lib.hid (ho.up (HB.out _) fun b h => .inl h)
  obtain ⟨a4, k4, rfl, _, _⟩ := ho
  go_wp2_with fail
  go_ret
  exact HO.out
set_option maxHeartbeats 2000000 in
theorem plain8_any (T : TCon) (x y : Value) (A B : List Tr) (w : World) (hx : TsO any w x A) (hy : TsO any w y B) (hA : A.length ≤ 1000000000000) (hB : B.length ≤ 1000000000000) (hrow : ∀ t ∈ A, ∀ u ∈ B, t.a.length + u.a.length ≤ 9)
    (hout : (A.flatMap fun t => hdl t B).length ≤ 1000000000000) :
    Calls Tryz.prog 51 #[.int .i64 8, x, y] w (OutT any (A.flatMap fun t => hdl t B) w) := by
  have eg : ∀ args w, (callFunc 96 args).run Tryz.prog w = .ok (.enter 96 args) w := enters_of Tryz.func96 (by kernel_rfl) rfl
  have hin : ∀ t ∈ A, (hdl t B).length ≤ 1000000000000 := fun t ht => Nat.le_trans (flat_one (fun t => hdl t B) ht) hout
  have C := Lib.hid (fun ty => eachTT 96 #[.pointer (some ⟨w.heap.size, 0, none⟩)] eg any x A (fun t => hdl t B) (w.alloc (.cells #[y] ty)) (hx.below (bel1 _ _))
    (fun wr hb t ht a ha => by
      have hc : wr.cell? ⟨w.heap.size, 0, none⟩ = some y := by rw [hb.cell (p := ⟨w.heap.size, 0, none⟩) (by simp)]; exact box1_new _ _ _
      have hY := (((hy.imp (ok' := fun b => any b ∧ b < (w.alloc (.cells #[y] ty)).heap.size) fun b hlt h => ⟨h, by simp; omega⟩).below (bel1 w (.cells #[y] ty))).below hb)
      exact pot3_any T _ w.heap.size a y t B wr hc ha hY hB (fun u hu => by have := hrow t ht u hu; omega)) hA hout)
  generalize (A.flatMap fun t => hdl t B) = L at C ⊢
  obtain ⟨_, ⟨_, a1, k1, rfl, _⟩, _⟩ := hx
  obtain ⟨_, ⟨_, a2, k2, rfl, _⟩, _⟩ := hy
  clear hin
  go_enter Tryz.func51, Tryz.ntmps51
  go_wp2_with fail
  refine (C.out _).mono ?_
  intro e w2 ho
  have HO := Lib.hid (ho.up (bel1 w _) fun b h => .inl h)
  obtain ⟨a4, k4, rfl, _, _⟩ := ho
  go_wp2_with fail
  go_ret
  exact HO.out
set_option maxHeartbeats 2000000 in
theorem plain6_any (T : TCon) (x y : Value) (A B : List Tr) (w : World) (hx : TsO any w x A) (hy : TsO any w y B) (hAB : A.length + B.length ≤ 1000000000000) (hrow : ∀ t ∈ A ++ B, t.a.length ≤ 1000000) :
    Calls Tryz.prog 51 #[.int .i64 6, x, y] w (OutT any (norm (A ++ B)) w) := by
  have C := Lib.hid (fun o => T.cOr x y A B (w.alloc o) (hx.below (bel1 _ _)).trs (hy.below (bel1 _ _)).trs hAB hrow)
  generalize norm (A ++ B) = L at C ⊢
  obtain ⟨_, ⟨_, a1, k1, rfl, _⟩, _⟩ := hx
  obtain ⟨_, ⟨_, a2, k2, rfl, _⟩, _⟩ := hy
  go_enter Tryz.func51, Tryz.ntmps51
  go_wp2_with fail
  refine (C.out _).mono ?_
  rintro e w2 ⟨v, rfl, ht, hb⟩
  have HT := Lib.hid ht
  have HB := Lib.hid ((bel1 w _).trans (hb.mono (bel1 w _).size))
  obtain ⟨_, ⟨_, a4, k4, rfl, _⟩, _⟩ := ht
  go_wp2_with fail
  go_ret
  exact ⟨_, _, rfl, (TsO.of HT.out).imp fun _ _ h => .inl h, HB.out⟩
def pot (k : Int) (A B : List Tr) : List Tr := if k = 5 then A.flatMap fun t => B.map (thn t) else if k = 7 then A.flatMap fun t => B.flatMap (pr t) else if k = 8 then A.flatMap fun t => hdl t B else norm (A ++ B)
theorem thn_hnd (p q : Tr) (h : p.e = 2) : thn ⟨p.a, 1⟩ q = hnd p q := by
  unfold thn hnd
  rw [if_pos rfl, if_pos h]
theorem hdl_le (t : Tr) (B : List Tr) (hB : B ≠ []) : (hdl t B).length ≤ B.length := by
  unfold hdl
  split
  · rw [List.length_map]; exact Nat.le_refl _
  · have : 0 < B.length := List.length_pos_iff.2 hB
    show 1 ≤ B.length
    omega
theorem flat_mono {α β : Type} (f g : α → List β) : ∀ l : List α, (∀ x ∈ l, (f x).length ≤ (g x).length) → (l.flatMap f).length ≤ (l.flatMap g).length
  | [], _ => by simp
  | x :: l, h => by
    rw [List.flatMap_cons, List.flatMap_cons, List.length_append, List.length_append]
    exact Nat.add_le_add (h x (by simp)) (flat_mono f g l fun y hy => h y (by simp [hy]))
theorem len_flat1 {α β : Type} (f : α → β) (l : List α) : (l.flatMap fun x => [f x]).length = l.length := by rw [← map_flat, List.length_map]
theorem pot_len {k : Int} (hk : k = 5 ∨ k = 6 ∨ k = 7 ∨ k = 8) (A B : List Tr) (hB : k = 8 → B ≠ []) : (pot k A B).length ≤ (two k A B).length := by
  rcases hk with rfl | rfl | rfl | rfl
  · refine flat_mono _ _ A fun t _ => ?_
    rw [map_flat]
    refine flat_mono _ _ B fun u _ => ?_
    rw [one5]
    exact Nat.le_refl _
  · refine Nat.le_trans (length_norm _) (Nat.le_refl _)
  · refine flat_mono _ _ A fun t _ => flat_mono _ _ B fun u _ => ?_
    rw [one7]
    exact Nat.le_refl _
  · refine flat_mono _ _ A fun t _ => Nat.le_trans (hdl_le t B (hB rfl)) ?_
    have e : (fun u => one 8 t u) = fun u => [hnd t u] := by funext u; exact one8 t u
    show B.length ≤ (B.flatMap fun u => one 8 t u).length
    rw [e, len_flat1]
    exact Nat.le_refl _
theorem pot_norm {k : Int} (hk : k = 5 ∨ k = 6 ∨ k = 7 ∨ k = 8) (A B : List Tr) (hB : k = 8 → B ≠ []) : norm (pot k A B) = norm (two k A B) := norm_congr fun t => by
  rcases hk with rfl | rfl | rfl | rfl
  · rw [mem5]
    show t ∈ (A.flatMap fun t => B.map (thn t)) ↔ _
    simp only [List.mem_flatMap, List.mem_map]
    constructor
    · rintro ⟨p, hp, q, hq, rfl⟩; exact ⟨p, hp, q, hq, rfl⟩
    · rintro ⟨p, hp, q, hq, rfl⟩; exact ⟨p, hp, q, hq, rfl⟩
  · rw [mem6]
    show t ∈ norm (A ++ B) ↔ _
    rw [mem_norm, List.mem_append]
  · rw [mem7]
    show t ∈ (A.flatMap fun t => B.flatMap (pr t)) ↔ _
    simp only [List.mem_flatMap]
  · rw [mem8]
    show t ∈ (A.flatMap fun t => hdl t B) ↔ _
    simp only [List.mem_flatMap]
    constructor
    · rintro ⟨p, hp, ht⟩
      unfold hdl at ht
      split at ht
      · rename_i h2
        obtain ⟨q, hq, rfl⟩ := List.mem_map.1 ht
        exact ⟨p, hp, q, hq, thn_hnd p q h2⟩
      · rename_i h2
        rw [List.mem_singleton] at ht
        obtain ⟨q, hq⟩ := List.exists_mem_of_ne_nil _ (hB rfl)
        exact ⟨p, hp, q, hq, by rw [ht]; unfold hnd; rw [if_neg h2]⟩
    · rintro ⟨p, hp, q, hq, rfl⟩
      refine ⟨p, hp, ?_⟩
      unfold hdl
      split
      · rename_i h2
        exact List.mem_map.2 ⟨q, hq, thn_hnd p q h2⟩
      · rename_i h2
        unfold hnd
        rw [if_neg h2]
        exact List.mem_singleton.2 rfl
theorem plainTwo_any (T : TCon) (k : Int) (hk : k = 5 ∨ k = 6 ∨ k = 7 ∨ k = 8) (x y : Value) (A B : List Tr) (w : World) (hx : TsO any w x A) (hy : TsO any w y B) (hAB : A.length + B.length ≤ 1000000000000) (hrow : ∀ t ∈ A, ∀ u ∈ B, t.a.length + u.a.length ≤ 9) (hr1 : ∀ t ∈ A ++ B, t.a.length ≤ 1000000)
    (hB : k = 8 → B ≠ []) (hout : (two k A B).length ≤ 1000000000000) : Calls Tryz.prog 51 #[.int .i64 k, x, y] w (OutT any (pot k A B) w) := by
  have hout' := Nat.le_trans (pot_len hk A B hB) hout
  rcases hk with rfl | rfl | rfl | rfl
  · exact plain5_any T x y A B w hx hy (by omega) (by omega) hrow hout'
  · exact plain6_any T x y A B w hx hy hAB hr1
  · exact plain7_any T x y A B w hx hy (by omega) (by omega) hrow hout'
  · exact plain8_any T x y A B w hx hy (by omega) (by omega) hrow hout'
end Go.Proofs.YtekblibhaipioaaGreat.Mn

namespace Go.Proofs.YtekblibhaipioaaGreat.Mn
open Go Go.RowKit Tr
set_option maxRecDepth 20000
def Gr (w w' : World) : Prop := ∃ n os, w' = Go.Sort.grow (w.drewN n) os
theorem drewN_grow (w : World) (os : Array Obj) (n : Nat) : (Go.Sort.grow w os).drewN n = Go.Sort.grow (w.drewN n) os := by
  induction n with
  | zero => rfl
  | succ n ih => show ((Go.Sort.grow w os).drewN n).drew = _; rw [ih]; rfl
theorem Gr.refl (w : World) : Gr w w := ⟨0, #[], by rw [Go.Sort.grow_empty]; rfl⟩
theorem Gr.trans {w w1 w2 : World} (h1 : Gr w w1) (h2 : Gr w1 w2) : Gr w w2 := by
  obtain ⟨n, os, rfl⟩ := h1
  obtain ⟨m, os', rfl⟩ := h2
  exact ⟨n + m, os ++ os', by rw [drewN_grow, Go.Sort.grow_grow, World.drewN_drewN]⟩
theorem Gr.alloc {w w1 : World} (h : Gr w w1) (o : Obj) : Gr w (w1.alloc o) := h.trans ⟨0, #[o], Go.Sort.alloc_eq_grow _ _⟩
theorem Gr.drew {w w1 : World} (h : Gr w w1) : Gr w w1.drew := h.trans ⟨1, #[], by rw [Go.Sort.grow_empty]; rfl⟩
theorem Gr.below {w w' : World} (h : Gr w w') : Below w.heap.size w w' := by
  obtain ⟨n, os, rfl⟩ := h
  exact below_grow w n os
set_option maxHeartbeats 1000000 in
theorem compareG (v1 v2 : Value) (p q : Tr) (w : World) (h1 : Strs w v1 p.a) (h2 : Strs w v2 q.a) (hl : p.a.length ≤ 1000000) (hm : q.a.length ≤ 1000000) :
    Calls Tryz.prog 111 #[.agg #[v1, .int .i64 p.e], .agg #[v2, .int .i64 q.e]] w fun e w' => e = .returned (.int .i64 (cmp p q)) ∧ ∃ n os, w' = Go.Sort.grow (w.drewN n) os := by
  have H1 := Lib.hid (fun x y => h1.below (((Below.refl _ _).alloc (Nat.le_refl _) x).alloc (by simp) y))
  have H2 := Lib.hid (fun x y => h2.below (((Below.refl _ _).alloc (Nat.le_refl _) x).alloc (by simp) y))
  obtain ⟨_, a1, c1, rfl, -⟩ := h1
  obtain ⟨_, a2, c2, rfl, -⟩ := h2
  go_enter Tryz.func111, Tryz.ntmps111
  go_wp2_with (go_at_call 87; refine (against_any _ _ p q _ (H1.out _ _) (H2.out _ _) (by omega) (by omega)).mono ?_; rintro e w' ⟨rfl, n, os, rfl⟩)
  go_ret
  exact ⟨rfl, (((Gr.refl w).alloc _).alloc _).trans ⟨n, os, rfl⟩⟩
theorem or_pcmp (x y : Pr) : (if cmp x.p y.p = 0 then cmp x.q y.q else cmp x.p y.p) = pcmp x y := rfl
def Bx2 (w : World) (b : Nat) (v1 v1' v2 v2' : Value) (x y : Pr) : Prop := BoxP w b v1 x.p.e v1' x.q.e ∧ BoxP w (b + 1) v2 y.p.e v2' y.q.e
theorem Bx2.below {w w' : World} {b : Nat} {v1 v1' v2 v2' : Value} {x y : Pr} (h : Bx2 w b v1 v1' v2 v2' x y) (hb : Below w.heap.size w w') : Bx2 w' b v1 v1' v2 v2' x y := ⟨h.1.below hb, h.2.below hb⟩
set_option maxHeartbeats 2000000 in
theorem pagainst_any (v1 v1' v2 v2' : Value) (x y : Pr) (w : World) (h1 : Strs w v1 x.p.a) (h1' : Strs w v1' x.q.a) (h2 : Strs w v2 y.p.a) (h2' : Strs w v2' y.q.a)
    (l1 : x.p.a.length ≤ 1000000) (l1' : x.q.a.length ≤ 1000000) (l2 : y.p.a.length ≤ 1000000) (l2' : y.q.a.length ≤ 1000000) :
    Calls Tryz.prog 70 #[.agg #[v1, .int .i64 x.p.e, v1', .int .i64 x.q.e], .agg #[v2, .int .i64 y.p.e, v2', .int .i64 y.q.e]] w fun e w' => e = .returned (.int .i64 (pcmp x y)) ∧ Gr w w' := by
  obtain ⟨cp, hcp⟩ : ∃ c, cmp x.p y.p = c := ⟨_, rfl⟩
  obtain ⟨cq, hcq⟩ : ∃ c, cmp x.q y.q = c := ⟨_, rfl⟩
  have HO := Lib.hid (or_pcmp x y)
  rw [hcp, hcq] at HO
  have C1 := Lib.hid (fun w1 (hb : Gr w w1) => compareG v1 v2 x.p y.p w1 (h1.below hb.below) (h2.below hb.below) l1 l2)
  have C2 := Lib.hid (fun w1 (hb : Gr w w1) => compareG v1' v2' x.q y.q w1 (h1'.below hb.below) (h2'.below hb.below) l1' l2')
  rw [hcp] at C1
  rw [hcq] at C2
  have R3 : Hid (∀ b w, w.cell? ⟨b, 0, none⟩ = some (.int .i64 cp) → w.cell? ⟨b, 1, none⟩ = some (.int .i64 cq) → Calls Tryz.prog 110 #[.slice (some ⟨b, 0, none⟩) 2 2] w fun e w' => e = .returned (.int .i64 (pcmp x y)) ∧ w' = w) := Lib.hid (fun b w ha hb => by rw [← HO.out]; exact or2_any cp cq b w ha hb)
  obtain ⟨_, a1, c1, rfl, -⟩ := h1
  obtain ⟨_, a1', c1', rfl, -⟩ := h1'
  obtain ⟨_, a2, c2, rfl, -⟩ := h2
  obtain ⟨_, a2', c2', rfl, -⟩ := h2'
  generalize pcmp x y = c at *
  clear hcp hcq HO
  have G2 := Lib.hid (fun o p : Obj => (((Gr.refl w).alloc o).alloc p).drew)
  go_enter Tryz.func70, Tryz.ntmps70
  go_wp2_with fail
  go_region_held3 (fun w' => w'.cell? ⟨w.heap.size, 0, none⟩ = some (.slice a1 x.p.a.length c1) ∧ w'.cell? ⟨w.heap.size, 1, none⟩ = some (.int .i64 x.p.e) ∧ w'.cell? ⟨w.heap.size, 2, none⟩ = some (.slice a1' x.q.a.length c1') ∧ w'.cell? ⟨w.heap.size, 3, none⟩ = some (.int .i64 x.q.e) ∧ w'.cell? ⟨w.heap.size + 1, 0, none⟩ = some (.slice a2 y.p.a.length c2) ∧ w'.cell? ⟨w.heap.size + 1, 1, none⟩ = some (.int .i64 y.p.e) ∧ w'.cell? ⟨w.heap.size + 1, 2, none⟩ = some (.slice a2' y.q.a.length c2') ∧ w'.cell? ⟨w.heap.size + 1, 3, none⟩ = some (.int .i64 y.q.e)) (first | (simp [go_sem]; done) | exact kz | exact ky | exact ka _ | fail) (first
    | (go_at_call 111
       (with_reducible refine (C1.out _ (G2.out _ _)).mono ?_)
       rintro e w1 ⟨rfl, hb1⟩
       have kz : w1.cell? ⟨w.heap.size, 0, none⟩ = some (.slice a1 x.p.a.length c1) ∧ w1.cell? ⟨w.heap.size, 1, none⟩ = some (.int .i64 x.p.e) ∧ w1.cell? ⟨w.heap.size, 2, none⟩ = some (.slice a1' x.q.a.length c1') ∧ w1.cell? ⟨w.heap.size, 3, none⟩ = some (.int .i64 x.q.e) ∧ w1.cell? ⟨w.heap.size + 1, 0, none⟩ = some (.slice a2 y.p.a.length c2) ∧ w1.cell? ⟨w.heap.size + 1, 1, none⟩ = some (.int .i64 y.p.e) ∧ w1.cell? ⟨w.heap.size + 1, 2, none⟩ = some (.slice a2' y.q.a.length c2') ∧ w1.cell? ⟨w.heap.size + 1, 3, none⟩ = some (.int .i64 y.q.e) := by
         have k := Bx2.below (b := w.heap.size) (v1 := .slice a1 x.p.a.length c1) (v1' := .slice a1' x.q.a.length c1') (v2 := .slice a2 y.p.a.length c2) (v2' := .slice a2' y.q.a.length c2') (x := x) (y := y) ⟨⟨by simp [go_sem], by simp [go_sem], by simp [go_sem], by simp [go_sem]⟩, ⟨by simp [go_sem], by simp [go_sem], by simp [go_sem], by simp [go_sem]⟩⟩ (Gr.below hb1)
         exact ⟨k.1.1, k.1.2.1, k.1.2.2.1, k.1.2.2.2, k.2.1, k.2.2.1, k.2.2.2.1, k.2.2.2.2⟩
       have B1 := Lib.hid ((G2.out _ _).trans hb1)
       clear hb1)
    | (go_at_call 111
       (with_reducible refine (C2.out _ B1.out).mono ?_)
       rintro e w2 ⟨rfl, hb2⟩
       have ky : w2.cell? ⟨w.heap.size, 0, none⟩ = some (.slice a1 x.p.a.length c1) ∧ w2.cell? ⟨w.heap.size, 1, none⟩ = some (.int .i64 x.p.e) ∧ w2.cell? ⟨w.heap.size, 2, none⟩ = some (.slice a1' x.q.a.length c1') ∧ w2.cell? ⟨w.heap.size, 3, none⟩ = some (.int .i64 x.q.e) ∧ w2.cell? ⟨w.heap.size + 1, 0, none⟩ = some (.slice a2 y.p.a.length c2) ∧ w2.cell? ⟨w.heap.size + 1, 1, none⟩ = some (.int .i64 y.p.e) ∧ w2.cell? ⟨w.heap.size + 1, 2, none⟩ = some (.slice a2' y.q.a.length c2') ∧ w2.cell? ⟨w.heap.size + 1, 3, none⟩ = some (.int .i64 y.q.e) := by
         have k := Bx2.below (b := w.heap.size) (x := x) (y := y) ⟨⟨kz.1, kz.2.1, kz.2.2.1, kz.2.2.2.1⟩, ⟨kz.2.2.2.2.1, kz.2.2.2.2.2.1, kz.2.2.2.2.2.2.1, kz.2.2.2.2.2.2.2⟩⟩ (Gr.below hb2)
         exact ⟨k.1.1, k.1.2.1, k.1.2.2.1, k.1.2.2.2, k.2.1, k.2.2.1, k.2.2.2.1, k.2.2.2.2⟩
       have ka : ∀ o : Obj, (w2.alloc o).cell? ⟨w.heap.size, 0, none⟩ = some (.slice a1 x.p.a.length c1) ∧ (w2.alloc o).cell? ⟨w.heap.size, 1, none⟩ = some (.int .i64 x.p.e) ∧ (w2.alloc o).cell? ⟨w.heap.size, 2, none⟩ = some (.slice a1' x.q.a.length c1') ∧ (w2.alloc o).cell? ⟨w.heap.size, 3, none⟩ = some (.int .i64 x.q.e) ∧ (w2.alloc o).cell? ⟨w.heap.size + 1, 0, none⟩ = some (.slice a2 y.p.a.length c2) ∧ (w2.alloc o).cell? ⟨w.heap.size + 1, 1, none⟩ = some (.int .i64 y.p.e) ∧ (w2.alloc o).cell? ⟨w.heap.size + 1, 2, none⟩ = some (.slice a2' y.q.a.length c2') ∧ (w2.alloc o).cell? ⟨w.heap.size + 1, 3, none⟩ = some (.int .i64 y.q.e) := fun o => by
         have k := Bx2.below (b := w.heap.size) (x := x) (y := y) ⟨⟨ky.1, ky.2.1, ky.2.2.1, ky.2.2.2.1⟩, ⟨ky.2.2.2.2.1, ky.2.2.2.2.2.1, ky.2.2.2.2.2.2.1, ky.2.2.2.2.2.2.2⟩⟩ (bel1 w2 o)
         exact ⟨k.1.1, k.1.2.1, k.1.2.2.1, k.1.2.2.2, k.2.1, k.2.2.1, k.2.2.2.1, k.2.2.2.2⟩
       have B2 := Lib.hid (B1.out.trans hb2)
       clear hb2)
    | (go_at_call 110
       refine (R3.out _ _ (by simp [go_sem]) (by simp [go_sem])).mono ?_
       rintro e w' ⟨rfl, rfl⟩)
    | fail)
  go_wp2_with fail
  go_ret
  exact ⟨rfl, B2.out.alloc _⟩
end Go.Proofs.YtekblibhaipioaaGreat.Mn

namespace Go.Proofs.YtekblibhaipioaaGreat.Do
open Go Rw So Se
def pth : Tm → Nat → Nat → List Tm × Bool
  | .par a b, i, p => if i = p then ([], false) else if p < i + 1 + sz a then (if (pth a (i + 1) p).2 then pth a (i + 1) p else ((pth a (i + 1) p).1 ++ [b], false)) else (if (pth b (i + 1 + sz a) p).2 then pth b (i + 1 + sz a) p else ((pth b (i + 1 + sz a) p).1 ++ [a], false))
  | .block a, i, p => if i = p then ([], false) else ((pth a (i + 1) p).1, true)
  | .seq a b, i, p => if i = p then ([], false) else if p < i + 1 + sz a then pth a (i + 1) p else pth b (i + 1 + sz a) p
  | .alt a b, i, p => if i = p then ([], false) else if p < i + 1 + sz a then pth a (i + 1) p else pth b (i + 1 + sz a) p
  | .hand a b, i, p => if i = p then ([], false) else if p < i + 1 + sz a then pth a (i + 1) p else pth b (i + 1 + sz a) p
  | .pair a b, i, p => if i = p then ([], false) else if p < i + 1 + sz a then pth a (i + 1) p else pth b (i + 1 + sz a) p
  | .going a b, i, p => if i = p then ([], false) else if p < i + 1 + sz a then pth a (i + 1) p else pth b (i + 1 + sz a) p
  | .stack a b, i, p => if i = p then ([], false) else if p < i + 1 + sz a then pth a (i + 1) p else pth b (i + 1 + sz a) p
  | .fin _ c, i, p => if i = p then ([], false) else pth c (i + 1) p
  | _, _, _ => ([], false)
def noB : Tm → Bool
  | .block _ => false
  | .seq a b => noB a && noB b
  | .alt a b => noB a && noB b
  | .par a b => noB a && noB b
  | .hand a b => noB a && noB b
  | .pair a b => noB a && noB b
  | .going a b => noB a && noB b
  | .stack a b => noB a && noB b
  | .fin _ c => noB c
  | _ => true
end Go.Proofs.YtekblibhaipioaaGreat.Do

namespace Go.Proofs.YtekblibhaipioaaGreat.Se
open Go Go.RowKit Rw So
set_option maxRecDepth 20000
theorem nds_new (w : World) (l : List Nd) (ty : TypeId) : Nds (w.alloc (.cells (cls l).toArray ty)) (.slice (some ⟨w.heap.size, 0, none⟩) l.length l.length) l := by
  refine ⟨cls_len l, some ⟨w.heap.size, 0, none⟩, l.length, rfl, Nat.le_refl _, fun h => (by cases h), fun _ => ⟨w.heap.size, 0, rfl, fun j u hu => ?_⟩⟩
  rw [Nat.zero_add, World.cell?_alloc_new]
  simpa using hu
def OutN' (n : Nat) (l : List Nd) (w : World) (e : Ending) (w' : World) : Prop := ∃ a c, e = .returned (.slice a n c) ∧ Nds w' (.slice a n c) l ∧ Below w.heap.size w w'
theorem goS : Goes (.skip : Tm) := ⟨by decide +kernel, by decide, by decide⟩
end Go.Proofs.YtekblibhaipioaaGreat.Se

namespace Go.Proofs.YtekblibhaipioaaGreat.Mn
open Go Go.RowKit Tr
set_option maxRecDepth 20000
end Go.Proofs.YtekblibhaipioaaGreat.Mn

namespace Go.Proofs.YtekblibhaipioaaGreat.Mn
open Go Go.RowKit Tr
set_option maxRecDepth 20000
end Go.Proofs.YtekblibhaipioaaGreat.Mn

namespace Go.Proofs.YtekblibhaipioaaGreat.Mn
open Go Go.RowKit Tr
set_option maxRecDepth 20000
set_option maxHeartbeats 1000000 in
theorem with1_any (ok : Nat → Prop) (bx : Nat) (a pv : Value) (t p : Tr) (w : World) (hb : BoxT w bx pv p.e) (hp : StrsO ok w pv p.a) (hs : StrsO ok w a t.a) :
    Calls Tryz.prog 79 #[.agg #[a, .int .i64 t.e], .pointer (some ⟨bx, 0, none⟩)] w (OutP ok [⟨p, t⟩] w) := by
  have HP := Lib.hid hp
  have HS := Lib.hid hs
  have hlt := Ap.cell_lt hb.1
  obtain ⟨c0, c1⟩ := hb
  obtain ⟨_, a1, k1, rfl, _⟩ := hp
  obtain ⟨_, a2, k2, rfl, _⟩ := hs
  unfold OutP
  go_enter Tryz.func79, Tryz.ntmps79
  go_wp2_with fail
  go_ret
  refine ⟨_, _, rfl, ps_one (by simp [go_sem]) (by simp [go_sem]) (by simp [go_sem]) (by simp [go_sem]) (.inr (by omega)) (so_below (so_imp HP.out fun _ _ h => .inl h) (bel2 _ _ _)) (so_below (so_imp HS.out fun _ _ h => .inl h) (bel2 _ _ _)), bel2 _ _ _⟩
set_option maxHeartbeats 1000000 in
theorem with_any (ok : Nat → Prop) (pv y : Value) (p : Tr) (l : List Tr) (w : World) (hp : StrsO ok w pv p.a) (hl : TsO ok w y l) (hlen : l.length ≤ 1000000000000) :
    Calls Tryz.prog 45 #[.agg #[pv, .int .i64 p.e], y] w (OutP ok (l.map (Pr.mk p)) w) := by
  have eg : ∀ args w, (callFunc 79 args).run Tryz.prog w = .ok (.enter 79 args) w := enters_of Tryz.func79 (by kernel_rfl) rfl
  have hmap := map_flat (Pr.mk p) l
  have C := Lib.hid (fun ty => eachTP 79 #[.pointer (some ⟨w.heap.size, 0, none⟩)] eg ok y l (fun t => [⟨p, t⟩]) (w.alloc (.cells #[pv, .int .i64 p.e] ty)) (hl.below (bel1 _ _))
    (fun wr hb t ht a ha => with1_any _ w.heap.size a pv t p wr (BoxT.below (box_new _ _ _ _) hb) (so_below (so_below (so_imp hp fun b hlt h => ⟨h, by simp; omega⟩) (bel1 _ _)) hb) ha) hlen (by rw [← hmap, List.length_map]; exact hlen))
  rw [← hmap] at C
  generalize l.map (Pr.mk p) = L at C ⊢
  obtain ⟨_, a1, k1, rfl, _⟩ := hp
  obtain ⟨_, ⟨_, a2, k2, rfl, _⟩, _⟩ := hl
  clear hmap
  go_enter Tryz.func45, Tryz.ntmps45
  go_wp2_with fail
  refine (C.out _).mono ?_
  intro e w2 ho
  have HO := Lib.hid (ho.up (bel1 w _) fun b h => .inl h)
  obtain ⟨a4, k4, rfl, _, _⟩ := ho
  go_wp2_with fail
  go_ret
  exact HO.out
set_option maxHeartbeats 2000000 in
theorem going1_any (ok : Nat → Prop) (bx : Nat) (a y : Value) (t : Tr) (l : List Tr) (w : World) (hb : w.cell? ⟨bx, 0, none⟩ = some y) (hs : StrsO ok w a t.a) (hl : TsO ok w y l) (hlen : l.length ≤ 1000000000000) :
    Calls Tryz.prog 75 #[.agg #[a, .int .i64 t.e], .pointer (some ⟨bx, 0, none⟩)] w (OutP ok (going1 l t) w) := by
  have HB := Lib.hid (fun o => bel1 w o)
  have hlt := Ap.cell_lt hb
  by_cases h1 : t.e = 1
  · have hL : going1 l t = l.map (Pr.mk t) := if_pos h1
    rw [hL]
    have C := Lib.hid (fun w1 (hb : Below w.heap.size w w1) => with_any ok a y t l w1 (so_below hs hb) (hl.below hb) hlen)
    rw [h1] at C ⊢
    generalize l.map (Pr.mk t) = L at C ⊢
    obtain ⟨_, a1, k1, rfl, _⟩ := hs
    obtain ⟨_, ⟨_, a2, k2, rfl, _⟩, _⟩ := hl
    clear hL h1
    go_enter Tryz.func75, Tryz.ntmps75
    go_wp2_with fail
    refine (C.out _ (HB.out _)).mono ?_
    intro e w2 ho
    have HO := Lib.hid (ho.up (HB.out _) fun b h => .inl h)
    obtain ⟨a4, k4, rfl, _, _⟩ := ho
    go_wp2_with fail
    go_ret
    exact HO.out
  · have hL : going1 l t = [tick].map (Pr.mk t) := if_neg h1
    have hne : (t.e != 1) = true := by simp [h1]
    rw [hL]
    have C := Lib.hid (fun y' w1 ok' (hp : StrsO ok' w1 a t.a) (hl : TsO ok' w1 y' [tick]) => with_any ok' a y' t [tick] w1 hp hl (by simp))
    have HS := Lib.hid hs
    have ON : Hid (∀ w1, Calls Tryz.prog 47 #[.agg #[.slice none 0 0, .int .i64 1]] w1 (OutT none' [tick] w1)) := Lib.hid fun w1 => only_any none' _ tick w1 (so_nil _ _)
    generalize [tick].map (Pr.mk t) = L at C ⊢
    obtain ⟨_, a1, k1, rfl, _⟩ := hs
    obtain ⟨_, ⟨_, a2, k2, rfl, _⟩, _⟩ := hl
    clear hL
    go_enter Tryz.func75, Tryz.ntmps75
    go_wp2_with fail
    go_region_held3 (fun w' => w'.cell? ⟨w.heap.size, 0, none⟩ = some (.slice a1 t.a.length k1) ∧ w'.cell? ⟨w.heap.size, 1, none⟩ = some (.int .i64 t.e)) (first | exact ⟨by simp [go_sem], by simp [go_sem]⟩ | exact kz | exact ky | exact kx | fail) (first
      | (go_at_call 43
         (with_reducible refine (ended_any _ _).mono ?_)
         rintro e w1 ⟨rfl, hb1⟩
         have kz : BoxT w1 w.heap.size (.slice a1 t.a.length k1) t.e := BoxT.below ⟨by simp [go_sem], by simp [go_sem]⟩ hb1
         have B1 := Lib.hid (((HB.out _).drew).trans (hb1.mono (HB.out _).drew.size))
         clear hb1)
      | (go_at_call 47
         (with_reducible refine (ON.out _).mono ?_)
         rintro e w2 ⟨a4, k4, rfl, ht2, hb2⟩
         have B2 := Lib.hid (B1.out.trans (hb2.mono B1.out.size))
         have T2 : Hid (TsO (fun b => ok b ∨ w.heap.size ≤ b) w2 (.slice a4 1 k4) [tick]) := Lib.hid (ht2.imp (ok' := fun b => ok b ∨ w.heap.size ≤ b) fun b _ h => h.elim (fun h => h.elim) fun h => .inr (Nat.le_trans B1.out.size h))
         have ky := BoxT.below kz hb2
         clear ht2 hb2)
      | (go_at_call 45
         (with_reducible refine (C.out _ _ _ (so_below (so_imp HS.out fun _ _ h => .inl h) B2.out) T2.out).mono ?_)
         intro e w3 ho
         have HO := Lib.hid (ho.up (ok := ok) B2.out fun b h => h)
         obtain ⟨a5, k5, rfl, _, hb5⟩ := ho
         have kx := BoxT.below ky hb5
         clear hb5)
      | fail)
    go_wp2_with fail
    go_ret
    exact HO.out
set_option maxHeartbeats 2000000 in
theorem going_any (x y : Value) (A B : List Tr) (w : World) (hx : TsO any w x A) (hy : TsO any w y B) (hA : A.length ≤ 1000000000000) (hB : B.length ≤ 1000000000000) (hout : (going A B).length ≤ 1000000000000) :
    Calls Tryz.prog 42 #[x, y] w (OutP any (going A B) w) := by
  have eg : ∀ args w, (callFunc 75 args).run Tryz.prog w = .ok (.enter 75 args) w := enters_of Tryz.func75 (by kernel_rfl) rfl
  have C := Lib.hid (fun ty => eachTP 75 #[.pointer (some ⟨w.heap.size, 0, none⟩)] eg any x A (going1 B) (w.alloc (.cells #[y] ty)) (hx.below (bel1 _ _))
    (fun wr hb t ht a ha => by
      have hc : wr.cell? ⟨w.heap.size, 0, none⟩ = some y := by rw [hb.cell (p := ⟨w.heap.size, 0, none⟩) (by simp)]; exact box1_new _ _ _
      have hY := (((hy.imp (ok' := fun b => any b ∧ b < (w.alloc (.cells #[y] ty)).heap.size) fun b hlt h => ⟨h, by simp; omega⟩).below (bel1 w (.cells #[y] ty))).below hb)
      exact going1_any _ w.heap.size a y t B wr hc ha hY hB) hA hout)
  change Hid (∀ ty, Calls _ _ _ _ (OutP any (going A B) _)) at C
  generalize going A B = L at C ⊢
  obtain ⟨_, ⟨_, a1, k1, rfl, _⟩, _⟩ := hx
  obtain ⟨_, ⟨_, a2, k2, rfl, _⟩, _⟩ := hy
  go_enter Tryz.func42, Tryz.ntmps42
  go_wp2_with fail
  refine (C.out _).mono ?_
  intro e w2 ho
  have HO := Lib.hid (ho.up (bel1 w _) fun b h => .inl h)
  obtain ⟨a4, k4, rfl, _, _⟩ := ho
  go_wp2_with fail
  go_ret
  exact HO.out
set_option maxHeartbeats 2000000 in
theorem stacked1_any (T : TCon) (ok : Nat → Prop) (bx : Nat) (v1 v2 y : Value) (x : Pr) (l : List Tr) (w : World) (hb : w.cell? ⟨bx, 0, none⟩ = some y) (h1 : StrsO ok w v1 x.p.a) (h2 : StrsO ok w v2 x.q.a) (hl : TsO ok w y l) (hlen : l.length ≤ 1000000000000) (hrow : ∀ t ∈ l, x.q.a.length + t.a.length ≤ 1000000) :
    Calls Tryz.prog 77 #[.agg #[v1, .int .i64 x.p.e, v2, .int .i64 x.q.e], .pointer (some ⟨bx, 0, none⟩)] w (OutP ok (stack1 l x) w) := by
  have HB := Lib.hid (fun o => bel1 w o)
  have hlt := Ap.cell_lt hb
  have hL : stack1 l x = (l.map (thn x.q)).map (Pr.mk x.p) := by unfold stack1; rw [List.map_map]; rfl
  rw [hL]
  have TH := Lib.hid (fun w1 (hb : Below w.heap.size w w1) => then_any T ok v2 y x.q l w1 (so_below h2 hb) (hl.below hb) hlen hrow)
  have hml := Lib.hid (show (l.map (thn x.q)).length = l.length by simp)
  generalize l.map (thn x.q) = M at TH hml ⊢
  have C := Lib.hid (fun y' w1 ok' (hp : StrsO ok' w1 v1 x.p.a) (hl : TsO ok' w1 y' M) => with_any ok' v1 y' x.p M w1 hp hl (by have := hml.out; omega))
  have H1 := Lib.hid h1
  generalize M.map (Pr.mk x.p) = L at C ⊢
  have bx0 : Hid (∀ o : Obj, (w.alloc o).drew.cell? ⟨bx, 0, none⟩ = some y) := Lib.hid fun o => by rw [((bel1 w o).drew).cell (p := ⟨bx, 0, none⟩) hlt]; exact hb
  obtain ⟨_, a1, k1, rfl, _⟩ := h1
  obtain ⟨_, a2, k2, rfl, _⟩ := h2
  obtain ⟨_, ⟨_, a3, k3, rfl, _⟩, _⟩ := hl
  clear hL
  go_enter Tryz.func77, Tryz.ntmps77
  go_wp2_with fail
  go_region_held3 (fun w' => w'.cell? ⟨w.heap.size, 0, none⟩ = some (.slice a1 x.p.a.length k1) ∧ w'.cell? ⟨w.heap.size, 1, none⟩ = some (.int .i64 x.p.e) ∧ w'.cell? ⟨w.heap.size, 2, none⟩ = some (.slice a2 x.q.a.length k2) ∧ w'.cell? ⟨w.heap.size, 3, none⟩ = some (.int .i64 x.q.e) ∧ w'.cell? ⟨bx, 0, none⟩ = some (.slice a3 l.length k3)) (first | exact ⟨by simp [go_sem], by simp [go_sem], by simp [go_sem], by simp [go_sem], bx0.out _⟩ | exact ⟨kz.1, kz.2.1, kz.2.2.1, kz.2.2.2, bx1⟩ | exact ⟨ky.1, ky.2.1, ky.2.2.1, ky.2.2.2, bx2⟩ | fail) (first
    | (go_at_call 78
       (with_reducible refine (TH.out _ (HB.out _).drew).mono ?_)
       rintro e w1 ⟨a4, k4, rfl, ht1, hb1⟩
       have kz : BoxP w1 w.heap.size (.slice a1 x.p.a.length k1) x.p.e (.slice a2 x.q.a.length k2) x.q.e := BoxP.below ⟨by simp [go_sem], by simp [go_sem], by simp [go_sem], by simp [go_sem]⟩ hb1
       have B1 := Lib.hid (((HB.out _).drew).trans (hb1.mono (HB.out _).drew.size))
       have bx1 : w1.cell? ⟨bx, 0, none⟩ = some (.slice a3 l.length k3) := by rw [B1.out.cell (p := ⟨bx, 0, none⟩) hlt]; exact hb
       have T1 : Hid (TsO (fun b => ok b ∨ w.heap.size ≤ b) w1 (.slice a4 M.length k4) M) := Lib.hid (ht1.imp (ok' := fun b => ok b ∨ w.heap.size ≤ b) fun b _ h => h.imp id fun h => Nat.le_trans (HB.out _).drew.size h)
       clear ht1 hb1)
    | (go_at_call 45
       (with_reducible refine (C.out _ _ _ (so_below (so_imp H1.out fun _ _ h => .inl h) B1.out) T1.out).mono ?_)
       intro e w3 ho
       have HO := Lib.hid (ho.up (ok := ok) B1.out fun b h => h)
       obtain ⟨a5, k5, rfl, _, hb5⟩ := ho
       have ky := BoxP.below kz hb5
       have bx2 : w3.cell? ⟨bx, 0, none⟩ = some (.slice a3 l.length k3) := by rw [hb5.cell (p := ⟨bx, 0, none⟩) (Ap.cell_lt bx1)]; exact bx1
       clear hb5)
    | fail)
  go_wp2_with fail
  go_ret
  exact HO.out
set_option maxHeartbeats 2000000 in
theorem stacked_any (T : TCon) (x y : Value) (X : List Pr) (B : List Tr) (w : World) (hx : PsO any w x X) (hy : TsO any w y B) (hX : X.length ≤ 1000000000000) (hC : B.length ≤ 1000000000000) (hrow : ∀ x ∈ X, ∀ t ∈ B, x.q.a.length + t.a.length ≤ 1000000) (hout : (stack X B).length ≤ 1000000000000) :
    Calls Tryz.prog 44 #[x, y] w (OutP any (stack X B) w) := by
  have eg : ∀ args w, (callFunc 77 args).run Tryz.prog w = .ok (.enter 77 args) w := enters_of Tryz.func77 (by kernel_rfl) rfl
  have C := Lib.hid (fun ty => eachPP 77 #[.pointer (some ⟨w.heap.size, 0, none⟩)] eg any x X (stack1 B) (w.alloc (.cells #[y] ty)) (hx.below (bel1 _ _))
    (fun wr hb t ht a a' ha ha' => by
      have hc : wr.cell? ⟨w.heap.size, 0, none⟩ = some y := by rw [hb.cell (p := ⟨w.heap.size, 0, none⟩) (by simp)]; exact box1_new _ _ _
      have hY := (((hy.imp (ok' := fun b => any b ∧ b < (w.alloc (.cells #[y] ty)).heap.size) fun b hlt h => ⟨h, by simp; omega⟩).below (bel1 w (.cells #[y] ty))).below hb)
      exact stacked1_any T _ w.heap.size a a' y t B wr hc ha ha' hY hC (hrow t ht)) hX hout)
  change Hid (∀ ty, Calls _ _ _ _ (OutP any (stack X B) _)) at C
  generalize stack X B = L at C ⊢
  obtain ⟨_, ⟨_, a1, k1, rfl, _⟩, _⟩ := hx
  obtain ⟨_, ⟨_, a2, k2, rfl, _⟩, _⟩ := hy
  go_enter Tryz.func44, Tryz.ntmps44
  go_wp2_with fail
  refine (C.out _).mono ?_
  intro e w2 ho
  have HO := Lib.hid (ho.up (bel1 w _) fun b h => .inl h)
  obtain ⟨a4, k4, rfl, _, _⟩ := ho
  go_wp2_with fail
  go_ret
  exact HO.out
end Go.Proofs.YtekblibhaipioaaGreat.Mn

namespace Go.Proofs.YtekblibhaipioaaGreat.Do
open Go Rw So Se
noncomputable def setB (l : List Nd) : Bool := decide (0 < l.length) && sameN (st l) l
theorem set_iff {l : List Nd} : setB l = true ↔ ∃ t, flat t = l ∧ Goes t ∧ Nf t := by
  unfold setB sameN
  rw [Bool.and_eq_true, decide_eq_true_eq, decide_eq_true_eq]
  constructor
  · rintro ⟨h0, h⟩
    have hn : st l ≠ [] := fun e => by rw [e] at h; rw [← h] at h0; simp at h0
    obtain ⟨t, rfl, hg, e⟩ := st_some hn
    rw [e] at h
    have := flat_inj _ _ h
    exact ⟨t, rfl, hg, by rw [← this]; exact S_nf t⟩
  · rintro ⟨t, rfl, hg, hn⟩
    exact ⟨by rw [Se.flat_len]; exact sz_pos t, by rw [st_go hg, nf_S t hn]⟩
theorem set_go {t : Tm} (hg : Goes t) : setB (flat t) = true ↔ Nf t := by
  rw [set_iff]
  constructor
  · rintro ⟨u, e, _, h⟩
    rw [← flat_inj _ _ e]; exact h
  · intro h; exact ⟨t, rfl, hg, h⟩
noncomputable def av (l : List Nd) : List Int := if h : setB l = true then (wt (set_iff.1 h).choose 0).map Int.ofNat else []
theorem av_go {t : Tm} (hg : Goes t) (hn : Nf t) : av (flat t) = (wt t 0).map Int.ofNat := by
  have h : setB (flat t) = true := (set_go hg).2 hn
  unfold av
  rw [dif_pos h, flat_inj _ _ (set_iff.1 h).choose_spec.1]
theorem av_no {l : List Nd} (h : setB l = false) : av l = [] := dif_neg (by rw [h]; simp)
noncomputable def dm (l : List Nd) : Bool := if h : setB l = true then bangT (set_iff.1 h).choose else false
theorem dm_go {t : Tm} (hg : Goes t) (hn : Nf t) : dm (flat t) = bangT t := by
  have h : setB (flat t) = true := (set_go hg).2 hn
  unfold dm
  rw [dif_pos h, flat_inj _ _ (set_iff.1 h).choose_spec.1]
theorem dm_no {l : List Nd} (h : setB l = false) : dm l = false := dif_neg (by rw [h]; simp)
noncomputable def bs (l : List Nd) (p : Int) : List (List Nd) := if h : setB l = true ∧ p ∈ av l then (pth (set_iff.1 h.1).choose 0 p.toNat).1.map flat else []
noncomputable def fr (l : List Nd) (p : Int) : Bool := if h : setB l = true ∧ p ∈ av l then (!(pth (set_iff.1 h.1).choose 0 p.toNat).2) || (pth (set_iff.1 h.1).choose 0 p.toNat).1.any bangT else false
theorem mem_av {t : Tm} (hg : Goes t) (hn : Nf t) {p : Int} : p ∈ av (flat t) ↔ ∃ k ∈ wt t 0, p = (k : Int) := by
  rw [av_go hg hn, List.mem_map]
  exact ⟨fun ⟨k, h, e⟩ => ⟨k, h, e.symm⟩, fun ⟨k, h, e⟩ => ⟨k, h, e.symm⟩⟩
theorem bs_go {t : Tm} (hg : Goes t) (hn : Nf t) {k : Nat} (hk : k ∈ wt t 0) : bs (flat t) (k : Int) = (pth t 0 k).1.map flat := by
  have h : setB (flat t) = true ∧ (k : Int) ∈ av (flat t) := ⟨(set_go hg).2 hn, (mem_av hg hn).2 ⟨k, hk, rfl⟩⟩
  unfold bs
  rw [dif_pos h, flat_inj _ _ (set_iff.1 h.1).choose_spec.1]
  rfl
theorem fr_go {t : Tm} (hg : Goes t) (hn : Nf t) {k : Nat} (hk : k ∈ wt t 0) : fr (flat t) (k : Int) = ((!(pth t 0 k).2) || (pth t 0 k).1.any bangT) := by
  have h : setB (flat t) = true ∧ (k : Int) ∈ av (flat t) := ⟨(set_go hg).2 hn, (mem_av hg hn).2 ⟨k, hk, rfl⟩⟩
  unfold fr
  rw [dif_pos h, flat_inj _ _ (set_iff.1 h.1).choose_spec.1]
  rfl
theorem bs_no {l : List Nd} {p : Int} (h : p ∉ av l) : bs l p = [] := dif_neg fun k => h k.2
theorem fr_no {l : List Nd} {p : Int} (h : p ∉ av l) : fr l p = false := dif_neg fun k => h k.2
theorem pth_goes : ∀ (t : Tm) (i p : Nat), p ∈ wt t i → Goes t → Nf t → ∀ u ∈ (pth t i p).1, Goes u ∧ Nf u := by
  intro t
  induction t with
  | act s => intro i p _ _ _ u hu; simp [pth] at hu
  | skip => intro i p h; simp [wt] at h
  | throw => intro i p h; simp [wt] at h
  | yield => intro i p _ _ _ u hu; simp [pth] at hu
  | over s => intro i p h; simp [wt] at h
  | fin s c ic => intro i p h; simp [wt] at h
  | alt a b ia ib => intro i p h _ _ u hu; simp only [wt, List.mem_singleton] at h; subst h; simp [pth] at hu
  | pair a b ia ib => intro i p h _ _ u hu; simp only [wt, List.mem_singleton] at h; subst h; simp [pth] at hu
  | block a ia =>
    intro i p h hg hn u hu
    have hin := wt_in a _ _ h
    obtain ⟨g1, g2, g3⟩ := hg
    rw [rg_block] at g1
    simp only [sz] at g2
    simp [is] at g3
    rw [pth, if_neg (by omega)] at hu
    exact ia _ _ h ⟨g1, by omega, .inr g3⟩ hn.1 u hu
  | seq a b ia ib =>
    intro i p h hg hn u hu
    have hin := wt_in a _ _ h
    obtain ⟨g1, g2, g3⟩ := hg
    rw [rg_seq, Bool.and_eq_true] at g1
    simp only [sz] at g2
    simp [is] at g3
    rw [pth, if_neg (by omega), if_pos hin.2] at hu
    exact ia _ _ h ⟨g1.1, by omega, g3.imp (·.1) (·.1)⟩ hn.1 u hu
  | hand a b ia ib =>
    intro i p h hg hn u hu
    have hin := wt_in a _ _ h
    obtain ⟨g1, g2, g3⟩ := hg
    rw [rg_hand, Bool.and_eq_true] at g1
    simp only [sz] at g2
    simp [is] at g3
    rw [pth, if_neg (by omega), if_pos hin.2] at hu
    exact ia _ _ h ⟨g1.1, by omega, .inl g3.1⟩ hn.1 u hu
  | going a b ia ib =>
    intro i p h hg hn u hu
    have hin := wt_in a _ _ h
    obtain ⟨g1, g2, g3⟩ := hg
    rw [rg_going, Bool.and_eq_true] at g1
    simp only [sz] at g2
    simp [is] at g3
    rw [pth, if_neg (by omega), if_pos hin.2] at hu
    exact ia _ _ h ⟨g1.1, by omega, .inl g3.1⟩ hn.1 u hu
  | stack a b ia ib =>
    intro i p h hg hn u hu
    have hin := wt_in a _ _ h
    obtain ⟨g1, g2, g3⟩ := hg
    rw [rg_stack, Bool.and_eq_true] at g1
    simp only [sz] at g2
    simp [is] at g3
    rw [pth, if_neg (by omega), if_pos hin.2] at hu
    exact ia _ _ h ⟨g1.1, by omega, .inr g3.1⟩ hn.1 u hu
  | par a b ia ib =>
    intro i p h hg hn u hu
    obtain ⟨g1, g2, g3⟩ := hg
    rw [rg_par, Bool.and_eq_true] at g1
    simp only [sz] at g2
    have ga : Goes a := ⟨g1.1, by omega, by simp [is] at g3; exact g3.imp (·.1) (·.1)⟩
    have gb : Goes b := ⟨g1.2, by omega, by simp [is] at g3; exact g3.imp (·.2) (·.2)⟩
    rcases List.mem_append.1 h with h | h
    · have hin := wt_in a _ _ h
      rw [pth, if_neg (by omega), if_pos hin.2] at hu
      split at hu
      · exact ia _ _ h ga hn.1 u hu
      · rcases List.mem_append.1 hu with hu | hu
        · exact ia _ _ h ga hn.1 u hu
        · rw [List.mem_singleton] at hu; subst hu; exact ⟨gb, hn.2.1⟩
    · have hin := wt_in b _ _ h
      rw [pth, if_neg (by omega), if_neg (by omega)] at hu
      split at hu
      · exact ib _ _ h gb hn.2.1 u hu
      · rcases List.mem_append.1 hu with hu | hu
        · exact ib _ _ h gb hn.2.1 u hu
        · rw [List.mem_singleton] at hu; subst hu; exact ⟨ga, hn.1⟩
theorem wt_few : ∀ (t : Tm) (i : Nat), (wt t i).length ≤ sz t := by
  intro t
  induction t with
  | par a b ia ib => intro i; simp only [wt, List.length_append, sz]; have := ia (i + 1); have := ib (i + 1 + sz a); omega
  | seq a b ia ib => intro i; simp only [wt, sz]; have := ia (i + 1); omega
  | hand a b ia ib => intro i; simp only [wt, sz]; have := ia (i + 1); omega
  | going a b ia ib => intro i; simp only [wt, sz]; have := ia (i + 1); omega
  | stack a b ia ib => intro i; simp only [wt, sz]; have := ia (i + 1); omega
  | block a ia => intro i; simp only [wt, sz]; have := ia (i + 1); omega
  | _ => intro i; simp [wt, sz]
theorem av_len (l : List Nd) : (av l).length ≤ l.length := by
  cases h : setB l with
  | false => rw [av_no h]; exact Nat.zero_le _
  | true =>
    obtain ⟨t, rfl, hg, hn⟩ := set_iff.1 h
    rw [av_go hg hn, List.length_map, Se.flat_len]
    exact wt_few t 0
end Go.Proofs.YtekblibhaipioaaGreat.Do

namespace Go.Proofs.YtekblibhaipioaaGreat.Mn
open Go Go.RowKit Tr
set_option maxRecDepth 20000
end Go.Proofs.YtekblibhaipioaaGreat.Mn
