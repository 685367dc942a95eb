/- The program's Lex. -/
import Derived.Test.YthfcclheephokaaTks
import Derived.Lib.OthersKept
import Derived.Lib.FieldsU
import Derived.Lib.TrimU
import Derived.WalkSmall
namespace Go.Proofs.Ythfcclheephokaa.To
open Go Go.RowKit
set_option maxRecDepth 20000
theorem infoP : (Try.prog.info? 37).map (fun i => (i.zero, i.size, i.bytes)) = some (some (.agg #[.int .i64 0, .int .i64 0, .string ⟨#[]⟩]), 3, 32) := by kernel_rfl
theorem own_iter {w : World} {B size n : Nat} {e : TypeId} {v : Value} {xs : List Value} {k : Nat} {s : ByteArray} {p : Nat} (h : w.ownsRow B e size v n xs) (hk : w.heap[k]? = some (.stringIter s p)) (p' : Nat) : (w.iterAt k s p').ownsRow B e size v n xs := by
  obtain ⟨hl, h | ⟨g, cap, cur, hv, hg, hh, hr⟩⟩ := h
  · exact ⟨hl, .inl h⟩
  · refine ⟨hl, .inr ⟨g, cap, cur, hv, hg, ?_, hr⟩⟩
    rw [Lib.iterAt_other]
    · exact hh
    · intro e
      rw [e, hk] at hh
      cases hh
theorem own_not_iter {w : World} {B size n : Nat} {e : TypeId} {v : Value} {xs : List Value} {k : Nat} {s : ByteArray} {p : Nat} (h : w.ownsRow B e size v n xs) (hk : w.heap[k]? = some (.stringIter s p)) : some k ≠ v.ownBlock := by
  obtain ⟨hl, ⟨rfl, _⟩ | ⟨g, cap, cur, rfl, hg, hh, hr⟩⟩ := h
  · simp [Value.ownBlock]
  · intro e
    simp [Value.ownBlock] at e
    subst e
    rw [hk] at hh
    cases hh
/-- What the loop has made: the iterator stands at p, all ahead of q is read. -/
structure Lq (w wr : World) (v : Value) (s : ByteArray) (p q ne : Nat) : Prop where
  own : ∃ ts : List Tk, ts.length ≤ q ∧ wr.ownsRow w.heap.size 37 3 v ts.length (cls ts) ∧ F s.data.toList 0 = (F (s.data.toList.drop q) q).pre ts
  it : wr.heap[w.heap.size]? = some (.stringIter s p)
  below : Below w.heap.size w wr
  lets : ∀ k, p ≤ k → k < ne → ∃ h : k < s.size, letB s[k] = true
  which : (p < ne ∧ q = ne) ∨ (ne ≤ p ∧ q = p)
  ins : p ≤ s.size
theorem Lq.start (w : World) (s : ByteArray) : Lq w (w.iter s 0) (.slice none 0 0) s 0 0 0 :=
  ⟨⟨[], Nat.le_refl _, ⟨rfl, .inl ⟨rfl, rfl⟩⟩, by rw [Res.pre_nil]; rfl⟩, World.iter_heap w s 0, (Below.refl _ _).alloc (Nat.le_refl _) _, fun k _ h => absurd h (by omega), Or.inr ⟨Nat.le_refl _, rfl⟩, Nat.zero_le _⟩
theorem Lq.le {w wr : World} {v : Value} {s : ByteArray} {p q ne : Nat} (h : Lq w wr v s p q ne) : q ≤ s.size := by
  have h1 := h.ins
  rcases h.which with ⟨h2, rfl⟩ | ⟨_, rfl⟩
  · obtain ⟨h3, _⟩ := h.lets (q - 1) (by omega) (by omega)
    omega
  · exact h1
theorem Lq.sz {w wr : World} {v : Value} {s : ByteArray} {p q ne : Nat} (h : Lq w wr v s p q ne) : w.heap.size < wr.heap.size := (Array.getElem?_eq_some_iff.1 h.it).1
theorem Lq.move {w wr wx : World} {v : Value} {s : ByteArray} {p q ne : Nat} (h : Lq w wr v s p q ne) (hb : Below wr.heap.size wr wx) : Lq w wx v s p q ne := by
  obtain ⟨ts, h1, h2, h3⟩ := h.own
  exact ⟨⟨ts, h1, Ap.own_below h2 hb, h3⟩, (hb.block _ h.sz).trans h.it, h.below.trans (hb.mono h.below.size), h.lets, h.which, h.ins⟩
/-- The iterator goes on; it was within a name. -/
theorem Lq.within {w wr : World} {v : Value} {s : ByteArray} {p q ne : Nat} (h : Lq w wr v s p q ne) (hp : p < ne) : Lq w (wr.iterAt w.heap.size s (p + 1)) v s (p + 1) q ne := by
  obtain ⟨ts, h1, h2, h3⟩ := h.own
  obtain ⟨hlt, _⟩ := h.lets p (Nat.le_refl _) hp
  refine ⟨⟨ts, h1, own_iter h2 h.it _, h3⟩, Lib.iterAt_heap _ _ _ _ _ h.it, Lib.below_iterAt h.below (Nat.le_refl _) _ _, fun k hk => h.lets k (by omega), ?_, by omega⟩
  rcases h.which with ⟨_, rfl⟩ | ⟨h4, _⟩
  · rcases Nat.lt_or_ge (p + 1) q with h5 | h5
    · exact Or.inl ⟨h5, rfl⟩
    · exact Or.inr ⟨h5, by omega⟩
  · omega
/-- The iterator goes on; a blank was there. -/
theorem Lq.blank {w wr : World} {v : Value} {s : ByteArray} {p q ne : Nat} (h : Lq w wr v s p q ne) (hp : ne ≤ p) (hlt : p < s.size) (h32 : s[p] = 32) : Lq w (wr.iterAt w.heap.size s (p + 1)) v s (p + 1) (p + 1) ne := by
  obtain ⟨ts, h1, h2, h3⟩ := h.own
  obtain rfl : q = p := by rcases h.which with ⟨h4, _⟩ | ⟨_, h4⟩ <;> omega
  exact ⟨⟨ts, by omega, own_iter h2 h.it _, by rw [h3, F_blank_at hlt h32]⟩, Lib.iterAt_heap _ _ _ _ _ h.it, Lib.below_iterAt h.below (Nat.le_refl _) _ _, fun k hk => h.lets k (by omega), Or.inr ⟨by omega, rfl⟩, by omega⟩
/-- A refusal. -/
theorem Lq.bad {w wr : World} {v : Value} {s : ByteArray} {p q ne : Nat} {e : Int} (h : Lq w wr v s p q ne) (hp : ne ≤ p) (hF : F (s.data.toList.drop p) p = .bad p e) : F s.data.toList 0 = .bad p e := by
  obtain ⟨ts, _, _, h3⟩ := h.own
  obtain rfl : q = p := by rcases h.which with ⟨h4, _⟩ | ⟨_, h4⟩ <;> omega
  rw [h3, hF]
  rfl
/-- A token more, in a world behind the iterator's. -/
theorem Lq.next {w wr wx : World} {v : Value} {s : ByteArray} {p q ne : Nat} (h : Lq w wr v s p q ne) (hp : ne ≤ p) (hlt : p < s.size) (h1000 : s.size ≤ 1000) (W : World) (hW : wr.iterAt w.heap.size s (p + 1) = W) (hb : Below W.heap.size W wx) (b : Nat) (hbk : b = wx.heap.size) (t : Tk) (q' ne' : Nat)
    (hF : F (s.data.toList.drop p) p = (F (s.data.toList.drop q') q').cons t) (hq : p < q') (hne : ∀ k, p + 1 ≤ k → k < ne' → ∃ h : k < s.size, letB s[k] = true) (hw : (p + 1 < ne' ∧ q' = ne') ∨ (ne' ≤ p + 1 ∧ q' = p + 1)) :
    ∃ v' w', (Builtin.append_ #[23, 23] 23 #[v, .slice (some ⟨b, 0, none⟩) 1 1]).run Try.prog (wx.alloc (.cells #[.int .i64 t.k, .int .i64 t.a, .string t.n] 37)) = .ok v' w' ∧ Lq w w' v' s (p + 1) q' ne' := by
  subst hbk
  obtain ⟨ts, hl, hown0, hf⟩ := h.own
  obtain rfl : q = p := by rcases h.which with ⟨h4, _⟩ | ⟨_, h4⟩ <;> omega
  have hit0 := Lib.iterAt_heap wr w.heap.size s q (q + 1) h.it
  have hown1 := own_iter hown0 h.it (q + 1)
  have hbw := Lib.below_iterAt h.below (k := w.heap.size) (Nat.le_refl _) s (q + 1)
  rw [hW] at hit0 hown1 hbw
  have hsz : w.heap.size < W.heap.size := (Array.getElem?_eq_some_iff.1 hit0).1
  have hown := Ap.own_below hown1 hb
  have hit := (hb.block _ hsz).trans hit0
  have hbx : Below w.heap.size w wx := hbw.trans (hb.mono (by omega))
  have hszx : w.heap.size < wx.heap.size := by have := hb.size; omega
  obtain ⟨i0, hi, hz, hs1, hb8⟩ := info_parts infoP
  obtain ⟨v', w', h1, h2, h3, h4, h5⟩ := Ap.run_append_one (P := Try.prog) (ty := 23) Try.underlying23 hi hz hs1 hb8 (by rfl) (by omega) hown hbx.size #[.int .i64 t.k, .int .i64 t.a, .string t.n] rfl
    (by intro u hu; simp at hu; rcases hu with rfl | rfl | rfl <;> rfl) (by unfold maxLen; omega) (by omega)
  refine ⟨v', w', h1, ⟨⟨ts ++ [t], by simp; omega, ?_, by rw [hf, hF, Res.pre_snoc]⟩, ?_, hbx.trans h4, hne, hw, by omega⟩⟩
  · rw [cls_append, List.length_append]
    exact h2
  · rw [h3.block _ hszx (own_not_iter hown hit)]
    exact hit
end Go.Proofs.Ythfcclheephokaa.To
