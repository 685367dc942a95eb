/- The program's Acts: a map of the names that were told. -/
import Derived.Test.YtpkbpooiaddcaaaSox
import Derived.Maps.Views
import Derived.Maps.OwnOps
import Derived.Deep.DeepCutAuto
namespace Go.Proofs.Ytpkbpooiaddcaaa.Sx
open Go Go.RowKit Go.Maps Go.WideMaps Go.Proofs.Ytpkbpooiaddcaaa.Rw Go.Proofs.Ytpkbpooiaddcaaa.So
set_option maxRecDepth 20000

/-- A map's datum that says of each text whether it is one of these. -/
def TD (os : List ByteArray) (D : DataW Unit) : Prop := IsMap D ∧ ∀ s : ByteArray, D.atKey (.string s.data.toList) (.lit (.bool false)) = .lit (.bool (os.any fun o => decide (o = s)))
theorem TD.none : TD [] (.map []) := ⟨isMap_empty, fun _ => rfl⟩
theorem TD.put {os : List ByteArray} {D : DataW Unit} (h : TD os D) (x : ByteArray) : TD (os ++ [x]) (D.put (.string x.data.toList) (.lit (.bool true))) := by
  refine ⟨h.1.put _ _, fun s => ?_⟩
  by_cases hs : s = x
  · subst hs
    rw [atKey_put_same h.1 (by simp [WideAt.IsKeyLit])]
    simp
  · have hne : Lit.string s.data.toList ≠ Lit.string x.data.toList := by
      intro e
      injection e with e
      apply hs
      cases s; cases x
      simp at e
      rw [e]
    rw [atKey_put_other hne, h.2 s]
    have hs' : ¬ x = s := fun e => hs e.symm
    simp [hs']
theorem lawS : Keyed Try.prog 9 := string_keyed Try.underlying9
theorem bool_inv {v : Value} {z : DataW Unit × List MemPlace} {q : Bool} (h : plainElem Try.prog 4 v = some z) (hz : z.1 = .lit (.bool q)) : v = .bool q := by
  unfold plainElem at h
  rw [Try.underlying4] at h
  cases v <;> simp at h
  subst h
  simp at hz
  rw [hz]
theorem zeroB (w : World) : (zeroValue 4).run Try.prog w = .ok (.bool false) w := by kernel_rfl
theorem look {w : World} {b n : Nat} {os : List ByteArray} {D : DataW Unit} (h : w.ownsMap Try.prog 9 (plainElem Try.prog 4) b n D) (hd : TD os D) (s : ByteArray) (hs : s.size ≤ maxLen) :
    (Instr.lookup 40 (.map (some b)) (.string s) false).run Try.prog w = .ok (.bool (os.any fun o => decide (o = s))) w := by
  obtain ⟨v, ps, hrun, hv⟩ := h.lookup lawS Try.underlying40 (zeroB w) (plainElem_bool Try.underlying4 false) (keyOf_string_mk Try.underlying9 hs)
  rw [hd.2 s] at hv
  rw [hrun, bool_inv hv rfl]
/-- What the loop has made: the names, and the map that tells them. -/
def Gm (w wr : World) (v : Value) (os : List ByteArray) : Prop :=
  (∃ D, wr.ownsMap Try.prog 9 (plainElem Try.prog 4) w.heap.size os.length D ∧ TD os D) ∧ wr.ownsRow (w.heap.size + 1) 9 1 v os.length (os.map .string) ∧ Below w.heap.size w wr ∧ w.heap.size + 1 ≤ wr.heap.size
theorem own_sliceS {w : World} {base size n : Nat} {e : TypeId} {v : Value} {xs : List Value} (h : w.ownsRow base e size v n xs) : ∃ a c, v = .slice a n c := by
  obtain ⟨_, ⟨rfl, rfl⟩ | ⟨g, cap, cur, rfl, _⟩⟩ := h
  · exact ⟨none, 0, rfl⟩
  · exact ⟨_, _, rfl⟩
theorem Gm.start (w : World) : Gm w (w.alloc (.map #[] 0)) (.slice none 0 0) [] :=
  ⟨⟨_, World.ownsMap_made _ _ _ _, TD.none⟩, ⟨rfl, .inl ⟨rfl, rfl⟩⟩, (Below.refl _ _).alloc (Nat.le_refl _) _, by simp⟩
theorem Gm.alloc {w wr : World} {v : Value} {os : List ByteArray} (h : Gm w wr v os) (o : Obj) : Gm w (wr.alloc o) v os := by
  obtain ⟨⟨D, h1, h2⟩, h3, h4, h5⟩ := h
  exact ⟨⟨D, h1.alloc _, h2⟩, h3.alloc _, h4.alloc h4.size _, by simp; omega⟩
theorem own_turn {w w' : World} {B size n : Nat} {e : TypeId} {v : Value} {xs : List Value} (h : w.ownsRow (B + 1) e size v n xs) (hg : w.grownBy w' (some B)) : w'.ownsRow (B + 1) e size v n xs := by
  obtain ⟨hl, h | ⟨g, cap, cur, rfl, hb, hh, h1, h2, h3, h4⟩⟩ := h
  · exact ⟨hl, .inl h⟩
  · refine ⟨hl, .inr ⟨g, cap, cur, rfl, hb, ?_, h1, h2, h3, h4⟩⟩
    rw [hg.block g (Nat.lt_of_not_le fun hle => by rw [Array.getElem?_eq_none hle] at hh; cases hh) (fun e => by injection e with e; omega)]
    exact hh
theorem Gm.add {w wr w1 : World} {v : Value} {os : List ByteArray} {D : DataW Unit} (h : Gm w wr v os) (hown : w1.ownsMap Try.prog 9 (plainElem Try.prog 4) w.heap.size (os.length + 1) D) (hg : wr.grownBy w1 (some w.heap.size)) (s : ByteArray) (hd : TD (os ++ [s]) D) (hl : os.length ≤ 1000000) :
    ∃ v' w', (Builtin.append_ #[23, 23] 23 #[v, .slice (some ⟨w1.heap.size, 0, none⟩) 1 1]).run Try.prog (w1.alloc (.cells #[.string s] 9)) = .ok v' w' ∧ Gm w w' v' (os ++ [s]) := by
  obtain ⟨_, h3, h4, h5⟩ := h
  have hs := hg.size
  have B1 : Below w.heap.size w w1 := h4.grown hg h4.size (fun k hk => by injection hk with hk; omega)
  obtain ⟨i0, hi, hz, hs1, hb8⟩ := info_parts infoS
  obtain ⟨v', w', r1, r2, _, r4, _⟩ := Ap.run_append_one (P := Try.prog) (ty := 23) Try.underlying23 hi hz hs1 hb8 (by rfl) (by omega) (own_turn h3 hg) (by omega) #[.string s] rfl
    (by intro u hu; simp at hu; subst hu; rfl) (by unfold maxLen; omega) (by omega)
  obtain ⟨es, clock, m1, m2, m3, m4⟩ := hown
  refine ⟨v', w', r1, ⟨D, ⟨es, clock, by rw [r4.block _ (Nat.lt_succ_self _)]; exact m1, m2, ?_, m4⟩, hd⟩, ?_, B1.trans (r4.mono (Nat.le_succ _)), by have := r4.size; omega⟩
  · simpa using m3
  · simpa using r2
end Go.Proofs.Ytpkbpooiaddcaaa.Sx
