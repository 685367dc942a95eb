/- The document's mixed at any two rows. -/
import Derived.Test.YtmhmfnjjdcdkcaaDoorTr3
namespace Go.Proofs.YtmhmfnjjdcdkcaaDoor.Tr
open Go Go.RowKit
set_option maxRecDepth 20000

/-- The rest behind the first of a slice of texts. -/
theorem slice1 (b o k c : Nat) (w : World) : (Instr.slice 22 (.slice (some ⟨b, o, none⟩) (k + 1) c) (some (.int .i64 1)) none none).run Tryd.prog w = .ok (.slice (some ⟨b, if c = 1 then o else o + 1, none⟩) k (c - 1)) w := by
  have hu := Tryd.underlying22
  have h1 : (1 : Int) ≤ (k : Int) + 1 := by omega
  by_cases hc : c = 1 <;> simp [go_sem, hu, h1, hc]

theorem mixed_any (n : Nat) (hn : n ≤ 20) : ∀ (x y : Value) (l m : List ByteArray) (w : World), l.length + m.length ≤ n → Strs w x l → Strs w y m → Calls Tryd.prog 52 #[x, y] w (Mxd w n l m) := by
  induction n with
  | zero =>
    intro x y l m w hlen hx hy
    obtain rfl : l = [] := List.eq_nil_of_length_eq_zero (by omega)
    obtain ⟨_, a1, c1, rfl, _⟩ := hx
    exact mixed_nil 0 a1 c1 y m w hy
  | succ n ih =>
    intro x y l m w hlen hx hy
    match l, hx with
    | [], hx =>
      obtain ⟨_, a1, c1, rfl, _⟩ := hx
      exact mixed_nil _ a1 c1 y m w hy
    | x0 :: l, hx =>
      match m, hy with
      | [], hy =>
        have hx' := hx
        obtain ⟨_, a1, c1, rfl, _⟩ := hx'
        obtain ⟨_, a2, c2, rfl, _⟩ := hy
        exact mixed_nil_r _ x0 l a1 a2 c1 c2 w (by simp at hlen; omega) hx
      | y0 :: m, hy =>
        have hx' := hx
        have hy' := hy
        obtain ⟨_, a1, c1, rfl, hc1, _, hcell1⟩ := hx'
        obtain ⟨_, a2, c2, rfl, hc2, _, hcell2⟩ := hy'
        obtain ⟨b1, o1, rfl, _⟩ := hcell1 (by simp)
        obtain ⟨b2, o2, rfl, _⟩ := hcell2 (by simp)
        simp at hlen
        exact mixed_step n (by omega) (fun x y l m w h hx hy => ih (by omega) x y l m w h hx hy) b1 o1 c1 b2 o2 c2 _ _ x0 y0 l m w (by omega) hx hy
          (by by_cases h : c1 = 1 <;> simp [h]) (by by_cases h : c2 = 1 <;> simp [h]) (slice1 b1 o1 l.length c1) (slice1 b2 o2 m.length c2)
end Go.Proofs.YtmhmfnjjdcdkcaaDoor.Tr
