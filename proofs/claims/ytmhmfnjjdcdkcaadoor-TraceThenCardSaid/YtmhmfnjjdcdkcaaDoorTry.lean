/- The document's Cat: two rows of actions as one of the call's own. -/
import Derived.Test.YtmhmfnjjdcdkcaaDoorTrx
namespace Go.Proofs.YtmhmfnjjdcdkcaaDoor.Tr
open Go Go.RowKit
set_option maxRecDepth 20000

theorem infoS : (Tryd.prog.info? 9).map (fun i => (i.zero, i.size, i.bytes)) = some (some (.string ⟨#[]⟩), 1, 16) := by kernel_rfl

/-- Texts of any slice appended to a row that the call owns. -/
theorem run_append_strs {w : World} {base : Nat} {v x : Value} {l m : List ByteArray} (hown : w.ownsRow base 9 1 v l.length (l.map .string)) (hbase : base ≤ w.heap.size) (hx : Strs w x m) (hlen : l.length + m.length ≤ 2000000) :
    ∃ v' w', (Builtin.append_ #[22, 22] 22 #[v, x]).run Tryd.prog w = .ok v' w' ∧ w'.ownsRow base 9 1 v' (l ++ m).length ((l ++ m).map .string) ∧ w.grownBy w' v.ownBlock ∧ Below base w w' ∧ Ap.Fresh w v v' := by
  obtain ⟨i0, hi, hz, hs1, hb8⟩ := info_parts infoS
  obtain ⟨v', w', h1, h2, h3, h4, h5⟩ := Ap.run_append_rd (P := Tryd.prog) (ty := 22) Tryd.underlying22 hi hz hs1 hb8 (by rfl) (by omega) hown hbase hx
    (fun u hu => by obtain ⟨b, _, rfl⟩ := List.mem_map.1 hu; rfl) (by unfold maxLen; omega) (by omega)
  exact ⟨v', w', h1, by simpa using h2, h3, h4, h5⟩

set_option maxHeartbeats 1000000 in
theorem cat_any (x y : Value) (l m : List ByteArray) (w : World) (hx : Strs w x l) (hy : Strs w y m) (hlen : l.length + m.length ≤ 2000000) :
    Calls Tryd.prog 47 #[x, y] w fun e w' => ∃ v, e = .returned v ∧ w'.ownsRow w.heap.size 9 1 v (l ++ m).length ((l ++ m).map .string) ∧ Below w.heap.size w w' := by
  obtain ⟨v1, w1, hrun1, hown1, hg1, hb1, _⟩ := run_append_strs (w := w) (base := w.heap.size) (v := .slice none 0 0) (l := []) ⟨rfl, .inl ⟨rfl, rfl⟩⟩ (Nat.le_refl _) hx (by simp; omega)
  rw [List.nil_append] at hown1
  obtain ⟨v2, w2, hrun2, hown2, hg2, hb2, _⟩ := run_append_strs hown1 hb1.size (hy.below hb1) hlen
  have R1 := Lib.hid hrun1
  have R2 := Lib.hid hrun2
  have O2 := Lib.hid hown2
  have B2 := Lib.hid (hb1.trans hb2)
  clear hrun1 hrun2 hown1 hown2 hg1 hg2 hb1 hb2 hx hy
  go_enter Tryd.func47, Tryd.ntmps47
  go_wp2_with (first
    | (at_builtin; refine Ap.wpList_append_run (by rfl) (.tmp 6) (.tmp 7) _ _ rfl _ _ rfl rfl v1 w1 R1.out ?_)
    | (at_builtin; refine Ap.wpList_append_run (by rfl) (.tmp 9) (.tmp 10) _ _ rfl _ _ rfl rfl v2 w2 R2.out ?_))
  go_ret
  exact ⟨_, rfl, O2.out, B2.out⟩
end Go.Proofs.YtmhmfnjjdcdkcaaDoor.Tr
