/- The document's Mix: the walk. -/
import Derived.Test.YtmhmfnjjdcdkcaaDoorTr5
namespace Go.Proofs.YtmhmfnjjdcdkcaaDoor.Tr
open Go Go.RowKit
set_option maxRecDepth 20000

/-- All traces of two, side by side. -/
def pr (p q : Tr) : List Tr := norm ((mx 19 p.a q.a).map fun r => ⟨r, Sg.both p.e q.e⟩)
/-- All rows of two. -/
def mix (a b : List ByteArray) : List (List ByteArray) := (pr ⟨a, 1⟩ ⟨b, 1⟩).map (·.a)
theorem pr_len (p q : Tr) : (pr p q).length ≤ 524288 := by
  refine Nat.le_trans (length_norm _) ?_
  rw [List.length_map]
  exact Nat.le_trans (mx_len _ _ _) (by decide)

set_option maxHeartbeats 2000000 in
theorem mix_any (x y : Value) (l m : List ByteArray) (w : World) (h1 : Strs w x l) (h2 : Strs w y m) (hlen : l.length + m.length ≤ 19) :
    Calls Tryd.prog 29 #[x, y] w fun e w' => ∃ v, e = .returned v ∧ Rws w' v (mix l m) ∧ Below w.heap.size w w' := by
  have H1 := Lib.hid h1
  have H2 := Lib.hid h2
  have h1' := h1
  have h2' := h2
  obtain ⟨_, a1, c1, rfl, _⟩ := h1'
  obtain ⟨_, a2, c2, rfl, _⟩ := h2'
  clear h1 h2
  obtain ⟨ts, hts⟩ : ∃ ts, pr ⟨l, 1⟩ ⟨m, 1⟩ = ts := ⟨_, rfl⟩
  have hml : ts.length ≤ 524288 := by rw [← hts]; exact pr_len _ _
  unfold mix
  rw [hts]
  have HTS := Lib.hid hts
  clear hts
  go_enter Tryd.func29, Tryd.ntmps29
  go_wp2_with fail
  refine (par_any _ _ ⟨l, 1⟩ ⟨m, 1⟩ _ H1.out H2.out hlen).mono ?_
  rintro e wm ⟨vm, rfl, htm, hbm⟩
  have KM : Hid (Trs wm vm ts) := by rw [← HTS.out]; exact htm
  have BM := Lib.hid hbm
  clear htm hbm
  obtain ⟨am, cm, rfl, _, hm⟩ := KM.out.val
  have HM := Lib.hid hm
  clear hm
  go_wp2_with fail
  go_loopw [5, 7] (fun v i wr => ∃ (k : Nat) (cs : List Value), k ≤ ts.length ∧ i = .int .i64 k ∧ Below wm.heap.size wm wr ∧ wr.ownsRow wm.heap.size 22 1 v k cs ∧ RwO (fun _ => True) wm cs ((ts.take k).map (·.a))) (fun _ i _ => ts.length - (intOf i).toNat)
  case atStart => exact ⟨0, [], Nat.zero_le _, rfl, Below.refl _ _, ⟨rfl, .inl ⟨rfl, rfl⟩⟩, trivial⟩
  case round =>
    obtain ⟨k, cs, hk, rfl, hb, hown, hcs⟩ := hrel
    have WB := Lib.hid hb
    have WO := Lib.hid hown
    have WC := Lib.hid hcs
    clear hb hown hcs
    by_cases hlt : k < ts.length
    · obtain ⟨b1, o1, a, rfl, e1, _, hs⟩ := HM.out k hlt
      have c1 : wr.cell? ⟨b1, o1 + k * 2, none⟩ = some a := by rw [Nat.mul_comm k 2, WB.out.cell (Ap.cell_lt e1)]; exact e1
      have HS := Lib.hid hs
      have HMS := Lib.hid (map_snoc (fun t : Tr => t.a) ts k hlt)
      generalize ts[k] = t at *
      have hs' := HS.out
      obtain ⟨_, av, cv, rfl, _⟩ := hs'
      obtain ⟨v2', w2, hrun, ho2, hg2, hb2, hf2⟩ := run_append_row (a := .slice av t.a.length cv) WO.out WB.out.size rfl (by omega)
      have RUN := Lib.hid hrun
      have O2 := Lib.hid ho2
      have B2 : Hid (Below wm.heap.size wm w2) := WB.out.trans hb2
      clear hrun ho2 hg2 hb2 hf2 e1 hs
      go_wp2_with (at_builtin; refine Ap.wpList_append_run (by rfl) _ _ _ _ rfl _ _ rfl rfl v2' w2 RUN.out ?_)
      go_roundw
      case rel => exact ⟨k + 1, _, by omega, by go_num, B2.out, O2.out, by rw [HMS.out]; exact WC.out.snoc (Ap.RdO.of (by omega) HS.out)⟩
      case measure => simp [intOf]; omega
    · go_wp2_with fail
      go_ret
      refine ⟨_, rfl, ?_, BM.out.trans (WB.out.mono BM.out.size)⟩
      have h1 := WO.out
      have h2 := WC.out
      obtain rfl : k = ts.length := by omega
      rw [List.take_length] at h2
      exact ⟨cs, by rw [List.length_map]; exact Ap.Rd.owned h1, h2.map fun _ _ h => Ap.RdO.below h WB.out⟩
end Go.Proofs.YtmhmfnjjdcdkcaaDoor.Tr
