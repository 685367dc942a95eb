/- Rows of rows of actions; the document's ahead: the walk. -/
import Derived.Test.YtmhmfnjjdcdkcaaDoorTrz
namespace Go.Proofs.YtmhmfnjjdcdkcaaDoor.Tr
open Go Go.RowKit
set_option maxRecDepth 20000

/-- A slice of texts, in a block that is as ok says. -/
def StrsO (ok : Nat → Prop) (w : World) (v : Value) (l : List ByteArray) : Prop := Ap.RdO ok w 1 v l.length (l.map .string)
/-- The cells of some rows. -/
def RwO (ok : Nat → Prop) (w : World) : List Value → List (List ByteArray) → Prop
  | [], [] => True
  | a :: cs, r :: rs => StrsO ok w a r ∧ RwO ok w cs rs
  | _, _ => False
/-- A slice of rows that reads as these. -/
def Rws (w : World) (v : Value) (rs : List (List ByteArray)) : Prop := ∃ cs, Ap.Rd w 1 v rs.length cs ∧ RwO (fun _ => True) w cs rs

theorem RwO.map {ok ok' : Nat → Prop} {w w' : World} (h : ∀ v l, StrsO ok w v l → StrsO ok' w' v l) : ∀ {cs : List Value} {rs : List (List ByteArray)}, RwO ok w cs rs → RwO ok' w' cs rs
  | [], [], _ => trivial
  | _ :: _, _ :: _, hr => ⟨h _ _ hr.1, RwO.map h hr.2⟩
  | [], _ :: _, hr => hr.elim
  | _ :: _, [], hr => hr.elim
theorem RwO.snoc {ok : Nat → Prop} {w : World} {a : Value} {r : List ByteArray} (ha : StrsO ok w a r) : ∀ {cs : List Value} {rs : List (List ByteArray)}, RwO ok w cs rs → RwO ok w (cs ++ [a]) (rs ++ [r])
  | [], [], _ => ⟨ha, trivial⟩
  | _ :: _, _ :: _, hr => ⟨hr.1, RwO.snoc ha hr.2⟩
  | [], _ :: _, hr => hr.elim
  | _ :: _, [], hr => hr.elim
theorem RwO.append {ok : Nat → Prop} {w : World} {ds : List Value} {ss : List (List ByteArray)} (hd : RwO ok w ds ss) : ∀ {cs : List Value} {rs : List (List ByteArray)}, RwO ok w cs rs → RwO ok w (cs ++ ds) (rs ++ ss)
  | [], [], _ => hd
  | _ :: _, _ :: _, hr => ⟨hr.1, RwO.append hd hr.2⟩
  | [], _ :: _, hr => hr.elim
  | _ :: _, [], hr => hr.elim
theorem RwO.len {ok : Nat → Prop} {w : World} : ∀ {cs : List Value} {rs : List (List ByteArray)}, RwO ok w cs rs → cs.length = rs.length
  | [], [], _ => rfl
  | _ :: _, _ :: _, hr => by simp [RwO.len hr.2]
  | [], _ :: _, hr => hr.elim
  | _ :: _, [], hr => hr.elim
theorem RwO.at {ok : Nat → Prop} {w : World} : ∀ {cs : List Value} {rs : List (List ByteArray)}, RwO ok w cs rs → ∀ k (hk : k < rs.length), ∃ a, cs[k]? = some a ∧ StrsO ok w a rs[k]
  | [], [], _, k, hk => by simp at hk
  | a :: _, _ :: _, hr, 0, _ => ⟨a, rfl, hr.1⟩
  | _ :: _, _ :: _, hr, k + 1, hk => by
    obtain ⟨a, h1, h2⟩ := RwO.at hr.2 k (by simpa using hk)
    exact ⟨a, by simpa using h1, h2⟩
  | [], _ :: _, hr, _, _ => hr.elim
  | _ :: _, [], hr, _, _ => hr.elim
theorem RwO.one {ok : Nat → Prop} {w : World} : ∀ {cs : List Value} {rs : List (List ByteArray)}, RwO ok w cs rs → ∀ u ∈ cs, u.oneCell' = true
  | [], [], _, u, hu => by cases hu
  | a :: _, _ :: _, hr, u, hu => by
    rcases List.mem_cons.1 hu with rfl | hu
    · obtain ⟨_, _, _, rfl, _⟩ := hr.1
      rfl
    · exact RwO.one hr.2 u hu
  | [], _ :: _, hr, _, _ => hr.elim
  | _ :: _, [], hr, _, _ => hr.elim
theorem Rws.below {w w' : World} {v : Value} {rs : List (List ByteArray)} (h : Rws w v rs) (hb : Below w.heap.size w w') : Rws w' v rs := by
  obtain ⟨cs, h1, h2⟩ := h
  exact ⟨cs, h1.below hb, h2.map fun _ _ h => Ap.RdO.below h hb⟩
theorem Rws.val {w : World} {v : Value} {rs : List (List ByteArray)} (h : Rws w v rs) : ∃ a cap, v = .slice a rs.length cap ∧ rs.length ≤ cap ∧
    ∀ k, (hk : k < rs.length) → ∃ b off x, a = some ⟨b, off, none⟩ ∧ w.cell? ⟨b, off + k, none⟩ = some x ∧ Strs w x rs[k] := by
  obtain ⟨cs, ⟨_, a, cap, rfl, hcap, _, hcell⟩, hc⟩ := h
  refine ⟨a, cap, rfl, hcap, fun k hk => ?_⟩
  obtain ⟨b, off, rfl, hj⟩ := hcell (by omega)
  obtain ⟨x, h1, h2⟩ := hc.at k hk
  exact ⟨b, off, x, rfl, hj _ _ h1, h2.rd⟩

theorem infoR : (Tryd.prog.info? 22).map (fun i => (i.zero, i.size, i.bytes)) = some (some (.slice none 0 0), 1, 24) := by kernel_rfl

/-- One row appended to a row of rows that the call owns. -/
theorem run_append_row {wr : World} {base n : Nat} {v a : Value} {cs : List Value} (hown : wr.ownsRow base 22 1 v n cs) (hbase : base ≤ wr.heap.size) (ha : a.oneCell' = true) (hlen : n ≤ 2000000) :
    ∃ v' w', (Builtin.append_ #[47, 47] 47 #[v, .slice (some ⟨wr.heap.size, 0, none⟩) 1 1]).run Tryd.prog (wr.alloc (.cells #[a] 22)) = .ok v' w' ∧
      w'.ownsRow base 22 1 v' (n + 1) (cs ++ [a]) ∧ wr.grownBy w' v.ownBlock ∧ Below base wr w' ∧ Ap.Fresh wr v v' := by
  obtain ⟨i0, hi, hz, hs1, hb8⟩ := info_parts infoR
  obtain ⟨v', w', h1, h2, h3, h4, h5⟩ := Ap.run_append_one (P := Tryd.prog) (ty := 47) Tryd.underlying47 hi hz hs1 hb8 (by rfl) (by omega) hown hbase #[a] rfl
    (fun u hu => by
      simp at hu
      subst hu
      exact ha) (by unfold maxLen; omega) (by omega)
  exact ⟨v', w', h1, by simpa using h2, h3, h4, h5⟩

theorem strs_new (w : World) (s : ByteArray) (t : TypeId) : Strs (w.alloc (.cells #[.string s] t)) (.slice (some ⟨w.heap.size, 0, none⟩) 1 1) [s] := by
  refine ⟨rfl, _, 1, rfl, Nat.le_refl _, fun h => (by cases h), fun _ => ⟨w.heap.size, 0, rfl, fun j u hu => ?_⟩⟩
  rw [Nat.zero_add, World.cell?_alloc_new]
  simpa using hu

theorem map_take (x : ByteArray) (rs : List (List ByteArray)) (k : Nat) (h : k < rs.length) : (rs.take (k + 1)).map (x :: ·) = (rs.take k).map (x :: ·) ++ [x :: rs[k]] := by
  rw [List.take_succ_eq_append_getElem h, List.map_append]
  rfl

set_option maxHeartbeats 2000000 in
theorem ahead_any (s : ByteArray) (x : Value) (rs : List (List ByteArray)) (w : World) (hx : Rws w x rs) (hlen : rs.length ≤ 1500000) (hrow : ∀ r ∈ rs, r.length ≤ 1000000) :
    Calls Tryd.prog 70 #[.string s, x] w fun e w' => ∃ v cs, e = .returned v ∧ w'.ownsRow w.heap.size 22 1 v rs.length cs ∧ RwO (fun b => w.heap.size ≤ b ∧ some b ≠ v.ownBlock) w' cs (rs.map (s :: ·)) ∧ Below w.heap.size w w' := by
  obtain ⟨a1, c1, rfl, _, h1⟩ := hx.val
  have H1 := Lib.hid h1
  have HR := Lib.hid hrow
  clear h1 hx hrow
  go_enter Tryd.func70, Tryd.ntmps70
  go_wp2_with fail
  go_loopw [5, 6] (fun v i wr => ∃ (k : Nat) (cs : List Value), k ≤ rs.length ∧ i = .int .i64 k ∧ Below w.heap.size w wr ∧ wr.ownsRow w.heap.size 22 1 v k cs ∧ RwO (fun b => w.heap.size ≤ b ∧ some b ≠ v.ownBlock) wr cs ((rs.take k).map (s :: ·))) (fun _ i _ => rs.length - (intOf i).toNat)
  case atStart => exact ⟨0, [], Nat.zero_le _, rfl, Below.refl _ _, ⟨rfl, .inl ⟨rfl, rfl⟩⟩, trivial⟩
  case round =>
    obtain ⟨k, cs, hk, rfl, hb, hown, hcs⟩ := hrel
    have HB := Lib.hid hb
    have HO := Lib.hid hown
    have HC := Lib.hid hcs
    clear hb hown hcs
    by_cases hlt : k < rs.length
    · obtain ⟨b1, o1, a, rfl, e1, hs⟩ := H1.out k hlt
      have c1' : wr.cell? ⟨b1, o1 + k, none⟩ = some a := by rw [HB.out.cell (Ap.cell_lt e1)]; exact e1
      have HS := Lib.hid hs
      have HM := Lib.hid (map_take s rs k hlt)
      have HL := Lib.hid (HR.out _ (List.getElem_mem hlt))
      generalize rs[k] = r at *
      clear e1 hs
      have hblt : b1 < wr.heap.size := Ap.cell_lt c1'
      go_wp2_with fail
      refine (cat_any _ _ [s] r _ (strs_new wr s _) (HS.out.below (HB.out.alloc HB.out.size _)) (by have := HL.out; simp; omega)).mono ?_
      rintro e w1 ⟨v1, rfl, hown1, hb1⟩
      have HO1 := Lib.hid hown1
      have B1 : Hid (Below wr.heap.size wr w1) := ((Below.refl _ _).alloc (Nat.le_refl _) _).trans (hb1.mono (by simp))
      obtain ⟨_, av, cv, rfl, _⟩ := Ap.Rd.owned hown1
      obtain ⟨v2, w2, hrun, hown2, hgr, hb2, hfr⟩ := run_append_row (a := .slice av ([s] ++ r).length cv) (Ap.own_below HO.out B1.out) (Nat.le_trans HB.out.size B1.out.size) rfl (by omega)
      have HRUN := Lib.hid hrun
      have HO2 := Lib.hid hown2
      have HG := Lib.hid hgr
      have HFR := Lib.hid hfr
      have B2 := Lib.hid ((HB.out.trans (B1.out.mono HB.out.size)).trans hb2)
      clear hrun hown2 hgr hb2 hfr hown1 hb1
      go_wp2_with (at_builtin; refine Ap.wpList_append_run (by rfl) _ _ _ _ rfl _ _ rfl rfl v2 w2 HRUN.out ?_)
      go_roundw
      case rel =>
        refine ⟨k + 1, cs ++ [.slice av ([s] ++ r).length cv], by omega, by go_num, B2.out, HO2.out, ?_⟩
        rw [HM.out]
        refine RwO.snoc ?_ (HC.out.map fun v l h => Ap.RdO.grow (Ap.RdO.below h B1.out) HG.out HFR.out)
        refine Ap.RdO.grow (Ap.RdO.imp (Ap.RdO.fresh HO1.out) fun b _ hb => ⟨Nat.le_trans HB.out.size (Nat.le_trans (by simp) hb), ?_⟩) HG.out HFR.out
        intro hbo
        have := Ap.own_lt HO.out b hbo.symm
        simp at hb
        omega
      case measure => simp [intOf]; omega
    · go_wp2_with fail
      go_ret
      refine ⟨_, cs, rfl, ?_, ?_, HB.out⟩
      · have : k = rs.length := by omega
        rw [← this]
        exact HO.out
      · have := HC.out
        rw [List.take_of_length_le (by omega)] at this
        exact this
end Go.Proofs.YtmhmfnjjdcdkcaaDoor.Tr
