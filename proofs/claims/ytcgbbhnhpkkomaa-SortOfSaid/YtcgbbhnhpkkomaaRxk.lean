/- The program's Make. -/
import Derived.Test.YtcgbbhnhpkkomaaRwsa
import Derived.Test.YtcgbbhnhpkkomaaRwt
namespace Go.Proofs.Ytcgbbhnhpkkomaa.Rx
open Go Go.RowKit Rw
set_option maxRecDepth 20000

theorem rwC_at {w : World} : ∀ {cs : List Value} {ls : List (List Nd)}, RwC w cs ls → ∀ i (h : i < ls.length), ∃ a, cs[i]? = some a ∧ Nds w a ls[i]
  | [], [], _, i, h => by simp at h
  | a :: _, _ :: _, hr, 0, _ => ⟨a, rfl, hr.1⟩
  | _ :: cs, _ :: ls, hr, i + 1, h => by
    obtain ⟨a, h1, h2⟩ := rwC_at hr.2 i (by simpa using h)
    exact ⟨a, by simpa using h1, by simpa using h2⟩
  | [], _ :: _, h, _, _ => h.elim
  | _ :: _, [], h, _, _ => h.elim
/-- The rows' cells. -/
def AtRs (w : World) (b off : Nat) (ls : List (List Nd)) : Prop := ∀ i, (h : i < ls.length) → ∃ a, w.cell? ⟨b, off + i, none⟩ = some a ∧ Nds w a ls[i]
theorem rws_form {w : World} {v : Value} {ls : List (List Nd)} (h : Rws w v ls) :
    (ls = [] ∧ ∃ a cap, v = .slice a 0 cap) ∨ ∃ b off cap, v = .slice (some ⟨b, off, none⟩) ls.length cap ∧ AtRs w b off ls := by
  obtain ⟨cs, ⟨_, a, cap, rfl, hle, _, hcell⟩, hr⟩ := h
  by_cases h0 : 0 < ls.length
  · obtain ⟨b, off, rfl, hj⟩ := hcell h0
    refine Or.inr ⟨b, off, cap, rfl, fun i hi => ?_⟩
    obtain ⟨a, h1, h2⟩ := rwC_at hr i hi
    exact ⟨a, hj i a h1, h2⟩
  · have : ls = [] := List.eq_nil_of_length_eq_zero (by omega)
    subst this
    exact Or.inl ⟨rfl, a, cap, rfl⟩
theorem heap_new (w : World) (o : Obj) : (w.alloc o).heap[w.heap.size]? = some o := by
  show (w.heap.push o)[w.heap.size]? = some o
  simp
/-- What the loop has made. -/
def Mk (w wr : World) (x : Nd) (ls : List (List Nd)) (k : Nat) (v : Value) : Prop := wr.ownsRow w.heap.size 34 3 v (x :: (ls.take k).flatten).length (cls (x :: (ls.take k).flatten)) ∧ Below w.heap.size w wr
theorem Mk.start (w : World) (x : Nd) (ls : List (List Nd)) : Mk w ((w.alloc (nb x)).alloc (nb x)) x ls 0 (.slice (some ⟨w.heap.size + 1, 0, none⟩) 1 1) := by
  refine ⟨⟨by simp [cls, cl], .inr ⟨w.heap.size + 1, 1, #[.int .i64 x.k, .string x.n, .int .i64 x.s], rfl, by omega, ?_, by simp, by decide, rfl, by simp [cls, cl]⟩⟩, ?_⟩
  · have h := heap_new (w.alloc (nb x)) (nb x)
    rw [show (w.alloc (nb x)).heap.size = w.heap.size + 1 by simp] at h
    exact h
  · exact (below1 w _).alloc (below1 w _).size _
theorem take_flat {ls : List (List Nd)} {k : Nat} (h : k < ls.length) : (ls.take (k + 1)).flatten = (ls.take k).flatten ++ ls[k] := by
  rw [List.take_succ_eq_append_getElem h, List.flatten_append]
  simp only [List.flatten_cons, List.flatten_nil, List.append_nil]
theorem flat_le : ∀ (ls : List (List Nd)) (k : Nat), (ls.take k).flatten.length ≤ ls.flatten.length
  | [], k => by simp
  | _ :: _, 0 => by simp
  | l :: ls, k + 1 => by have := flat_le ls k; simp [List.take_succ_cons]; simp at this; omega
theorem Mk.next {w wr : World} {x : Nd} {ls : List (List Nd)} {k : Nat} {v a : Value} (h : Mk w wr x ls k v) (hk : k < ls.length) (ha : Nds wr a ls[k]) (hf : ls.flatten.length ≤ 1000) :
    ∃ v' w', (Builtin.append_ #[22, 22] 22 #[v, a]).run Try.prog wr = .ok v' w' ∧ Mk w w' x ls (k + 1) v' := by
  have h1 := flat_le ls (k + 1)
  rw [take_flat hk, List.length_append] at h1
  obtain ⟨v', w', hrun, hown, _, hb, _⟩ := run_append_nds h.1 h.2.size ha (by rw [List.length_cons]; omega)
  refine ⟨v', w', hrun, ?_, h.2.trans hb⟩
  rw [take_flat hk, ← List.cons_append]
  exact hown
theorem own_slice {w : World} {base size n : Nat} {e : TypeId} {v : Value} {xs : List Value} (h : w.ownsRow base e size v n xs) : ∃ a c, v = .slice a n c := by
  obtain ⟨_, ⟨rfl, rfl⟩ | ⟨g, cap, cur, rfl, _⟩⟩ := h
  · exact ⟨none, 0, rfl⟩
  · exact ⟨_, _, rfl⟩

set_option maxHeartbeats 800000 in
theorem make_cells (x : Nd) (b off cap : Nat) (ls : List (List Nd)) (w : World) (hat : AtRs w b off ls) (hl : ls.length ≤ 1000) (hf : ls.flatten.length ≤ 1000) :
    Calls Try.prog 22 #[.agg #[.int .i64 x.k, .string x.n, .int .i64 x.s], .slice (some ⟨b, off, none⟩) ls.length cap] w fun e w' => ∃ y, e = .returned y ∧ Ap.RdO (fun g => w.heap.size ≤ g) w' 3 y (x :: ls.flatten).length (cls (x :: ls.flatten)) ∧ Below w.heap.size w w' := by
  have HA := Lib.hid hat
  have HF := Lib.hid hf
  have HS := Lib.hid (Mk.start w x ls)
  clear hat hf
  go_enter Try.func22, Try.ntmps22
  go_wp2_with fail
  go_loopw [5, 12] (fun mv iv wr => ∃ k : Nat, k ≤ ls.length ∧ iv = .int .i64 k ∧ Hid (Mk w wr x ls k mv)) (fun _ i _ => ls.length - (intOf i).toNat)
  case atStart => exact ⟨0, Nat.zero_le _, rfl, HS⟩
  case round =>
    obtain ⟨k, hk, rfl, HM⟩ := hrel
    by_cases hlt : k < ls.length
    · obtain ⟨a, ha, hnd⟩ := HA.out k hlt
      have c1 : wr.cell? ⟨b, off + k, none⟩ = some a := by rw [HM.out.2.cell (Ap.cell_lt ha)]; exact ha
      obtain ⟨v', w', hrun, hmk⟩ := HM.out.next hlt (hnd.below HM.out.2) HF.out
      obtain ⟨am, cm, rfl⟩ := own_slice HM.out.1
      obtain ⟨_, aa, ca, rfl, -⟩ := hnd
      have R := Lib.hid hrun
      have HM' := Lib.hid hmk
      clear ha hrun hmk
      go_wp2_with (at_builtin; refine Ap.wpList_append_run (by rfl) (.tmp 16) (.tmp 17) _ _ rfl _ _ rfl rfl v' w' R.out ?_)
      go_roundw
      case rel => exact ⟨k + 1, by omega, by go_num, HM'⟩
      case measure => simp [intOf]; omega
    · have h1 := HM.out
      unfold Mk at h1
      rw [List.take_of_length_le (by omega)] at h1
      obtain ⟨am, cm, rfl⟩ := own_slice h1.1
      have H1 := Lib.hid h1
      clear h1
      go_wp2_with fail
      go_ret
      exact ⟨_, rfl, Ap.RdO.fresh H1.out.1, H1.out.2⟩
set_option maxHeartbeats 400000 in
theorem make_empty (x : Nd) (a : Option Addr) (cap : Nat) (w : World) :
    Calls Try.prog 22 #[.agg #[.int .i64 x.k, .string x.n, .int .i64 x.s], .slice a 0 cap] w fun e w' => ∃ y, e = .returned y ∧ Ap.RdO (fun g => w.heap.size ≤ g) w' 3 y (x :: ([] : List (List Nd)).flatten).length (cls (x :: ([] : List (List Nd)).flatten)) ∧ Below w.heap.size w w' := by
  have HS := Lib.hid (Mk.start w x [])
  go_enter Try.func22, Try.ntmps22
  go_wp2_with fail
  refine Go.wp_loop_rounds 1 ?_
  rw [rounds_succ]
  go_wp2_with fail
  go_ret
  exact ⟨_, rfl, Ap.RdO.fresh HS.out.1, HS.out.2⟩
/-- The program's Make. -/
theorem makeP_any (x : Nd) (v : Value) (ls : List (List Nd)) (w : World) (h : Rws w v ls) (hl : ls.length ≤ 1000) (hf : ls.flatten.length ≤ 1000) :
    Calls Try.prog 22 #[.agg #[.int .i64 x.k, .string x.n, .int .i64 x.s], v] w fun e w' => ∃ y, e = .returned y ∧ Ap.RdO (fun g => w.heap.size ≤ g) w' 3 y (x :: ls.flatten).length (cls (x :: ls.flatten)) ∧ Below w.heap.size w w' := by
  rcases rws_form h with ⟨rfl, a, cap, rfl⟩ | ⟨b, off, cap, rfl, hat⟩
  · exact make_empty x a cap w
  · exact make_cells x b off cap ls w hat hl hf
end Go.Proofs.Ytcgbbhnhpkkomaa.Rx
