/- The document's 'in' and 'may' of layer 8. -/
import Derived.Test.YtpkbpooiaddcaaaRfa
import Derived.Deep.QuietTactic
import Derived.BigQuiet
namespace Go.Proofs.Ytpkbpooiaddcaaa.Rf
open Go Go.RowKit Go.Proofs.Ytpkbpooiaddcaaa.Rw
set_option maxRecDepth 20000

set_option maxHeartbeats 400000 in
theorem in_empty (a : Option Addr) (cap : Nat) (s : ByteArray) (w : World) :
    Calls Try.prog 25 #[.slice a 0 cap, .string s] w fun e w' => e = .returned (.bool false) ∧ Below w.heap.size w w' := by
  go_enter Try.func25, Try.ntmps25
  go_wp2_with fail
  refine Go.wp_loop_rounds 1 ?_
  rw [rounds_succ]
  go_wp2_with fail
  go_ret
  exact ⟨rfl, Below.refl _ _⟩
set_option maxHeartbeats 2000000 in
theorem in_cells (b off cap : Nat) (names : List ByteArray) (s : ByteArray) (w : World) (hl : names.length ≤ 1000000) (hat : AtS w b off names) :
    Calls Try.prog 25 #[.slice (some ⟨b, off, none⟩) names.length cap, .string s] w fun e w' => e = .returned (.bool (inN names s)) ∧ Below w.heap.size w w' := by
  have HA := Lib.hid hat
  clear hat
  go_enter Try.func25, Try.ntmps25
  go_wp2_with fail
  go_loopw [5] (fun i wr => ∃ k : Nat, k ≤ names.length ∧ i = .int .i64 k ∧ Hid (Below w.heap.size w wr) ∧ Hid (inN (names.take k) s = false)) (fun i _ => names.length - (intOf i).toNat)
  case atStart => exact ⟨0, Nat.zero_le _, rfl, Lib.hid (Below.refl _ _), Lib.hid rfl⟩
  case round =>
    obtain ⟨k, hk, rfl, HB, HS⟩ := hrel
    by_cases hlt : k < names.length
    · have e1 := HA.out k hlt
      have d1 : wr.cell? ⟨b, off + k, none⟩ = some (.string names[k]) := by rw [HB.out.cell (Ap.cell_lt e1)]; exact e1
      have HT := Lib.hid (inN_take names s k hlt)
      have HX := Lib.hid (fun e => inN_at (s := s) hlt e)
      obtain ⟨u, hu⟩ : ∃ u, names[k] = u := ⟨_, rfl⟩
      rw [hu] at d1 HT HX
      clear hu e1
      by_cases huv : u = s
      · have hq := bytes_eq huv
        have HR := Lib.hid (HX.out huv)
        clear huv
        go_wp2_with fail
        go_ret
        exact ⟨ret_bool HR.out.symm, HB.out⟩
      · have hq := bytes_ne huv
        have HK : Hid (inN (names.take (k + 1)) s = false) := by
          show _ = _
          rw [HT.out, HS.out, decide_eq_false huv]
          rfl
        clear huv
        go_wp2_with fail
        go_roundw
        case rel => exact ⟨k + 1, by omega, by go_num, HB, HK⟩
        case measure => simp [intOf]; omega
    · have HZ : Hid (inN names s = false) := by
        have := HS.out
        rwa [List.take_of_length_le (by omega)] at this
      go_wp2_with fail
      go_ret
      exact ⟨ret_bool HZ.out.symm, HB.out⟩
theorem in_any (v : Value) (names : List ByteArray) (s : ByteArray) (w : World) (hv : Strs w v names) (hl : names.length ≤ 1000000) :
    Calls Try.prog 25 #[v, .string s] w fun e w' => e = .returned (.bool (inN names s)) ∧ Below w.heap.size w w' := by
  rcases hv.form with ⟨rfl, a, cap, rfl⟩ | ⟨b, off, cap, rfl, hat⟩
  · exact in_empty a cap s w
  · exact in_cells b off cap names s w hl hat

set_option maxHeartbeats 1000000 in
theorem may_any (x : Nd) (w : World) :
    Calls Try.prog 26 #[.agg #[.int .i64 x.k, .string x.n, .int .i64 x.s]] w fun e w' => ∃ y, e = .returned y ∧ Nds w' y [alt, x, thr] ∧ Below w.heap.size w w' := by
  have hn := nds_new (w.alloc (nb x)) [alt, x, thr] 39
  rw [show (w.alloc (nb x)).heap.size = w.heap.size + 1 by simp] at hn
  have HN := Lib.hid hn
  have HB := Lib.hid ((below1 w (nb x)).alloc (below1 w (nb x)).size (.cells (cls [alt, x, thr]).toArray 39))
  clear hn
  go_enter Try.func26, Try.ntmps26
  go_wp2_with fail
  go_ret
  exact ⟨_, rfl, HN.out, HB.out⟩
end Go.Proofs.Ytpkbpooiaddcaaa.Rf
