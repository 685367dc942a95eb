/- The document's text of a trace: the walk. -/
import Derived.Test.YtmhmfnjjdcdkcaaDoorTrw
import Derived.Test.YtmhmfnjjdcdkcaaDoorTrs
import Derived.Test.YtmhmfnjjdcdkcaaDoorSgw
namespace Go.Proofs.YtmhmfnjjdcdkcaaDoor.Tr
open Go Go.RowKit
set_option maxRecDepth 20000

/-- The bytes of some actions, a blank behind each. -/
def txs : List ByteArray → List UInt8
  | [] => []
  | x :: l => x.data.toList ++ 32 :: txs l
theorem txs_snoc (l : List ByteArray) (x : ByteArray) : txs (l ++ [x]) = txs l ++ (x.data.toList ++ [32]) := by
  induction l with
  | nil => rfl
  | cons y l ih => simp [txs, ih]
/-- The text of a trace. -/
def txt (t : Tr) : ByteArray := ⟨(txs t.a ++ (Sg.txt t.e).data.toList).toArray⟩

theorem sgtxt_size (e : Int) : (Sg.txt e).size ≤ 2 := by
  rcases Sg.cases4 e with rfl | rfl | rfl | h
  · decide
  · decide
  · decide
  · rw [show Sg.txt e = ⟨#[]⟩ by simp [Sg.txt, h]]
    decide
theorem txs_take (l : List ByteArray) (k : Nat) : (txs (l.take k)).length ≤ (txs l).length := by
  induction l generalizing k with
  | nil => simp [txs]
  | cons x l ih =>
    cases k with
    | zero => simp [txs]
    | succ k => have := ih k; simp [txs]; omega
theorem str_app (l : List UInt8) (x : ByteArray) : ((⟨l.toArray⟩ : ByteArray) ++ x) = ⟨(l ++ x.data.toList).toArray⟩ := by
  rw [show ((⟨l.toArray⟩ : ByteArray) ++ x) = ⟨l.toArray ++ x.data⟩ from ByteArray.ext (by simp)]
  congr 1
  apply Array.ext'
  simp

set_option maxHeartbeats 2000000 in
theorem text_any (v : Value) (t : Tr) (w : World) (hv : Strs w v t.a) (hlen : t.a.length ≤ 1000000) (hsum : (txs t.a).length ≤ 4611686018427387904) :
    Calls Tryd.prog 34 #[.agg #[v, .int .i64 t.e]] w fun e w' => e = .returned (.string (txt t)) ∧ Below w.heap.size w w' := by
  have HV := Lib.hid hv
  obtain ⟨_, a, c, rfl, _⟩ := hv
  obtain ⟨tx, htx⟩ : ∃ tx, txt t = tx := ⟨_, rfl⟩
  rw [htx]
  have HTX := Lib.hid htx
  clear htx
  go_enter Tryd.func34, Tryd.ntmps34
  go_wp2_with fail
  go_loopw [3, 4] (fun s i wr => ∃ k : Nat, k ≤ t.a.length ∧ i = .int .i64 k ∧ s = .string ⟨(txs (t.a.take k)).toArray⟩ ∧ wr = w.alloc (.cells #[.slice a t.a.length c, .int .i64 t.e] 24)) (fun _ i _ => t.a.length - (intOf i).toNat)
  case atStart => exact ⟨0, Nat.zero_le _, rfl, rfl, rfl⟩
  case round =>
    obtain ⟨k, hk, rfl, rfl, rfl⟩ := hrel
    by_cases hlt : k < t.a.length
    · rcases HV.out.form with ⟨h0, _⟩ | ⟨b, o, c', hv, hc⟩
      · rw [h0] at hlt; simp at hlt
      cases hv
      have e1 := hc k hlt
      have hblt : b < w.heap.size := Ap.cell_lt e1
      have ht := txs_snoc (t.a.take k) t.a[k]
      rw [← List.take_succ_eq_append_getElem hlt] at ht
      have hle := txs_take t.a (k + 1)
      rw [ht] at hle
      have HT := Lib.hid ht
      clear ht hc
      generalize t.a[k] = x at *
      have hsz : x.data.toList.length = x.size := by simp
      rw [List.length_append, List.length_append, hsz] at hle
      simp only [List.length_cons, List.length_nil] at hle
      clear hsz
      have n1 : ¬ 9223372036854775807 < (txs (t.a.take k)).length + x.size := by omega
      have n2 : ¬ 9223372036854775807 < (txs (t.a.take k)).length + x.size + 1 := by omega
      clear hle
      go_wp2_with fail
      go_roundw
      case rel => exact ⟨k + 1, by omega, by go_num, by rw [HT.out, str_app, str_app]; simp, trivial⟩
      case measure => simp [intOf]; omega
    · have hle := txs_take t.a k
      have hT : t.a.take k = t.a := List.take_of_length_le (by omega)
      have HK := Lib.hid hT
      have hx : (Sg.txt t.e).size ≤ 2 := sgtxt_size t.e
      have n1 : ¬ 9223372036854775807 < (txs (t.a.take k)).length + (Sg.txt t.e).size := by omega
      clear hT hle hx
      go_wp2_with (go_at_call 56; refine (Sg.textR_any _ _).mono ?_; rintro e w' ⟨rfl, rfl⟩)
      go_ret
      refine ⟨?_, (Below.refl _ _).alloc (Nat.le_refl _) _⟩
      rw [← HTX.out]
      refine congrArg (fun x => Ending.returned (Value.string x)) ?_
      show (⟨(txs (t.a.take k)).toArray⟩ : ByteArray) ++ Sg.txt t.e = _
      rw [str_app, HK.out]
      rfl
end Go.Proofs.YtmhmfnjjdcdkcaaDoor.Tr
