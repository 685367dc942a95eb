/- The document's merge of two rows of traces: the walk. -/
import Derived.Test.YtmhmfnjjdcdkcaaDoorTrt
namespace Go.Proofs.YtmhmfnjjdcdkcaaDoor.Tr
open Go Go.RowKit
set_option maxRecDepth 20000

theorem infoT : (Tryd.prog.info? 24).map (fun i => (i.zero, i.size, i.bytes)) = some (some (.agg #[.slice none 0 0, .int .i64 0]), 2, 32) := by kernel_rfl

theorem TrCells.snoc {w : World} {a : Value} {t : Tr} (ha : Strs w a t.a) : ∀ {cs : List Value} {ts : List Tr}, TrCells w cs ts → TrCells w (cs ++ [a, .int .i64 t.e]) (ts ++ [t])
  | [], [], _ => ⟨ha, rfl, trivial⟩
  | _ :: _ :: _, _ :: _, h => ⟨h.1, h.2.1, TrCells.snoc ha h.2.2⟩
  | [], _ :: _, h => h.elim
  | [_], [], h => h.elim
  | [_], _ :: _, h => h.elim
  | _ :: _ :: _, [], h => h.elim

theorem mg_lt (l m : List Tr) (p q : Nat) (h1 : p < l.length) (h2 : q < m.length) (h : cmp l[p] m[q] < 0) :
    mg (l.length + m.length + 1 - p - q) (l.drop p) (m.drop q) = l[p] :: mg (l.length + m.length + 1 - (p + 1) - q) (l.drop (p + 1)) (m.drop q) := by
  rw [List.drop_eq_getElem_cons h1, List.drop_eq_getElem_cons h2, show l.length + m.length + 1 - p - q = (l.length + m.length + 1 - (p + 1) - q) + 1 by omega, mg, if_pos h]
theorem mg_eq (l m : List Tr) (p q : Nat) (h1 : p < l.length) (h2 : q < m.length) (h : cmp l[p] m[q] = 0) :
    mg (l.length + m.length + 1 - p - q) (l.drop p) (m.drop q) = l[p] :: mg (l.length + m.length + 1 - (p + 1) - (q + 1)) (l.drop (p + 1)) (m.drop (q + 1)) := by
  rw [List.drop_eq_getElem_cons h1, List.drop_eq_getElem_cons h2, show l.length + m.length + 1 - p - q = (l.length + m.length + 1 - (p + 1) - q) + 1 by omega, mg, if_neg (by omega), if_pos h,
    mg_fuel _ (l.length + m.length + 1 - (p + 1) - (q + 1)) _ _ (by simp; omega) (by simp; omega)]
theorem mg_gt (l m : List Tr) (p q : Nat) (h1 : p < l.length) (h2 : q < m.length) (h : 0 < cmp l[p] m[q]) :
    mg (l.length + m.length + 1 - p - q) (l.drop p) (m.drop q) = m[q] :: mg (l.length + m.length + 1 - p - (q + 1)) (l.drop p) (m.drop (q + 1)) := by
  rw [List.drop_eq_getElem_cons h1, List.drop_eq_getElem_cons h2, show l.length + m.length + 1 - p - q = (l.length + m.length + 1 - p - (q + 1)) + 1 by omega, mg, if_neg (by omega), if_neg (by omega)]
theorem mg_l (l m : List Tr) (p q : Nat) (h1 : p < l.length) (h2 : q = m.length) :
    mg (l.length + m.length + 1 - p - q) (l.drop p) (m.drop q) = l[p] :: mg (l.length + m.length + 1 - (p + 1) - q) (l.drop (p + 1)) (m.drop q) := by
  subst h2
  rw [List.drop_eq_getElem_cons h1, List.drop_length, show l.length + m.length + 1 - p - m.length = (l.length + m.length + 1 - (p + 1) - m.length) + 1 by omega]
  obtain ⟨n, hn⟩ : ∃ n, l.length + m.length + 1 - (p + 1) - m.length = n + 1 := ⟨l.length - p - 1, by omega⟩
  rw [hn]
  cases l.drop (p + 1) <;> simp [mg]
theorem mg_r (l m : List Tr) (p q : Nat) (h1 : p = l.length) (h2 : q < m.length) :
    mg (l.length + m.length + 1 - p - q) (l.drop p) (m.drop q) = m[q] :: mg (l.length + m.length + 1 - p - (q + 1)) (l.drop p) (m.drop (q + 1)) := by
  subst h1
  rw [List.drop_eq_getElem_cons h2, List.drop_length, show l.length + m.length + 1 - l.length - q = (l.length + m.length + 1 - l.length - (q + 1)) + 1 by omega]
  obtain ⟨n, hn⟩ : ∃ n, l.length + m.length + 1 - l.length - (q + 1) = n + 1 := ⟨m.length - q - 1, by omega⟩
  rw [hn]
  simp [mg]
theorem mg_end (l m : List Tr) (p q n : Nat) (h1 : p = l.length) (h2 : q = m.length) : mg n (l.drop p) (m.drop q) = [] := by
  subst h1; subst h2
  cases n <;> simp [mg]

end Go.Proofs.YtmhmfnjjdcdkcaaDoor.Tr
