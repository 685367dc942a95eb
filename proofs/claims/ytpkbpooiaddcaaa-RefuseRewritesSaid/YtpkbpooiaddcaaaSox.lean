/- The document's Acts and Texts: rows of texts. -/
import Derived.Test.YtpkbpooiaddcaaaSoa
namespace Go.Proofs.Ytpkbpooiaddcaaa.So
open Go Go.RowKit Go.Proofs.Ytpkbpooiaddcaaa.Rw
set_option maxRecDepth 20000

/-- A slice of texts that reads as these. -/
def Strs (w : World) (v : Value) (l : List ByteArray) : Prop := Ap.Rd w 1 v l.length (l.map .string)
theorem Strs.below {w w' : World} {v : Value} {l : List ByteArray} (h : Strs w v l) (hb : Below w.heap.size w w') : Strs w' v l := Ap.Rd.below h hb
def AtS (w : World) (b off : Nat) (l : List ByteArray) : Prop := ∀ k, (h : k < l.length) → w.cell? ⟨b, off + k, none⟩ = some (.string l[k])
theorem Strs.form {w : World} {v : Value} {l : List ByteArray} (h : Strs w v l) :
    (l = [] ∧ ∃ a cap, v = .slice a 0 cap) ∨ ∃ b off cap, v = .slice (some ⟨b, off, none⟩) l.length cap ∧ AtS w b off l := by
  obtain ⟨_, a, cap, rfl, hle, _, hcell⟩ := h
  by_cases h0 : 0 < l.length
  · obtain ⟨b, off, rfl, hj⟩ := hcell h0
    exact Or.inr ⟨b, off, cap, rfl, fun k hk => hj _ _ (by rw [List.getElem?_map, List.getElem?_eq_getElem hk]; rfl)⟩
  · have : l = [] := List.eq_nil_of_length_eq_zero (by omega)
    subst this
    exact Or.inl ⟨rfl, a, cap, rfl⟩
theorem AtS.below {w w' : World} {b off : Nat} {l : List ByteArray} (h : AtS w b off l) (hb : Below w.heap.size w w') : AtS w' b off l := fun k hk => by
  rw [hb.cell (Ap.cell_lt (h k hk))]
  exact h k hk
theorem bytes_eq {s t : ByteArray} (h : s = t) : (s.toList == t.toList) = true := by rw [h]; simp
theorem bytes_ne {s t : ByteArray} (h : ¬ s = t) : (s.toList == t.toList) = false := by
  rw [ByteArray.toList_eq t]
  exact str_ne' fun e => h (by rw [e])

def sameS (l m : List ByteArray) : Bool := decide (l = m)
theorem sameS_len {l m : List ByteArray} (h : l.length ≠ m.length) : sameS l m = false := decide_eq_false fun e => h (by rw [e])
theorem sameS_at {l m : List ByteArray} {k : Nat} (h1 : k < l.length) (h2 : k < m.length) : sameS (l.drop k) (m.drop k) = (decide (l[k] = m[k]) && sameS (l.drop (k + 1)) (m.drop (k + 1))) := by
  unfold sameS
  rw [List.drop_eq_getElem_cons h1, List.drop_eq_getElem_cons h2, Bool.eq_iff_iff]
  simp only [decide_eq_true_eq, Bool.and_eq_true, List.cons.injEq]
theorem sameS_self (l : List ByteArray) : sameS l l = true := decide_eq_true rfl
/-- Has it been met? -/
def met (x : Nd) (os : List ByteArray) : Bool := (x.k != 1) || os.any fun o => decide (o = x.n)
/-- The names of Acts, each once. -/
def addA (os : List ByteArray) (x : Nd) : List ByteArray := if met x os then os else os ++ [x.n]
def acts (l : List Nd) : List ByteArray := l.foldl addA []
theorem acts_take (l : List Nd) (k : Nat) (h : k < l.length) : acts (l.take (k + 1)) = addA (acts (l.take k)) l[k] := by
  unfold acts
  rw [List.take_succ_eq_append_getElem h, List.foldl_append]
  rfl
theorem acts_len : ∀ (l : List Nd) (os : List ByteArray), (l.foldl addA os).length ≤ os.length + l.length
  | [], os => by simp
  | x :: l, os => by
    have h1 := acts_len l (addA os x)
    have h2 : (addA os x).length ≤ os.length + 1 := by
      unfold addA
      split <;> simp
    simp only [List.foldl_cons, List.length_cons]
    omega
theorem acts_le (l : List Nd) : (acts l).length ≤ l.length := by have := acts_len l []; simpa [acts] using this
theorem met_start (x : Nd) (os : List ByteArray) : met x (os.take 0) = (x.k != 1) := by simp [met]
theorem met_take (x : Nd) (os : List ByteArray) (j : Nat) (h : j < os.length) : met x (os.take (j + 1)) = (met x (os.take j) || decide (os[j] = x.n)) := by
  unfold met
  rw [List.take_succ_eq_append_getElem h, List.any_append, Bool.or_assoc]
  simp
theorem add_met {x : Nd} {os : List ByteArray} (h : met x os = true) : addA os x = os := if_pos h
theorem add_new {x : Nd} {os : List ByteArray} (h : met x os = false) : addA os x = os ++ [x.n] := by
  unfold addA
  rw [h]
  rfl

theorem infoS : (Try.prog.info? 9).map (fun i => (i.zero, i.size, i.bytes)) = some (some (.string ⟨#[]⟩), 1, 16) := by kernel_rfl
/-- What the loop has made. -/
def Got (w wr : World) (v : Value) (os : List ByteArray) : Prop := wr.ownsRow w.heap.size 9 1 v os.length (os.map .string) ∧ Below w.heap.size w wr
theorem Got.form {w wr : World} {v : Value} {os : List ByteArray} (h : Got w wr v os) : Strs wr v os := Ap.Rd.owned h.1
theorem Got.drew {w wr : World} {v : Value} {os : List ByteArray} (n : Nat) (h : Got w wr v os) : Got w (wr.drewN n) v os := ⟨Ap.own_below h.1 (Below.drewN _ _ _), h.2.trans (Below.drewN _ _ _)⟩
theorem Got.add {w wr : World} {v : Value} {os : List ByteArray} (s : ByteArray) (h : Got w wr v os) (hl : os.length ≤ 1000000) :
    ∃ v' w', (Builtin.append_ #[23, 23] 23 #[v, .slice (some ⟨wr.heap.size, 0, none⟩) 1 1]).run Try.prog (wr.alloc (.cells #[.string s] 9)) = .ok v' w' ∧ Got w w' v' (os ++ [s]) := by
  obtain ⟨i0, hi, hz, hs1, hb8⟩ := info_parts infoS
  obtain ⟨v', w', h1, h2, h3, h4, h5⟩ := Ap.run_append_one (P := Try.prog) (ty := 23) Try.underlying23 hi hz hs1 hb8 (by rfl) (by omega) h.1 h.2.size #[.string s] rfl
    (by intro u hu; simp at hu; subst hu; rfl) (by unfold maxLen; omega) (by omega)
  exact ⟨v', w', h1, by simpa using h2, h.2.trans h4⟩

end Go.Proofs.Ytpkbpooiaddcaaa.So
