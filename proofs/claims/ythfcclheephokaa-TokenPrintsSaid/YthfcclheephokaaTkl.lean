/- The document's Lex. -/
import Derived.Test.YthfcclheephokaaTkw
import Derived.Laws.AppendOwn
import Derived.OwnWalk
namespace Go.Proofs.Ythfcclheephokaa.To
open Go Go.RowKit
set_option maxRecDepth 20000

def Res.toks : Res → List Tk
  | .ok l => l
  | .bad _ _ => []
def Res.place (n : Nat) : Res → Nat
  | .ok _ => n
  | .bad a _ => a
def Res.err : Res → Int
  | .ok _ => 0
  | .bad _ e => e
/-- The tokens of any text, or where and why there are none. -/
def lexR (s : ByteArray) : Res := if 1000 < s.size then .bad 1000 52 else F s.data.toList 0
def LexPost (r : Res) (n : Nat) (w : World) (e : Ending) (w' : World) : Prop := ∃ y, e = .returned (.tuple #[y, .int .i64 (r.place n : Nat), .int .i64 r.err]) ∧ Tks w' y r.toks ∧ Below w.heap.size w w'
theorem tks_nil (w : World) : Tks w (.slice none 0 0) [] := ⟨rfl, none, 0, rfl, Nat.le_refl _, fun _ => ⟨rfl, rfl⟩, fun h => absurd h (Nat.lt_irrefl 0)⟩

theorem infoT : (Try.prog.info? 34).map (fun i => (i.zero, i.size, i.bytes)) = some (some (.agg #[.int .i64 0, .int .i64 0, .string ⟨#[]⟩]), 3, 32) := by kernel_rfl
/-- What the loop has made. -/
def Lx (w wr : World) (v : Value) (s : ByteArray) (p : Nat) : Prop := ∃ ts : List Tk, ts.length ≤ p ∧ wr.ownsRow w.heap.size 34 3 v ts.length (cls ts) ∧ F s.data.toList 0 = (F (s.data.toList.drop p) p).pre ts ∧ Below w.heap.size w wr
theorem Lx.start (w : World) (s : ByteArray) : Lx w w (.slice none 0 0) s 0 := ⟨[], Nat.le_refl _, ⟨rfl, .inl ⟨rfl, rfl⟩⟩, by rw [Res.pre_nil]; rfl, Below.refl _ _⟩
theorem Lx.below {w wr : World} {v : Value} {s : ByteArray} {p : Nat} (h : Lx w wr v s p) : Below w.heap.size w wr := by obtain ⟨_, _, _, _, h⟩ := h; exact h
/-- One token more. -/
theorem Lx.next {w wr : World} {v : Value} {s : ByteArray} {p q : Nat} (t : Tk) (h : Lx w wr v s p) (hF : F (s.data.toList.drop p) p = (F (s.data.toList.drop q) q).cons t) (hq : p < q) (hq2 : q ≤ 2000) :
    ∃ v' w', (Builtin.append_ #[27, 27] 27 #[v, .slice (some ⟨wr.heap.size, 0, none⟩) 1 1]).run Try.prog (wr.alloc (.cells #[.int .i64 t.k, .int .i64 t.a, .string t.n] 34)) = .ok v' w' ∧ Lx w w' v' s q := by
  obtain ⟨ts, hl, hown, hf, hb⟩ := h
  obtain ⟨i0, hi, hz, hs1, hb8⟩ := info_parts infoT
  obtain ⟨v', w', h1, h2, h3, h4, h5⟩ := Ap.run_append_one (P := Try.prog) (ty := 27) Try.underlying27 hi hz hs1 hb8 (by rfl) (by omega) hown hb.size #[.int .i64 t.k, .int .i64 t.a, .string t.n] rfl
    (by intro u hu; simp at hu; rcases hu with rfl | rfl | rfl <;> rfl) (by unfold maxLen; omega) (by omega)
  refine ⟨v', w', h1, ts ++ [t], by simp; omega, ?_, by rw [hf, hF, Res.pre_snoc], hb.trans h4⟩
  rw [cls_append, List.length_append]
  exact h2
theorem Lx.skip {w wr : World} {v : Value} {s : ByteArray} {p q : Nat} (h : Lx w wr v s p) (hF : F (s.data.toList.drop p) p = F (s.data.toList.drop q) q) (hq : p ≤ q) : Lx w wr v s q := by
  obtain ⟨ts, hl, hown, hf, hb⟩ := h
  exact ⟨ts, by omega, hown, by rw [hf, hF], hb⟩
theorem Lx.bad {w wr : World} {v : Value} {s : ByteArray} {p : Nat} {e : Int} (h : Lx w wr v s p) (hF : F (s.data.toList.drop p) p = .bad p e) : F s.data.toList 0 = .bad p e := by
  obtain ⟨ts, hl, hown, hf, hb⟩ := h
  rw [hf, hF]
  rfl
theorem Lx.done {w wr : World} {v : Value} {s : ByteArray} {p : Nat} (h : Lx w wr v s p) (hp : ¬ p < s.size) (hl : s.size ≤ 1000) : LexPost (lexR s) s.size w (.returned (.tuple #[v, .int .i64 (s.size : Nat), .int .i64 0])) wr := by
  obtain ⟨ts, hl', hown, hf, hb⟩ := h
  rw [List.drop_eq_nil_of_le (by simp; omega), F_nil] at hf
  have : lexR s = .ok ts := by
    unfold lexR
    rw [if_neg (by omega), hf]
    simp [Res.pre]
  rw [this]
  exact ⟨v, rfl, Ap.Rd.owned hown, hb⟩
theorem drop_at {s : ByteArray} {p : Nat} (h : p < s.size) : s.data.toList.drop p = s[p] :: s.data.toList.drop (p + 1) := by
  rw [List.drop_eq_getElem_cons (by simpa using h)]
  simp
  rfl
theorem tw_len {l : List UInt8} {n : Nat} (h1 : ∀ b ∈ l.take n, letB b = true) (h2 : noLet (l.drop n)) : l.takeWhile letB = l.take n := by
  have := tw_append (l.take n) (l.drop n) h1 h2
  rwa [List.take_append_drop] at this
theorem take_more {s : ByteArray} {p q : Nat} (hq : p ≤ q) (h : q < s.size) : (s.data.toList.drop p).take (q + 1 - p) = (s.data.toList.drop p).take (q - p) ++ [s[q]] := by
  rw [show q + 1 - p = (q - p) + 1 by omega, List.take_succ_eq_append_getElem (by simp; omega)]
  congr 2
  rw [List.getElem_drop]
  simp only [show p + (q - p) = q by omega]
  simp
  rfl
theorem ext_take (s : ByteArray) (p q : Nat) : s.extract p q = ⟨((s.data.toList.drop p).take (q - p)).toArray⟩ := by
  have h : (s.extract p q).data = s.data.extract p q := by simp
  have h2 : (s.extract p q) = ⟨(s.extract p q).data⟩ := rfl
  rw [h2, h]
  congr 1
  rw [← Array.toList_inj]
  simp [Array.toList_extract, List.extract]

set_option maxHeartbeats 400000 in
theorem lexR_long (s : ByteArray) (w : World) (h : 1000 < s.size) : Calls Try.prog 11 #[.string s] w (LexPost (lexR s) s.size w) := by
  have HL : Hid (lexR s = .bad 1000 52) := if_pos h
  rw [HL.out]
  have d1 : decide ((s.size : Int) > 1000) = true := by simp; omega
  go_enter Try.func11, Try.ntmps11
  go_wp2_with fail
  go_ret3
  exact ⟨_, rfl, tks_nil _, Below.refl _ _⟩
end Go.Proofs.Ythfcclheephokaa.To
